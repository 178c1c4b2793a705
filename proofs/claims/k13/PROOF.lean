import PyProof.Rows.All
import Wide.All
import OpenK.AllK
import Wide.FinOn
import HandS.ForMost
import HandS.IsInst
import HandS.Codes
import HandS.ForExc
import HandS.ExcInit
import HandS.ExcField
import HandS.CallSlots
import HandS.TupLe
import KE.KExcIs
import HandS.Flt
import HandS.ExcCtx
import HandS.HotCalls
import HandS.ExcInitHot
import HandS.Text
import HandS.Iter
import HandS.Wide
import HandS.Defaults
import HandS.More
import HandS.Conv
import HandS.Deep
import HandS.Set
import HandS.SetFor
import HandS.Strs
import HandS.Rev
import HandS.TupSets
import HandS.DictComp
import HandS.Dict
import HandS.Finally
import HandS.Flow
import HandS.Style
import HandS.TupAny
import KE.GoesMore
import KE.GoesEnum
import HandS.Zip
import HandS.RevRange
import HandS.GenBody
import HandS.GenYield
import HandS.GenCall
import HandS.GenList
import KE.KDictZip
import HandS.WordsDict
import HandS.Sort
import KE.DataEq
import HandS.Ends
import PyProof.ReprRoads
import HandS.Small
import HandS.ExcValue
import HandS.FStr
import HandS.ExcIs
import PySem.Challenge.RW_heldproofs_k13_readings_settled
set_option Elab.async false
set_option linter.all false
set_option maxRecDepth 100000
/-! My own layer over the hand layer: the weakest reading of a piece of syntax, and a rule a construct, chosen where the values are known. -/
namespace Wk
open PySem PySem.Spec PyProof.Rows L2
section
variable (X : Cx)
@[irreducible] def wE (e : Expr) : TE := fun σ H Q => ∀ (pins : List (Addr × Obj)) (s : Shared), Inv X pins σ H s → wpAny (model X.prog X.w) X.A (eval e X.env) (EP X pins σ Q) X.xe s
@[irreducible] def wT (e : Expr) : TT := fun σ H Q => ∀ (pins : List (Addr × Obj)) (s : Shared), Inv X pins σ H s → wpAny (model X.prog X.w) X.A (isTrue e X.env (eval e X.env)) (TP X pins σ Q) X.xe s
@[irreducible] def wW (e : Expr) : TT := fun σ H Q => ∀ (whole : Sem Value) (pins : List (Addr × Obj)) (s : Shared), Inv X pins σ H s → wpAny (model X.prog X.w) X.A (isTrue e X.env whole) (TP X pins σ Q) X.xe s
@[irreducible] def wA (es : List Expr) : TA := fun σ H Q => ∀ (pos : Pos) (pins : List (Addr × Obj)) (s : Shared), Inv X pins σ H s → wpAny (model X.prog X.w) X.A (spliced (backTo pos (starEach es X.env))) (AP X pins σ Q) X.xe s
@[irreducible] def wS (st : Stmt) : TS := fun D σ H => ∀ (pins : List (Addr × Obj)) (s : Shared), Inv X pins σ H s → wpAny (model X.prog X.w) X.A (exec st X.env) (SP X pins D) X.xe s
@[irreducible] def wL (st : List Stmt) : TS := fun D σ H => ∀ (pins : List (Addr × Obj)) (s : Shared), Inv X pins σ H s → wpAny (model X.prog X.w) X.A (execs st X.env) (SP X pins D) X.xe s
@[irreducible] def wO (f : Value → Value → Sem Value) : R2 := fun x y H Q => ∀ (pins : List (Addr × Obj)) (s : Shared) (σ : L2.St) (v u : Value), Inv X pins σ H s → RelV x v → RelV y u → wpAny (model X.prog X.w) X.A (f v u) (EP X pins σ Q) X.xe s
@[irreducible] def wB (op : Operator) : R2 := fun x y H Q => wO X (binaryOp op) x y H Q
@[irreducible] def wK (op : CmpOp) : R2 := fun x y H Q => wO X (compareOp op) x y H Q
@[irreducible] def wIx : R2 := fun x y H Q => ∀ (value slice : Expr) (pins : List (Addr × Obj)) (s : Shared) (σ : L2.St) (v u : Value), Inv X pins σ H s → RelV x v → RelV y u → subscripted slice false v u = operate [v, u] (getItem v u) → wpAny (model X.prog X.w) X.A (subscriptTail value slice v u) (EP X pins σ Q) X.xe s
@[irreducible] def wC (f : Value) : List V → Hp → VK → Prop := fun xs H Q => ∀ (pins : List (Addr × Obj)) (s : Shared) (σ : L2.St) (us : List Value), Inv X pins σ H s → Vals xs us → wpAny (model X.prog X.w) X.A (call f us) (EP X pins σ Q) X.xe s
@[irreducible] def wSet : V → V → V → Hp → (Hp → Prop) → Prop := fun o i v H Q => ∀ (pins : List (Addr × Obj)) (s : Shared) (σ : L2.St) (ov iv u : Value), Inv X pins σ H s → RelV o ov → RelV i iv → RelV v u → wpAny (model X.prog X.w) X.A (setItem ov iv u) (fun _ s' => ∃ H', Inv X pins σ H' s' ∧ Q H') X.xe s
end
section
variable {X : Cx} {e a b c : Expr} {es rest : List Expr} {st : Stmt} {sts : List Stmt} {σ : L2.St} {H : Hp} {Q : VK} {D : Ends} {pos p0 : Pos} {QT : Bool → Hp → Prop}
theorem pe : PE X e (wE X e) := ⟨fun pins s _ _ _ I h => by unfold wE at h; exact h pins s I⟩
theorem pt : PT X e (wT X e) := ⟨fun pins s _ _ _ I h => by unfold wT at h; exact h pins s I⟩
theorem pw : PW X e (wW X e) := ⟨fun wh pins s _ _ _ I h => by unfold wW at h; exact h wh pins s I⟩
theorem pa : PA X es (wA X es) := ⟨fun p pins s _ _ _ I h => by unfold wA at h; exact h p pins s I⟩
theorem ps : PS X st (wS X st) := ⟨fun pins s _ _ _ I h => by unfold wS at h; exact h pins s I⟩
theorem pl : PSs X sts (wL X sts) := ⟨fun pins s _ _ _ I h => by unfold wL at h; exact h pins s I⟩
theorem opr {f : Value → Value → Sem Value} : OpR X f (wO X f) := fun pins s σ _ _ _ v u _ I rx ry h => by unfold wO at h; exact h pins s σ v u I rx ry
theorem opb {op : Operator} : OpR X (binaryOp op) (wB X op) := fun pins s σ _ _ _ v u _ I rx ry h => by unfold wB at h; exact opr pins s σ _ _ _ v u _ I rx ry h
theorem opk {op : CmpOp} : OpR X (compareOp op) (wK X op) := fun pins s σ _ _ _ v u _ I rx ry h => by unfold wK at h; exact opr pins s σ _ _ _ v u _ I rx ry h
theorem ixr : IxR X (wIx X) := fun va sl pins s σ _ _ _ v u _ I rx ry h hs => by unfold wIx at h; exact h va sl pins s σ v u I rx ry hs
theorem cr {f : Value} : CallR X f (wC X f) := fun pins s σ _ _ us _ I r h => by unfold wC at h; exact h pins s σ us I r
theorem pset : PSet X (wSet X) := fun pins s σ _ _ _ _ ov iv u _ I ro ri rv h => by unfold wSet at h; exact h pins s σ ov iv u I ro ri rv
theorem e_of {t : TE} (h : PE X e t) (q : t σ H Q) : wE X e σ H Q := by unfold wE; exact fun pins s I => h.run pins s σ H Q I q
theorem t_of {t : TT} (h : PT X e t) (q : t σ H QT) : wT X e σ H QT := by unfold wT; exact fun pins s I => h.run pins s σ H QT I q
theorem w_of {t : TT} (h : PW X e t) (q : t σ H QT) : wW X e σ H QT := by unfold wW; exact fun wh pins s I => h.run wh pins s σ H QT I q
theorem a_of {t : TA} {QA : List V → Hp → Prop} (h : PA X es t) (q : t σ H QA) : wA X es σ H QA := by unfold wA; exact fun p pins s I => h.run p pins s σ H QA I q
theorem s_of {t : TS} (h : PS X st t) (q : t D σ H) : wS X st D σ H := by unfold wS; exact fun pins s I => h.run pins s σ H D I q
theorem l_of {t : TS} (h : PSs X sts t) (q : t D σ H) : wL X sts D σ H := by unfold wL; exact fun pins s I => h.run pins s σ H D I q
theorem o_of {f : Value → Value → Sem Value} {r : R2} {x y : V} (h : OpR X f r) (q : r x y H Q) : wO X f x y H Q := by unfold wO; exact fun pins s σ v u I rx ry => h pins s σ H x y v u Q I rx ry q
theorem b_of {op : Operator} {r : R2} {x y : V} (h : OpR X (binaryOp op) r) (q : r x y H Q) : wB X op x y H Q := by unfold wB; exact o_of h q
theorem k_of {op : CmpOp} {r : R2} {x y : V} (h : OpR X (compareOp op) r) (q : r x y H Q) : wK X op x y H Q := by unfold wK; exact o_of h q
theorem ix_of {r : R2} {x y : V} (h : IxR X r) (q : r x y H Q) : wIx X x y H Q := by unfold wIx; exact fun va sl pins s σ v u I rx ry hs => h va sl pins s σ H x y v u Q I rx ry q hs
theorem c_of {f : Value} {r : List V → Hp → VK → Prop} {xs : List V} (h : CallR X f r) (q : r xs H Q) : wC X f xs H Q := by unfold wC; exact fun pins s σ us I r => h pins s σ H xs us Q I r q
theorem set_of {t : V → V → V → Hp → (Hp → Prop) → Prop} {o i v : V} {QH : Hp → Prop} (h : PSet X t) (q : t o i v H QH) : wSet X o i v H QH := by unfold wSet; exact fun pins s σ ov iv u I ro ri rv => h pins s σ H o i v ov iv u QH I ro ri rv q

theorem e_mono {Q' : VK} (q : wE X e σ H Q) (h : ∀ v H1, Q v H1 → Q' v H1) : wE X e σ H Q' := by
  unfold wE at q ⊢
  exact fun pins s I => wpAny_mono (q pins s I) (fun _ _ ⟨v, H1, I1, r, z⟩ => ⟨v, H1, I1, r, h v H1 z⟩) fun _ _ z => z
theorem a_mono {QA QA' : List V → Hp → Prop} (q : wA X es σ H QA) (h : ∀ v H1, QA v H1 → QA' v H1) : wA X es σ H QA' := by
  unfold wA at q ⊢
  exact fun pp pins s I => wpAny_mono (q pp pins s I) (fun _ _ ⟨v, H1, I1, r, z⟩ => ⟨v, H1, I1, r, h v H1 z⟩) fun _ _ z => z

end
/-- where a name stands in a list; found by its spelling -/
inductive At {α : Type} : List α → Nat → α → Prop where
  | z {x : α} {l : List α} : At (x :: l) 0 x
  | s {x y : α} {l : List α} {i : Nat} (h : At l i x) : At (y :: l) (i + 1) x
theorem At.get {α : Type} {l : List α} {i : Nat} {x : α} (h : At l i x) : l[i]? = some x := by
  induction h with
  | z => rfl
  | s _ ih => simpa using ih
theorem At.mem {α : Type} {l : List α} {i : Nat} {x : α} (h : At l i x) : x ∈ l := List.mem_of_getElem? h.get
instance locDec {sc : Scope} {x : Str} : Decidable (Loc sc x) := inferInstanceAs (Decidable (_ ∨ _))
/-- a def's names: its own, in their slots, and the global ones -/
structure ScOk (N G : List Str) (sc : Scope) : Prop where
  nd : N.Nodup
  lo : ∀ x ∈ N, Loc sc x ∧ (x == ("__debug__" : Str)) = false ∧ (x == ("__classdict__" : Str)) = false
  gl : ∀ x ∈ G, sc.names.lookup x = some .globalImplicit ∧ (x == ("__debug__" : Str)) = false ∧ x ≠ "__name__"
/-- the body that the proof stands in -/
structure In (X : Cx) (N G : List Str) (sc : Scope) : Prop where
  ok : ScOk N G sc
  n : ∃ C, X.N = N ++ C
  nd : X.N.Nodup
  sc : X.env.scope = sc
  fn : X.fn = fun _ => true
  nev : PassesOwn (model X.prog X.w) X.A X.env X.xe
section
variable {X : Cx} {e a b c : Expr} {es rest : List Expr} {st : Stmt} {sts : List Stmt} {σ : L2.St} {H : Hp} {Q : VK} {D : Ends} {pos p0 : Pos} {QT : Bool → Hp → Prop} {N G : List Str} {sc : Scope}
theorem In.loc (I : In X N G sc) {i : Nat} {x : Str} (h : At N i x) : Loc X.env.scope x := by rw [I.sc]; exact (I.ok.lo x h.mem).1
theorem In.vis (I : In X N G sc) {i : Nat} {x : Str} (h : At N i x) : Vis X.env.scope x := by
  rcases I.loc h with z | z
  · exact .inl z
  · exact .inr (.inl z)
theorem In.hi (I : In X N G sc) {i : Nat} {x : Str} (h : At N i x) : X.N[i]? = some x := by
  obtain ⟨C, e⟩ := I.n
  have hl : i < N.length := by
    have := h.get
    exact (List.getElem?_eq_some_iff.mp this).1
  rw [e, List.getElem?_append_left hl]
  exact h.get
theorem In.f (I : In X N G sc) {x : Str} : X.fn x = true ∨ X.env.scope.names.lookup x = some .local := .inl (by rw [I.fn])
theorem In.g (I : In X N G sc) {i : Nat} {x : Str} (h : At G i x) : Gl X x := by
  show X.env.scope.names.lookup x = _
  rw [I.sc]
  exact (I.ok.gl x h.mem).1
theorem In.gd (I : In X N G sc) {i : Nat} {x : Str} (h : At G i x) : (x == ("__debug__" : Str)) = false := (I.ok.gl x h.mem).2.1
theorem In.gn (I : In X N G sc) {i : Nat} {x : Str} (h : At G i x) : x ≠ "__name__" := (I.ok.gl x h.mem).2.2
theorem In.never (I : In X N G sc) : PassesOwn (model X.prog X.w) X.A X.env X.xe := I.nev

/-! ### statements -/
theorem l_nil {nx : L2.St → Hp → Prop} {rt : VK} {bk ct : L2.St → Hp → Prop} (q : nx σ H) : wL X [] ⟨nx, rt, bk, ct⟩ σ H := l_of pss_nil q
theorem l_cons {nx : L2.St → Hp → Prop} {rt : VK} {bk ct : L2.St → Hp → Prop} (q : wS X st ⟨fun σ' H' => wL X sts ⟨nx, rt, bk, ct⟩ σ' H', rt, bk, ct⟩ σ H) : wL X (st :: sts) ⟨nx, rt, bk, ct⟩ σ H := l_of (pss_cons ps pl) q
theorem s_set {nx : L2.St → Hp → Prop} {rt : VK} {bk ct : L2.St → Hp → Prop} {i : Nat} {x : Str} {pos' : Pos} (q : wE X e σ H fun v H' => nx (σ.set i (some v)) H') (I : In X N G sc := by assumption) (hA : At N i x := by repeat (first | with_reducible apply At.z | with_reducible apply At.s)) (hs : swapsWith e (some (.Name x pos')) pos.line X.env = pure false := by rfl) :
    wS X (.Assign [.Name x pos'] e pos) ⟨nx, rt, bk, ct⟩ σ H := s_of (ps_set I.nd (I.hi hA) (I.loc hA) pe hs I.f) q
theorem s_ret {nx : L2.St → Hp → Prop} {rt : VK} {bk ct : L2.St → Hp → Prop} (q : wE X e σ H rt) : wS X (.Return (some e) pos) ⟨nx, rt, bk, ct⟩ σ H := s_of (ps_ret pe) q
theorem s_retN {nx : L2.St → Hp → Prop} {rt : VK} {bk ct : L2.St → Hp → Prop} (q : rt .non H) : wS X (.Return none pos) ⟨nx, rt, bk, ct⟩ σ H := s_of ps_retN q
theorem s_pass {nx : L2.St → Hp → Prop} {rt : VK} {bk ct : L2.St → Hp → Prop} (q : nx σ H) : wS X (.Pass pos) ⟨nx, rt, bk, ct⟩ σ H := s_of ps_pass q
theorem s_brk {nx : L2.St → Hp → Prop} {rt : VK} {bk ct : L2.St → Hp → Prop} (q : bk σ H) : wS X (.Break pos) ⟨nx, rt, bk, ct⟩ σ H := s_of ps_break q
theorem s_cnt {nx : L2.St → Hp → Prop} {rt : VK} {bk ct : L2.St → Hp → Prop} (q : ct σ H) : wS X (.Continue pos) ⟨nx, rt, bk, ct⟩ σ H := s_of ps_continue q
theorem s_expr {nx : L2.St → Hp → Prop} {rt : VK} {bk ct : L2.St → Hp → Prop} (q : wE X e σ H fun _ H' => nx σ H') (hs : swapsWith e none pos.line X.env = pure false := by rfl) : wS X (.Expr e pos) ⟨nx, rt, bk, ct⟩ σ H := s_of (ps_expr pe hs) q
theorem s_if {nx : L2.St → Hp → Prop} {rt : VK} {bk ct : L2.St → Hp → Prop} {A B : List Stmt} (q : wT X c σ H fun k H1 => if k = true then wL X A ⟨nx, rt, bk, ct⟩ σ H1 else wL X B ⟨nx, rt, bk, ct⟩ σ H1) : wS X (.If c A B pos) ⟨nx, rt, bk, ct⟩ σ H := s_of (ps_if pt pl pl) q
theorem s_fld {nx : L2.St → Hp → Prop} {rt : VK} {bk ct : L2.St → Hp → Prop} {o value : Expr} {f : Str} {pos' : Pos} (q : wE X value σ H fun y H1 => wE X o σ H1 fun x H2 => ∃ a C dx fs, x = .ref a ∧ H2 a = some (.ins C dx fs) ∧ Cls X.K C ∧ NoAttr X.K C f ∧ fs.length < 1000 ∧ nx σ (upd H2 a (.ins C dx (putF f y fs))))
    (hs : swapsWith value (some (.Attribute o f pos')) pos.line X.env = pure false := by rfl) : wS X (.Assign [.Attribute o f pos'] value pos) ⟨nx, rt, bk, ct⟩ σ H := s_of (ps_fld pe pe hs) q
/-- o[i] = v -/
theorem s_sub {nx : L2.St → Hp → Prop} {rt : VK} {bk ct : L2.St → Hp → Prop} {o i value : Expr} {pos' : Pos} (q : wE X value σ H fun v H1 => wE X o σ H1 fun x H2 => wE X i σ H2 fun y H3 => wSet X x y v H3 fun H4 => nx σ H4)
    (hs : swapsWithSole [.Subscript o i pos'] value pos.line X.env = pure false := by rfl) (hw : swappedStores [.Subscript o i pos'] value X.env = pure none := by rfl) (h1 : (assignEach [.Subscript o i pos'] X.env).map (·.2) = [assign (.Subscript o i pos') X.env] := by rfl)
    (ha : ∀ v, assign (.Subscript o i pos') X.env v = (do let ov ← holding [v] (eval o X.env); let iv ← holding [v, ov] (eval i X.env); standAt pos'; holding [v, ov, iv] (setItem ov iv v); release [v, ov, iv] []) := by intro _; rfl) : wS X (.Assign [.Subscript o i pos'] value pos) ⟨nx, rt, bk, ct⟩ σ H := s_of (ps_asg pe (pg_sub pe pe pset ha) hs hw h1) q
/-- two names from a tuple -/
theorem s_tup2 {nx : L2.St → Hp → Prop} {rt : VK} {bk ct : L2.St → Hp → Prop} {i j : Nat} {x y : Str} {k : Nat} {px py pt : Pos} (q : wE X e σ H fun v H1 => ∃ a u w, v = .ref a ∧ SqT X.K H1 a [u, w] ∧ nx ((σ.set i (some u)).set j (some w)) H1)
    (I : In X N G sc := by assumption) (hc : X.calm = true := by rfl) (hA : At N i x := by repeat (first | with_reducible apply At.z | with_reducible apply At.s)) (hB : At N j y := by repeat (first | with_reducible apply At.z | with_reducible apply At.s))
    (hs : swapsWithSole [.Tuple [.Name x px, .Name y py] k pt] e pos.line X.env = pure false := by rfl) (hw : swappedStores [.Tuple [.Name x px, .Name y py] k pt] e X.env = pure none := by rfl) (h1 : (assignEach [.Tuple [.Name x px, .Name y py] k pt] X.env).map (·.2) = [assign (.Tuple [.Name x px, .Name y py] k pt) X.env] := by rfl) :
    wS X (.Assign [.Tuple [.Name x px, .Name y py] k pt] e pos) ⟨nx, rt, bk, ct⟩ σ H := by
  refine s_of (ps_asg pe (pg_tup hc (pgs_cons (pg_name I.nd (I.hi hA) (I.loc hA) I.f) (pgs_cons (pg_name I.nd (I.hi hB) (I.loc hB) I.f) pgs_nil))) hs hw h1) (e_mono q fun v H1 q1 => ?_)
  obtain ⟨ad, u, w, ev, hq, q2⟩ := q1
  exact ⟨ad, [u, w], ev, hq, rfl, u, [w], rfl, w, [], rfl, rfl, q2⟩
/-! ### expressions -/
theorem e_var {i : Nat} {x : Str} {v : V} (q : Q v H) (I : In X N G sc := by assumption) (hA : At N i x := by repeat (first | with_reducible apply At.z | with_reducible apply At.s)) (hσ : σ[i]? = some (some v) := by exact rfl) : wE X (.Name x pos) σ H Q :=
  e_of (pe_var (I.hi hA) (I.vis hA) (I.ok.lo x hA.mem).2.1 (I.ok.lo x hA.mem).2.2) ⟨v, hσ, q⟩
theorem e_int {i : Int} {j} (q : Q (.int i) H) : wE X (.Constant (.int i) j pos) σ H Q := e_of pe_int q
theorem e_bl {k : Bool} {j} (q : Q (.bl k) H) : wE X (.Constant (.bool k) j pos) σ H Q := e_of pe_bl q
theorem e_non {j} (q : Q .non H) : wE X (.Constant .none j pos) σ H Q := e_of pe_non q
theorem e_str {x : Str} {j} (q : Q (.str x) H) : wE X (.Constant (.str x) j pos) σ H Q := e_of pe_str q
theorem e_bin {op : Operator} (q : wE X a σ H fun x H1 => wE X b σ H1 fun y H2 => wB X op x y H2 Q) : wE X (.BinOp a op b pos) σ H Q := e_of (pe_op opb pe pe) q
theorem e_cmp {op : CmpOp} (q : wE X a σ H fun x H1 => wE X b σ H1 fun y H2 => wK X op x y H2 Q) (hm : behindInMarks op b = false := by first | exact nomark _ | rfl) : wE X (.Compare a [op] [b] pos) σ H Q := e_of (pe_cmpR opk pe pe hm) q
theorem t_cmp {op : CmpOp} (q : wE X a σ H fun x H1 => wE X b σ H1 fun y H2 => wK X op x y H2 fun z H3 => ∃ k, z = .bl k ∧ QT k H3) (hm : behindInMarks op b = false := by first | exact nomark _ | rfl) : wT X (.Compare a [op] [b] pos) σ H QT := t_of (pt_cmpR opk pe pe hm) q
theorem t_val (q : wE X e σ H fun z H3 => ∃ k, z = .bl k ∧ QT k H3) (he : ∀ whole, isTrue e X.env whole = (do let v ← whole; standAt e.pos; holding [v] (truthy v)) := by intro _; rfl) : wT X e σ H QT := t_of (pt_val pe he) q
theorem t_not (q : wT X a σ H fun k H1 => QT (!k) H1) : wT X (.UnaryOp .Not a pos) σ H QT := t_of (pt_not pt) q
theorem t_w (q : wW X e σ H QT) : wT X e σ H QT := t_of pw.pt q
theorem w_and1 (q : wT X a σ H QT) : wW X (.BoolOp .And [a] pos) σ H QT := w_of (pw_and1 pt) q
theorem w_or1 (q : wT X a σ H QT) : wW X (.BoolOp .Or [a] pos) σ H QT := w_of (pw_or1 pt) q
theorem w_and (q : wT X a σ H fun k H1 => if k = true then wW X (.BoolOp .And (b :: rest) pos) σ H1 QT else QT false H1) : wW X (.BoolOp .And (a :: b :: rest) pos) σ H QT := w_of (pw_and pt pw) q
theorem w_or (q : wT X a σ H fun k H1 => if k = true then QT true H1 else wW X (.BoolOp .Or (b :: rest) pos) σ H1 QT) : wW X (.BoolOp .Or (a :: b :: rest) pos) σ H QT := w_of (pw_or pt pw) q
theorem e_one {op} (q : wE X a σ H Q) : wE X (.BoolOp op [a] pos) σ H Q := e_of (pe_one pe) q
theorem e_and (q : wE X a σ H fun x H1 => ∃ k, x = .bl k ∧ if k = true then wE X (.BoolOp .And (b :: rest) pos) σ H1 Q else Q (.bl false) H1) : wE X (.BoolOp .And (a :: b :: rest) pos) σ H Q := e_of (pe_and pe pe) q
theorem e_or (q : wE X a σ H fun x H1 => ∃ k, x = .bl k ∧ if k = true then Q (.bl true) H1 else wE X (.BoolOp .Or (b :: rest) pos) σ H1 Q) : wE X (.BoolOp .Or (a :: b :: rest) pos) σ H Q := e_of (pe_or pe pe) q
theorem e_not (q : wE X a σ H fun x H1 => ∃ k, x = .bl k ∧ Q (.bl (!k)) H1) : wE X (.UnaryOp .Not a pos) σ H Q := e_of (pe_not pe) q
theorem e_ifExp (q : wT X c σ H fun k H1 => if k = true then wE X a σ H1 Q else wE X b σ H1 Q) : wE X (.IfExp c a b pos) σ H Q := e_of (pe_ifExp pt pe pe) q
theorem e_ix (q : wE X a σ H fun x H1 => wE X b σ H1 fun y H2 => wIx X x y H2 Q) (hs : PlainIx b := by intro _ _; rfl) : wE X (.Subscript a b pos) σ H Q := e_of (pe_ix ixr pe pe hs) q
theorem e_fld {f : Str} (q : wE X e σ H fun x H1 => ∃ a C dx fs v, x = .ref a ∧ H1 a = some (.ins C dx fs) ∧ Cls X.K C ∧ NoAttr X.K C f ∧ fs.lookup f = some v ∧ Q v H1) (hb : attributeBase e f X.env (eval e X.env) = eval e X.env := by rfl) : wE X (.Attribute e f pos) σ H Q := e_of (pe_fld pe hb) q
theorem a_nil {QA : List V → Hp → Prop} (q : QA [] H) : wA X [] σ H QA := a_of pa_nil q
theorem a_cons {QA : List V → Hp → Prop} (q : wE X e σ H fun x H1 => wA X es σ H1 fun xs H2 => QA (x :: xs) H2) (hs : starEach (e :: es) X.env = (false, eval e X.env) :: starEach es X.env := by rfl) : wA X (e :: es) σ H QA := a_of (pa_cons pe pa hs) q
theorem e_tup {k} (q : wA X es σ H fun xs H1 => xs.length ≤ sizeLine ∧ ∀ p H2, Same H1 H2 → H1 p = none → H2 p = some (.tup xs) → Q (.ref p) H2) : wE X (.Tuple es k pos) σ H Q :=
  e_of (pe_tup pa) (a_mono q fun xs H1 z => ⟨z.1, fun p np => z.2 p _ (fun b o eo => by rw [upd_ne (ne_of_none eo np)]; exact eo) np upd_same⟩)
theorem e_lst (q : wA X es σ H fun xs H1 => xs.length ≤ sizeLine ∧ ∀ p H2, Same H1 H2 → H1 p = none → H2 p = some (.lst xs) → Q (.ref p) H2) : wE X (.List es pos) σ H Q :=
  e_of (pe_lst pa) (a_mono q fun xs H1 z => ⟨z.1, fun p np => z.2 p _ (fun b o eo => by rw [upd_ne (ne_of_none eo np)]; exact eo) np upd_same⟩)
/-! ### calls -/
/-- a def of the module that no exception leaves -/
structure Fn (P : Program) (w : World) (K : PySem.W.Frag) (mg : Str → Option Value) (base : Heap) (k : Nat) (x : Str) (sp : Sp) : Prop where
  ex : ∃ (f : Addr) (fd : FuncData) (ps : List Str), FnOk P w K mg base CX0 k f fd ps sp ∧ mg x = some (.ref f) ∧ PySem.W.keepIn K (.ref f) = true ∧ Binds K fd ps []
theorem e_call {g : Nat} {k n : Nat} {x : Str} {sp : Sp} (F : Fn X.prog X.w X.K X.mg X.base k x sp) (hr : Room n X.A) (hk : k ≤ n) (q : wA X (e :: es) σ H fun vs H1 => sp vs H1 Q E0) (I : In X N G sc := by assumption) (hG : At G g x := by repeat (first | with_reducible apply At.z | with_reducible apply At.s))
    (he : starEach (e :: es) X.env = (false, eval e X.env) :: starEach es X.env := by rfl) (hpl : (backTo pos (starEach es X.env)).any (·.1) = false := by rfl) : wE X (.Call (.Name x p0) (e :: es) [] pos) σ H Q := by
  obtain ⟨f, fd, ps, F0, hm, hkp, hb⟩ := F.ex
  refine e_of (pe_call F0 (hr.mono hk) (I.g hG) hm hkp hb .nil pass0 pa (I.gd hG) he hpl) ?_
  show wA X (e :: es) σ H fun vs H1 => sp (vs ++ []) H1 Q E0
  simp only [List.append_nil]
  exact q
theorem e_call0 {g : Nat} {k n : Nat} {x : Str} {sp : Sp} (F : Fn X.prog X.w X.K X.mg X.base k x sp) (hr : Room n X.A) (hk : k ≤ n) (q : sp [] H Q E0) (I : In X N G sc := by assumption) (hG : At G g x := by repeat (first | with_reducible apply At.z | with_reducible apply At.s)) : wE X (.Call (.Name x p0) [] [] pos) σ H Q := by
  obtain ⟨f, fd, ps, F0, hm, hkp, hb⟩ := F.ex
  exact e_of (pe_call0 F0 (hr.mono hk) (I.g hG) hm hkp hb .nil pass0 (I.gd hG)) q
theorem e_callB {g : Nat} {x : Str} {id : String} (hm : X.mg x = none) (hv : bootBuiltins x = some (.builtin id)) (q : wA X (e :: es) σ H fun vs H1 => wC X (.builtin id) vs H1 Q) (I : In X N G sc := by assumption) (hG : At G g x := by repeat (first | with_reducible apply At.z | with_reducible apply At.s))
    (he : starEach (e :: es) X.env = (false, eval e X.env) :: starEach es X.env := by rfl) (hpl : (backTo pos (starEach es X.env)).any (·.1) = false := by rfl) : wE X (.Call (.Name x p0) (e :: es) [] pos) σ H Q := e_of (pe_callB cr (I.g hG) hm hv pa (I.gn hG) (I.gd hG) he hpl) q
theorem e_callTy {g : Nat} {x : Str} {T : String} (hm : X.mg x = none) (hv : bootBuiltins x = some (.type T)) (q : wA X (e :: es) σ H fun vs H1 => wC X (.type T) vs H1 Q) (I : In X N G sc := by assumption) (hG : At G g x := by repeat (first | with_reducible apply At.z | with_reducible apply At.s))
    (he : starEach (e :: es) X.env = (false, eval e X.env) :: starEach es X.env := by rfl) (hpl : (backTo pos (starEach es X.env)).any (·.1) = false := by rfl) : wE X (.Call (.Name x p0) (e :: es) [] pos) σ H Q := e_of (pe_callTy cr (I.g hG) hm hv pa (I.gn hG) (I.gd hG) he hpl) q
theorem e_glob {g : Nat} {x : Str} {v : V} {u : Value} (hm : X.mg x = some u) (r : RelV v u) (q : Q v H) (I : In X N G sc := by assumption) (hG : At G g x := by repeat (first | with_reducible apply At.z | with_reducible apply At.s)) : wE X (.Name x pos) σ H Q := e_of (pe_glob (I.g hG) hm r (I.gd hG)) q
theorem e_bltn {g : Nat} {x : Str} {v : V} {u : Value} (hm : X.mg x = none) (hv : bootBuiltins x = some u) (r : RelV v u) (q : Q v H) (I : In X N G sc := by assumption) (hG : At G g x := by repeat (first | with_reducible apply At.z | with_reducible apply At.s)) : wE X (.Name x pos) σ H Q := e_of (pe_bltn (I.g hG) hm hv r (I.gn hG) (I.gd hG)) q
/-- a method of a class that no exception leaves -/
structure Mt (P : Program) (w : World) (K : PySem.W.Frag) (mg : Str → Option Value) (base : Heap) (k : Nat) (C : Addr) (m : Str) (sp : Sp) : Prop where
  ex : ∃ (f : Addr) (fd : FuncData) (ps : List Str), FnOk P w K mg base CX0 k f fd ps sp ∧ Meth K C m f ∧ Binds K fd ps [] ∧ Cls K C
theorem e_meth {k n : Nat} {o : Expr} {m : Str} {C : Addr} {apos : Pos} {pl : Sem Bool} {sp : Sp} (F : Mt X.prog X.w X.K X.mg X.base k C m sp) (hr : Room n X.A) (hk : k ≤ n)
    (q : wE X o σ H fun x H1 => ∃ a dx fs, x = .ref a ∧ H1 a = some (.ins C dx fs) ∧ fs.lookup m = none ∧ wA X (e :: es) σ H1 fun vs H2 => sp (x :: vs) H2 Q E0)
    (hst : starEach (e :: es) X.env = (false, eval e X.env) :: starEach es X.env := by rfl) (hpl : (backTo pos (starEach es X.env)).any (·.1) = false := by rfl)
    (ht : eval (.Call (.Attribute o m apos) (e :: es) [] pos) X.env = (do let ov ← eval o X.env; standAt apos.atName; let (f, first) ← holding [ov] (getMethod ov m pl); callWith pos f first (backTo pos (starEach (e :: es) X.env)) (backToKw pos (keywordEach [] X.env))) := by rfl) :
    wE X (.Call (.Attribute o m apos) (e :: es) [] pos) σ H Q := by
  obtain ⟨f, fd, ps, F0, M, hb, c⟩ := F.ex
  refine e_of (pe_meth (pl := pl) pe c M F0 (hr.mono hk) hb .nil pass0 pa hst hpl ht) ?_
  show wE X o σ H fun x H1 => ∃ a dx fs, x = .ref a ∧ H1 a = some (.ins C dx fs) ∧ fs.lookup m = none ∧ wA X (e :: es) σ H1 fun vs H2 => sp (x :: (vs ++ [])) H2 Q E0
  simp only [List.append_nil]
  exact q
theorem e_meth0 {k n : Nat} {o : Expr} {m : Str} {C : Addr} {apos : Pos} {pl : Sem Bool} {sp : Sp} (F : Mt X.prog X.w X.K X.mg X.base k C m sp) (hr : Room n X.A) (hk : k ≤ n)
    (q : wE X o σ H fun x H1 => ∃ a dx fs, x = .ref a ∧ H1 a = some (.ins C dx fs) ∧ fs.lookup m = none ∧ sp [x] H1 Q E0)
    (ht : eval (.Call (.Attribute o m apos) [] [] pos) X.env = (do let ov ← eval o X.env; standAt apos.atName; let (f, first) ← holding [ov] (getMethod ov m pl); callWith pos f first (backTo pos (starEach [] X.env)) (backToKw pos (keywordEach [] X.env))) := by rfl) :
    wE X (.Call (.Attribute o m apos) [] [] pos) σ H Q := by
  obtain ⟨f, fd, ps, F0, M, hb, c⟩ := F.ex
  exact e_of (pe_meth0 (pl := pl) pe c M F0 (hr.mono hk) hb .nil pass0 ht) q
/-- an own class whose __init__ no exception leaves -/
structure Kl (P : Program) (w : World) (K : PySem.W.Frag) (mg : Str → Option Value) (base : Heap) (k : Nat) (x : Str) (C : Addr) (sp : Sp) : Prop where
  ex : ∃ (f : Addr) (fd : FuncData) (ps : List Str), FnOk P w K mg base CX0 k f fd ps sp ∧ mg x = some (.ref C) ∧ Mk K C f ∧ Binds K fd ps []
theorem e_make {g : Nat} {k n : Nat} {x : Str} {C : Addr} {sp : Sp} (F : Kl X.prog X.w X.K X.mg X.base k x C sp) (hr : Room n X.A) (hk : k + 1 ≤ n)
    (q : wA X (e :: es) σ H fun vs H1 => ∀ x dx, H1 x = none → H1 dx = none → dx ≠ x → sp (.ref x :: vs) (upd (upd H1 dx (.own x)) x (.ins C dx [])) (fun v H2 => v = .non ∧ Q (.ref x) H2) E0)
    (I : In X N G sc := by assumption) (hG : At G g x := by repeat (first | with_reducible apply At.z | with_reducible apply At.s)) (he : starEach (e :: es) X.env = (false, eval e X.env) :: starEach es X.env := by rfl) (hpl : (backTo pos (starEach es X.env)).any (·.1) = false := by rfl) : wE X (.Call (.Name x p0) (e :: es) [] pos) σ H Q := by
  obtain ⟨f, fd, ps, F0, hm, M, hb⟩ := F.ex
  refine e_of (pe_make M F0 (hr.mono hk) (I.g hG) hm hb .nil pass0 pa (I.gd hG) he hpl) ?_
  show wA X (e :: es) σ H fun vs H1 => ∀ x dx, H1 x = none → H1 dx = none → dx ≠ x → sp (.ref x :: (vs ++ [])) (upd (upd H1 dx (.own x)) x (.ins C dx [])) (fun v H2 => v = .non ∧ Q (.ref x) H2) E0
  simp only [List.append_nil]
  exact q
end
/-! ### values -/
section
variable {X : Cx} {H : Hp} {Q : VK} {i j : Int} {σ : L2.St} {D : Ends}
theorem o_add (q : Q (.int (i + j)) H) : wB X .Add (.int i) (.int j) H Q := b_of op_add ⟨i, j, rfl, rfl, q⟩
theorem o_sub (q : Q (.int (i - j)) H) : wB X .Sub (.int i) (.int j) H Q := b_of op_sub ⟨i, j, rfl, rfl, q⟩
theorem o_mul (c : CMul i j) (q : Q (.int (i * j)) H) : wB X .Mult (.int i) (.int j) H Q := b_of op_mul ⟨i, j, rfl, rfl, c, q⟩
theorem o_mod (c : 0 < j) (q : Q (.int (i % j)) H) : wB X .Mod (.int i) (.int j) H Q := b_of op_mod ⟨i, j, rfl, rfl, c, q⟩
theorem o_fdiv (c : 0 < j ∧ j < 1073741824) (q : Q (.int (i / j)) H) : wB X .FloorDiv (.int i) (.int j) H Q := b_of op_fdiv ⟨i, j, rfl, rfl, c, q⟩
theorem o_pow (c : CPow i j) (q : Q (.int (i ^ j.toNat)) H) : wB X .Pow (.int i) (.int j) H Q := b_of op_pow ⟨i, j, rfl, rfl, c, q⟩
theorem o_lt (q : Q (.bl (decide (i < j))) H) : wK X .Lt (.int i) (.int j) H Q := k_of op_lt ⟨i, j, rfl, rfl, q⟩
theorem o_le (q : Q (.bl (decide (i ≤ j))) H) : wK X .LtE (.int i) (.int j) H Q := k_of op_le ⟨i, j, rfl, rfl, q⟩
theorem o_gt (q : Q (.bl (decide (j < i))) H) : wK X .Gt (.int i) (.int j) H Q := k_of op_gt ⟨i, j, rfl, rfl, q⟩
theorem o_ge (q : Q (.bl (decide (j ≤ i))) H) : wK X .GtE (.int i) (.int j) H Q := k_of op_ge ⟨i, j, rfl, rfl, q⟩
theorem dint {i j : Int} : decide (V.int i = V.int j) = decide (i = j) := by simp
theorem dbl {i j : Bool} : decide (V.bl i = V.bl j) = decide (i = j) := by simp
theorem dstr {i j : Str} : decide (V.str i = V.str j) = decide (i = j) := by simp
theorem o_eqI (q : Q (.bl (decide (i = j))) H) : wK X .Eq (.int i) (.int j) H Q := k_of op_eq ⟨rfl, dint ▸ q⟩
theorem o_neI (q : Q (.bl (!decide (i = j))) H) : wK X .NotEq (.int i) (.int j) H Q := k_of op_ne ⟨rfl, dint ▸ q⟩
theorem o_eqB {i j : Bool} (q : Q (.bl (decide (i = j))) H) : wK X .Eq (.bl i) (.bl j) H Q := k_of op_eq ⟨rfl, dbl ▸ q⟩
theorem o_neB {i j : Bool} (q : Q (.bl (!decide (i = j))) H) : wK X .NotEq (.bl i) (.bl j) H Q := k_of op_ne ⟨rfl, dbl ▸ q⟩
theorem o_eqS {i j : Str} (q : Q (.bl (decide (i = j))) H) : wK X .Eq (.str i) (.str j) H Q := k_of op_eq ⟨rfl, dstr ▸ q⟩
theorem o_neS {i j : Str} (q : Q (.bl (!decide (i = j))) H) : wK X .NotEq (.str i) (.str j) H Q := k_of op_ne ⟨rfl, dstr ▸ q⟩
/-- a pair of ints beside a text -/
theorem o_eqPS {n : Nat} {a : Addr} {u v : Int} {z : Str} (hr : Room n X.A) (h : H a = some (.tup [.int u, .int v])) (hz : SeqAt.shaped (.str z) = true) (q : Q (.bl false) H) : wK X .Eq (.ref a) (.str z) H Q :=
  k_of (op_eqD hr.units) ⟨.tuple [.int u, .int v], .str z, .tup (SqT.of h) (.cons (.int u) (.cons (.int v) .nil)), .str z, rfl, hz, q⟩
theorem ix_l {a : Addr} {xs : List V} {v : V} (h : SqL X.K H a xs) (e : atI xs i = some v) (q : Q v H) : wIx X (.ref a) (.int i) H Q := ix_of ix_list ⟨a, xs, i, v, rfl, rfl, h, e, q⟩
theorem ix_t {a : Addr} {xs : List V} {v : V} (h : SqT X.K H a xs) (e : atI xs i = some v) (q : Q v H) : wIx X (.ref a) (.int i) H Q := ix_of ix_tup ⟨a, xs, i, v, rfl, rfl, h, e, q⟩
theorem set_l {a : Addr} {xs : List V} {v : V} {k : Nat} {QH : Hp → Prop} (h : H a = some (.lst xs)) (e : ixN xs.length i = some k) (q : QH (upd H a (.lst (xs.set k v)))) : wSet X (.ref a) (.int i) v H QH := set_of set_list ⟨a, xs, i, k, rfl, rfl, h, e, q⟩
theorem c_int (q : Q (.int i) H) : wC X (.type "int") [.int i] H Q := c_of call_int1 (.inl ⟨i, rfl, q⟩)
theorem c_abs (q : Q (.int (if i < 0 then -i else i)) H) : wC X (.builtin "abs") [.int i] H Q := c_of call_abs ⟨i, rfl, q⟩
theorem c_max (hc : X.calm = true) (q : Q (.int (if j > i then j else i)) H) : wC X (.builtin "max") [.int i, .int j] H Q := c_of (call_max2 hc) ⟨i, j, rfl, q⟩
theorem c_min (hc : X.calm = true) (q : Q (.int (if j < i then j else i)) H) : wC X (.builtin "min") [.int i, .int j] H Q := c_of (call_min2 hc) ⟨i, j, rfl, q⟩
theorem c_lenL {a : Addr} {xs : List V} (h : SqL X.K H a xs) (q : Q (.int xs.length) H) : wC X (.builtin "len") [.ref a] H Q := c_of call_len_seq ⟨a, xs, rfl, .inl h, q⟩
theorem c_lenT {a : Addr} {xs : List V} (h : SqT X.K H a xs) (q : Q (.int xs.length) H) : wC X (.builtin "len") [.ref a] H Q := c_of call_len_seq ⟨a, xs, rfl, .inr h, q⟩
theorem c_isi {x c : V} {t u : Value} {b : Bool} (ty : TyX X.K H x t) (k : ClsV c u) (e : PySem.W.kitOne X.K t u = some b) (q : Q (.bl b) H) : wC X (.builtin "isinstance") [x, c] H Q := c_of call_isi ⟨x, c, t, u, b, rfl, k, ty, e, q⟩
theorem c_isiT {x : V} {tp : Addr} {cs : List V} {t : Value} {us : List Value} {b : Bool} (ty : TyX X.K H x t) (h : H tp = some (.tup cs)) (k : Paired ClsV cs us) (e : PySem.W.kitAny X.K t us = some b) (q : Q (.bl b) H) : wC X (.builtin "isinstance") [x, .ref tp] H Q :=
  c_of call_isiT ⟨x, tp, cs, t, us, b, rfl, h, k, ty, e, q⟩
theorem ty_non : TyX X.K H .non (.type "NoneType") := .base .non
theorem ty_bl {b : Bool} : TyX X.K H (.bl b) (.type "bool") := .base (.bl b)
theorem ty_int : TyX X.K H (.int i) (.type "int") := .base (.int i)
theorem ty_str {z : Str} : TyX X.K H (.str z) (.type "str") := .base (.str z)
theorem ty_tup {a : Addr} {xs : List V} (h : H a = some (.tup xs)) : TyX X.K H (.ref a) (.type "tuple") := .base (.tup h)
theorem ty_lst {a : Addr} {xs : List V} (h : H a = some (.lst xs)) : TyX X.K H (.ref a) (.type "list") := .base (.lst h)
theorem two_ty {a b : String} : Paired ClsV [.ty a, .ty b] [.type a, .type b] := .cons (.ty a) (.cons (.ty b) .nil)
theorem kit2 {K : PySem.W.Frag} {t a b : String} {x y : Bool} (h1 : kitB t a = some x) (h2 : kitB t b = some y) : PySem.W.kitAny K (.type t) [.type a, .type b] = some (x || y) := by
  cases x with
  | true => exact kitAny_cons (kit_ty h1) (fun z => nomatch z) fun _ => rfl
  | false =>
    refine kitAny_cons (kit_ty h1) (fun _ => ?_) (fun z => nomatch z)
    cases y with
    | true => exact kitAny_cons (kit_ty h2) (fun z => nomatch z) fun _ => rfl
    | false => exact kitAny_cons (kit_ty h2) (fun _ => rfl) (fun z => nomatch z)
theorem kb_int_tuple : kitB "int" "tuple" = some false := by decide +kernel
theorem kb_int_list : kitB "int" "list" = some false := by decide +kernel
theorem kb_int_int : kitB "int" "int" = some true := by decide +kernel
theorem kb_int_bool : kitB "int" "bool" = some false := by decide +kernel
theorem kb_int_str : kitB "int" "str" = some false := by decide +kernel
theorem kb_tuple_tuple : kitB "tuple" "tuple" = some true := by decide +kernel
theorem kb_tuple_list : kitB "tuple" "list" = some false := by decide +kernel
theorem kb_tuple_str : kitB "tuple" "str" = some false := by decide +kernel
theorem kb_tuple_int : kitB "tuple" "int" = some false := by decide +kernel
theorem kb_tuple_bool : kitB "tuple" "bool" = some false := by decide +kernel
theorem kb_list_tuple : kitB "list" "tuple" = some false := by decide +kernel
theorem kb_list_list : kitB "list" "list" = some true := by decide +kernel
theorem kb_list_str : kitB "list" "str" = some false := by decide +kernel
theorem kb_list_int : kitB "list" "int" = some false := by decide +kernel
theorem kb_list_bool : kitB "list" "bool" = some false := by decide +kernel
theorem kb_bool_bool : kitB "bool" "bool" = some true := by decide +kernel
theorem kb_bool_int : kitB "bool" "int" = some true := by decide +kernel
theorem kb_bool_str : kitB "bool" "str" = some false := by decide +kernel
theorem kb_bool_tuple : kitB "bool" "tuple" = some false := by decide +kernel
theorem kb_bool_list : kitB "bool" "list" = some false := by decide +kernel
theorem kb_str_str : kitB "str" "str" = some true := by decide +kernel
theorem kb_str_bool : kitB "str" "bool" = some false := by decide +kernel
theorem kb_str_int : kitB "str" "int" = some false := by decide +kernel
theorem kb_str_tuple : kitB "str" "tuple" = some false := by decide +kernel
theorem kb_str_list : kitB "str" "list" = some false := by decide +kernel
theorem kb_non_bool : kitB "NoneType" "bool" = some false := by decide +kernel
theorem kb_non_int : kitB "NoneType" "int" = some false := by decide +kernel
theorem kb_non_str : kitB "NoneType" "str" = some false := by decide +kernel
theorem kb_non_tuple : kitB "NoneType" "tuple" = some false := by decide +kernel
theorem kb_non_list : kitB "NoneType" "list" = some false := by decide +kernel
theorem b_int : bootBuiltins "int" = some (.type "int") := by decide +kernel
theorem b_bool : bootBuiltins "bool" = some (.type "bool") := by decide +kernel
theorem b_str : bootBuiltins "str" = some (.type "str") := by decide +kernel
theorem b_tuple : bootBuiltins "tuple" = some (.type "tuple") := by decide +kernel
theorem b_list : bootBuiltins "list" = some (.type "list") := by decide +kernel
theorem b_isi : bootBuiltins "isinstance" = some (.builtin "isinstance") := by decide +kernel
theorem b_len : bootBuiltins "len" = some (.builtin "len") := by decide +kernel
theorem b_abs : bootBuiltins "abs" = some (.builtin "abs") := by decide +kernel
theorem b_max : bootBuiltins "max" = some (.builtin "max") := by decide +kernel
theorem b_min : bootBuiltins "min" = some (.builtin "min") := by decide +kernel
/-! ### loops -/
theorem s_forR {nx : L2.St → Hp → Prop} {rt : VK} {bk ct : L2.St → Hp → Prop} {g : Nat} {N G : List Str} {sc : Scope} {x : Str} {i : Nat} {a : Expr} {body : List Stmt} {px p cp pos : Pos} (hm : X.mg "range" = none)
    (q : wE X a σ H fun v H1 => ∃ n : Nat, v = .int n ∧ n < 2 ^ 62 ∧ ∃ Pv : Nat → L2.St → Hp → Prop, Pv 0 σ H1 ∧ (∀ k σ H, k < n → Pv k σ H → wL X body ⟨Pv (k + 1), rt, nx, Pv (k + 1)⟩ (σ.set i (some (.int (k : Int)))) H) ∧ ∀ σ H, Pv n σ H → nx σ H)
    (I : In X N G sc := by assumption) (hc : X.calm = true := by rfl) (hA : At N i x := by repeat (first | with_reducible apply At.z | with_reducible apply At.s))
    (hG : At G g ("range" : Str) := by repeat (first | with_reducible apply At.z | with_reducible apply At.s)) (hs : starEach [a] X.env = [(false, eval a X.env)] := by rfl) (hs2 : ∀ z, foldedSetIterable (.Call (.Name "range" p) [a] [] cp) X.env z = pure z := by intro _; rfl)
    (hs1 : starEach (a :: []) X.env = (false, eval a X.env) :: starEach [] X.env := by rfl) :
    wS X (.For (.Name x px) (.Call (.Name "range" p) [a] [] cp) body [] pos) ⟨nx, rt, bk, ct⟩ σ H := by
  refine s_of (ps_for I.never hc (pi_range1 (I.g hG) hm (pa_cons pe pa_nil hs1) hs) (pg_name I.nd (I.hi hA) (I.loc hA) I.f) pl hs2) (e_mono q fun v H1 q1 => ?_)
  obtain ⟨n, rfl, hn, Pv, h0, hb, hd⟩ := q1
  refine ⟨(n : Int), rfl, by omega, by omega, ?_⟩
  rw [Int.toNat_natCast]
  refine for_range (n := n) Pv h0 (fun k σ H hk p => ?_) hd
  rw [Int.zero_add]
  exact hb k σ H hk p
theorem s_forL {nx : L2.St → Hp → Prop} {rt : VK} {bk ct : L2.St → Hp → Prop} {N G : List Str} {sc : Scope} {x : Str} {i : Nat} {a : Expr} {body : List Stmt} {px pos : Pos}
    (q : wE X a σ H fun v H1 => ∃ ad xs, v = .ref ad ∧ SqL X.K H1 ad xs ∧ ∃ Pv : Nat → L2.St → Hp → Prop, Pv 0 σ H1 ∧ (∀ k σ H, k ≤ xs.length → Pv k σ H → SqL X.K H ad xs) ∧ (∀ k y σ H, xs[k]? = some y → Pv k σ H → wL X body ⟨Pv (k + 1), rt, nx, Pv (k + 1)⟩ (σ.set i (some y)) H) ∧ ∀ σ H, Pv xs.length σ H → nx σ H)
    (I : In X N G sc := by assumption) (hc : X.calm = true := by rfl) (hA : At N i x := by repeat (first | with_reducible apply At.z | with_reducible apply At.s))
    (hs2 : ∀ z, foldedSetIterable a X.env z = pure z := by intro _; rfl) :
    wS X (.For (.Name x px) a body [] pos) ⟨nx, rt, bk, ct⟩ σ H := by
  refine s_of (ps_for I.never hc (pi_list pe) (pg_name I.nd (I.hi hA) (I.loc hA) I.f) pl hs2) (e_mono q fun v H1 q1 => ?_)
  obtain ⟨ad, xs, rfl, hl, Pv, h0, hk, hb, hd⟩ := q1
  exact ⟨ad, rfl, ⟨xs, hl⟩, for_list Pv h0 hk hb hd⟩
theorem s_forT {nx : L2.St → Hp → Prop} {rt : VK} {bk ct : L2.St → Hp → Prop} {N G : List Str} {sc : Scope} {x : Str} {i : Nat} {a : Expr} {body : List Stmt} {px pos : Pos}
    (q : wE X a σ H fun v H1 => ∃ ad xs, v = .ref ad ∧ SqT X.K H1 ad xs ∧ ∃ Pv : Nat → L2.St → Hp → Prop, Pv 0 σ H1 ∧ (∀ k σ H, k ≤ xs.length → Pv k σ H → SqT X.K H ad xs) ∧ (∀ k y σ H, xs[k]? = some y → Pv k σ H → wL X body ⟨Pv (k + 1), rt, nx, Pv (k + 1)⟩ (σ.set i (some y)) H) ∧ ∀ σ H, Pv xs.length σ H → nx σ H)
    (I : In X N G sc := by assumption) (hc : X.calm = true := by rfl) (hA : At N i x := by repeat (first | with_reducible apply At.z | with_reducible apply At.s))
    (hs2 : ∀ z, foldedSetIterable a X.env z = pure z := by intro _; rfl) :
    wS X (.For (.Name x px) a body [] pos) ⟨nx, rt, bk, ct⟩ σ H := by
  refine s_of (ps_for I.never hc (pi_tup pe) (pg_name I.nd (I.hi hA) (I.loc hA) I.f) pl hs2) (e_mono q fun v H1 q1 => ?_)
  obtain ⟨ad, xs, rfl, hl, Pv, h0, hk, hb, hd⟩ := q1
  exact ⟨ad, rfl, ⟨xs, hl⟩, for_tup Pv h0 hk hb hd⟩
/-! ### an own operator of an own class -/
theorem op_own {op : Operator} {k n : Nat} {C f : Addr} {fd : FuncData} {pn : List Str} {sp : Sp} (F : FnOk X.prog X.w X.K X.mg X.base CX0 k f fd pn sp) (hs : PySem.W.findIn X.K (.ref C) (PySem.dunder op.info.2) = some (some (.ref f))) (hf : PySem.W.isFn X.K (.ref f) = true)
    (hc : PySem.W.selfFirst X.K C = true) (hb : Binds X.K fd pn []) (hr : Room n X.A) (hk : k ≤ n) :
    OpR X (binaryOp op) (fun x y H Q => ∃ a b dx dy fs gs, x = .ref a ∧ y = .ref b ∧ H a = some (.ins C dx fs) ∧ H b = some (.ins C dy gs) ∧ sp [x, y] H (fun v H' => (∃ p, v = .ref p) ∧ Q v H') E0) := by
  intro pins s σ H x y u v Q I rx ry h
  obtain ⟨a, b, dx, dy, fs, gs, rfl, rfl, ha, hb', hsp⟩ := h
  cases rx
  cases ry
  obtain ⟨mA, J, _⟩ := ins_get I.hok ha
  obtain ⟨mB, J', _⟩ := ins_get I.hok hb'
  obtain ⟨od, J, _⟩ := J.look
  obtain ⟨od', J', _⟩ := J'.look
  obtain ⟨m, hF⟩ := I.fr
  refine PySem.W.binop_K hF I.ok.mod.kin J J'.type hc hs hf ?_
  refine wpAny_mono (run_fn (E := E0) F (hr.mono hk) hb .nil pass0 I (show Vals [V.ref a, V.ref b] [Value.ref a, Value.ref b] from .cons rfl (.cons rfl .nil)) (by rw [List.append_nil]; exact hsp)) (fun w s' z => ?_) fun _ _ z => z
  obtain ⟨v', H', I', rz, ⟨p, rfl⟩, q⟩ := z
  cases rz
  exact ⟨.ref p, H', I', rfl, q⟩
structure Op2 (P : Program) (w : World) (K : PySem.W.Frag) (mg : Str → Option Value) (base : Heap) (k : Nat) (C : Addr) (op : Operator) (sp : Sp) : Prop where
  ex : ∃ (f : Addr) (fd : FuncData) (pn : List Str), FnOk P w K mg base CX0 k f fd pn sp ∧ PySem.W.findIn K (.ref C) (PySem.dunder op.info.2) = some (some (.ref f)) ∧ PySem.W.isFn K (.ref f) = true ∧ PySem.W.selfFirst K C = true ∧ Binds K fd pn []
theorem o_own {op : Operator} {k n : Nat} {C a b dx dy : Addr} {fs gs : List (Str × V)} {sp : Sp} (F : Op2 X.prog X.w X.K X.mg X.base k C op sp) (hr : Room n X.A) (hk : k ≤ n) (ha : H a = some (.ins C dx fs)) (hb : H b = some (.ins C dy gs))
    (q : sp [.ref a, .ref b] H (fun v H' => (∃ p, v = .ref p) ∧ Q v H') E0) : wB X op (.ref a) (.ref b) H Q := by
  obtain ⟨f, fd, pn, G, hs, hf, hc, hb'⟩ := F.ex
  exact b_of (op_own G hs hf hc hb' hr hk) ⟨a, b, dx, dy, fs, gs, rfl, rfl, ha, hb, q⟩
end
/-! ### heaps -/
/-- all but a stays -/
def But (a : Addr) (H H' : Hp) : Prop := ∀ b o, b ≠ a → H b = some o → H' b = some o
theorem But.refl {a : Addr} {H : Hp} : But a H H := fun _ _ _ h => h
theorem But.trans {a : Addr} {H H1 H2 : Hp} (x : But a H H1) (y : But a H1 H2) : But a H H2 := fun b o n h => y b o n (x b o n h)
theorem But.of {a : Addr} {H H1 : Hp} (x : Same H H1) : But a H H1 := fun b o _ h => x b o h
theorem But.upd {a : Addr} {H H1 : Hp} {o : HO} (x : But a H H1) : But a H (L2.upd H1 a o) := fun b u n h => by
  rw [upd_ne n]
  exact x b u n h
theorem But.tup {a p : Addr} {H H1 : Hp} {l xs : List V} (x : But a H H1) (ha : H a = some (.lst l)) (hp : H p = some (.tup xs)) : H1 p = some (.tup xs) := x p _ (ne_of hp ha (by intro z; cases z)) hp
theorem But.ins {a p C dx : Addr} {H H1 : Hp} {l : List V} {fs : List (Str × V)} (x : But a H H1) (ha : H a = some (.lst l)) (hp : H p = some (.ins C dx fs)) : H1 p = some (.ins C dx fs) := x p _ (ne_of hp ha (by intro z; cases z)) hp
theorem But.frz {a p : Addr} {H H1 : Hp} {l : List V} {o : Obj} {u : HO} (x : But a H H1) (ha : H a = some (.lst l)) (hp : H p = some (.frz o u)) : H1 p = some (.frz o u) := x p _ (ne_of hp ha (by intro z; cases z)) hp
section
variable {P : Program} {w : World} {K : PySem.W.Frag} {mg : Str → Option Value} {base : Heap}
/-- a def of the module where the top has left it -/
structure Top (K : PySem.W.Frag) (mg : Str → Option Value) (x : Str) (st : Stmt) : Prop where
  ex : ∃ (f : Addr) (fd : FuncData), Fun K x x st f fd ∧ mg x = some (.ref f)
theorem top_mk {h : Heap} {x : Str} {st : Stmt} {f : Addr} {oc : Value} {od an : Option Addr} {osl : Array (Option Value)} {kV doc pm cdv ct : Value} (X : K.In h) (G : h.Ns mainGlobals mg) (a : PySem.W.nsIn K mainGlobals x = some (some (.ref f)))
    (l : K.lookup f = some ⟨oc, od, .func (PySem.W.fnOf x x (defArgs st) (defBody st) (defScope st) .none kV doc pm an cdv ct), osl⟩) (c : PySem.W.codeIn K cdv x = true) (k : PySem.W.keepIn K (.ref f) = true) : Top K mg x st :=
  ⟨f, _, fun_mk l c k, PySem.W.mg_of X G a⟩
theorem fn_ok {x : Str} {st : Stmt} {N G ps : List Str} {k : Nat} {sp : Sp} (T : Top K mg x st) (S : FnScope N ps (defScope st)) (O : ScOk N G (defScope st)) (len : ∀ vs H Q E, sp vs H Q E → vs.length = ps.length)
    (hb : ∀ (kV doc pm : Value) (an : Option Addr) (cdv ct : Value) (us : List Value), us.length = ps.length → bindArgs (PySem.W.fnOf x x (defArgs st) (defBody st) (defScope st) .none kV doc pm an cdv ct) ⟨us, []⟩ = pure (ps.zip us))
    (hbody : ∀ (f : Addr) (cdv : Value) (A : Around) (outer : List Env) (s : Shared) (H : Hp) (vs : List V) (Q : VK) (E : XK), Room k (A.deeper (envOfC x (defScope st) s.heap.objs.size f cdv)) → sp vs H Q E → In (cxOf CX0 P w K mg base N x (defScope st) f cdv A outer s H E).nox N G (defScope st) →
      wL (cxOf CX0 P w K mg base N x (defScope st) f cdv A outer s H E).nox (defBody st) { nx := fun _ H' => Q .non H', rt := Q } (start N vs) H) : Fn P w K mg base (k + 1) x sp := by
  obtain ⟨f, fd, F, hm⟩ := T.ex
  exact ⟨f, fd, ps, F.ok S len (fun cdv A outer s H vs Q E hr h => ⟨_, pl, hbody f cdv A outer s H vs Q E hr h ⟨O, ⟨[], (List.append_nil _).symm⟩, S.nd, rfl, rfl, PassesOwn.never⟩⟩), hm, F.kp, F.binds hb⟩
/-- a method where the top has left it -/
structure TopM (K : PySem.W.Frag) (C : Addr) (x qual : Str) (st : Stmt) : Prop where
  ex : ∃ (f : Addr) (fd : FuncData), Fun K x qual st f fd ∧ PySem.W.findIn K (.ref C) x = some (some (.ref f)) ∧ PySem.W.isFn K (.ref f) = true
theorem topM_mk {x qual : Str} {st : Stmt} {C f : Addr} {oc : Value} {od an : Option Addr} {osl : Array (Option Value)} {kV doc pm cdv ct : Value} (a : PySem.W.findIn K (.ref C) x = some (some (.ref f))) (i : PySem.W.isFn K (.ref f) = true)
    (l : K.lookup f = some ⟨oc, od, .func (PySem.W.fnOf x qual (defArgs st) (defBody st) (defScope st) .none kV doc pm an cdv ct), osl⟩) (c : PySem.W.codeIn K cdv qual = true) (k : PySem.W.keepIn K (.ref f) = true) : TopM K C x qual st :=
  ⟨f, _, fun_mk l c k, a, i⟩
theorem me_ok {x qual : Str} {C : Addr} {st : Stmt} {N G ps : List Str} {k : Nat} {sp : Sp} (T : TopM K C x qual st) (S : FnScope N ps (defScope st)) (O : ScOk N G (defScope st)) (len : ∀ vs H Q E, sp vs H Q E → vs.length = ps.length)
    (hb : ∀ (kV doc pm : Value) (an : Option Addr) (cdv ct : Value) (us : List Value), us.length = ps.length → bindArgs (PySem.W.fnOf x qual (defArgs st) (defBody st) (defScope st) .none kV doc pm an cdv ct) ⟨us, []⟩ = pure (ps.zip us))
    (hbody : ∀ (f : Addr) (cdv : Value) (A : Around) (outer : List Env) (s : Shared) (H : Hp) (vs : List V) (Q : VK) (E : XK), Room k (A.deeper (envOfC qual (defScope st) s.heap.objs.size f cdv)) → sp vs H Q E → In (cxOf CX0 P w K mg base N qual (defScope st) f cdv A outer s H E).nox N G (defScope st) →
      wL (cxOf CX0 P w K mg base N qual (defScope st) f cdv A outer s H E).nox (defBody st) { nx := fun _ H' => Q .non H', rt := Q } (start N vs) H) :
    ∃ (f : Addr) (fd : FuncData), FnOk P w K mg base CX0 (k + 1) f fd ps sp ∧ Binds K fd ps [] ∧ PySem.W.findIn K (.ref C) x = some (some (.ref f)) ∧ PySem.W.isFn K (.ref f) = true ∧ PySem.W.keepIn K (.ref f) = true := by
  obtain ⟨f, fd, F, hf, hi⟩ := T.ex
  exact ⟨f, fd, F.ok S len (fun cdv A outer s H vs Q E hr h => ⟨_, pl, hbody f cdv A outer s H vs Q E hr h ⟨O, ⟨[], (List.append_nil _).symm⟩, S.nd, rfl, rfl, PassesOwn.never⟩⟩), F.binds hb, hf, hi, F.kp⟩
end
/-- a bool test that is decided by a fact -/
theorem ifT {c A B : Prop} [Decidable c] (hc : c) (h : A) : if decide c = true then A else B := by
  rw [decide_eq_true hc]
  exact iteT h
theorem ifF {c A B : Prop} [Decidable c] (hc : ¬ c) (h : B) : if decide c = true then A else B := by
  rw [decide_eq_false hc]
  exact iteF h
theorem if2 {c A B : Prop} [Decidable c] (h1 : c → A) (h2 : ¬ c → B) : if decide c = true then A else B := by
  by_cases h : c
  · exact ifT h (h1 h)
  · exact ifF h (h2 h)
theorem ite_t {c : Bool} {A B : Prop} (hc : c = true) (h : A) : if c = true then A else B := by
  rw [hc]
  exact iteT h
theorem ite_f {c : Bool} {A B : Prop} (hc : c = false) (h : B) : if c = true then A else B := by
  rw [hc]
  exact iteF h
section
variable {P : Program} {w : World} {K : PySem.W.Frag} {mg : Str → Option Value} {base : Heap}
theorem run_ok {x qual : Str} {st : Stmt} {N G ps : List Str} {k : Nat} {sp : Sp} {f : Addr} {fd : FuncData} (F : Fun K x qual st f fd) (S : FnScope N ps (defScope st)) (O : ScOk N G (defScope st)) (len : ∀ vs H Q E, sp vs H Q E → vs.length = ps.length)
    (hbody : ∀ (f : Addr) (cdv : Value) (A : Around) (outer : List Env) (s : Shared) (H : Hp) (vs : List V) (Q : VK) (E : XK), Room k (A.deeper (envOfC qual (defScope st) s.heap.objs.size f cdv)) → sp vs H Q E → In (cxOf CX0 P w K mg base N qual (defScope st) f cdv A outer s H E).nox N G (defScope st) →
      wL (cxOf CX0 P w K mg base N qual (defScope st) f cdv A outer s H E).nox (defBody st) { nx := fun _ H' => Q .non H', rt := Q } (start N vs) H) : FnOk P w K mg base CX0 (k + 1) f fd ps sp :=
  F.ok S len (fun cdv A outer s H vs Q E hr h => ⟨_, pl, hbody f cdv A outer s H vs Q E hr h ⟨O, ⟨[], (List.append_nil _).symm⟩, S.nd, rfl, rfl, PassesOwn.never⟩⟩)
end
end Wk

/-! My own layer, errors: an own class of errors with fields, raised, caught, asked. -/
namespace Wk
open PySem PySem.Spec PyProof.Rows L2
section
variable {X : Cx} {N G : List Str} {sc : Scope} {e o : Expr} {es : List Expr} {σ : L2.St} {H : Hp} {Q : VK} {pos p0 np : Pos}
theorem o_isN {x : V} (q : Q (.bl (decide (x = .non))) H) : wK X .Is x .non H Q := k_of op_isN ⟨rfl, q⟩
theorem o_nisB {a b : Bool} (q : Q (.bl (!decide (a = b))) H) : wK X .IsNot (.bl a) (.bl b) H Q := k_of op_isnot_bl ⟨a, b, rfl, rfl, q⟩
/-- a def of the module that may raise -/
structure FnX (P : Program) (w : World) (K : PySem.W.Frag) (mg : Str → Option Value) (base : Heap) (k : Nat) (x : Str) (sp : Sp) : Prop where
  ex : ∃ (f : Addr) (fd : FuncData) (ps : List Str), FnOk P w K mg base (L2.CX P w) k f fd ps sp ∧ mg x = some (.ref f) ∧ PySem.W.keepIn K (.ref f) = true ∧ Binds K fd ps []
theorem e_callX {g k n : Nat} {x : Str} {sp : Sp} {W : WX} (F : FnX X.prog X.w X.K X.mg X.base k x sp) (tk : Takes X W) (hr : Room n X.A) (hk : k ≤ n) (q : wA X (e :: es) σ H fun vs H1 => sp vs H1 Q (fun cls d H' => W cls d σ H'))
    (I : In X N G sc := by assumption) (hG : At G g x := by repeat (first | with_reducible apply At.z | with_reducible apply At.s)) (he : starEach (e :: es) X.env = (false, eval e X.env) :: starEach es X.env := by rfl) (hpl : (backTo pos (starEach es X.env)).any (·.1) = false := by rfl) :
    wE X (.Call (.Name x p0) (e :: es) [] pos) σ H Q := by
  obtain ⟨f, fd, ps, F0, hm, hkp, hb⟩ := F.ex
  refine e_of (pe_callSD (E := fun σ cls d H' => W cls d σ H') F0 (hr.mono hk) (I.g hG) hm hkp hb .nil (fun σ => passAt tk σ) pa (I.gd hG) he hpl) ?_
  show wA X (e :: es) σ H fun vs H1 => sp (vs ++ []) H1 Q (fun cls d H' => W cls d σ H')
  simp only [List.append_nil]
  exact q
/-- an own class of errors whose __init__ stores its one argument in the field f -/
def sp1 (C : Addr) (f : Str) : Sp := fun vs H Q _ => ∃ (a : Addr) (v : V), vs = [.ref a, v] ∧ H a = some (exo a C none) ∧ ∀ dx, H dx = none → dx ≠ a → Q .non (upd (upd H dx (exd dx [(f, v)])) a (exo a C (some dx)))
structure Er (P : Program) (w : World) (K : PySem.W.Frag) (mg : Str → Option Value) (base : Heap) (x : Str) (C : Addr) (f : Str) : Prop where
  o : OexC K C
  mgC : mg x = some (.ref C)
  ex : ∃ (fI : Addr) (fd : FuncData) (ps : List Str), FnOk P w K mg base CX0 1 fI fd ps (sp1 C f) ∧ PySem.W.findIn K (.ref C) "__init__" = some (some (.ref fI)) ∧ PySem.W.typeIn K (.ref fI) = some (.type "function") ∧ Binds K fd ps []
/-- self.f = e of an error that is being made -/
theorem s_ost {nx : L2.St → Hp → Prop} {rt : VK} {bk ct : L2.St → Hp → Prop} {f : Str} {value : Expr} {pos' : Pos} (q : wE X value σ H fun y H1 => wE X o σ H1 fun x H2 => ∃ a C : Addr, x = .ref a ∧ OexC X.K C ∧ PySem.W.findIn X.K (.ref C) f = some none ∧ H2 a = some (exo a C none) ∧ ∀ dx, H2 dx = none → dx ≠ a → nx σ (upd (upd H2 dx (exd dx [(f, y)])) a (exo a C (some dx))))
    (hs : swapsWith value (some (.Attribute o f pos')) pos.line X.env = pure false := by rfl) : wS X (.Assign [.Attribute o f pos'] value pos) ⟨nx, rt, bk, ct⟩ σ H :=
  s_of (ps_ost pe pe hs) (e_mono q fun y H1 z => e_mono z fun x H2 ⟨a, C, h1, h2, h3, h4, h5⟩ => ⟨a, C, h1, h2, h3, .inl ⟨h4, h5⟩⟩)
/-- raise C(e) -/
theorem s_raise1 {nx : L2.St → Hp → Prop} {rt : VK} {bk ct : L2.St → Hp → Prop} {g n : Nat} {x f : Str} {C : Addr} {W : WX} {pos' : Pos} (R : Er X.prog X.w X.K X.mg X.base x C f) (tk : Takes X W) (hr : Room n X.A) (hn : 2 ≤ n)
    (q : wE X e σ H fun v H1 => ∀ d H', Same H1 H' → H1 d = none → H' d = some (.xd [(f, v)]) → W (.ref C) (some d) σ H')
    (I : In X N G sc := by assumption) (hG : At G g x := by repeat (first | with_reducible apply At.z | with_reducible apply At.s)) (hc : X.calm = true := by rfl)
    (he : starEach (e :: []) X.env = (false, eval e X.env) :: starEach [] X.env := by rfl) (hpl : (backTo pos (starEach [] X.env)).any (·.1) = false := by rfl) :
    wS X (.Raise (some (.Call (.Name x p0) [e] [] pos)) none pos') ⟨nx, rt, bk, ct⟩ σ H := by
  obtain ⟨fI, fd, ps, F0, hi, ht, hb⟩ := R.ex
  refine s_of (ps_raise hc tk (pmk_oex R.o hi ht F0 (hr.mono hn) hb .nil pass0 (I.g hG) R.mgC pa (I.gd hG) he hpl)) ?_
  refine a_cons (e_mono q fun v H1 z => a_nil ⟨by show 1 ≤ 1000; decide, fun a na => ?_⟩) he
  refine ⟨a, v, rfl, upd_same, fun dx nd ne => ⟨rfl, dx, [(f, v)], upd_same, ?_, ?_, ?_⟩⟩
  · rw [upd_ne ne, upd_same]
  · rw [upd_ne ne] at nd
    exact nd
  · refine z dx _ (fun b u hb => ?_) (by rw [upd_ne ne] at nd; exact nd) upd_same
    have h1 : b ≠ a := ne_of_none hb na
    have h2 : b ≠ dx := ne_of_none hb (by rw [upd_ne ne] at nd; exact nd)
    rw [upd_ne h2, del_ne h1, upd_ne h1, upd_ne h2, upd_ne h1]
    exact hb
/-- the suite of an except clause -/
def tsS (X : Cx) (N G : List Str) (sc : Scope) (sts : List Stmt) : Addr → Value → Option Addr → TS := fun a cls d D σ H => ∀ (oe : Obj) (pn : List (Addr × Obj)), Zc cls d oe → (∃ vs, oe.data = .fields vs) → In (X.suite a ((a, oe) :: pn)) N G sc → wL (X.suite a ((a, oe) :: pn)) sts D σ H
theorem In.tr (I : In X N G sc) {pn : List (Addr × Obj)} {xe : Value → Shared → Prop} (h : PassesOwn (model X.prog X.w) X.A X.env xe) : In (X.tr pn xe) N G sc := ⟨I.ok, I.n, I.nd, I.sc, I.fn, h⟩
theorem In.suite (I : In X N G sc) {a : Addr} {pn : List (Addr × Obj)} : In (X.suite a pn) N G sc := ⟨I.ok, I.n, I.nd, I.sc, I.fn, PassesOwn.never⟩
/-- try: body, except x as n: suite -/
theorem s_tryAs {nx : L2.St → Hp → Prop} {rt : VK} {bk ct : L2.St → Hp → Prop} {i g : Nat} {x n : Str} {c : Value} {body suite : List Stmt} {b0 : Stmt} {pos' : Pos} {Wout : WX} (hm : X.mg x = some c) (tk : Takes X Wout)
    (q : ∀ (pn : List (Addr × Obj)) (xe : Value → Shared → Prop), Takes (X.tr pn xe) (wAs X.K c i (tsS X N G sc (b0 :: suite)) Wout ⟨nx, rt, bk, ct⟩) → In (X.tr pn xe) N G sc → wL (X.tr pn xe) body ⟨nx, rt, bk, ct⟩ σ H)
    (I : In X N G sc := by assumption) (hA : At N i n := by repeat (first | with_reducible apply At.z | with_reducible apply At.s)) (hG : At G g x := by repeat (first | with_reducible apply At.z | with_reducible apply At.s))
    (hln : X.env.kindOf n = some .local := by rfl) (hs : X.stack = X.env :: X.outer := by rfl) (hf : X.env.frame = some X.env.locals := by rfl) :
    wS X (.Try body [.ExceptHandler (some (.Name x np)) (some n) (b0 :: suite) pos'] [] [] pos) ⟨nx, rt, bk, ct⟩ σ H :=
  s_of (ps_try_as (tb := fun W D σ H => ∀ (pn : List (Addr × Obj)) (xe : Value → Shared → Prop), Takes (X.tr pn xe) W → In (X.tr pn xe) N G sc → wL (X.tr pn xe) body D σ H) hs hf I.nd (I.hi hA) hln ⟨I.g hG, I.gd hG, .inl hm⟩ tk
    (fun W pn xe tk' po => ⟨fun pins s σ H D Iv h => pl.run pins s σ H D Iv (h pn xe tk' (I.tr po))⟩)
    (fun a oe cls d pn hz hd => ⟨fun pins s σ H D Iv h => pl.run pins s σ H D Iv (h oe pn hz hd I.suite)⟩)) q
/-- what the class D must say, so that isinstance asks its errors rightly -/
structure EcC (K : PySem.W.Frag) (D : Addr) : Prop where
  cl : (PySem.W.clsIn K D).isSome = true
  hg : PySem.W.findIn K (.ref D) "__getattribute__" = some (some (.builtin "BaseException.__getattribute__"))
  hk : PySem.W.findIn K (.ref D) "__getattr__" = some none
  hs : PySem.W.subIn K (.ref D) (.type "BaseException") = some true
  ha : PySem.W.findIn K (.ref D) "__class__" = some (some (.builtin "object.__class__"))
  hn : PySem.W.specialIn K (.builtin "object.__class__") "__get__" = some (some (.builtin "getset_descriptor.__get__"))
  ht : PySem.W.takesIn K (.builtin "object.__class__") = some true
  hm : PySem.W.mroIn K D (.type "object") = some true
/-- the caught error at a stands as an instance -/
theorem inst_of {pins : List (Addr × Obj)} {s : Shared} {a D : Addr} {d : Option Addr} {oe : Obj} {pn : List (Addr × Obj)} {fs : List (Str × V)} (I : Inv (X.suite a ((a, oe) :: pn)) pins σ H s) (hz : Zc (.ref D) d oe) (hf : ∃ vs, oe.data = .fields vs)
    (hd : ∀ dd, d = some dd → H dd = some (.xd fs)) : ∃ od, PySem.W.InstAt s.heap a oe D od := by
  obtain ⟨hget, _⟩ := I.pin (a, oe) (List.mem_append.mpr (.inl List.mem_cons_self))
  obtain ⟨vs, hv⟩ := hf
  have nc : PySem.W.notCls oe := by unfold PySem.W.notCls; rw [hv] <;> trivial
  cases d with
  | none => exact ⟨none, hget, hz.1, nc, by rw [hz.2]; trivial⟩
  | some dd =>
    obtain ⟨mA, hns, _⟩ := (show ObjOk X.prog X.w H s.heap dd (.xd fs) from I.hok dd _ (hd dd rfl))
    obtain ⟨od, ho, _⟩ := lookIn_ns hns
    exact ⟨some od, hget, hz.1, nc, by rw [hz.2]; exact ho⟩
theorem c_isE {a D : Addr} {d : Option Addr} {oe : Obj} {pn : List (Addr × Obj)} {fs : List (Str × V)} {c : V} {cv : Value} {b : Bool} (C : EcC X.K D) (hz : Zc (.ref D) d oe) (hf : ∃ vs, oe.data = .fields vs) (hd : ∀ dd, d = some dd → H dd = some (.xd fs))
    (k : ClsV c cv) (e : PySem.W.kitOne X.K (.ref D) cv = some b) (q : Q (.bl b) H) : wC (X.suite a ((a, oe) :: pn)) (.builtin "isinstance") [.ref a, c] H Q := by
  unfold wC
  intro pins s σ us I r
  obtain ⟨u1, u2, rfl, r1, r2⟩ := vals2 r
  cases (show u1 = Value.ref a from r1)
  have ec := k.eq r2
  subst ec
  obtain ⟨od, J⟩ := inst_of I hz hf hd
  exact PySem.W.kia_one (PySem.W.kitx_exc (od := od) C.cl C.hg C.hk C.hs C.ha C.hn C.ht C.hm) I.kIn J e (fun z => nomatch z) fun tk => ⟨.bl b, H, I.tok tk, rfl, q⟩
theorem c_isET {a D tp : Addr} {d : Option Addr} {oe : Obj} {pn : List (Addr × Obj)} {fs : List (Str × V)} {cs : List V} {us' : List Value} {b : Bool} (C : EcC X.K D) (hz : Zc (.ref D) d oe) (hf : ∃ vs, oe.data = .fields vs) (hd : ∀ dd, d = some dd → H dd = some (.xd fs))
    (hT : H tp = some (.tup cs)) (k : Paired ClsV cs us') (e : PySem.W.kitAny X.K (.ref D) us' = some b) (q : Q (.bl b) H) : wC (X.suite a ((a, oe) :: pn)) (.builtin "isinstance") [.ref a, .ref tp] H Q := by
  unfold wC
  intro pins s σ us I r
  obtain ⟨u1, u2, rfl, r1, r2⟩ := vals2 r
  cases (show u1 = Value.ref a from r1)
  cases (show u2 = Value.ref tp from r2)
  obtain ⟨od, J⟩ := inst_of I hz hf hd
  obtain ⟨_, its, rv, o, h1, h2, n, h3⟩ := (show ObjOk X.prog X.w H s.heap tp (.tup cs) from I.hok tp _ hT)
  have e3 := ClsV.all k rv
  subst e3
  obtain ⟨oc, odd, dt, sl⟩ := o
  simp only at h2 h3
  subst h2 h3
  exact PySem.W.kia_tup (PySem.W.kitx_exc (od := od) C.cl C.hg C.hk C.hs C.ha C.hn C.ht C.hm) I.kIn J h1 e (fun z => nomatch z) fun tk => ⟨.bl b, H, I.tok tk, rfl, q⟩
/-- e.f of the caught error -/
theorem e_xf {a C : Addr} {oe : Obj} {d : Option Addr} {pn : List (Addr × Obj)} {f : Str} (T : XfC X.K C) (hno : PySem.W.findIn X.K (.ref C) f = some none) (hz : Zc (.ref C) d oe) (hf : ∃ vs, oe.data = .fields vs)
    (q : wE (X.suite a ((a, oe) :: pn)) e σ H fun x H1 => x = .ref a ∧ ∃ (dd : Addr) (fs : List (Str × V)) (v : V), d = some dd ∧ H1 dd = some (.xd fs) ∧ fs.lookup f = some v ∧ Q v H1) (hb : attributeBase e f X.env (eval e X.env) = eval e X.env := by rfl) :
    wE (X.suite a ((a, oe) :: pn)) (.Attribute e f pos) σ H Q := e_of (pe_xf T hno hz hf pe hb) (e_mono q fun x H1 z => ⟨z.1, rfl, z.2⟩)
end
section
variable {P : Program} {w : World} {K : PySem.W.Frag} {mg : Str → Option Value} {base : Heap}
theorem fn_okX {x : Str} {st : Stmt} {N G ps : List Str} {k : Nat} {sp : Sp} (T : Top K mg x st) (S : FnScope N ps (defScope st)) (O : ScOk N G (defScope st)) (len : ∀ vs H Q E, sp vs H Q E → vs.length = ps.length)
    (hb : ∀ (kV doc pm : Value) (an : Option Addr) (cdv ct : Value) (us : List Value), us.length = ps.length → bindArgs (PySem.W.fnOf x x (defArgs st) (defBody st) (defScope st) .none kV doc pm an cdv ct) ⟨us, []⟩ = pure (ps.zip us))
    (hbody : ∀ (f : Addr) (cdv : Value) (A : Around) (outer : List Env) (s : Shared) (H : Hp) (vs : List V) (Q : VK) (E : XK), Room k (A.deeper (envOfC x (defScope st) s.heap.objs.size f cdv)) → sp vs H Q E → In (cxOf (L2.CX P w) P w K mg base N x (defScope st) f cdv A outer s H E) N G (defScope st) →
      Takes (cxOf (L2.CX P w) P w K mg base N x (defScope st) f cdv A outer s H E) (fun cls d _ H => E cls d H) →
      wL (cxOf (L2.CX P w) P w K mg base N x (defScope st) f cdv A outer s H E) (defBody st) { nx := fun _ H' => Q .non H', rt := Q } (start N vs) H) : FnX P w K mg base (k + 1) x sp := by
  obtain ⟨f, fd, F, hm⟩ := T.ex
  exact ⟨f, fd, ps, F.okX S len (fun cdv A outer s H vs Q E hr h => ⟨_, pl, hbody f cdv A outer s H vs Q E hr h ⟨O, ⟨[], (List.append_nil _).symm⟩, S.nd, rfl, rfl, passes_of rfl⟩ (takes_of rfl rfl rfl rfl)⟩), hm, F.kp, F.binds hb⟩
end
end Wk

/-! My own layer, errors whose context is None: raised where nothing is handled, so that defs may be called in the suite that catches them. -/
namespace Wk
open PySem PySem.Spec PyProof.Rows L2
section
variable {X : Cx} {N G : List Str} {sc : Scope} {e o : Expr} {es : List Expr} {σ : L2.St} {H : Hp} {Q : VK} {pos p0 np : Pos}
/-- C(e) of a class whose __init__ stores one field: the made error's fields are known -/
theorem pmkN {n : Nat} {x f : Str} {C : Addr} (R : Er X.prog X.w X.K X.mg X.base x C f) (hr : Room n X.A) (hn : 2 ≤ n) (hg : Gl X x) (hdb : (x == ("__debug__" : Str)) = false)
    (he : starEach (e :: []) X.env = (false, eval e X.env) :: starEach [] X.env) (hpl : (backTo pos (starEach [] X.env)).any (·.1) = false) :
    L2N.PMk X (.Call (.Name x p0) [e] [] pos) (fun σ H Q => wE X e σ H fun v H1 => ∀ d H', Same H1 H' → H1 d = none → H' d = some (.xd [(f, v)]) → Q (.ref C) (some d) H') := by
  intro pins s σ H Q I h
  obtain ⟨fI, fd, ps, F0, hi, ht, hb⟩ := R.ex
  obtain ⟨_, _, _, _, bm, _, _, _, _, _, _, _, _, _, _, hC, hbm⟩ := R.o.cls
  refine wpAny_Call_Name_kw (ld_glob I hg R.mgC ?_ hdb)
  refine PySem.W.callWith_K (h₀ := X.base) I.ok.mod.kin R.o.kC (thn ((pa_cons pe pa_nil he).run pos pins s σ H (fun vs H1 => ∃ v, vs = [v] ∧ ∀ d H', Same H1 H' → H1 d = none → H' d = some (.xd [(f, v)]) → Q (.ref C) (some d) H') I (e_mono h fun v H1 z => ⟨v, rfl, z⟩)) fun us s1 ⟨vs, H1, I1, r1, v, ev, q1⟩ => ⟨I1.kIn, ?_⟩) he hpl
  subst ev
  show wpAny _ _ (call (.ref C) us) _ _ _
  obtain ⟨hp, g, dr, tk, os⟩ := s1
  have hget0 : ((hp.push (PySem.W.kdv_tup us)).push (PySem.HandSPX.excO C hp.objs.size)).get? (hp.objs.size + 1) = some (PySem.HandSPX.excO C hp.objs.size) := by heap_get
  let a := hp.objs.size + 1
  have na : H1 a = none := I1.hok.fresh (Nat.le_succ _)
  let hp2 := (hp.push (PySem.W.kdv_tup us)).push (PySem.HandSPX.excO C hp.objs.size)
  have kk : ∀ b o, hp.get? b = some o → hp2.get? b = some o := fun b o z => Heap.get?_push_of_some _ (Heap.get?_push_of_some _ z)
  have hget : hp2.get? a = some (PySem.HandSPX.excO C hp.objs.size) := hget0
  have I2 : Inv X pins σ (upd H1 a (exo a C none)) ⟨hp2, g, dr, tk, os⟩ := I1.laid (t' := tk) (h' := hp2) kk (Nat.le_succ _) (exo_ok hget)
  have r2 : Vals (V.ref a :: [v]) (Value.ref a :: us) := .cons rfl r1
  have lu : us.length = 1 := r1.length.symm
  -- what __init__ is asked for
  have hq : sp1 C f [.ref a, v] (upd H1 a (exo a C none)) (fun w H2 => w = .non ∧ ∃ d, H2 a = some (exo a C (some d)) ∧ H2 d = some (exd d [(f, v)]) ∧ H1 d = none ∧ Q (.ref C) (some d) (upd (del H2 a) d (.xd [(f, v)]))) (fun _ _ _ => False) := by
    refine ⟨a, v, rfl, upd_same, fun dx nd ne => ⟨rfl, dx, upd_same, by rw [upd_ne ne, upd_same], by rw [upd_ne ne] at nd; exact nd, ?_⟩⟩
    rw [upd_ne ne] at nd
    refine q1 dx _ (fun b u hb => ?_) nd upd_same
    have h1 : b ≠ a := ne_of_none hb na
    have h2 : b ≠ dx := ne_of_none hb nd
    rw [upd_ne h2, del_ne h1, upd_ne h1, upd_ne h2, upd_ne h1]
    exact hb
  have lp : (Value.ref a :: us).length = ps.length := by
    have z1 := r2.length
    rw [F0.len _ _ _ _ hq] at z1
    exact z1.symm
  have bind : BindsTo ⟨hp2, g, dr, tk, os⟩ fd ⟨Value.ref a :: us, []⟩ (ps.zip (Value.ref a :: us)) := by
    have z1 := hb ⟨hp2, g, dr, tk, os⟩ (Value.ref a :: us) I2.kIn (by rw [List.append_nil]; exact lp)
    rwa [List.append_nil] at z1
  have room : Room 1 (X.A.under (.builtin "type.__call__" ⟨.ref C :: us, []⟩)) := (hr.mono hn).make C us []
  have go := F0.run _ X.stack _ _ ⟨Value.ref a :: us, []⟩ (Value.ref a :: us) [V.ref a, v] _ (fun _ _ _ => False) room (I2.env0.make C us []) bind r2 hq
  refine wpAny_call (PySem.HandSPX.call_own F.excBase_ValueError (fun Y => PySem.HandSPX.refsVE_contains Y bm hbm) (I1.kIn _ _ hC) (PySem.W.looks_findIn I1.kIn hi) (fun self => PySem.W.bind_fn I1.kIn self ht) (by rw [lu, sizeLine_eq]; decide) (codeAny_mono go fun r s' back => ?_))
  cases r with
  | error er => exact False.elim back
  | ok fl =>
    cases fl with
    | ret u =>
      obtain ⟨w, H2, o2, b2, un2, ok2, rw2, ew, d, ea, ed, nd1, q2⟩ := back
      subst ew
      obtain ⟨h2, g2, d2, t2, os'⟩ := s'
      obtain ⟨t0, Gh, J, kG, ge, hoe, nH⟩ := mk_end0 (d2 := d2) (t2 := t2) I1 (Nat.le_succ _) kk un2 ok2 o2 b2 ea ed nd1
      refine ⟨rw2, a, _, #[.ref t0, .none, .none, .none, .bool false, .none], ⟨Gh, g2, d2, t2, os'⟩, _, .ref C, some d, rfl, J, kG, ge, hoe, ⟨rfl, rfl, ?_⟩, rfl, rfl, nH, rfl, b2, raises_own R.o.exC R.o.tyC, q2⟩
      intro vs z
      cases z
      rfl
    | next => exact False.elim back
    | brk => exact False.elim back
    | cont => exact False.elim back

theorem e_dict (q : ∀ p H2, Same H H2 → H p = none → H2 p = some (.dK []) → Q (.ref p) H2) : wE X (.Dict [] [] pos) σ H Q :=
  e_of pe_dnewK fun p np => q p _ (fun b u eo => by rw [upd_ne (ne_of_none eo np)]; exact eo) np upd_same
theorem e_neg {a : Expr} (q : wE X a σ H fun x H1 => ∃ i, x = .int i ∧ Q (.int (-i)) H1) : wE X (.UnaryOp .USub a pos) σ H Q := e_of (pe_un un_neg pe) q
theorem o_cat {l b : Addr} {xs zs : List V} (h1 : H l = some (.lst xs)) (h2 : H b = some (.lst zs)) (hz : xs.length + zs.length ≤ sizeLine) (q : ∀ p H2, Same H H2 → H2 p = some (.lst (xs ++ zs)) → Q (.ref p) H2) : wB X .Add (.ref l) (.ref b) H Q :=
  b_of op_cat ⟨l, b, xs, zs, rfl, rfl, h1, h2, hz, fun p np => q p _ (fun c u eo => by rw [upd_ne (ne_of_none eo np)]; exact eo) upd_same⟩
theorem c_str {i : Int} (hl : i.natAbs.log2 < 1920) (q : Q (.str (toString i)) H) : wC X (.type "str") [.int i] H Q := c_of call_str_int ⟨i, rfl, hl, q⟩
theorem o_isB {a b : Bool} (q : Q (.bl (decide (a = b))) H) : wK X .Is (.bl a) (.bl b) H Q := k_of op_is_bl ⟨a, b, rfl, rfl, q⟩
/-- raise C(e), where nothing is handled -/
theorem s_raiseN {nx : L2.St → Hp → Prop} {rt : VK} {bk ct : L2.St → Hp → Prop} {g n : Nat} {x f : Str} {C : Addr} {W : WX} {pos' : Pos} (R : Er X.prog X.w X.K X.mg X.base x C f) (tk : L2N.Takes X W) (hr : Room n X.A) (hn : 2 ≤ n)
    (q : wE X e σ H fun v H1 => ∀ d H', Same H1 H' → H1 d = none → H' d = some (.xd [(f, v)]) → W (.ref C) (some d) σ H')
    (I : In X N G sc := by assumption) (hG : At G g x := by repeat (first | with_reducible apply At.z | with_reducible apply At.s)) (hc : X.calm = true := by rfl)
    (he : starEach (e :: []) X.env = (false, eval e X.env) :: starEach [] X.env := by rfl) (hpl : (backTo pos (starEach [] X.env)).any (·.1) = false := by rfl) :
    wS X (.Raise (some (.Call (.Name x p0) [e] [] pos)) none pos') ⟨nx, rt, bk, ct⟩ σ H :=
  s_of (L2N.ps_raise hc tk (pmkN R hr hn (I.g hG) (I.gd hG) he hpl)) q
/-- a def of the module that may raise so -/
structure FnN (P : Program) (w : World) (K : PySem.W.Frag) (mg : Str → Option Value) (base : Heap) (k : Nat) (x : Str) (sp : Sp) : Prop where
  ex : ∃ (f : Addr) (fd : FuncData) (ps : List Str), FnOk P w K mg base (L2N.CX P w) k f fd ps sp ∧ mg x = some (.ref f) ∧ PySem.W.keepIn K (.ref f) = true ∧ Binds K fd ps []
theorem e_callN {g k n : Nat} {x : Str} {sp : Sp} {W : WX} (F : FnN X.prog X.w X.K X.mg X.base k x sp) (tk : L2N.Takes X W) (hr : Room n X.A) (hk : k ≤ n) (q : wA X (e :: es) σ H fun vs H1 => sp vs H1 Q (fun cls d H' => W cls d σ H'))
    (I : In X N G sc := by assumption) (hG : At G g x := by repeat (first | with_reducible apply At.z | with_reducible apply At.s)) (he : starEach (e :: es) X.env = (false, eval e X.env) :: starEach es X.env := by rfl) (hpl : (backTo pos (starEach es X.env)).any (·.1) = false := by rfl) :
    wE X (.Call (.Name x p0) (e :: es) [] pos) σ H Q := by
  obtain ⟨f, fd, ps, F0, hm, hkp, hb⟩ := F.ex
  refine e_of (pe_callSD (E := fun σ cls d H' => W cls d σ H') F0 (hr.mono hk) (I.g hG) hm hkp hb .nil (fun σ => L2N.passAt tk σ) pa (I.gd hG) he hpl) ?_
  show wA X (e :: es) σ H fun vs H1 => sp (vs ++ []) H1 Q (fun cls d H' => W cls d σ H')
  simp only [List.append_nil]
  exact q
/-- the suite of an except clause that catches such an error -/
def tsN (X : Cx) (N G : List Str) (sc : Scope) (sts : List Stmt) : Addr → Value → Option Addr → TS := fun a cls d D σ H => ∀ (oe : Obj) (pn : List (Addr × Obj)), Zc cls d oe → (∃ vs, oe.data = .fields vs) → In (X.suite a ((a, oe) :: pn)) N G sc → L2H.HotC (X.suite a ((a, oe) :: pn)) → wL (X.suite a ((a, oe) :: pn)) sts D σ H
theorem s_tryN {nx : L2.St → Hp → Prop} {rt : VK} {bk ct : L2.St → Hp → Prop} {i g : Nat} {x n : Str} {c : Value} {body suite : List Stmt} {b0 : Stmt} {pos' : Pos} {Wout : WX} (hm : X.mg x = some c) (tk : L2N.Takes X Wout)
    (q : ∀ (pn : List (Addr × Obj)) (xe : Value → Shared → Prop), L2N.Takes (X.tr pn xe) (wAs X.K c i (tsN X N G sc (b0 :: suite)) Wout ⟨nx, rt, bk, ct⟩) → In (X.tr pn xe) N G sc → wL (X.tr pn xe) body ⟨nx, rt, bk, ct⟩ σ H)
    (I : In X N G sc := by assumption) (hA : At N i n := by repeat (first | with_reducible apply At.z | with_reducible apply At.s)) (hG : At G g x := by repeat (first | with_reducible apply At.z | with_reducible apply At.s))
    (hln : X.env.kindOf n = some .local := by rfl) (hs : X.stack = X.env :: X.outer := by rfl) (hf : X.env.frame = some X.env.locals := by rfl) :
    wS X (.Try body [.ExceptHandler (some (.Name x np)) (some n) (b0 :: suite) pos'] [] [] pos) ⟨nx, rt, bk, ct⟩ σ H :=
  s_of (L2N.ps_try_as (tb := fun W D σ H => ∀ (pn : List (Addr × Obj)) (xe : Value → Shared → Prop), L2N.Takes (X.tr pn xe) W → In (X.tr pn xe) N G sc → wL (X.tr pn xe) body D σ H) hs hf I.nd (I.hi hA) hln ⟨I.g hG, I.gd hG, .inl hm⟩ tk
    (fun W pn xe tk' po => ⟨fun pins s σ H D Iv h => pl.run pins s σ H D Iv (h pn xe tk' (I.tr po))⟩)
    (fun a oe cls d pn hz hd => ⟨fun pins s σ H D Iv h => pl.run pins s σ H D Iv (h oe pn hz.zc hd I.suite (by
      obtain ⟨vs, hv⟩ := hd
      exact ⟨(a, oe), ⟨rfl, vs, hv, hz.2.2 vs hv⟩, List.mem_cons_self⟩))⟩)) q
theorem takesN0 : L2N.Takes X (fun _ _ _ _ => False) := fun _ _ x => by
  obtain ⟨_, _, _, _, _, _, _, _, _, _, _, _, _, _, _, _, z⟩ := x
  exact z.elim
/-- a def that is called where an error is handled -/
structure FnHt (P : Program) (w : World) (K : PySem.W.Frag) (mg : Str → Option Value) (base : Heap) (k : Nat) (x : Str) (sp : Sp) : Prop where
  ex : ∃ (f : Addr) (fd : FuncData) (ps : List Str), L2H.FnH P w K mg base CX0 k f fd ps sp ∧ mg x = some (.ref f) ∧ PySem.W.keepIn K (.ref f) = true ∧ Binds K fd ps []
theorem e_callH {g k n : Nat} {x : Str} {sp : Sp} (F : FnHt X.prog X.w X.K X.mg X.base k x sp) (hr : L2H.RoomH n X.A) (hk : k ≤ n) (hh : L2H.HotC X) (q : wA X (e :: es) σ H fun vs H1 => sp vs H1 Q E0)
    (I : In X N G sc := by assumption) (hG : At G g x := by repeat (first | with_reducible apply At.z | with_reducible apply At.s)) (he : starEach (e :: es) X.env = (false, eval e X.env) :: starEach es X.env := by rfl) (hpl : (backTo pos (starEach es X.env)).any (·.1) = false := by rfl) :
    wE X (.Call (.Name x p0) (e :: es) [] pos) σ H Q := by
  obtain ⟨f, fd, ps, F0, hm, hkp, hb⟩ := F.ex
  exact e_of (L2H.pe_callH (E := fun _ => E0) F0 (hr.mono hk) hh (I.g hG) hm hkp hb (fun σ pins H s e s' I z => z.elim) pa (I.gd hG) he hpl) q
end
section
variable {P : Program} {w : World} {K : PySem.W.Frag} {mg : Str → Option Value} {base : Heap}
theorem fn_okN {x : Str} {st : Stmt} {N G ps : List Str} {k : Nat} {sp : Sp} (T : Top K mg x st) (S : FnScope N ps (defScope st)) (O : ScOk N G (defScope st)) (len : ∀ vs H Q E, sp vs H Q E → vs.length = ps.length)
    (hb : ∀ (kV doc pm : Value) (an : Option Addr) (cdv ct : Value) (us : List Value), us.length = ps.length → bindArgs (PySem.W.fnOf x x (defArgs st) (defBody st) (defScope st) .none kV doc pm an cdv ct) ⟨us, []⟩ = pure (ps.zip us))
    (hbody : ∀ (f : Addr) (cdv : Value) (A : Around) (outer : List Env) (s : Shared) (H : Hp) (vs : List V) (Q : VK) (E : XK), Room k (A.deeper (envOfC x (defScope st) s.heap.objs.size f cdv)) → sp vs H Q E → In (cxOf (L2N.CX P w) P w K mg base N x (defScope st) f cdv A outer s H E) N G (defScope st) →
      L2N.Takes (cxOf (L2N.CX P w) P w K mg base N x (defScope st) f cdv A outer s H E) (fun cls d _ H => E cls d H) →
      wL (cxOf (L2N.CX P w) P w K mg base N x (defScope st) f cdv A outer s H E) (defBody st) { nx := fun _ H' => Q .non H', rt := Q } (start N vs) H) : FnN P w K mg base (k + 1) x sp := by
  obtain ⟨f, fd, F, hm⟩ := T.ex
  obtain ⟨oc, od, kV, doc, pm, an, cdv, ct, osl, rfl, lk, hcd⟩ := id F.ex
  exact ⟨f, _, ps, fn_of lk hcd S len (fun A outer s H vs Q E hr h => ⟨_, pl, hbody f cdv A outer s H vs Q E hr h ⟨O, ⟨[], (List.append_nil _).symm⟩, S.nd, rfl, rfl, passes_of rfl⟩ (L2N.takes_of rfl rfl rfl rfl)⟩), hm, F.kp, F.binds hb⟩
theorem fn_okH {x : Str} {st : Stmt} {N G ps : List Str} {k : Nat} {sp : Sp} (T : Top K mg x st) (S : FnScope N ps (defScope st)) (O : ScOk N G (defScope st)) (len : ∀ vs H Q E, sp vs H Q E → vs.length = ps.length)
    (hb : ∀ (kV doc pm : Value) (an : Option Addr) (cdv ct : Value) (us : List Value), us.length = ps.length → bindArgs (PySem.W.fnOf x x (defArgs st) (defBody st) (defScope st) .none kV doc pm an cdv ct) ⟨us, []⟩ = pure (ps.zip us))
    (hbody : ∀ (f : Addr) (cdv : Value) (A : Around) (outer : List Env) (s : Shared) (H : Hp) (vs : List V) (Q : VK) (E : XK) (p : Addr × Obj), L2H.RoomH k (A.deeper (envOfC x (defScope st) s.heap.objs.size f cdv)) → sp vs H Q E → In (L2H.cxH CX0 P w K mg base N x (defScope st) f cdv A outer s H E p).nox N G (defScope st) →
      wL (L2H.cxH CX0 P w K mg base N x (defScope st) f cdv A outer s H E p).nox (defBody st) { nx := fun _ H' => Q .non H', rt := Q } (start N vs) H) : FnHt P w K mg base (k + 1) x sp := by
  obtain ⟨f, fd, F, hm⟩ := T.ex
  obtain ⟨oc, od, kV, doc, pm, an, cdv, ct, osl, rfl, lk, hcd⟩ := id F.ex
  exact ⟨f, _, ps, L2H.fn_ofH lk hcd S len (fun A outer s H vs Q E p hot hr h => ⟨_, PSs.nox pl, hbody f cdv A outer s H vs Q E p hr h ⟨O, ⟨[], (List.append_nil _).symm⟩, S.nd, rfl, rfl, PassesOwn.never⟩⟩), hm, F.kp, F.binds hb⟩
end
end Wk

/-! My own layer, texts: chains of comparisons, order and length of texts, a sign of a text, a loop over a text. -/
namespace Wk
open PySem PySem.Spec PyProof.Rows L2
section
variable {X : Cx} {N G : List Str} {sc : Scope} {a b c e : Expr} {es : List Expr} {σ : L2.St} {H : Hp} {Q : VK} {pos : Pos} {QT : Bool → Hp → Prop}
theorem e_chain {op op' : CmpOp} (q : wE X a σ H fun x H1 => wE X b σ H1 fun y H2 => wK X op x y H2 fun z H3 => ∃ k, z = .bl k ∧ (if k = true then wE X c σ H3 fun w H4 => wK X op' y w H4 Q else Q (.bl false) H3)) (hm : lastMarks [op, op'] [b, c] = false := by with_unfolding_all rfl) :
    wE X (.Compare a [op, op'] [b, c] pos) σ H Q := e_of (pe_chain opk opk pe pe pe hm) q
theorem t_chain {op op' : CmpOp} (q : wE X a σ H fun x H1 => wE X b σ H1 fun y H2 => wK X op x y H2 fun z H3 => ∃ k, z = .bl k ∧ (if k = true then wE X c σ H3 fun w H4 => wK X op' y w H4 fun z H5 => ∃ k, z = .bl k ∧ QT k H5 else ∃ k, V.bl false = .bl k ∧ QT k H3)) (hm : lastMarks [op, op'] [b, c] = false := by with_unfolding_all rfl) :
    wT X (.Compare a [op, op'] [b, c] pos) σ H QT := t_of (pt_chain opk opk pe pe pe hm) q
/-- one sign -/
abbrev sg (c : Nat) : Str := ⟨#[c]⟩
theorem lt1 (c d : Nat) : (([c] : List Nat) < [d]) ↔ c < d := by
  constructor
  · intro h
    cases h with
    | rel h => exact h
    | cons h => cases h
  · exact fun h => .rel h
theorem o_le1 {c d : Nat} (q : Q (.bl (decide (c ≤ d))) H) : wK X .LtE (.str (sg c)) (.str (sg d)) H Q := by
  refine k_of op_le_str ⟨sg c, sg d, rfl, rfl, ?_⟩
  have e1 : (!decide (([d] : List Nat) < [c])) = decide (c ≤ d) := by
    by_cases h : c ≤ d
    · have h2 : ¬ (([d] : List Nat) < [c]) := fun z => absurd ((lt1 d c).mp z) (by omega)
      rw [decide_eq_true h, decide_eq_false h2]
      rfl
    · have h2 : ([d] : List Nat) < [c] := (lt1 d c).mpr (by omega)
      rw [decide_eq_false h, decide_eq_true h2]
      rfl
  show Q (.bl (!decide (([d] : List Nat) < [c]))) H
  rw [e1]
  exact q
theorem c_lenS {z : Str} (h : z.length ≤ sizeLine) (q : Q (.int (z.length : Int)) H) : wC X (.builtin "len") [.str z] H Q := c_of call_len ⟨.str z, z.length, rfl, ⟨h, rfl⟩, q⟩
theorem ix_s {z : Str} {i : Int} {c : Nat} (h : z.length ≤ sizeLine) (e : atI z.cps.toList i = some c) (q : Q (.str (sg c)) H) : wIx X (.str z) (.int i) H Q := ix_of ix_str ⟨z, i, c, rfl, rfl, h, e, q⟩
theorem s_forS {nx : L2.St → Hp → Prop} {rt : VK} {bk ct : L2.St → Hp → Prop} {x : Str} {i : Nat} {body : List Stmt} {px : Pos}
    (q : wE X a σ H fun v H1 => ∃ z : Str, v = .str z ∧ ∃ Pv : Nat → L2.St → Hp → Prop, Pv 0 σ H1 ∧ (∀ k c σ H, z.cps[k]? = some c → Pv k σ H → wL X body ⟨Pv (k + 1), rt, nx, Pv (k + 1)⟩ (σ.set i (some (.str (sg c)))) H) ∧ ∀ σ H, Pv z.cps.size σ H → nx σ H)
    (I : In X N G sc := by assumption) (hc : X.calm = true := by rfl) (hA : At N i x := by repeat (first | with_reducible apply At.z | with_reducible apply At.s)) (hs2 : ∀ z, foldedSetIterable a X.env z = pure z := by intro _; rfl) :
    wS X (.For (.Name x px) a body [] pos) ⟨nx, rt, bk, ct⟩ σ H := by
  refine s_of (ps_for I.never hc (pi_str pe) (pg_name I.nd (I.hi hA) (I.loc hA) I.f) pl hs2) (e_mono q fun v H1 q1 => ?_)
  obtain ⟨z, rfl, Pv, h0, hb, hd⟩ := q1
  refine ⟨z, rfl, fun k m σ H => m = z.cps.size - k ∧ k ≤ z.cps.size ∧ Pv k σ H, ⟨z.cps.size, by simp, Nat.zero_le _, h0⟩, ?_⟩
  rintro k m σ H ⟨rfl, hk, p⟩
  by_cases hlt : k < z.cps.size
  · refine .inr ⟨hlt, Pv (k + 1), fun σ' H' p' => ⟨z.cps.size - (k + 1), by omega, rfl, hlt, p'⟩, fun y H' hy => ?_⟩
    obtain ⟨rfl, c, hc', rfl⟩ := hy
    exact hb k c σ _ hc' p
  · have e : k = z.cps.size := by omega
    subst e
    exact .inl ⟨Nat.le_refl _, hd σ H p⟩
end
end Wk

/-! My own layer, comprehensions with their own names, and ground terms: what only makes new objects, over facts that last. -/
namespace Wk
open PySem PySem.Spec PyProof.Rows L2
section
variable {P : Program} {w : World} {K : PySem.W.Frag} {mg : Str → Option Value} {base : Heap}
/-- a def with further slots C for the names of its comprehensions -/
theorem fn_okC {x : Str} {st : Stmt} {N C G ps : List Str} {k : Nat} {sp : Sp} (T : Top K mg x st) (S : FnScope (N ++ C) ps (defScope st)) (O : ScOk N G (defScope st)) (len : ∀ vs H Q E, sp vs H Q E → vs.length = ps.length)
    (hb : ∀ (kV doc pm : Value) (an : Option Addr) (cdv ct : Value) (us : List Value), us.length = ps.length → bindArgs (PySem.W.fnOf x x (defArgs st) (defBody st) (defScope st) .none kV doc pm an cdv ct) ⟨us, []⟩ = pure (ps.zip us))
    (hbody : ∀ (f : Addr) (cdv : Value) (A : Around) (outer : List Env) (s : Shared) (H : Hp) (vs : List V) (Q : VK) (E : XK), Room k (A.deeper (envOfC x (defScope st) s.heap.objs.size f cdv)) → sp vs H Q E → In (cxOf CX0 P w K mg base (N ++ C) x (defScope st) f cdv A outer s H E).nox N G (defScope st) →
      wL (cxOf CX0 P w K mg base (N ++ C) x (defScope st) f cdv A outer s H E).nox (defBody st) { nx := fun _ H' => Q .non H', rt := Q } (start (N ++ C) vs) H) : Fn P w K mg base (k + 1) x sp := by
  obtain ⟨f, fd, F, hm⟩ := T.ex
  exact ⟨f, fd, ps, F.ok S len (fun cdv A outer s H vs Q E hr h => ⟨_, pl, hbody f cdv A outer s H vs Q E hr h ⟨O, ⟨C, rfl⟩, S.nd, rfl, rfl, PassesOwn.never⟩⟩), hm, F.kp, F.binds hb⟩
end
/-! ### blocks -/
instance visDec {sc : Scope} {x : Str} : Decidable (Vis sc x) := inferInstanceAs (Decidable (_ ∨ _))
/-- the names of a comprehension's block: the seen ones with their slots, the global ones, its own at slot i -/
structure BkOk (N : List Str) (Vn : List (Nat × Str)) (G : List Str) (i : Nat) (x : Str) (sc scope : Scope) : Prop where
  lo : ∀ p ∈ Vn, N[p.1]? = some p.2 ∧ Vis (relS scope sc) p.2 ∧ (p.2 == ("__debug__" : Str)) = false ∧ (p.2 == ("__classdict__" : Str)) = false
  gl : ∀ x ∈ G, (relS scope sc).names.lookup x = some .globalImplicit ∧ (x == ("__debug__" : Str)) = false ∧ x ≠ "__name__"
  own : N[i]? = some x ∧ (relS scope sc).names.lookup x = some .local
  blk : blkC N sc scope [(x, i)] = true
structure InB (X : Cx) (Vn : List (Nat × Str)) (G : List Str) : Prop where
  nd : X.N.Nodup
  lo : ∀ p ∈ Vn, X.N[p.1]? = some p.2 ∧ Vis X.env.scope p.2 ∧ (p.2 == ("__debug__" : Str)) = false ∧ (p.2 == ("__classdict__" : Str)) = false
  gl : ∀ x ∈ G, Gl X x ∧ (x == ("__debug__" : Str)) = false ∧ x ≠ "__name__"
abbrev Bk (X : Cx) (s : Shared) (H : Hp) (scope : Scope) (C : Addr) (cl : List (Str × Addr)) (fp : List Addr) : Cx := X.blk s H scope (compEnvC scope cl C X.env) fp
section
variable {X : Cx} {e a b c elt : Expr} {es rest : List Expr} {σ : L2.St} {H : Hp} {Q : VK} {pos p0 : Pos} {N G G' : List Str} {Vn : List (Nat × Str)} {sc scope : Scope}
theorem rel_eq (h : X.env.scope = sc) (C : Addr) (cl : List (Str × Addr)) : (compEnvC scope cl C X.env).scope = relS scope sc := by
  subst h
  rfl
theorem BkOk.inB {i : Nat} {x : Str} (B : BkOk X.N Vn G' i x sc scope) (I : In X N G sc) (s : Shared) (H : Hp) (C : Addr) (cl : List (Str × Addr)) (fp : List Addr) : InB (Bk X s H scope C cl fp) Vn G' := by
  have e : (compEnvC scope cl C X.env).scope = relS scope sc := rel_eq I.sc C cl
  refine ⟨I.nd, fun p hp => ?_, fun y hy => ?_⟩
  · obtain ⟨h1, h2, h3, h4⟩ := B.lo p hp
    exact ⟨h1, by show Vis (compEnvC scope cl C X.env).scope p.2; rw [e]; exact h2, h3, h4⟩
  · obtain ⟨h1, h2, h3⟩ := B.gl y hy
    exact ⟨by show (compEnvC scope cl C X.env).scope.names.lookup y = _; rw [e]; exact h1, h2, h3⟩
theorem BkOk.pg {i : Nat} {x : Str} {px : Pos} (B : BkOk X.N Vn G' i x sc scope) (I : In X N G sc) (s : Shared) (H : Hp) (C : Addr) (cl : List (Str × Addr)) (fp : List Addr) : PG (Bk X s H scope C cl fp) (.Name x px) (gName i) := by
  have e : (compEnvC scope cl C X.env).scope = relS scope sc := rel_eq I.sc C cl
  have l : (Bk X s H scope C cl fp).env.scope.names.lookup x = some .local := by
    show (compEnvC scope cl C X.env).scope.names.lookup x = _
    rw [e]
    exact B.own.2
  exact pg_name I.nd B.own.1 (.inl l) (.inr l)
theorem BkOk.ok {i : Nat} {x : Str} (B : BkOk X.N Vn G' i x sc scope) (I : In X N G sc) : BlkOk X.N X.env.scope scope [(x, i)] := by
  rw [I.sc]
  exact blkOk_by B.blk
theorem InB.g (I : InB X Vn G) {i : Nat} {x : Str} (h : At G i x) : Gl X x := (I.gl x h.mem).1
theorem InB.gd (I : InB X Vn G) {i : Nat} {x : Str} (h : At G i x) : (x == ("__debug__" : Str)) = false := (I.gl x h.mem).2.1
theorem InB.gn (I : InB X Vn G) {i : Nat} {x : Str} (h : At G i x) : x ≠ "__name__" := (I.gl x h.mem).2.2
theorem b_var {j i : Nat} {x : Str} {v : V} (q : Q v H) (I : InB X Vn G := by assumption) (hA : At Vn j (i, x) := by repeat (first | with_reducible apply At.z | with_reducible apply At.s)) (hσ : σ[i]? = some (some v) := by exact rfl) : wE X (.Name x pos) σ H Q :=
  e_of (pe_var (I.lo _ hA.mem).1 (I.lo _ hA.mem).2.1 (I.lo _ hA.mem).2.2.1 (I.lo _ hA.mem).2.2.2) ⟨v, hσ, q⟩
theorem b_call {g : Nat} {k n : Nat} {x : Str} {sp : Sp} (F : Fn X.prog X.w X.K X.mg X.base k x sp) (hr : Room n X.A) (hk : k ≤ n) (q : wA X (e :: es) σ H fun vs H1 => sp vs H1 Q E0) (I : InB X Vn G := by assumption) (hG : At G g x := by repeat (first | with_reducible apply At.z | with_reducible apply At.s))
    (he : starEach (e :: es) X.env = (false, eval e X.env) :: starEach es X.env := by rfl) (hpl : (backTo pos (starEach es X.env)).any (·.1) = false := by rfl) : wE X (.Call (.Name x p0) (e :: es) [] pos) σ H Q := by
  obtain ⟨f, fd, ps, F0, hm, hkp, hb⟩ := F.ex
  refine e_of (pe_call F0 (hr.mono hk) (I.g hG) hm hkp hb .nil pass0 pa (I.gd hG) he hpl) ?_
  show wA X (e :: es) σ H fun vs H1 => sp (vs ++ []) H1 Q E0
  simp only [List.append_nil]
  exact q
theorem b_callB {g : Nat} {x : Str} {id : String} (hm : X.mg x = none) (hv : bootBuiltins x = some (.builtin id)) (q : wA X (e :: es) σ H fun vs H1 => wC X (.builtin id) vs H1 Q) (I : InB X Vn G := by assumption) (hG : At G g x := by repeat (first | with_reducible apply At.z | with_reducible apply At.s))
    (he : starEach (e :: es) X.env = (false, eval e X.env) :: starEach es X.env := by rfl) (hpl : (backTo pos (starEach es X.env)).any (·.1) = false := by rfl) : wE X (.Call (.Name x p0) (e :: es) [] pos) σ H Q := e_of (pe_callB cr (I.g hG) hm hv pa (I.gn hG) (I.gd hG) he hpl) q
theorem b_glob {g : Nat} {x : Str} {v : V} {u : Value} (hm : X.mg x = some u) (r : RelV v u) (q : Q v H) (I : InB X Vn G := by assumption) (hG : At G g x := by repeat (first | with_reducible apply At.z | with_reducible apply At.s)) : wE X (.Name x pos) σ H Q := e_of (pe_glob (I.g hG) hm r (I.gd hG)) q
theorem wipe1 (σ : L2.St) (i : Nat) : wipe σ [i] = σ.set i none := rfl
theorem wipe_set (σ : L2.St) (i : Nat) (v : L2.V) : wipe ((wipe σ [i]).set i (some v)) [i] = wipe σ [i] := by
  simp [wipe1, List.set_set]
/-- what the turns of a comprehension ask: over range(n) -/
def LcR (X : Cx) (Vn : List (Nat × Str)) (G' : List Str) (elt : Expr) (scope : Scope) (i n : Nat) (D : Addr) (σ : L2.St) (H1 : Hp) (Qd : Hp → Prop) : Prop := ∃ Pv : Nat → Hp → Prop, Pv 0 (upd H1 D (.lst [])) ∧
  (∀ k H2, k < n → Pv k H2 → ∀ s0 H0 C cl fp, InB (Bk X s0 H0 scope C cl fp) Vn G' → wE (Bk X s0 H0 scope C cl fp) elt ((wipe σ [i]).set i (some (.int (k : Int)))) H2 fun y H4 => ∃ acc, H4 D = some (.lst acc) ∧ acc.length < sizeLine ∧ Pv (k + 1) (upd H4 D (.lst (acc ++ [y])))) ∧
  ∀ H2, Pv n H2 → Qd H2
/-- .. over a list that stays -/
def LcL (X : Cx) (Vn : List (Nat × Str)) (G' : List Str) (elt : Expr) (scope : Scope) (i : Nat) (ad : Addr) (xs : List L2.V) (D : Addr) (σ : L2.St) (H1 : Hp) (Qd : Hp → Prop) : Prop := ∃ Pv : Nat → Hp → Prop, Pv 0 (upd H1 D (.lst [])) ∧ (∀ k H2, k ≤ xs.length → Pv k H2 → SqL X.K H2 ad xs) ∧
  (∀ k x H2, xs[k]? = some x → Pv k H2 → ∀ s0 H0 C cl fp, InB (Bk X s0 H0 scope C cl fp) Vn G' → wE (Bk X s0 H0 scope C cl fp) elt ((wipe σ [i]).set i (some x)) H2 fun y H4 => ∃ acc, H4 D = some (.lst acc) ∧ acc.length < sizeLine ∧ Pv (k + 1) (upd H4 D (.lst (acc ++ [y])))) ∧
  ∀ H2, Pv xs.length H2 → Qd H2
/-- the turn's reading, where the block may run anywhere -/
@[irreducible] def wBk (X : Cx) (Vn : List (Nat × Str)) (G' : List Str) (elt : Expr) (scope : Scope) : TE := fun σ H Q => ∀ s0 H0 C cl fp, InB (Bk X s0 H0 scope C cl fp) Vn G' → wE (Bk X s0 H0 scope C cl fp) elt σ H Q
theorem pe_bk {s0 : Shared} {H0 : Hp} {C : Addr} {cl : List (Str × Addr)} {fp : List Addr} (I : InB (Bk X s0 H0 scope C cl fp) Vn G') : PE (Bk X s0 H0 scope C cl fp) elt (wBk X Vn G' elt scope) :=
  ⟨fun pins s σ H Q Iv h => by unfold wBk at h; exact pe.run pins s σ H Q Iv (h s0 H0 C cl fp I)⟩
theorem lcR_of {i n : Nat} {D : Addr} {H1 : Hp} {Qd : Hp → Prop} (q : LcR X Vn G' elt scope i n D σ H1 Qd) : ∃ W : Nat → Nat → Hp → Prop, (∃ m, W 0 m (upd H1 D (.lst []))) ∧ ∀ k m H, W k m H →
    ((Itr 0 n).stop k H ∧ Qd H) ∨ ((Itr 0 n).go k H ∧ ∃ Nx : Hp → Prop, (∀ H', Nx H' → ∃ m', m' < m ∧ W (k + 1) m' H') ∧ ∀ x H', (Itr 0 n).yld k H x H' → gName i x (wipe σ [i]) H' fun σ2 H2 => wipe σ2 [i] = wipe σ [i] ∧ tYes σ2 H2 fun b H3 =>
      if b = true then wBk X Vn G' elt scope σ2 H3 fun y H4 => ∃ acc, H4 D = some (.lst acc) ∧ acc.length < sizeLine ∧ Nx (upd H4 D (.lst (acc ++ [y]))) else Nx H3) := by
  obtain ⟨Pv, h0, hs, hd⟩ := q
  refine lc_range Pv h0 (fun k H hk p => ?_) hd
  refine ⟨wipe_set σ i _, ?_⟩
  unfold tYes
  refine iteT ?_
  unfold wBk
  intro s0 H0 C cl fp I
  rw [Int.zero_add]
  exact hs k H hk p s0 H0 C cl fp I
theorem lcL_of {i : Nat} {ad : Addr} {xs : List L2.V} {D : Addr} {H1 : Hp} {Qd : Hp → Prop} (q : LcL X Vn G' elt scope i ad xs D σ H1 Qd) : ∃ W : Nat → Nat → Hp → Prop, (∃ m, W 0 m (upd H1 D (.lst []))) ∧ ∀ k m H, W k m H →
    ((Itl X.K ad).stop k H ∧ Qd H) ∨ ((Itl X.K ad).go k H ∧ ∃ Nx : Hp → Prop, (∀ H', Nx H' → ∃ m', m' < m ∧ W (k + 1) m' H') ∧ ∀ x H', (Itl X.K ad).yld k H x H' → gName i x (wipe σ [i]) H' fun σ2 H2 => wipe σ2 [i] = wipe σ [i] ∧ tYes σ2 H2 fun b H3 =>
      if b = true then wBk X Vn G' elt scope σ2 H3 fun y H4 => ∃ acc, H4 D = some (.lst acc) ∧ acc.length < sizeLine ∧ Nx (upd H4 D (.lst (acc ++ [y]))) else Nx H3) := by
  obtain ⟨Pv, h0, hl, hs, hd⟩ := q
  refine lc_list Pv h0 hl (fun k x H hk p => ?_) hd
  refine ⟨wipe_set σ i _, ?_⟩
  unfold tYes
  refine iteT ?_
  unfold wBk
  intro s0 H0 C cl fp I
  exact hs k x H hk p s0 H0 C cl fp I
/-- [elt for x in range(a)] -/
theorem e_lcR {i g : Nat} {x : Str} {px p cp : Pos} (B : BkOk X.N Vn G' i x sc scope) (hm : X.mg "range" = none)
    (q : wE X a σ H fun v H1 => ∃ n : Nat, v = .int n ∧ n < 2 ^ 62 ∧ ∀ D, H1 D = none → LcR X Vn G' elt scope i n D σ H1 fun H2 => Q (.ref D) H2)
    (I : In X N G sc := by assumption) (hc : X.calm = true := by rfl) (hG : At G g ("range" : Str) := by repeat (first | with_reducible apply At.z | with_reducible apply At.s)) (hs : starEach [a] X.env = [(false, eval a X.env)] := by rfl) (hs2 : ∀ z, foldedSetIterable (.Call (.Name "range" p) [a] [] cp) X.env z = pure z := by intro _; rfl)
    (hs1 : starEach (a :: []) X.env = (false, eval a X.env) :: starEach [] X.env := by rfl) :
    wE X (.ListComp elt [⟨.Name x px, .Call (.Name "range" p) [a] [] cp, [], 0⟩] scope pos) σ H Q := by
  refine e_of (pe_lc (own := [(x, i)]) (g := gName i) (tt := tYes) (te := wBk X Vn G' elt scope) hc I.nd (pi_range1 (I.g hG) hm (pa_cons pe pa_nil hs1) hs) (B.ok I) (fun s H C cl fp => B.pg I s H C cl fp) (fun _ _ _ _ _ => pts_nil) (fun s H C cl fp => pe_bk (B.inB I s H C cl fp)) hs2) (e_mono q fun v H1 q1 => ?_)
  obtain ⟨n, rfl, hn, q2⟩ := q1
  refine ⟨(n : Int), rfl, by omega, by omega, ?_⟩
  rw [Int.toNat_natCast]
  exact fun D hD => lcR_of (q2 D hD)
/-- [elt for x in a], a list -/
theorem e_lcL {i : Nat} {x : Str} {px : Pos} (B : BkOk X.N Vn G' i x sc scope)
    (q : wE X a σ H fun v H1 => ∃ ad xs, v = .ref ad ∧ SqL X.K H1 ad xs ∧ ∀ D, H1 D = none → LcL X Vn G' elt scope i ad xs D σ H1 fun H2 => Q (.ref D) H2)
    (I : In X N G sc := by assumption) (hc : X.calm = true := by rfl) (hs2 : ∀ z, foldedSetIterable a X.env z = pure z := by intro _; rfl) :
    wE X (.ListComp elt [⟨.Name x px, a, [], 0⟩] scope pos) σ H Q := by
  refine e_of (pe_lc (own := [(x, i)]) (g := gName i) (tt := tYes) (te := wBk X Vn G' elt scope) hc I.nd (pi_list pe) (B.ok I) (fun s H C cl fp => B.pg I s H C cl fp) (fun _ _ _ _ _ => pts_nil) (fun s H C cl fp => pe_bk (B.inB I s H C cl fp)) hs2) (e_mono q fun v H1 q1 => ?_)
  obtain ⟨ad, xs, rfl, hl, q2⟩ := q1
  exact ⟨ad, rfl, ⟨xs, hl⟩, fun D hD => lcL_of (q2 D hD)⟩
theorem s_lcR {nx : L2.St → Hp → Prop} {rt : VK} {bk ct : L2.St → Hp → Prop} {i j g : Nat} {x y : Str} {px py p cp spos : Pos} (B : BkOk X.N Vn G' i x sc scope) (hm : X.mg "range" = none)
    (q : wE X a σ H fun v H1 => ∃ n : Nat, v = .int n ∧ n < 2 ^ 62 ∧ ∀ D, H1 D = none → LcR X Vn G' elt scope i n D σ H1 fun H2 => nx (σ.set j (some (.ref D))) H2)
    (I : In X N G sc := by assumption) (hc : X.calm = true := by rfl) (hA : At N j y := by repeat (first | with_reducible apply At.z | with_reducible apply At.s)) (hG : At G g ("range" : Str) := by repeat (first | with_reducible apply At.z | with_reducible apply At.s))
    (hk : X.env.scope.kind = .function := by rfl) (hy : X.env.scope.names.lookup y = some .local := by rfl) (hl : (py.line == pos.line) = true := by rfl) (ha : (scope.names.any fun (n, k) => n == y && (k == .local || k == .cell)) = false := by decide +kernel)
    (hs : starEach [a] X.env = [(false, eval a X.env)] := by rfl) (hs2 : ∀ z, foldedSetIterable (.Call (.Name "range" p) [a] [] cp) X.env z = pure z := by intro _; rfl) (hs1 : starEach (a :: []) X.env = (false, eval a X.env) :: starEach [] X.env := by rfl) :
    wS X (.Assign [.Name y py] (.ListComp elt [⟨.Name x px, .Call (.Name "range" p) [a] [] cp, [], 0⟩] scope pos) spos) ⟨nx, rt, bk, ct⟩ σ H := by
  refine s_of (ps_setLc (own := [(x, i)]) (g := gName i) (tt := tYes) (te := wBk X Vn G' elt scope) hc I.nd (I.hi hA) hy (sw_true hk hy hl ha) (pi_range1 (I.g hG) hm (pa_cons pe pa_nil hs1) hs) (B.ok I) (fun s H C cl fp => B.pg I s H C cl fp) (fun _ _ _ _ _ => pts_nil) (fun s H C cl fp => pe_bk (B.inB I s H C cl fp)) hs2) (e_mono q fun v H1 q1 => ?_)
  obtain ⟨n, rfl, hn, q2⟩ := q1
  refine ⟨(n : Int), rfl, by omega, by omega, ?_⟩
  rw [Int.toNat_natCast]
  exact fun D hD => lcR_of (q2 D hD)
theorem s_lcL {nx : L2.St → Hp → Prop} {rt : VK} {bk ct : L2.St → Hp → Prop} {i j : Nat} {x y : Str} {px py spos : Pos} (B : BkOk X.N Vn G' i x sc scope)
    (q : wE X a σ H fun v H1 => ∃ ad xs, v = .ref ad ∧ SqL X.K H1 ad xs ∧ ∀ D, H1 D = none → LcL X Vn G' elt scope i ad xs D σ H1 fun H2 => nx (σ.set j (some (.ref D))) H2)
    (I : In X N G sc := by assumption) (hc : X.calm = true := by rfl) (hA : At N j y := by repeat (first | with_reducible apply At.z | with_reducible apply At.s))
    (hk : X.env.scope.kind = .function := by rfl) (hy : X.env.scope.names.lookup y = some .local := by rfl) (hl : (py.line == pos.line) = true := by rfl) (ha : (scope.names.any fun (n, k) => n == y && (k == .local || k == .cell)) = false := by decide +kernel) (hs2 : ∀ z, foldedSetIterable a X.env z = pure z := by intro _; rfl) :
    wS X (.Assign [.Name y py] (.ListComp elt [⟨.Name x px, a, [], 0⟩] scope pos) spos) ⟨nx, rt, bk, ct⟩ σ H := by
  refine s_of (ps_setLc (own := [(x, i)]) (g := gName i) (tt := tYes) (te := wBk X Vn G' elt scope) hc I.nd (I.hi hA) hy (sw_true hk hy hl ha) (pi_list pe) (B.ok I) (fun s H C cl fp => B.pg I s H C cl fp) (fun _ _ _ _ _ => pts_nil) (fun s H C cl fp => pe_bk (B.inB I s H C cl fp)) hs2) (e_mono q fun v H1 q1 => ?_)
  obtain ⟨ad, xs, rfl, hl, q2⟩ := q1
  exact ⟨ad, rfl, ⟨xs, hl⟩, fun D hD => lcL_of (q2 D hD)⟩
end
/-! ### ground terms: they make new objects and change none -/
abbrev Rl := Hp → L2.V → Prop
class Lasts (Γ : Hp → Prop) : Prop where
  up : ∀ H H', Same H H' → Γ H → Γ H'
class LastR (R : Rl) : Prop where
  up : ∀ H H' v, Same H H' → R H v → R H' v
def All2 : List Rl → Hp → List L2.V → Prop
  | [], _, vs => vs = []
  | R :: Rs, H, vs => ∃ v us, vs = v :: us ∧ R H v ∧ All2 Rs H us
@[irreducible] def Ev (X : Cx) (e : Expr) (σ : L2.St) (H : Hp) (R : Rl) : Prop := ∀ Q : VK, (∀ v H', Same H H' → R H' v → Q v H') → wE X e σ H Q
@[irreducible] def EvA (X : Cx) (es : List Expr) (σ : L2.St) (H : Hp) (Rs : List Rl) : Prop := ∀ Q : List L2.V → Hp → Prop, (∀ vs H', Same H H' → All2 Rs H' vs → Q vs H') → wA X es σ H Q
/-- a promise of a def that makes new objects alone -/
def spG {α : Type} (A : α → List Rl) (R : α → Rl) : Sp := fun vs H Q _ => ∃ x, All2 (A x) H vs ∧ ∀ v H', Same H H' → R x H' v → Q v H'
section
variable {X : Cx} {e a b c : Expr} {es : List Expr} {σ : L2.St} {H : Hp} {Q : VK} {pos p0 : Pos} {N G : List Str} {sc : Scope} {R R1 R2 : Rl} {Rs : List Rl}
theorem ev_e (h : Ev X e σ H R) (q : ∀ v H', Same H H' → R H' v → Q v H') : wE X e σ H Q := by unfold Ev at h; exact h Q q
theorem ev_of (h : ∀ Q : VK, (∀ v H', Same H H' → R H' v → Q v H') → wE X e σ H Q) : Ev X e σ H R := by unfold Ev; exact h
theorem ev_a {QA : List L2.V → Hp → Prop} (h : EvA X es σ H Rs) (q : ∀ vs H', Same H H' → All2 Rs H' vs → QA vs H') : wA X es σ H QA := by unfold EvA at h; exact h QA q
theorem ev_up {H0 : Hp} (h : Ev X e σ H R) : Ev X e σ H R := h
theorem g_var {i : Nat} {x : Str} {v : V} (r : R H v) (I : In X N G sc := by assumption) (hA : At N i x := by repeat (first | with_reducible apply At.z | with_reducible apply At.s)) (hσ : σ[i]? = some (some v) := by exact rfl) : Ev X (.Name x pos) σ H R :=
  ev_of fun Q q => e_var (q v H (Same.refl H) r) I hA hσ
theorem g_nil : EvA X [] σ H [] := by unfold EvA; exact fun Q q => a_nil (q [] H (Same.refl H) rfl)
theorem g_cons [LastR R] (h1 : Ev X e σ H R) (h2 : ∀ H', Same H H' → EvA X es σ H' Rs) (hs : starEach (e :: es) X.env = (false, eval e X.env) :: starEach es X.env := by rfl) : EvA X (e :: es) σ H (R :: Rs) := by
  unfold EvA
  exact fun Q q => a_cons (ev_e h1 fun v H1 s1 r1 => ev_a (h2 H1 s1) fun vs H2 s2 r2 => q (v :: vs) H2 (s1.trans s2) ⟨v, vs, rfl, LastR.up H1 H2 v s2 r1, r2⟩) hs
theorem g_call {α : Type} {A : α → List Rl} {R : α → Rl} {g k n : Nat} {x : Str} {z : α} (F : Fn X.prog X.w X.K X.mg X.base k x (spG A R)) (hr : Room n X.A) (hk : k ≤ n) (h : EvA X (e :: es) σ H (A z)) (I : In X N G sc := by assumption) (hG : At G g x := by repeat (first | with_reducible apply At.z | with_reducible apply At.s))
    (he : starEach (e :: es) X.env = (false, eval e X.env) :: starEach es X.env := by rfl) (hpl : (backTo pos (starEach es X.env)).any (·.1) = false := by rfl) : Ev X (.Call (.Name x p0) (e :: es) [] pos) σ H (R z) :=
  ev_of fun Q q => e_call F hr hk (ev_a h fun vs H1 s1 r1 => ⟨z, r1, fun v H2 s2 r2 => q v H2 (s1.trans s2) r2⟩) I hG he hpl
theorem g_test {QT : Bool → Hp → Prop} (h : Ev X e σ H fun _ v => v = .bl true) (q : ∀ H', Same H H' → QT true H') (he : ∀ whole, isTrue e X.env whole = (do let v ← whole; standAt e.pos; holding [v] (truthy v)) := by intro _; rfl) : wT X e σ H QT :=
  t_val (ev_e h fun v H' s r => by
    cases (show v = .bl true from r)
    exact ⟨true, rfl, q H' s⟩) he
/-- if not a or not b: return False -/
theorem s_no2 {nx : L2.St → Hp → Prop} {rt : VK} {bk ct : L2.St → Hp → Prop} {body : List Stmt} {p1 p2 p3 p4 : Pos} (h1 : Ev X a σ H fun _ v => v = .bl true) (h2 : ∀ H', Same H H' → Ev X b σ H' fun _ v => v = .bl true) (q : ∀ H', Same H H' → nx σ H')
    (he : ∀ whole, isTrue a X.env whole = (do let v ← whole; standAt a.pos; holding [v] (truthy v)) := by intro _; rfl) (he2 : ∀ whole, isTrue b X.env whole = (do let v ← whole; standAt b.pos; holding [v] (truthy v)) := by intro _; rfl) :
    wS X (.If (.BoolOp .Or [.UnaryOp .Not a p1, .UnaryOp .Not b p2] p3) body [] p4) ⟨nx, rt, bk, ct⟩ σ H := by
  refine s_if (t_w (w_or (t_not (g_test h1 (fun H1 s1 => ?_) he))))
  refine iteF (w_or1 (t_not (g_test (h2 H1 s1) (fun H2 s2 => ?_) he2)))
  exact iteF (l_nil (q H2 (s1.trans s2)))
theorem s_no1 {nx : L2.St → Hp → Prop} {rt : VK} {bk ct : L2.St → Hp → Prop} {body : List Stmt} {p1 p4 : Pos} (h1 : Ev X a σ H fun _ v => v = .bl true) (q : ∀ H', Same H H' → nx σ H')
    (he : ∀ whole, isTrue a X.env whole = (do let v ← whole; standAt a.pos; holding [v] (truthy v)) := by intro _; rfl) :
    wS X (.If (.UnaryOp .Not a p1) body [] p4) ⟨nx, rt, bk, ct⟩ σ H := by
  refine s_if (t_not (g_test h1 (fun H1 s1 => ?_) he))
  exact iteF (l_nil (q H1 s1))
theorem g_and2 (h1 : Ev X a σ H fun _ v => v = .bl true) (h2 : ∀ H', Same H H' → Ev X b σ H' fun _ v => v = .bl true) : Ev X (.BoolOp .And [a, b] pos) σ H fun _ v => v = .bl true :=
  ev_of fun Q q => e_and (ev_e h1 fun v H1 s1 r1 => by
    cases (show v = .bl true from r1)
    exact ⟨true, rfl, iteT (e_one (ev_e (h2 H1 s1) fun v H2 s2 r2 => q v H2 (s1.trans s2) r2))⟩)
theorem g_and3 (h1 : Ev X a σ H fun _ v => v = .bl true) (h2 : ∀ H', Same H H' → Ev X b σ H' fun _ v => v = .bl true) (h3 : ∀ H', Same H H' → Ev X c σ H' fun _ v => v = .bl true) : Ev X (.BoolOp .And [a, b, c] pos) σ H fun _ v => v = .bl true :=
  ev_of fun Q q => e_and (ev_e h1 fun v H1 s1 r1 => by
    cases (show v = .bl true from r1)
    refine ⟨true, rfl, iteT (e_and (ev_e (h2 H1 s1) fun v H2 s2 r2 => ?_))⟩
    cases (show v = .bl true from r2)
    exact ⟨true, rfl, iteT (e_one (ev_e (h3 H2 (s1.trans s2)) fun v H3 s3 r3 => q v H3 ((s1.trans s2).trans s3) r3))⟩)
end
section
variable {X : Cx} {H : Hp} {Q : VK} {i j : Int}
theorem o_mulW (c : CMulW i j) (q : Q (.int (i * j)) H) : wB X .Mult (.int i) (.int j) H Q := b_of op_mulW ⟨i, j, rfl, rfl, c, q⟩
end
end Wk
namespace Wk
open PySem PySem.Spec
/-- the value of a return or of an assignment, a comprehension's scope -/
def valE : Stmt → Expr
  | .Return (some e) _ => e
  | .Assign _ e _ => e
  | .Expr e _ => e
  | _ => .Name "" ⟨0, 0, 0, 0⟩
def lcSc : Expr → Scope
  | .ListComp _ _ sc _ => sc
  | _ => { kind := .function, names := [], isGenerator := false, isCoroutine := false }
end Wk
namespace Wk
open PySem PySem.Spec PyProof.Rows L2
section
variable {X : Cx} {c e : Expr} {body : List Stmt} {σ : L2.St} {H : Hp} {pos : Pos} {N G : List Str} {sc : Scope} {QT QT' : Bool → Hp → Prop}
theorem t_mono (q : wT X c σ H QT) (h : ∀ b H1, QT b H1 → QT' b H1) : wT X c σ H QT' := by
  unfold wT at q ⊢
  exact fun pins s I => wpAny_mono (q pins s I) (fun _ _ ⟨H1, I1, z⟩ => ⟨H1, I1, h _ _ z⟩) fun _ _ z => z
theorem s_while {nx : L2.St → Hp → Prop} {rt : VK} {bk ct : L2.St → Hp → Prop} (Pv : L2.St → Hp → Prop) (μ : L2.St → Hp → Nat) (h0 : Pv σ H)
    (hs : ∀ σ H, Pv σ H → wT X c σ H fun b H1 => if b = true then wL X body ⟨fun σ' H' => Pv σ' H' ∧ μ σ' H' < μ σ H, rt, nx, fun σ' H' => Pv σ' H' ∧ μ σ' H' < μ σ H⟩ σ H1 else nx σ H1)
    (I : In X N G sc := by assumption) : wS X (.While c body [] pos) ⟨nx, rt, bk, ct⟩ σ H :=
  s_of (ps_while I.never pt pl) (while_by Pv μ h0 hs fun _ _ _ _ h q => t_mono q h)
end
end Wk
namespace Wk
open PySem PySem.Spec PyProof.Rows L2
section
variable {X : Cx} {o e : Expr} {σ : L2.St} {H : Hp} {Q : VK} {pos apos : Pos}
/-- o.append(e) -/
theorem e_app (q : wE X o σ H fun x H1 => ∃ l xs0, x = .ref l ∧ SqL X.K H1 l xs0 ∧ wE X e σ H1 fun y H2 => ∃ xs, H2 l = some (.lst xs) ∧ xs.length < sizeLine ∧ Q .non (upd H2 l (.lst (xs ++ [y]))))
    (hbase : attributeBase o "append" X.env (eval o X.env) = eval o X.env := by rfl)
    (hfew : ((backTo pos (starEach (e :: []) X.env)).all (fun x => !x.1) && (backToKw pos (keywordEach [] X.env)).all (fun x => x.1.isSome)
      && decide ((e :: []).length + ([] : List Keyword).length + (if ([] : List Keyword).isEmpty then 0 else 1) < 30)) = true := by rfl)
    (hline : (apos.endLine == pos.line) = true := by rfl) (hs : starEach (e :: []) X.env = (false, eval e X.env) :: starEach [] X.env := by rfl) (hplain : (backTo pos (starEach [] X.env)).any (·.1) = false := by rfl) :
    wE X (.Call (.Attribute o "append" apos) [e] [] pos) σ H Q := by
  refine e_of (pe_bm PySem.F.plainAttrs_list PySem.F.slot_list_append PySem.F.type_list_append mt_append pe (pa_cons pe pa_nil hs) hbase hfew hline hs hplain) (e_mono q fun x H1 z => ?_)
  obtain ⟨l, xs0, rfl, hl, z⟩ := z
  refine ⟨.inl ⟨rfl, _, hl⟩, e_mono z fun y H2 z2 => ?_⟩
  obtain ⟨xs, h1, h2, h3⟩ := z2
  exact ⟨l, xs, y, rfl, rfl, h1, h2, h3⟩
end
end Wk
namespace Wk
open PySem PySem.Spec PyProof.Rows L2
theorem All2.len {Rs : List Rl} {H : Hp} : ∀ {vs : List L2.V}, All2 Rs H vs → vs.length = Rs.length := by
  induction Rs with
  | nil => intro vs h; cases (show vs = [] from h); rfl
  | cons R Rs ih => intro vs h; obtain ⟨v, us, rfl, _, h⟩ := h; simp [ih h]
end Wk
namespace Wk
open PySem PySem.Spec PyProof.Rows L2
/-- from the heap H on -/
def EvS (X : Cx) (e : Expr) (σ : L2.St) (H : Hp) (R : Rl) : Prop := ∀ H', Same H H' → Ev X e σ H' R
def EvSA (X : Cx) (es : List Expr) (σ : L2.St) (H : Hp) (Rs : List Rl) : Prop := ∀ H', Same H H' → EvA X es σ H' Rs
abbrev IsT : Rl := fun _ v => v = .bl true
section
variable {X : Cx} {e a b c : Expr} {es : List Expr} {σ : L2.St} {H H0 : Hp} {Q : VK} {pos p0 : Pos} {N G : List Str} {sc : Scope} {R R1 R2 : Rl} {Rs : List Rl}
theorem EvS.up {H1 : Hp} (h : EvS X e σ H R) (s : Same H H1) : EvS X e σ H1 R := fun H' t => h H' (s.trans t)
theorem EvS.get (h : EvS X e σ H R) (q : ∀ v H', Same H H' → R H' v → Q v H') : wE X e σ H Q := ev_e (h H (Same.refl H)) q
theorem gs_var [LastR R] {i : Nat} {x : Str} {v : L2.V} (r : R H v) (I : In X N G sc := by assumption) (hA : At N i x := by repeat (first | with_reducible apply At.z | with_reducible apply At.s)) (hσ : σ[i]? = some (some v) := by exact rfl) : EvS X (.Name x pos) σ H R :=
  fun H' s => g_var (LastR.up H H' v s r) I hA hσ
theorem gs_int {i : Int} {j} : EvS X (.Constant (.int i) j pos) σ H (fun _ v => v = .int i) := fun H' _ => ev_of fun Q q => e_int (q _ H' (Same.refl H') rfl)
theorem gs_nil : EvSA X [] σ H [] := fun _ _ => g_nil
theorem gs_cons [LastR R] (h1 : EvS X e σ H R) (h2 : EvSA X es σ H Rs) (hs : starEach (e :: es) X.env = (false, eval e X.env) :: starEach es X.env := by rfl) : EvSA X (e :: es) σ H (R :: Rs) := fun H' s => g_cons (h1 H' s) (fun H2 s2 => h2 H2 (s.trans s2)) hs
theorem gs_call {α : Type} {A : α → List Rl} {R : α → Rl} {g k n : Nat} {x : Str} {z : α} (F : Fn X.prog X.w X.K X.mg X.base k x (spG A R)) (hr : Room n X.A) (hk : k ≤ n) (h : EvSA X (e :: es) σ H (A z)) (I : In X N G sc := by assumption) (hG : At G g x := by repeat (first | with_reducible apply At.z | with_reducible apply At.s))
    (he : starEach (e :: es) X.env = (false, eval e X.env) :: starEach es X.env := by rfl) (hpl : (backTo pos (starEach es X.env)).any (·.1) = false := by rfl) : EvS X (.Call (.Name x p0) (e :: es) [] pos) σ H (R z) := fun H' s => g_call F hr hk (h H' s) I hG he hpl
/-- if not a or not b: return False; both hold -/
theorem s_nn {nx : L2.St → Hp → Prop} {rt : VK} {bk ct : L2.St → Hp → Prop} {body : List Stmt} {p1 p2 p3 p4 : Pos} (s0 : Same H0 H) (h1 : EvS X a σ H0 IsT) (h2 : EvS X b σ H0 IsT) (q : ∀ H', Same H0 H' → nx σ H')
    (he : ∀ whole, isTrue a X.env whole = (do let v ← whole; standAt a.pos; holding [v] (truthy v)) := by intro _; rfl) (he2 : ∀ whole, isTrue b X.env whole = (do let v ← whole; standAt b.pos; holding [v] (truthy v)) := by intro _; rfl) :
    wS X (.If (.BoolOp .Or [.UnaryOp .Not a p1, .UnaryOp .Not b p2] p3) body [] p4) ⟨nx, rt, bk, ct⟩ σ H := s_no2 (h1 H s0) (fun H1 s1 => h2 H1 (s0.trans s1)) (fun H1 s1 => q H1 (s0.trans s1)) he he2
theorem s_n {nx : L2.St → Hp → Prop} {rt : VK} {bk ct : L2.St → Hp → Prop} {body : List Stmt} {p1 p4 : Pos} (s0 : Same H0 H) (h1 : EvS X a σ H0 IsT) (q : ∀ H', Same H0 H' → nx σ H')
    (he : ∀ whole, isTrue a X.env whole = (do let v ← whole; standAt a.pos; holding [v] (truthy v)) := by intro _; rfl) :
    wS X (.If (.UnaryOp .Not a p1) body [] p4) ⟨nx, rt, bk, ct⟩ σ H := s_no1 (h1 H s0) (fun H1 s1 => q H1 (s0.trans s1)) he
theorem gs_and2 (h1 : EvS X a σ H IsT) (h2 : EvS X b σ H IsT) : EvS X (.BoolOp .And [a, b] pos) σ H IsT := fun H' s => g_and2 (h1 H' s) fun H2 s2 => h2 H2 (s.trans s2)
theorem gs_and3 (h1 : EvS X a σ H IsT) (h2 : EvS X b σ H IsT) (h3 : EvS X c σ H IsT) : EvS X (.BoolOp .And [a, b, c] pos) σ H IsT := fun H' s => g_and3 (h1 H' s) (fun H2 s2 => h2 H2 (s.trans s2)) fun H2 s2 => h3 H2 (s.trans s2)
theorem s_let {nx : L2.St → Hp → Prop} {rt : VK} {bk ct : L2.St → Hp → Prop} {i : Nat} {x : Str} {pos' : Pos} (s0 : Same H0 H) (h : EvS X e σ H0 R) (q : ∀ v H', Same H0 H' → R H' v → nx (σ.set i (some v)) H')
    (I : In X N G sc := by assumption) (hA : At N i x := by repeat (first | with_reducible apply At.z | with_reducible apply At.s)) (hs : swapsWith e (some (.Name x pos')) pos.line X.env = pure false := by rfl) :
    wS X (.Assign [.Name x pos'] e pos) ⟨nx, rt, bk, ct⟩ σ H := s_set ((h.up s0).get fun v H' s r => q v H' (s0.trans s) r) I hA hs
theorem s_retS {nx : L2.St → Hp → Prop} {rt : VK} {bk ct : L2.St → Hp → Prop} (s0 : Same H0 H) (h : EvS X e σ H0 R) (q : ∀ v H', Same H0 H' → R H' v → rt v H') : wS X (.Return (some e) pos) ⟨nx, rt, bk, ct⟩ σ H := s_ret ((h.up s0).get fun v H' s r => q v H' (s0.trans s) r)
end
end Wk

/-! My own layer, more: defs with loops where an error is handled, a keyword-only parameter with a default, insert. -/
namespace Wk
open PySem PySem.Spec PyProof.Rows L2
section
variable {P : Program} {w : World} {K : PySem.W.Frag} {mg : Str → Option Value} {base : Heap}
theorem fn_okH2 {x : Str} {st : Stmt} {N G ps : List Str} {k : Nat} {sp : Sp} (T : Top K mg x st) (S : FnScope N ps (defScope st)) (O : ScOk N G (defScope st)) (len : ∀ vs H Q E, sp vs H Q E → vs.length = ps.length)
    (hb : ∀ (kV doc pm : Value) (an : Option Addr) (cdv ct : Value) (us : List Value), us.length = ps.length → bindArgs (PySem.W.fnOf x x (defArgs st) (defBody st) (defScope st) .none kV doc pm an cdv ct) ⟨us, []⟩ = pure (ps.zip us))
    (hbody : ∀ (f : Addr) (cdv : Value) (A : Around) (outer : List Env) (s : Shared) (H : Hp) (vs : List L2.V) (Q : VK) (E : XK) (p : Addr × Obj), L2H.RoomH k (A.deeper (envOfC x (defScope st) s.heap.objs.size f cdv)) → sp vs H Q E → In (L2H.cxH CX0 P w K mg base N x (defScope st) f cdv A outer s H E p).nox N G (defScope st) →
      L2H.HotC (L2H.cxH CX0 P w K mg base N x (defScope st) f cdv A outer s H E p).nox →
      wL (L2H.cxH CX0 P w K mg base N x (defScope st) f cdv A outer s H E p).nox (defBody st) { nx := fun _ H' => Q .non H', rt := Q } (start N vs) H) : FnHt P w K mg base (k + 1) x sp := by
  obtain ⟨f, fd, F, hm⟩ := T.ex
  obtain ⟨oc, od, kV, doc, pm, an, cdv, ct, osl, rfl, lk, hcd⟩ := id F.ex
  exact ⟨f, _, ps, L2H.fn_ofH lk hcd S len (fun A outer s H vs Q E p hot hr h => ⟨_, PSs.nox pl, hbody f cdv A outer s H vs Q E p hr h ⟨O, ⟨[], (List.append_nil _).symm⟩, S.nd, rfl, rfl, PassesOwn.never⟩ ⟨p, ⟨hot.1, hot.2⟩, List.mem_cons_self⟩⟩), hm, F.kp, F.binds hb⟩
end
section
variable {X : Cx} {N G : List Str} {sc : Scope} {a e v o : Expr} {es : List Expr} {σ : L2.St} {H : Hp} {Q : VK} {pos p0 kpos apos : Pos}
theorem s_forRH {nx : L2.St → Hp → Prop} {rt : VK} {bk ct : L2.St → Hp → Prop} {g : Nat} {x : Str} {i : Nat} {body : List Stmt} {px p cp : Pos} (hm : X.mg "range" = none) (hot : L2H.HotC X)
    (q : wE X a σ H fun v H1 => ∃ n : Nat, v = .int n ∧ n < 2 ^ 62 ∧ ∃ Pv : Nat → L2.St → Hp → Prop, Pv 0 σ H1 ∧ (∀ k σ H, k < n → Pv k σ H → wL X body ⟨Pv (k + 1), rt, nx, Pv (k + 1)⟩ (σ.set i (some (.int (k : Int)))) H) ∧ ∀ σ H, Pv n σ H → nx σ H)
    (I : In X N G sc := by assumption) (hA : At N i x := by repeat (first | with_reducible apply At.z | with_reducible apply At.s))
    (hG : At G g ("range" : Str) := by repeat (first | with_reducible apply At.z | with_reducible apply At.s)) (hs : starEach [a] X.env = [(false, eval a X.env)] := by rfl) (hs2 : ∀ z, foldedSetIterable (.Call (.Name "range" p) [a] [] cp) X.env z = pure z := by intro _; rfl)
    (hs1 : starEach (a :: []) X.env = (false, eval a X.env) :: starEach [] X.env := by rfl) :
    wS X (.For (.Name x px) (.Call (.Name "range" p) [a] [] cp) body [] pos) ⟨nx, rt, bk, ct⟩ σ H := by
  refine s_of (L2H.ps_forH I.never hot (L2H.pi_range1H (I.g hG) hm (pa_cons pe pa_nil hs1) hs) (pg_name I.nd (I.hi hA) (I.loc hA) I.f) pl hs2) (e_mono q fun v H1 q1 => ?_)
  obtain ⟨n, rfl, hn, Pv, h0, hb, hd⟩ := q1
  refine ⟨(n : Int), rfl, by omega, by omega, ?_⟩
  rw [Int.toNat_natCast]
  refine for_range (n := n) Pv h0 (fun k σ H hk p => ?_) hd
  rw [Int.zero_add]
  exact hb k σ H hk p
/-- a def with one keyword-only parameter kw and its default d, that may raise -/
structure FnKw (P : Program) (w : World) (K : PySem.W.Frag) (mg : Str → Option Value) (base : Heap) (k : Nat) (x kw : Str) (m : Nat) (d : L2.V) (sp : Sp) : Prop where
  ex : ∃ (f : Addr) (fd : FuncData) (ps : List Str), FnOk P w K mg base (L2N.CX P w) k f fd ps sp ∧ mg x = some (.ref f) ∧ PySem.W.keepIn K (.ref f) = true ∧ (∃ ds, Vals [d] ds ∧ Binds K fd ps ds) ∧ ∃ g, KBn K fd ps m [kw] g (fun vs zs => vs ++ zs)
theorem e_callD {g k n m : Nat} {x kw : Str} {d : L2.V} {sp : Sp} {W : WX} (F : FnKw X.prog X.w X.K X.mg X.base k x kw m d sp) (tk : L2N.Takes X W) (hr : Room n X.A) (hk : k ≤ n) (q : wA X (e :: es) σ H fun vs H1 => sp (vs ++ [d]) H1 Q (fun cls d H' => W cls d σ H'))
    (I : In X N G sc := by assumption) (hG : At G g x := by repeat (first | with_reducible apply At.z | with_reducible apply At.s)) (he : starEach (e :: es) X.env = (false, eval e X.env) :: starEach es X.env := by rfl) (hpl : (backTo pos (starEach es X.env)).any (·.1) = false := by rfl) :
    wE X (.Call (.Name x p0) (e :: es) [] pos) σ H Q := by
  obtain ⟨f, fd, ps, F0, hm, hkp, ⟨ds, hd, hb⟩, _⟩ := F.ex
  exact e_of (pe_callSD (E := fun σ cls d H' => W cls d σ H') F0 (hr.mono hk) (I.g hG) hm hkp hb hd (fun σ => L2N.passAt tk σ) pa (I.gd hG) he hpl) q
theorem e_callK {g k n m : Nat} {x kw : Str} {d : L2.V} {sp : Sp} {W : WX} (F : FnKw X.prog X.w X.K X.mg X.base k x kw m d sp) (tk : L2N.Takes X W) (hr : Room n X.A) (hk : k ≤ n) (q : wA X (e :: es) σ H fun vs H1 => wE X v σ H1 fun z H2 => vs.length = m ∧ sp (vs ++ [z]) H2 Q (fun cls d H' => W cls d σ H'))
    (I : In X N G sc := by assumption) (hG : At G g x := by repeat (first | with_reducible apply At.z | with_reducible apply At.s))
    (hall : (backToKw pos (keywordEach [⟨some kw, v, kpos⟩] X.env)).all (·.1.isSome) = true := by rfl) (hks : (backToKw pos (keywordEach [⟨some kw, v, kpos⟩] X.env)).filterMap (·.1) = [kw] := by rfl)
    (he : starEach (e :: es) X.env = (false, eval e X.env) :: starEach es X.env := by rfl) (hpl : ((backTo pos (starEach (e :: es) X.env)).any (·.1) || (backToKw pos (keywordEach [⟨some kw, v, kpos⟩] X.env)).any (·.1.isNone)) = false := by rfl) :
    wE X (.Call (.Name x p0) (e :: es) [⟨some kw, v, kpos⟩] pos) σ H Q := by
  obtain ⟨f, fd, ps, F0, hm, hkp, _, g0, hb⟩ := F.ex
  unfold wE
  intro pins s I0
  refine wpAny_Call_Name_kw (ld_glob I0 (I.g hG) hm ?_ (I.gd hG))
  refine PySem.W.callWith_KW (h₀ := X.base) I0.ok.mod.kin hkp hall (thn (pa.run pos pins s σ H _ I0 q) fun us s1 ⟨vs, H1, I1, r, q1⟩ => ?_) hpl he
  refine thn ((pk_cons pe pk_nil).run pos pins s1 σ H1 (fun zs H2 => ∃ z, zs = [z] ∧ vs.length = m ∧ sp (vs ++ [z]) H2 Q (fun cls d H' => W cls d σ H')) I1 (e_mono q1 fun z H2 z2 => ⟨z, rfl, z2⟩)) fun ws s2 ⟨zs, H2, I2, rz, z, ez, l1, q2⟩ => ⟨I2.kIn, ?_⟩
  subst ez
  rw [hks]
  have r2 := hb.rel r rz
  have l2 : ws.length = [kw].length := rz.length.symm
  refine wpAny_call (codeAny_mono (F0.run X.A X.stack s2 H2 ⟨us, [kw].zip ws⟩ (g0 us ws) (vs ++ [z]) Q (fun cls d H' => W cls d σ H') (hr.mono hk) I2.env0 (hb.to s2 us ws I2.kIn (r.length.symm.trans l1) l2) r2 q2) fun r s' hq => ?_)
  cases r with
  | error e => exact L2N.passAt tk σ pins H2 s2 e s' I2 hq
  | ok fl =>
    cases fl with
    | ret u => exact I2.after hq
    | next => exact False.elim hq
    | brk => exact False.elim hq
    | cont => exact False.elim hq
/-- o.insert(0, v) and its like -/
theorem e_ins {i : Expr} (q : wE X o σ H fun x H1 => ∃ l xs0, x = .ref l ∧ SqL X.K H1 l xs0 ∧ wE X i σ H1 fun j H2 => wE X e σ H2 fun y H3 => ∃ n : Int, ∃ xs, j = .int n ∧ H3 l = some (.lst xs) ∧ xs.length < sizeLine ∧ 0 ≤ n ∧ n < 2 ^ 63 ∧ Q .non (upd H3 l (.lst (xs.take n.toNat ++ [y] ++ xs.drop n.toNat))))
    (hbase : attributeBase o "insert" X.env (eval o X.env) = eval o X.env := by rfl)
    (hfew : ((backTo pos (starEach (i :: [e]) X.env)).all (fun x => !x.1) && (backToKw pos (keywordEach [] X.env)).all (fun x => x.1.isSome)
      && decide ((i :: [e]).length + ([] : List Keyword).length + (if ([] : List Keyword).isEmpty then 0 else 1) < 30)) = true := by rfl)
    (hline : (apos.endLine == pos.line) = true := by rfl) (hs : starEach (i :: [e]) X.env = (false, eval i X.env) :: starEach [e] X.env := by rfl) (hs2 : starEach (e :: []) X.env = (false, eval e X.env) :: starEach [] X.env := by rfl) (hplain : (backTo pos (starEach [e] X.env)).any (·.1) = false := by rfl) :
    wE X (.Call (.Attribute o "insert" apos) [i, e] [] pos) σ H Q := by
  refine e_of (pe_bm PySem.F.plainAttrs_list PySem.F.slot_list_insert PySem.F.type_list_insert mt_insert pe (pa_cons pe (pa_cons pe pa_nil hs2) hs) hbase hfew hline hs hplain) (e_mono q fun x H1 z => ?_)
  obtain ⟨l, xs0, rfl, hl, z⟩ := z
  refine ⟨.inl ⟨rfl, _, hl⟩, e_mono z fun j H2 z2 => e_mono z2 fun y H3 z3 => ?_⟩
  obtain ⟨n, xs, rfl, h1, h2, h3, h4, h5⟩ := z3
  exact ⟨l, xs, n, y, rfl, rfl, h1, h2, h3, h4, h5⟩
end
end Wk
namespace Wk
open PySem PySem.Spec PyProof.Rows L2
section
variable {X : Cx} {N G : List Str} {sc : Scope} {a b e v o i : Expr} {es : List Expr} {σ : L2.St} {H : Hp} {Q : VK} {QT : Bool → Hp → Prop} {pos p0 p2 apos : Pos}
theorem t_tru (q : wE X a σ H fun x H' => ∃ k, TruV X.K x H' k ∧ QT k H') (he : ∀ whole, isTrue a X.env whole = (do let v ← whole; standAt a.pos; holding [v] (truthy v)) := by intro _; rfl) : wT X a σ H QT := t_of (pt_truth pe he) q
theorem tru_l {K : PySem.W.Frag} {l : Addr} {xs : List L2.V} (h : H l = some (.lst xs)) : TruV K (.ref l) H (!xs.isEmpty) := .inl ⟨xs, SqL.of h, rfl⟩
/-- o.pop() -/
theorem e_pop (q : wE X o σ H fun x H1 => ∃ l xs y, x = .ref l ∧ H1 l = some (.lst (xs ++ [y])) ∧ Q y (upd H1 l (.lst xs)))
    (hbase : attributeBase o "pop" X.env (eval o X.env) = eval o X.env := by rfl) (hline : (apos.endLine == pos.line) = true := by rfl) : wE X (.Call (.Attribute o "pop" apos) [] [] pos) σ H Q := by
  refine e_of (pe_bm0 PySem.F.plainAttrs_list PySem.F.slot_list_pop PySem.F.type_list_pop mt_pop pe hbase hline) (e_mono q fun x H1 z => ?_)
  obtain ⟨l, xs, y, rfl, h1, h2⟩ := z
  refine ⟨.inl ⟨rfl, _, SqL.of h1⟩, l, _, y, rfl, rfl, h1, by simp, ?_⟩
  rw [List.dropLast_concat]
  exact h2
theorem e_slL0 {r : L2.V → Option Int → Option Int → Hp → VK → Prop} (hr : SlR X r) (q : wE X e σ H fun x H1 => wE X a σ H1 fun y H2 => ∃ j, y = .int j ∧ r x (some j) none H2 Q) : wE X (.Subscript e (.Slice (some a) none none p2) pos) σ H Q :=
  e_of (pe_slice hr pe (po_some pe) po_none) (e_mono q fun x H1 z => e_mono z fun y H2 ⟨j, e, z2⟩ => ⟨j, e, z2⟩)
theorem e_slL1 {r : L2.V → Option Int → Option Int → Hp → VK → Prop} (hr : SlR X r) (q : wE X e σ H fun x H1 => wE X b σ H1 fun y H2 => ∃ j, y = .int j ∧ r x none (some j) H2 Q) : wE X (.Subscript e (.Slice none (some b) none p2) pos) σ H Q :=
  e_of (pe_slice hr pe po_none (po_some pe)) (e_mono q fun x H1 z => e_mono z fun y H2 ⟨j, e, z2⟩ => ⟨j, e, z2⟩)
theorem s_dput {nx : L2.St → Hp → Prop} {rt : VK} {bk ct : L2.St → Hp → Prop} {pos' : Pos} (hu : X.A.units + 1 < cLine) (q : wE X v σ H fun v H1 => wE X o σ H1 fun x H2 => wE X i σ H2 fun y H3 => ∃ a H4, x = .ref a ∧ DPut H3 a y v H4 ∧ nx σ H4)
    (hs : swapsWith v (some (.Subscript o i pos')) pos.line X.env = pure false := by rfl) : wS X (.Assign [.Subscript o i pos'] v pos) ⟨nx, rt, bk, ct⟩ σ H := s_of (ps_dput hu pe pe pe hs) q
theorem c_listD {p : Addr} {kvs : List (Key × L2.V)} (hc : X.calm = true) (h : H p = some (.dK kvs)) (q : ∀ l H2, Same H H2 → H2 l = some (.lst (kvs.map fun kv => kV kv.1)) → Q (.ref l) H2) : wC X (.type "list") [.ref p] H Q :=
  c_of (call_list_dK hc) ⟨p, kvs, rfl, h, fun l np => q l _ (fun c u eo => by rw [upd_ne (ne_of_none eo np)]; exact eo) upd_same⟩
theorem c_listL {p : Addr} {xs : List L2.V} (h : H p = some (.lst xs)) (q : ∀ l H2, Same H H2 → H l = none → H2 l = some (.lst xs) → Q (.ref l) H2) : wC X (.type "list") [.ref p] H Q :=
  c_of call_list_of ⟨p, xs, rfl, .inl (SqL.of h), fun l np => q l _ (fun c u eo => by rw [upd_ne (ne_of_none eo np)]; exact eo) np upd_same⟩
end
end Wk
namespace Wk
open PySem PySem.Spec PyProof.Rows L2
section
variable {X : Cx} {c e : Expr} {body : List Stmt} {σ : L2.St} {H : Hp} {pos : Pos} {N G : List Str} {sc : Scope}
theorem s_whileN {nx : L2.St → Hp → Prop} {rt : VK} {bk ct : L2.St → Hp → Prop} (Pv : Nat → L2.St → Hp → Prop) (n0 : Nat) (h0 : Pv n0 σ H)
    (hs : ∀ n σ H, Pv n σ H → wT X c σ H fun b H1 => if b = true then wL X body ⟨fun σ' H' => ∃ m, m < n ∧ Pv m σ' H', rt, nx, fun σ' H' => ∃ m, m < n ∧ Pv m σ' H'⟩ σ H1 else nx σ H1)
    (I : In X N G sc := by assumption) : wS X (.While c body [] pos) ⟨nx, rt, bk, ct⟩ σ H := by
  refine s_of (ps_while I.never pt pl) ⟨Pv, ⟨n0, h0⟩, fun n σ H p => ?_⟩
  refine t_mono (hs n σ H p) fun b H1 q => ?_
  cases b with
  | true => exact ⟨fun σ' H' => ∃ m, m < n ∧ Pv m σ' H', fun σ' H' z => z, q⟩
  | false => exact q
end
end Wk
namespace Wk
open PySem PySem.Spec PyProof.Rows L2
/-- a block with two own names -/
structure BkOk2 (N : List Str) (V : List (Nat × Str)) (G : List Str) (i j : Nat) (x y : Str) (sc scope : Scope) : Prop where
  lo : ∀ p ∈ V, N[p.1]? = some p.2 ∧ Vis (relS scope sc) p.2 ∧ (p.2 == ("__debug__" : Str)) = false ∧ (p.2 == ("__classdict__" : Str)) = false
  gl : ∀ x ∈ G, (relS scope sc).names.lookup x = some .globalImplicit ∧ (x == ("__debug__" : Str)) = false ∧ x ≠ "__name__"
  own : N[i]? = some x ∧ (relS scope sc).names.lookup x = some .local
  own2 : N[j]? = some y ∧ (relS scope sc).names.lookup y = some .local
  ne : i ≠ j
  blk : blkC N sc scope [(x, i), (y, j)] = true
section
variable {X : Cx} {e a b c elt : Expr} {es rest : List Expr} {σ : L2.St} {H : Hp} {Q : VK} {pos p0 : Pos} {N G G' : List Str} {Vn : List (Nat × Str)} {sc scope : Scope}
theorem BkOk2.inB {i j : Nat} {x y : Str} (B : BkOk2 X.N Vn G' i j x y sc scope) (I : In X N G sc) (s : Shared) (H : Hp) (C : Addr) (cl : List (Str × Addr)) (fp : List Addr) : InB (Bk X s H scope C cl fp) Vn G' := by
  have e : (compEnvC scope cl C X.env).scope = relS scope sc := rel_eq I.sc C cl
  refine ⟨I.nd, fun p hp => ?_, fun y hy => ?_⟩
  · obtain ⟨h1, h2, h3, h4⟩ := B.lo p hp
    exact ⟨h1, by show Vis (compEnvC scope cl C X.env).scope p.2; rw [e]; exact h2, h3, h4⟩
  · obtain ⟨h1, h2, h3⟩ := B.gl y hy
    exact ⟨by show (compEnvC scope cl C X.env).scope.names.lookup y = _; rw [e]; exact h1, h2, h3⟩
def gT2 (K : PySem.W.Frag) (i j : Nat) : TG := fun v σ H Q => ∃ a u w, v = .ref a ∧ SqT K H a [u, w] ∧ Q ((σ.set i (some u)).set j (some w)) H
theorem BkOk2.pg {i j : Nat} {x y : Str} {px py pt : Pos} {k : Nat} (B : BkOk2 X.N Vn G' i j x y sc scope) (hc : X.calm = true) (I : In X N G sc) (s : Shared) (H : Hp) (C : Addr) (cl : List (Str × Addr)) (fp : List Addr) : PG (Bk X s H scope C cl fp) (.Tuple [.Name x px, .Name y py] k pt) (gT2 X.K i j) := by
  have e : (compEnvC scope cl C X.env).scope = relS scope sc := rel_eq I.sc C cl
  have l : (Bk X s H scope C cl fp).env.scope.names.lookup x = some .local := by
    show (compEnvC scope cl C X.env).scope.names.lookup x = _
    rw [e]
    exact B.own.2
  have l2 : (Bk X s H scope C cl fp).env.scope.names.lookup y = some .local := by
    show (compEnvC scope cl C X.env).scope.names.lookup y = _
    rw [e]
    exact B.own2.2
  refine ⟨fun pins s σ H v u Q I0 r h => ?_⟩
  obtain ⟨ad, u1, w1, rfl, hq, q⟩ := h
  exact (pg_tup (X := Bk X _ _ scope C cl fp) hc (pgs_cons (pg_name I.nd B.own.1 (.inl l) (.inr l)) (pgs_cons (pg_name I.nd B.own2.1 (.inl l2) (.inr l2)) pgs_nil))).run pins s σ H _ u Q I0 r ⟨ad, [u1, w1], rfl, hq, rfl, u1, [w1], rfl, w1, [], rfl, rfl, q⟩
theorem BkOk2.ok {i j : Nat} {x y : Str} (B : BkOk2 X.N Vn G' i j x y sc scope) (I : In X N G sc) : BlkOk X.N X.env.scope scope [(x, i), (y, j)] := by
  rw [I.sc]
  exact blkOk_by B.blk
theorem wipe2 (σ : L2.St) (i j : Nat) : wipe σ [i, j] = (σ.set j none).set i none := rfl
theorem wipe_set2 (σ : L2.St) {i j : Nat} (h : i ≠ j) (u w : L2.V) : wipe (((wipe σ [i, j]).set i (some u)).set j (some w)) [i, j] = wipe σ [i, j] := by
  rw [wipe2, wipe2]
  apply List.ext_getElem?
  intro k
  by_cases h1 : i = k
  · subst h1
    simp [List.getElem?_set, h.symm]
  · by_cases h2 : j = k
    · subst h2
      simp [List.getElem?_set, h1]
    · simp [List.getElem?_set, h1, h2]
/-- [elt for x, y in a], a list of pairs -/
def LcL2 (X : Cx) (Vn : List (Nat × Str)) (G' : List Str) (elt : Expr) (scope : Scope) (i j : Nat) (ad : Addr) (xs : List L2.V) (D : Addr) (σ : L2.St) (H1 : Hp) (Qd : Hp → Prop) : Prop := ∃ Pv : Nat → Hp → Prop, Pv 0 (upd H1 D (.lst [])) ∧ (∀ k H2, k ≤ xs.length → Pv k H2 → SqL X.K H2 ad xs) ∧
  (∀ k x H2, xs[k]? = some x → Pv k H2 → ∃ t u w, x = .ref t ∧ SqT X.K H2 t [u, w] ∧ ∀ s0 H0 C cl fp, InB (Bk X s0 H0 scope C cl fp) Vn G' → wE (Bk X s0 H0 scope C cl fp) elt (((wipe σ [i, j]).set i (some u)).set j (some w)) H2 fun y H4 => ∃ acc, H4 D = some (.lst acc) ∧ acc.length < sizeLine ∧ Pv (k + 1) (upd H4 D (.lst (acc ++ [y])))) ∧
  ∀ H2, Pv xs.length H2 → Qd H2
theorem pe_bk2 {i j : Nat} {x y : Str} {s0 : Shared} {H0 : Hp} {C : Addr} {cl : List (Str × Addr)} {fp : List Addr} (I : InB (Bk X s0 H0 scope C cl fp) Vn G') : PE (Bk X s0 H0 scope C cl fp) elt (wBk X Vn G' elt scope) := pe_bk I
theorem lcL2_of {i j : Nat} (hij : i ≠ j) {ad : Addr} {xs : List L2.V} {D : Addr} {H1 : Hp} {Qd : Hp → Prop} (q : LcL2 X Vn G' elt scope i j ad xs D σ H1 Qd) : ∃ W : Nat → Nat → Hp → Prop, (∃ m, W 0 m (upd H1 D (.lst []))) ∧ ∀ k m H, W k m H →
    ((Itl X.K ad).stop k H ∧ Qd H) ∨ ((Itl X.K ad).go k H ∧ ∃ Nx : Hp → Prop, (∀ H', Nx H' → ∃ m', m' < m ∧ W (k + 1) m' H') ∧ ∀ x H', (Itl X.K ad).yld k H x H' → gT2 X.K i j x (wipe σ [i, j]) H' fun σ2 H2 => wipe σ2 [i, j] = wipe σ [i, j] ∧ tYes σ2 H2 fun b H3 =>
      if b = true then wBk X Vn G' elt scope σ2 H3 fun y H4 => ∃ acc, H4 D = some (.lst acc) ∧ acc.length < sizeLine ∧ Nx (upd H4 D (.lst (acc ++ [y]))) else Nx H3) := by
  obtain ⟨Pv, h0, hl, hs, hd⟩ := q
  refine lc_list Pv h0 hl (fun k x H hk p => ?_) hd
  obtain ⟨t, u, w, rfl, hq, z⟩ := hs k x H hk p
  refine ⟨t, u, w, rfl, hq, wipe_set2 σ hij u w, ?_⟩
  unfold tYes
  refine iteT ?_
  unfold wBk
  intro s0 H0 C cl fp I
  exact z s0 H0 C cl fp I
theorem e_lcL2 {i j : Nat} {x y : Str} {px py pt : Pos} {kt : Nat} (B : BkOk2 X.N Vn G' i j x y sc scope)
    (q : wE X a σ H fun v H1 => ∃ ad xs, v = .ref ad ∧ SqL X.K H1 ad xs ∧ ∀ D, H1 D = none → LcL2 X Vn G' elt scope i j ad xs D σ H1 fun H2 => Q (.ref D) H2)
    (I : In X N G sc := by assumption) (hc : X.calm = true := by rfl) (hs2 : ∀ z, foldedSetIterable a X.env z = pure z := by intro _; rfl) :
    wE X (.ListComp elt [⟨.Tuple [.Name x px, .Name y py] kt pt, a, [], 0⟩] scope pos) σ H Q := by
  refine e_of (pe_lc (own := [(x, i), (y, j)]) (g := gT2 X.K i j) (tt := tYes) (te := wBk X Vn G' elt scope) hc I.nd (pi_list pe) (B.ok I) (fun s H C cl fp => B.pg hc I s H C cl fp) (fun _ _ _ _ _ => pts_nil) (fun s H C cl fp => pe_bk (B.inB I s H C cl fp)) hs2) (e_mono q fun v H1 q1 => ?_)
  obtain ⟨ad, xs, rfl, hl, q2⟩ := q1
  exact ⟨ad, rfl, ⟨xs, hl⟩, fun D hD => lcL2_of B.ne (q2 D hD)⟩
end
end Wk
namespace Wk
open PySem PySem.Spec PyProof.Rows L2
section
variable {P : Program} {w : World} {K : PySem.W.Frag} {mg : Str → Option Value} {base : Heap}
/-- a def of the module with one keyword-only default -/
structure TopK (K : PySem.W.Frag) (mg : Str → Option Value) (x : Str) (st : Stmt) (kw : Str) (d : L2.V) : Prop where
  ex : ∃ (f : Addr) (fd : FuncData), FunD K x x (defArgs st) (defBody st) (defScope st) [] [(kw, d)] f fd ∧ mg x = some (.ref f)
theorem topK_mk {h : Heap} {x kw : Str} {d : L2.V} {u : Value} {st : Stmt} {f D : Addr} {oc : Value} {od an : Option Addr} {osl : Array (Option Value)} {doc pm cdv ct : Value} (X : K.In h) (G : h.Ns mainGlobals mg) (a : PySem.W.nsIn K mainGlobals x = some (some (.ref f)))
    (l : K.lookup f = some ⟨oc, od, .func (PySem.W.fnOf x x (defArgs st) (defBody st) (defScope st) .none (.ref D) doc pm an cdv ct), osl⟩) (c : PySem.W.codeIn K cdv x = true) (k : PySem.W.keepIn K (.ref f) = true)
    (hd : PySem.W.nsIn K D kw = some (some u)) (r : RelV d u) : TopK K mg x st kw d :=
  ⟨f, _, ⟨⟨oc, od, .none, .ref D, doc, pm, an, cdv, ct, osl, rfl, l, c, .inl ⟨rfl, rfl⟩, .inr ⟨D, rfl, fun q hq => by
    simp only [List.mem_singleton] at hq
    subst hq
    exact ⟨u, hd, r⟩⟩⟩, k⟩, PySem.W.mg_of X G a⟩
theorem fn_okKw {x kw : Str} {d : L2.V} {st : Stmt} {N G : List Str} {p1 p2 : Str} {k : Nat} {sp : Sp} (T : TopK K mg x st kw d) (S : FnScope N [p1, p2, kw] (defScope st)) (O : ScOk N G (defScope st)) (len : ∀ vs H Q E, sp vs H Q E → vs.length = 3)
    (hb : ∀ (D : Addr) (doc pm : Value) (an : Option Addr) (cdv ct : Value) (a b u : Value), KwChain D [(kw, u)] (bindArgs (PySem.W.fnOf x x (defArgs st) (defBody st) (defScope st) .none (.ref D) doc pm an cdv ct) ⟨[a, b], []⟩) [(p1, a), (p2, b), (kw, u)])
    (hb2 : ∀ (kV doc pm : Value) (an : Option Addr) (cdv ct : Value) (a b u : Value), bindArgs (PySem.W.fnOf x x (defArgs st) (defBody st) (defScope st) .none kV doc pm an cdv ct) ⟨[a, b], [(kw, u)]⟩ = pure [(p1, a), (p2, b), (kw, u)])
    (hbody : ∀ (f : Addr) (cdv : Value) (A : Around) (outer : List Env) (s : Shared) (H : Hp) (vs : List L2.V) (Q : VK) (E : XK), Room k (A.deeper (envOfC x (defScope st) s.heap.objs.size f cdv)) → sp vs H Q E → In (cxOf (L2N.CX P w) P w K mg base N x (defScope st) f cdv A outer s H E) N G (defScope st) →
      L2N.Takes (cxOf (L2N.CX P w) P w K mg base N x (defScope st) f cdv A outer s H E) (fun cls d _ H => E cls d H) →
      wL (cxOf (L2N.CX P w) P w K mg base N x (defScope st) f cdv A outer s H E) (defBody st) { nx := fun _ H' => Q .non H', rt := Q } (start N vs) H) : FnKw P w K mg base (k + 1) x kw 2 d sp := by
  obtain ⟨f, fd, F, hm⟩ := T.ex
  have hbd := FunD.binds0 (ps := [p1, p2, kw]) F 2 (by simp) rfl (fun D doc pm an cdv ct us ks l1 l2 => by
    match us, ks, l1, l2 with
    | [a, b], [u], _, _ => exact hb D doc pm an cdv ct a b u)
  obtain ⟨oc, od, dV, kV, doc, pm, an, cdv, ct, osl, rfl, lk, hcd, hD, hK⟩ := id F.ex
  obtain rfl : dV = .none := by
    rcases hD with ⟨_, h⟩ | ⟨h, _⟩
    · exact h
    · exact absurd rfl h
  refine ⟨f, _, [p1, p2, kw], fn_of lk hcd S len (fun A outer s H vs Q E hr h => ⟨_, pl, hbody f cdv A outer s H vs Q E hr h ⟨O, ⟨[], (List.append_nil _).symm⟩, S.nd, rfl, rfl, passes_of rfl⟩ (L2N.takes_of rfl rfl rfl rfl)⟩), hm, F.kp, ?_, fun us ws => us ++ ws, ⟨fun s us ws _ l1 l2 => ?_, fun r1 r2 => r1.append r2⟩⟩
  · obtain ⟨ds, h1, h2⟩ := hbd
    exact ⟨ds, h1, h2⟩
  · match us, ws, l1, l2 with
    | [a, b], [u], _, _ => exact .of_eq (hb2 kV doc pm an cdv ct a b u)
end
end Wk

set_option maxHeartbeats 4000000
/-! My own layer: sorted(set(xs)) of a list of texts. -/
namespace Wk
open PySem PySem.Spec PyProof.Rows L2
/-- one more text, if it is new -/
def addL (l : List Str) (z : Str) : List Str := if z ∈ l then l else l ++ [z]
def txE (e : Int × Value) : Str := strOf e.2
def TxE (w : World) (e : Int × Value) : Prop := ∃ z tk, e.2 = Value.str z tk ∧ e.1 = hashStr w z
/-- the set of the texts L -/
def SetTx (w : World) (h : Heap) (a : Addr) (L : List Str) : Prop :=
  ∃ ob es ep tb, h.get? a = some ob ∧ ob.ExactSet ∧ ob.data = .set es ep tb ∧ (∀ e ∈ es.toList, TxE w e) ∧ (es.toList.map txE).Perm L ∧ L.Nodup ∧
    es.size < scanBound ∧ tb.fits es.size = true ∧ Ris tb.place.toList ∧ (w.params.followText "set-order" = true ∨ tb.led = true)
section
variable {P : Program} {w : World} {h h' : Heap} {a : Addr} {L : List Str}
theorem SetTx.moves (R : SetTx w h a L) (k : ∀ o, h.get? a = some o → h'.get? a = some o) : SetTx w h' a L := by
  obtain ⟨ob, es, ep, tb, g1, rest⟩ := R
  exact ⟨ob, es, ep, tb, k ob g1, rest⟩
theorem tx_elems {l : List (Int × Value)} (g : ∀ e ∈ l, TxE w e) : ElemsOf (PySem.strKind P w) l := fun e m => by
  obtain ⟨z, tk, e1, e2⟩ := g e m
  refine ⟨⟨z, by rw [e1]; exact strKind_is P w z tk, e2⟩, ?_⟩
  rw [e1]
  rfl
theorem tx_is {e : Int × Value} (g : TxE w e) (z : Str) : (PySem.strKind P w).is z e.2 = true ↔ txE e = z := by
  obtain ⟨y, tk, e1, _⟩ := g
  have e2 : txE e = y := by unfold txE; rw [e1]; rfl
  rw [e2, e1]
  constructor
  · intro q
    obtain ⟨u, eu⟩ := Value.isStrOf_shape (x := z) (show Value.isStrOf z (.str y tk) = true from q)
    injection eu
  · rintro rfl
    exact strKind_is P w y tk
theorem tx_mem {l : List (Int × Value)} (g : ∀ e ∈ l, TxE w e) (z : Str) : z ∈ l.map txE ↔ ∃ e ∈ l, (PySem.strKind P w).is z e.2 = true := by
  rw [List.mem_map]
  exact ⟨fun ⟨e, m, q⟩ => ⟨e, m, (tx_is (g e m) z).2 q⟩, fun ⟨e, m, q⟩ => ⟨e, m, (tx_is (g e m) z).1 q⟩⟩
theorem tx_fresh (ho : h.get? a = some { cls := .type "set", dict := none, data := .set #[] 0 (.fresh 0 0 (!w.params.followText "set-order")) }) : SetTx w h a [] := by
  refine ⟨_, #[], 0, _, ho, ⟨rfl, rfl, rfl⟩, rfl, (fun e m => by simp at m), .refl _, List.nodup_nil, by decide, rfl, List.Pairwise.nil, ?_⟩
  show _ ∨ (!w.params.followText "set-order") = true
  cases w.params.followText "set-order" with
  | false => exact .inr rfl
  | true => exact .inl rfl
end
section
variable {P : Program} {w : World} {A : Around} {E : Value → Shared → Prop} {s : Shared} {a : Addr} {L : List Str}
theorem tx_tail {g : Bool → Sem Unit} (hg : ∀ (b : Bool) (s1 : Shared) (Q1 : Unit → Shared → Prop), Q1 () s1 → wpAny (model P w) A (g b) Q1 E s1)
    {ob : Obj} {es : Array (Int × Value)} {ep : Nat} {tb : SetTable} (g0 : s.heap.get? a = some ob) (gx : ob.ExactSet) (gd : ob.data = .set es ep tb)
    {fs : Array (Int × Value)} {t2 : SetTable} {M : List Str} (g1 : ∀ e ∈ fs.toList, TxE w e) (pm1 : (fs.toList.map txE).Perm M) (nd1 : M.Nodup)
    (b1 : fs.size < scanBound) (f1 : t2.fits fs.size = true) (r1 : Ris t2.place.toList) (l1 : w.params.followText "set-order" = true ∨ t2.led = true) {wd : Bool} {R : Option Bool → Shared → Prop}
    (hR : ∀ h1, Heap.SameBut a s.heap h1 → SetTx w h1 a M → R (some true) { s with heap := h1 }) :
    wpAny (model P w) A (do
        storeSet a fs t2
        if (!wd && t2.tooFull) = true then do
            g (relayAll t2 fs (SetTable.grown fs.size)).2.2
            storeSet a (relayAll t2 fs (SetTable.grown fs.size)).1 (relayAll t2 fs (SetTable.grown fs.size)).2.1
            pure (some true)
          else pure (some true)) R E s := by
  refine wpAny_bind (wpAny_storeSet_of g0 gd ?_ (fits_of_scanBound b1))
  have g02 := store_at (es' := fs) (t' := t2) g0 gd
  have sb := Heap.SameBut.update s.heap a (Obj.putSet fs t2)
  split
  · have pm := relayAll_perm t2 fs (SetTable.grown fs.size)
    have f3 := relayAll_fits t2 fs (SetTable.grown fs.size)
    have r3 := relayAll_ris t2 fs (SetTable.grown fs.size)
    have l3 := relayAll_led t2 fs (SetTable.grown fs.size)
    generalize relayAll t2 fs (SetTable.grown fs.size) = Z at pm f3 r3 l3 ⊢
    obtain ⟨gs, t3, gave⟩ := Z
    dsimp only at pm f3 r3 l3 ⊢
    have zs : gs.size = fs.size := by rw [← Array.length_toList, pm.length_eq, Array.length_toList]
    have b2 : gs.size < scanBound := zs ▸ b1
    refine wpAny_bind (hg _ _ _ (wpAny_bind (wpAny_storeSet_of g02 rfl ?_ (fits_of_scanBound b2))))
    have g03 := store_at (es' := gs) (t' := t3) g02 rfl
    refine wpAny_pure (hR _ (sb.trans (Heap.SameBut.update _ a _)) ⟨_, gs, _, t3, g03, gx, rfl, fun e m => g1 e (pm.mem_iff.mp m), (pm.map txE).trans pm1, nd1, b2, f3, r3, ?_⟩)
    rw [l3]
    exact l1
  · exact wpAny_pure (hR _ sb ⟨_, fs, _, t2, g02, gx, rfl, g1, pm1, nd1, b1, f1, r1, l1⟩)
theorem addL_in {z : Str} (m : z ∈ L) : addL L z = L := if_pos m
theorem addL_new {z : Str} (m : z ∉ L) : addL L z = L ++ [z] := if_neg m
theorem tx_add {z : Str} {tk : Tok} {Q : Bool → Shared → Prop} (R : SetTx w s.heap a L) (room : L.length + 1 < scanBound)
    (hQ : ∀ (b : Bool) h1, Heap.SameBut a s.heap h1 → SetTx w h1 a (addL L z) → Q b { s with heap := h1 }) :
    wpAny (model P w) A (setAddHashed a (.str z tk) ((PySem.strKind P w).hash z)) Q E s := by
  obtain ⟨ob, es, ep, tb, g0, gx, gd, g, pm0, nd, bb, ff, rr, ll⟩ := R
  have hkey : (PySem.strKind P w).is z (.str z tk) = true := strKind_is P w z tk
  have hsc : (Value.str z tk).scannable = true := rfl
  have hel : ElemsOf (PySem.strKind P w) es.toList := tx_elems g
  unfold setAddHashed setAddHashedIn
  refine wpAny_holding (wpAny_bind (wpAny_setState_of g0 gd ff ?_))
  dsimp only
  rw [byScan_of hsc bb hel]
  simp only [↓reduceIte]
  unfold setAddByScan
  refine wpAny_bind (wpAny_bind (wpAny_rule (wpAny_bind (wpAny_setScan_of hkey g0 gd ff hel ?_))))
  cases fi : List.findIdx? (fun e => (PySem.strKind P w).is z e.2) es.toList with
  | some j =>
    dsimp only
    obtain ⟨hj, pj, _⟩ := List.findIdx?_eq_some_iff_getElem.mp fi
    have m : z ∈ L := pm0.mem_iff.mp ((tx_mem (P := P) g z).2 ⟨es.toList[j], List.getElem_mem hj, pj⟩)
    refine wpAny_pure (wpAny_pure (hQ _ s.heap (Heap.SameBut.refl a s.heap) ?_))
    rw [addL_in m]
    exact ⟨ob, es, ep, tb, g0, gx, gd, g, pm0, nd, bb, ff, rr, ll⟩
  | none =>
    dsimp only
    have nz : z ∉ L := fun m => by
      obtain ⟨e, me, q⟩ := (tx_mem (P := P) g z).1 (pm0.mem_iff.mpr m)
      have c := List.findIdx?_eq_none_iff.mp fi e me
      rw [q] at c
      cases c
    have hgw : ∀ (b : Bool) {s1 : Shared} {Q1 : Unit → Shared → Prop}, Q1 () s1 → wpAny (model P w) A (match b with | true => rule "set.scan.the-table-gave-way" | false => pure ()) Q1 E s1 :=
      fun b s1 Q1 q => by cases b <;> first | exact wpAny_pure q | exact wpAny_rule q
    have pm := layNew_perm tb es ((PySem.strKind P w).hash z) (.str z tk)
    have f1 := layNew_fits tb es ((PySem.strKind P w).hash z) (.str z tk)
    have r1 := layNew_ris tb es ((PySem.strKind P w).hash z) (.str z tk) rr
    have l1 := layNew_led tb es ((PySem.strKind P w).hash z) (.str z tk)
    generalize layNew tb es ((PySem.strKind P w).hash z) (.str z tk) = Z at pm f1 r1 l1 ⊢
    obtain ⟨fs, t1, wd, gave⟩ := Z
    dsimp only at pm f1 r1 l1 ⊢
    rw [Array.toList_push] at pm
    have pk : (fs.toList.map txE).Perm (addL L z) := by
      rw [addL_new nz]
      refine (pm.map txE).trans ?_
      rw [List.map_append]
      exact pm0.append_right _
    have g1 : ∀ e ∈ fs.toList, TxE w e := fun e m => by
      rcases List.mem_append.mp (pm.mem_iff.mp m) with y | y
      · exact g e y
      · rw [List.mem_singleton.mp y]
        exact ⟨z, tk, rfl, rfl⟩
    have nd1 : (addL L z).Nodup := by
      rw [addL_new nz]
      exact List.nodup_append.mpr ⟨nd, by simp, fun x hx y hy e => by rw [List.mem_singleton] at hy; subst hy; subst e; exact nz hx⟩
    have zs : fs.size = L.length + 1 := by
      have q := pk.length_eq
      rw [addL_new nz, List.length_map, List.length_append, Array.length_toList] at q
      exact q
    have b1 : fs.size < scanBound := by rw [zs]; exact room
    have led : w.params.followText "set-order" = true ∨ t1.led = true := by rw [l1]; exact ll
    refine wpAny_bind (hgw _ ?_)
    split
    · refine wpAny_bind ?_
      rw [hashByValue_scannable 8 hsc]
      refine wpAny_pure (tx_tail ?_ g0 gx gd g1 pk nd1 b1 ?_ ?_ ?_ ?_)
      · intro b s1 Q1 q; cases b <;> first | exact wpAny_pure q | exact wpAny_rule q
      · first | (split <;> first | exact f1 | exact SetTable.fits_plain_off f1) | exact f1
      · first | (split <;> exact r1 rr) | exact r1 rr | (split <;> exact r1) | exact r1
      · first | (split <;> exact led) | exact led
      · intro h1 sb r; dsimp only; exact wpAny_pure (hQ true h1 sb r)
    · refine wpAny_bind (wpAny_pure ?_)
      simp only [↓reduceIte]
      refine tx_tail ?_ g0 gx gd g1 pk nd1 b1 f1 ?_ led ?_
      · intro b s1 Q1 q; cases b <;> first | exact wpAny_pure q | exact wpAny_rule q
      · first | exact r1 | exact r1 rr
      · intro h1 sb r; dsimp only; exact wpAny_pure (hQ true h1 sb r)
end
section
variable {P : Program} {w : World} {A : Around} {E : Value → Shared → Prop} {s : Shared}
def uniqL (zs : List Str) : List Str := zs.foldl addL []
theorem uniqL_snoc (zs : List Str) (z : Str) : uniqL (zs ++ [z]) = addL (uniqL zs) z := by unfold uniqL; rw [List.foldl_append]; rfl
theorem addL_len (l : List Str) (z : Str) : (addL l z).length ≤ l.length + 1 := by unfold addL; split <;> simp
theorem foldL_len : ∀ (zs l : List Str), (zs.foldl addL l).length ≤ l.length + zs.length
  | [], l => by simp
  | z :: zs, l => by
    have h1 := foldL_len zs (addL l z)
    have h2 := addL_len l z
    simp only [List.foldl_cons, List.length_cons]
    omega
theorem uniqL_len (zs : List Str) : (uniqL zs).length ≤ zs.length := by
  have h := foldL_len zs []
  simpa [uniqL] using h
theorem tx_loop {I : Addr} {fp wr : List Addr} {G : Array GenState → Array GenState → Prop} {n : Nat} {Pv : Nat → Value → Prop} {St : Nat → Shared → Prop} {R : Result → Shared → Prop}
    (W : WalksS P w A.in1 I fp wr G n Pv St) (D : Addr) (dfp : D ∉ fp) (zs : List Str) (en : n = zs.length) (hb : zs.length + 1 < scanBound) (hv : ∀ i v, Pv i v → ∃ z t, zs[i]? = some z ∧ v = .str z t) :
    ∀ (k i : Nat) (s : Shared), n - i = k → i ≤ n → St i s → SetTx w s.heap D (uniqL (zs.take i)) →
      (∀ s1, Moved (D :: wr) G s s1 → SetTx w s1.heap D (uniqL zs) → R (.ok (.ret .none)) s1) →
      codeAny (model P w) A (.builtin "set.update.loop" ⟨[.ref D, .ref I], []⟩) R s := by
  have dwr : D ∉ wr := fun m => dfp (W.sub _ m)
  have more : ∀ b ∈ wr, b ∈ D :: wr := fun b m => List.mem_cons_of_mem _ m
  intro k
  induction k with
  | zero =>
    intro i s ek hi st hD hR
    obtain rfl : i = n := by omega
    refine codeAny_builtin PyProof.Rows.F.entry_set_update_loop ?_
    rw [Around.under_plainId PyProof.Rows.F.plain_set_update_loop _]
    show wpAny _ A.in1 (pyNext (.ref I) >>= _) _ _ s
    refine wpAny_bind (W.done s _ _ st fun s1 mv => ?_)
    show wpAny _ A.in1 (ret Value.none) _ _ s1
    rw [List.take_of_length_le (by omega)] at hD
    exact wpAny_pure (hR s1 (mv.mono more) (hD.moves fun o e => mv.heap D o dwr e))
  | succ k ih =>
    intro i s ek hi st hD hR
    have lt : i < n := by omega
    refine codeAny_builtin PyProof.Rows.F.entry_set_update_loop ?_
    rw [Around.under_plainId PyProof.Rows.F.plain_set_update_loop _]
    show wpAny _ A.in1 (pyNext (.ref I) >>= _) _ _ s
    refine wpAny_bind (W.item i s _ _ lt st fun v s1 hp st1 mv => ?_)
    obtain ⟨z, t, hz, rfl⟩ := hv i v hp
    have hD1 : SetTx w s1.heap D (uniqL (zs.take i)) := hD.moves fun o e => mv.heap D o dwr e
    show wpAny _ A.in1 (holding [Value.str z t] (setAdd D (.str z t)) >>= _) _ _ s1
    refine wpAny_bind (wpAny_holding ?_)
    unfold setAdd
    refine wpAny_holding (wpAny_bind ((PySem.strKind P w).pyHash (k := z) (strKind_is _ _ _ _) ?_))
    have hl := uniqL_len (zs.take i)
    rw [List.length_take] at hl
    refine tx_add (s := { s1 with toks := s1.toks + 1 }) hD1 (by omega) fun b h1 sb hD2 => ?_
    rw [← uniqL_snoc, show zs.take i ++ [z] = zs.take (i + 1) by rw [List.take_add_one, hz]; rfl] at hD2
    refine wpAny_pure ⟨plainId_quiet PyProof.Rows.F.plain_set_update_loop _, ih (i + 1) _ (by omega) lt (W.frame _ s1 _ _ st1 (Nat.le_succ _) fun b m o e => ?_) hD2 fun s2 mv2 hD3 => ?_⟩
    · rw [sb.2 b (fun q : b = D => dfp (q ▸ m))]
      exact e
    · refine hR s2 (Moved.trans W.gtrans ((mv.mono more).then_heap (Nat.le_succ _) fun b o m e => ?_) mv2) hD3
      rw [sb.2 b (fun q : b = D => m (by rw [q]; exact List.mem_cons_self))]
      exact e
def freshSet (w : World) : Obj := { cls := .type "set", dict := none, data := .set #[] 0 (.fresh 0 0 (!w.params.followText "set-order")) }
theorem call_setTx {l : Addr} {items : Array Value} (zs : List Str) {Q : Value → Shared → Prop} (hh : A.handled = none) (hl : s.heap.IsList l items) (hit : StrsAre items.toList zs) (hb : zs.length + 1 < scanBound)
    (h : ∀ (h1 : Heap) (tk : Nat), SetTx w h1 s.heap.objs.size (uniqL zs) → (∀ b o, s.heap.get? b = some o → h1.get? b = some o) → Q (.ref s.heap.objs.size) { s with heap := h1, toks := tk }) :
    wpAny (model P w) A (call (.type "set") [.ref l]) Q E s := by
  have hisz : items.size = zs.length := by rw [← StrsAre.len_eq hit, Array.length_toList]
  obtain ⟨c, tl, hmro⟩ := PySem.F.called_set.mro
  have hmade := PySem.F.called_set.made
  have hsub := PySem.F.called_set.sub
  refine wpAny_call (codeAny_of_tree ?_)
  show wpAny _ _ (callAny (.type "set") _) _ _ _
  refine wpAny_pure ⟨Code.quiet_builtin _ (by decide +kernel), codeAny_builtin PySem.F.entry_type_call ?_⟩
  rw [Around.under_plain (weight_type_call_type "set" [.ref l] []) rfl]
  have h1 := PySem.F.called_set.notType
  have h2 := PySem.F.called_set.canCreate
  have hct := PySem.F.typeCall_set_1 (.ref l)
  repeat (any_goals (first | assumption | wp_step))
  refine codeAny_mono (code_set_led1 (.ref l) (E := E) (Q₁ := fun ov s1 => ov = .ref s.heap.objs.size ∧ s1 = { s with heap := s.heap.push (freshSet w) }) ⟨rfl, rfl⟩) fun r s1 hr => ?_
  cases r with
  | error e => exact hr
  | ok fl =>
    cases fl with
    | ret ov =>
      obtain ⟨rfl, rfl⟩ := hr
      have gS : (s.heap.push (freshSet w)).get? s.heap.objs.size = some (freshSet w) := Heap.get?_push_size _ rfl
      have gT : Shared.TypeIs { s with heap := s.heap.push (freshSet w) } (.ref s.heap.objs.size) "set" := ⟨_, gS, rfl⟩
      have hli := PySem.F.called_set.init.lookup
      have hbi := PySem.F.called_set.init.bind (.ref s.heap.objs.size)
      repeat (any_goals (first | assumption | wp_step))
      refine codeAny_mono (codeAny_call_builtin (R := wants (fun r s2 => r = .none ∧ ∃ h1 tk, s2 = { s with heap := h1, toks := tk } ∧ SetTx w h1 s.heap.objs.size (uniqL zs) ∧
          (∀ b o, s.heap.get? b = some o → h1.get? b = some o)) E) PySem.F.called_set.init.plain PySem.F.entry_set_init (check_set_init_1 gT ?_)) fun r2 s2 hr2 => ?_
      · obtain ⟨ol, hol, hcl, nl, hdl⟩ := hl
        obtain ⟨ocls, odict, odata, oslots⟩ := ol
        simp only at hcl hdl
        subst hcl; subst hdl
        have hol1 : (s.heap.push (freshSet w)).get? l = some { cls := .type "list", dict := odict, data := .seq items nl, slots := oslots } := Heap.get?_push_of_some _ hol
        have hsls := PySem.F.sub_list_set
        have hslf := PySem.F.sub_list_frozenset
        have hne : (Value.type "list" == Value.type "dict") = false := by decide
        have hl1 : (s.heap.push (freshSet w)).IsList l items := ⟨_, hol1, rfl, nl, rfl⟩
        unfold Builtin.«set.__init__» noKeywords Builtin.Frozenset.updateFrom
        generalize hPI : pyIter = PI
        wp_walk
        subst hPI
        refine wpAny_pyIter_list hl1 ?_
        refine wpAny_bind (wpAny_runValue ?_)
        have hlS : l < s.heap.objs.size := Heap.lt_size hol
        have hh3 : A.in1.in1.in1.handled = none := by simp [hh]
        have hneI : l ≠ (s.heap.push (freshSet w)).objs.size := by
          rw [Heap.size_push]; exact Nat.ne_of_lt (Nat.lt_succ_of_lt hlS)
        have hSf : s.heap.objs.size ∉ [(s.heap.push (freshSet w)).objs.size, l] := by
          rw [Heap.size_push]; simp only [List.mem_cons, List.mem_singleton, List.not_mem_nil, or_false, not_or]
          exact ⟨Nat.ne_of_lt (Nat.lt_succ_self _), Nat.ne_of_gt hlS⟩
        have hval : ∀ (i : Nat) (v : Value), items[i]? = some v → ∃ z t, zs[i]? = some z ∧ v = .str z t := fun i v hv => by
          have hi : i < zs.length := by rw [← hisz]; exact (Array.getElem?_eq_some_iff.mp hv).1
          obtain ⟨t, e⟩ := SS.strs_at hit i v (by rw [Array.getElem?_toList]; exact hv)
          refine ⟨zs[i], t, List.getElem?_eq_getElem hi, ?_⟩
          rw [e, List.getD_eq_getElem?_getD, List.getElem?_eq_getElem hi] <;> rfl
        refine tx_loop ((Walks.list hh3 _ l hneI items).toS) s.heap.objs.size hSf zs hisz hb hval (items.size - 0) 0 _ (by omega) (Nat.zero_le _)
          ⟨⟨_, Heap.get?_push_size _ rfl, rfl, rfl⟩, (hl1.push _)⟩ (tx_fresh (Heap.get?_push_of_some _ gS)) fun s3 hm hD => ?_
        obtain ⟨h3, g3, d3, tk3, os3⟩ := s3
        obtain rfl : g3 = s.gens := hm.gens
        obtain rfl : d3 = s.drawn := hm.drawn
        obtain rfl : os3 = s.os := hm.os
        show wpAny _ _ _ _ _ _
        refine wpAny_pure ?_
        show wpAny _ _ (ret Value.none) _ _ _
        refine wpAny_pure ⟨rfl, h3, tk3, rfl, hD, fun b o e => ?_⟩
        have hb0 : b < s.heap.objs.size := Heap.lt_size e
        refine hm.heap b o ?_ (Heap.get?_push_of_some _ (Heap.get?_push_of_some _ e))
        simp only [List.mem_cons, List.mem_singleton, List.not_mem_nil, or_false, not_or]
        exact ⟨Nat.ne_of_lt hb0, by rw [Heap.size_push]; exact Nat.ne_of_lt (Nat.lt_succ_of_lt hb0)⟩
      · cases r2 with
        | error e => exact hr2
        | ok fl2 =>
          cases fl2 with
          | ret r =>
            obtain ⟨rfl, h3, tk, rfl, hD, hk⟩ := hr2
            repeat (any_goals (first | assumption | wp_step))
            exact h _ _ hD hk
          | _ => exact hr2.elim
    | _ => exact hr.elim
end
end Wk

set_option maxHeartbeats 4000000
/-! My own layer: sorted of a set of texts, tuple(reversed(t)) of a tuple. -/
namespace Wk
open PySem PySem.Spec PyProof.Rows L2
section
variable {P : Program} {w : World} {A : Around} {E : Value → Shared → Prop} {s : Shared} {a : Addr} {L : List Str}
theorem sorted_setTx {Q : Value → Shared → Prop} (R : SetTx w s.heap a L) (hh : A.handled = none) (h64 : L.length < 64)
    (hQ : ∀ s1 p (out : Array Value) (c : Nat) (ys : List Str), (∀ b o, s.heap.get? b = some o → s1.heap.get? b = some o) → s1.gens = s.gens → s1.os = s.os → s.heap.objs.size ≤ p →
      s1.heap.get? p = some (seqObj "list" out c) → StrsAre out.toList ys → ys.Perm L → sortedS ys = true → Q (.ref p) s1) :
    wpAny (model P w) A (call (.builtin "sorted") [.ref a]) Q E s := by
  obtain ⟨ob, es, ep, tb, g0, gx, gd, g, pm0, nd, bb, ff, rr, ll⟩ := R
  refine Calls.call_function_entry kind_sorted plain_sorted entry_sorted (args_sorted1 _) ?_
  unfold Builtin.«sorted»
  refine wpAny_bind (m := checkCount "sorted" 1 1 _) (wpAny_pure ?_)
  refine wpAny_bind (collect_set (A := A.in1) hh ⟨ob, g0, gx.1, gd⟩ ff bb rr ll fun s1 vs k1 hz g1 o1 pm => ?_)
  have hI : StrsAre vs (vs.map strOf) := strsAre_map vs fun v hv => by
    obtain ⟨e, he, q⟩ := List.mem_map.mp (pm.mem_iff.mp hv)
    obtain ⟨z, tk, e1, _⟩ := g e he
    exact ⟨z, tk, q ▸ e1⟩
  have pk : (vs.map strOf).Perm L := by
    have q := pm.map strOf
    rw [List.map_map] at q
    exact q.trans pm0
  have hvl : vs.length = L.length := by have q := pk.length_eq; rwa [List.length_map] at q
  refine wpAny_bind (wpAny_newList ?_ (by rw [hvl, sizeLine_eq]; omega))
  have hoL : (s1.heap.push (seqObj "list" vs.toArray 0)).get? s1.heap.objs.size = some (seqObj "list" vs.toArray 0) := Heap.get?_push_size _ rfl
  refine wpAny_bind (wpAny_holding (wpAny_call_entry slot_list_sort ⟨_, hoL, rfl⟩ entry_list_sort (list_sort_treeK strKind_oneLt hoL hI.keysOf
    (fun v1 v2 rest e => keyKind_strs (ss := vs.map strOf) (by rw [← e]; exact hI)) (by rw [hvl]; exact h64) fun st hp hs => ⟨_, rfl, ?_⟩) (args_list_sort _)))
  obtain ⟨ys, y1, y2, y3⟩ := sorted_out_str hI hp hs
  obtain ⟨c, hc⟩ := sortedHeap_at (vs := vs) (out := (arrOf st).map (·.2)) hoL
  refine wpAny_pure ⟨_, rfl, hQ _ s1.heap.objs.size _ c ys (fun b u e => ?_) g1 o1 hz hc y1 (y2.trans pk) y3⟩
  have q := k1 b u e
  have lt := Heap.lt_size q
  show (sortedHeap (s1.heap.push (seqObj "list" vs.toArray 0)) s1.heap.objs.size vs ((arrOf st).map (·.2))).get? b = some u
  rw [sortedHeap_old (Nat.ne_of_lt lt) (by rw [size_push']; exact Nat.lt_succ_of_lt lt)]
  exact Heap.get?_push_of_some _ q
end
/-- the set of the texts L at a -/
def SetTO (w : World) (a : Addr) (L : List Str) : HO := .ext fun h => SetTx w h a L
section
variable {X : Cx}
theorem setTO_ok {w : World} {P : Program} {H : Hp} {h : Heap} {a : Addr} {L : List Str} (R : SetTx w h a L) : ObjOk P w H h a (SetTO w a L) := by
  have ⟨o, _, _, _, ho, _⟩ := R
  exact ⟨R, ⟨o, ho⟩, fun _ _ p k => SetTx.moves p k⟩
def rSetOfTx (w : World) (K : PySem.W.Frag) : List V → Hp → VK → Prop := fun xs H Q => ∃ (l : Addr) (zs : List Str), xs = [V.ref l] ∧ SqL K H l (zs.map V.str) ∧ zs.length + 1 < scanBound ∧ ∀ p, H p = none → Q (.ref p) (upd H p (SetTO w p (uniqL zs)))
theorem cr_setOfTx (hc : X.calm = true) : CallR X (.type "set") (rSetOfTx X.w X.K) := by
  intro pins s σ H xs us Q I r h
  obtain ⟨l, zs, rfl, hq, hb, q⟩ := h
  rw [Vals.ref1 r]
  obtain ⟨its, rv, pl, hz⟩ := I.list hq
  refine call_setTx zs (I.ok.hd hc) pl.isList (by simpa using strsAre_of rv) hb fun h1 tk hD k => ?_
  exact ⟨.ref _, upd H s.heap.objs.size (SetTO X.w s.heap.objs.size (uniqL zs)), I.laid (t' := tk) k (Nat.le_refl _) (setTO_ok hD), rfl, q _ (I.hok.fresh (Nat.le_refl _))⟩
def rSortedTx (w : World) : List V → Hp → VK → Prop := fun vs H Q => ∃ (a : Addr) (L : List Str), vs = [V.ref a] ∧ H a = some (SetTO w a L) ∧ L.length < 64 ∧
  ∀ (ys : List Str) (p : Addr), ys.Perm L → sortedS ys = true → H p = none → Q (.ref p) (upd H p (.lst (ys.map V.str)))
theorem cr_sortedTx (hc : X.calm = true) : CallR X (.builtin "sorted") (rSortedTx X.w) := by
  intro pins s σ H vs us Q I r h
  obtain ⟨a, L, rfl, ha, h64, q⟩ := h
  have R : SetTx X.w s.heap a L := (I.hok a _ ha).1
  rw [Vals.ref1 r]
  refine sorted_setTx R (I.ok.hd hc) h64 fun s1 p out c ys k g o hp hg hi pm hs => ?_
  have hlen : (ys.map V.str).length ≤ sizeLine := by rw [List.length_map, pm.length_eq, sizeLine_eq]; omega
  have hn : H p = none := I.hok.fresh hp
  have J : Inv X pins σ (upd H p (.lst (ys.map V.str))) { s with heap := s1.heap, gens := s1.gens, drawn := s1.drawn, toks := s1.toks } :=
    I.call (ch := []) (Un.laid k hp hn) (I.hok.laid k hp ⟨hlen, out.toList, c, vals_of_strs hi, hg⟩) (by rw [g]; exact I.bare) (fun _ z => nomatch z)
  have e : s1 = { s with heap := s1.heap, gens := s1.gens, drawn := s1.drawn, toks := s1.toks } := by
    cases s1
    cases s
    cases o
    rfl
  rw [e]
  exact ⟨.ref p, _, J, rfl, q ys p pm hs hn⟩
end
end Wk

set_option maxHeartbeats 4000000
/-! My own layer: tuple(reversed(t)) of a tuple. -/
namespace Wk
open PySem PySem.Spec PyProof.Rows L2 RT
theorem nolen_rt : typeLookup (.type "reversed") "__len__" = pure none := by rw [typeLookup_type, builtinLookup_eq_fast]; kernel_rfl
theorem hint_rt : typeLookup (.type "reversed") "__length_hint__" = pure (some (.builtin "reversed.__length_hint__")) := by rw [typeLookup_type, builtinLookup_eq_fast]; kernel_rfl
theorem slot_rt_hint : Slot "reversed" "__length_hint__" "reversed.__length_hint__" :=
  .of (owner := "reversed") (n := "__length_hint__") (by rw [typeLookup_type, builtinLookup_eq_fast]; kernel_rfl) (by decide +kernel) (by decide +kernel) (by decide +kernel)
    (by first | exact .inl (by decide +kernel) | exact .inr (by decide +kernel)) (by rw [isSubtype_type]; kernel_rfl)
theorem entry_rt_hint : entryFor table "reversed.__length_hint__" = some Builtin.«reversed.__length_hint__» := entryFor_of_tree (by kernel_rfl)
theorem args_rt_hint (a : Value) : argsOk "reversed.__length_hint__" ⟨[a], []⟩ := by
  unfold argsOk; rw [signature?_of (id := "reversed.__length_hint__") (n := ['_', '_', 't', 'n', 'i', 'h', '_', 'h', 't', 'g', 'n', 'e', 'l', '_', '_']) (o := ['d', 'e', 's', 'r', 'e', 'v', 'e', 'r']) (by kernel_rfl) owner_rt]; kernel_rfl
theorem bind_rt_hint (x : Value) : bindSpecial (.builtin "reversed.__length_hint__") x = pure (.builtin "reversed.__length_hint__", [x]) := by
  unfold bindSpecial
  rw [show typeOf (.builtin "reversed.__length_hint__") = pure (.type "method_descriptor") from by kernel_rfl]
  rfl
section
variable {prog : Program} {w : World} {A : Around} {E : Value → Shared → Prop} {s : Shared}
theorem walks_rt (hh : A.handled = none) (it t : Addr) (ne : t ≠ it) (items : Array Value) (hz : items.size ≤ sizeLine) :
    Walks prog w A it [it, t] [it] items.size (fun i v => items[items.size - 1 - i]? = some v) (fun i h => i ≤ items.size ∧ IsRt h it t ((items.size : Int) - 1 - (i : Int)) ∧ IsTup h t items) where
  sub := fun b m => by simp at m; simp [m]
  frame := fun _ _ _ x k => ⟨x.1, x.2.1.at fun o e => k it (by simp) o e, let ⟨o, e, z⟩ := x.2.2; ⟨o, k t (by simp) o e, z⟩⟩
  item := fun i s Q E hi x hQ => by
    have e1 : (items.size : Int) - 1 - (i : Int) = ((items.size - 1 - i : Nat) : Int) := by omega
    have hit := x.2.1
    rw [e1] at hit
    have hx : items[items.size - 1 - i]? = some (items[items.size - 1 - i]'(by omega)) := Array.getElem?_eq_getElem (by omega)
    refine next_rt_item hit x.2.2 hx hz fun h1 st sb => ?_
    have e2 : ((items.size - 1 - i : Nat) : Int) - 1 = (items.size : Int) - 1 - ((i + 1 : Nat) : Int) := by omega
    rw [e2] at st
    exact hQ _ h1 _ hx ⟨hi, st, let ⟨o, eo, z⟩ := x.2.2; ⟨o, (sb.2 t ne).trans eo, z⟩⟩ fun b o nb eo => sb.extBut b o (fun q => nb (by simp [q])) eo
  done := fun s Q E x hQ => by
    have e1 : (items.size : Int) - 1 - (items.size : Int) = -1 := by omega
    have hit := x.2.1
    rw [e1] at hit
    exact next_rt_end hh hit fun h1 he => hQ h1 s.toks fun b o nb eo => he b o (fun q => nb (by simp [q])) eo
  self := fun _ _ _ _ x hQ => iter_rt x.2.1 hQ
theorem call_rt_hint {it t : Addr} {items : Array Value} {Q : Value → Shared → Prop} (hit : IsRt s.heap it t ((items.size : Int) - 1)) (ht : IsTup s.heap t items) (hz : items.size ≤ sizeLine)
    (hQ : ∀ tk u, Q (.int items.size tk) { s with toks := u }) : wpAny (model prog w) A (call (.builtin "reversed.__length_hint__") [.ref it]) Q E s := by
  obtain ⟨o, ho, hc, hd⟩ := id hit
  have z2 := hz
  rw [sizeLine_eq] at z2
  refine wpAny_call_entry slot_rt_hint hit.typeIs entry_rt_hint ?_ (args_rt_hint _)
  unfold Builtin.«reversed.__length_hint__»
  refine wpAny_bind (wpAny_of_eq (a := Value.ref it) rfl ?_)
  try dsimp only
  refine wpAny_bind (wpAny_field ho hd (x := .ref t) rfl ?_)
  try dsimp only
  have nn : (Value.ref t == Value.none) = false := by
    first | rfl | exact beq_eq_false_iff_ne.mpr (fun z => nomatch z)
  rw [nn]
  simp only [Bool.false_eq_true, ↓reduceIte]
  refine wpAny_bind (len_tuple ht (by omega) ?_)
  refine wpAny_bind (wpAny_of_eq (a := some ((items.size : Nat) : Int)) rfl ?_)
  try dsimp only
  refine wpAny_bind (wpAny_field (s := { s with toks := s.toks + 1 + 1 }) ho hd (x := rawInt ((items.size : Int) - 1)) rfl ?_)
  show wpAny _ _ (if (items.size : Int) < (items.size : Int) - 1 + 1 then _ else _) _ _ _
  rw [if_neg (by omega)]
  have e1 : (items.size : Int) - 1 + 1 = items.size := by omega
  show wpAny _ _ (retInt ((items.size : Int) - 1 + 1)) _ _ _
  rw [e1]
  unfold retInt
  refine wpAny_bind (wpAny_mkInt ?_)
  exact wpAny_pure ⟨_, rfl, hQ _ _⟩
theorem collect_rt {it t : Addr} {items : Array Value} {Q : List Value → Shared → Prop} (hh : A.handled = none) (hit : IsRt s.heap it t ((items.size : Int) - 1)) (ht : IsTup s.heap t items) (ne : t ≠ it) (hz : items.size ≤ sizeLine)
    (hQ : ∀ (h1 : Heap) (tk : Nat) (acc : Array Value), (∀ b o, b ≠ it → s.heap.get? b = some o → h1.get? b = some o) → ItemsOf (fun i v => items[items.size - 1 - i]? = some v) acc items.size → Q acc.toList { s with heap := h1, toks := tk }) :
    wpAny (model prog w) A (collect (.ref it)) Q E s := by
  have W := (walks_rt (prog := prog) (w := w) (A := A.in1) hh it t ne items hz).toS
  obtain ⟨oi, hoi, _⟩ := id hit
  obtain ⟨ot, hot, _⟩ := id ht
  have nSi : s.heap.objs.size ≠ it := Nat.ne_of_gt (Heap.lt_size hoi)
  have nSt : s.heap.objs.size ≠ t := Nat.ne_of_gt (Heap.lt_size hot)
  have nSf : s.heap.objs.size ∉ [it, t] := by simp only [List.mem_cons, List.not_mem_nil, or_false, not_or]; exact ⟨nSi, nSt⟩
  unfold collect
  refine wpAny_bind (wpAny_runValue (codeAny_builtin F.entry_proto_collect ?_))
  rw [Around.under_plainId F.plain_proto_collect _]
  show wpAny _ A.in1 (newList [] >>= fun l' => again (.builtin "list.__iadd__" ⟨[l', .ref it], []⟩)) _ _ s
  refine wpAny_bind (wpAny_newObj_type ?_)
  refine wpAny_pure ⟨plainId_quiet F.plain_list_iadd _, codeAny_builtin F.entry_list_iadd ?_⟩
  rw [Around.under_plainId F.plain_list_iadd _]
  have gS : (s.heap.push { cls := .type "list", data := .seq ([] : List Value).toArray }).get? s.heap.objs.size = some { cls := .type "list", data := .seq ([] : List Value).toArray } := Heap.get?_push_size _ rfl
  have hit1 : IsRt (s.heap.push { cls := .type "list", data := .seq ([] : List Value).toArray }) it t ((items.size : Int) - 1) := hit.at fun o e => Heap.get?_push_of_some _ e
  have ht1 : IsTup (s.heap.push { cls := .type "list", data := .seq ([] : List Value).toArray }) t items := let ⟨o, e, z⟩ := ht; ⟨o, Heap.get?_push_of_some _ e, z⟩
  have hT : ({ s with heap := s.heap.push { cls := .type "list", data := .seq ([] : List Value).toArray } } : Shared).TypeIs (.ref it) "reversed" := IsRt.typeIs (s := { s with heap := s.heap.push { cls := .type "list", data := .seq ([] : List Value).toArray } }) hit1
  have q1 : Builtin.List.listSameRef (.ref s.heap.objs.size) (.ref it) = false := by simp [Builtin.List.listSameRef, nSi]
  show wpAny _ A.in1 (Builtin.List.listExtendWith (.ref s.heap.objs.size) (.ref it) (.ref s.heap.objs.size)) _ _ _
  unfold Builtin.List.listExtendWith
  refine wpAny_bind (wpAny_typeOf hT ?_)
  rw [if_neg (by rw [q1]; decide)]
  refine wpAny_bind (iter_rt (s := { s with heap := s.heap.push { cls := .type "list", data := .seq ([] : List Value).toArray } }) hit1 ?_)
  refine wpAny_bind (wpAny_holding ?_)
  unfold Builtin.List.listLengthHint
  refine wpAny_bind (wpAny_specialOf hT nolen_rt ?_)
  show wpAny _ A.in1 (specialOf (Value.ref it) (Str.ofString "__length_hint__") >>= _) _ _ _
  refine wpAny_bind (wpAny_specialOf hT hint_rt ?_)
  generalize hid : ("reversed.__length_hint__" : String) = id0
  wp_delta
  rw [show splitId id0 = some ("reversed", "__length_hint__") from by subst hid; decide +kernel]
  subst hid
  refine wpAny_bind (wpAny_isInstance (b := true) hT (by rw [isSubtype_type]; kernel_rfl) ?_)
  simp only [Bool.not_true, Bool.false_eq_true, ↓reduceIte]
  rw [if_neg (by decide +kernel)]
  refine wpAny_bind (wpAny_rule ?_)
  refine wpAny_bind (wpAny_of_eq (bind_rt_hint _) ?_)
  dsimp only
  have hh1 : A.in1.handled = none := hh
  refine wpAny_bind (wpAny_attempt (call_rt_hint hit1 ht1 hz fun tk u => ?_))
  have ea : asInt? (Value.int ((items.size : Nat) : Int) tk) = pure (some ((items.size : Nat) : Int)) := rfl
  simp only [ea, pure_bind]
  have z2 := hz
  rw [sizeLine_eq] at z2
  have f1 : Builtin.List.listFitsIndex ((items.size : Nat) : Int) = true := by
    unfold Builtin.List.listFitsIndex
    simp only [Bool.and_eq_true, decide_eq_true_eq]
    omega
  have f2 : ¬ (((items.size : Nat) : Int) < 0) := by omega
  have f3 : Builtin.List.listTooLong ((items.size : Nat) : Int).toNat = false := by
    unfold Builtin.List.listTooLong
    simp only [Int.toNat_natCast, decide_eq_false_iff_not]
    omega
  rw [f1]
  simp only [Bool.not_true, Bool.false_eq_true, ↓reduceIte]
  rw [if_neg f2, f3]
  simp only [Bool.false_eq_true, ↓reduceIte]
  refine wpAny_pure ?_
  have e0 : ((items.size : Nat) : Int) - 1 - ((0 : Nat) : Int) = (items.size : Int) - 1 := by omega
  split
  · refine wpAny_bind (wpAny_rule ?_)
    refine wpAny_bind ?_
    show wpAny _ A.in1 (updateSeq s.heap.objs.size (·.push .none) >>= fun _ => updateSeq s.heap.objs.size (·.pop)) _ _ _
    refine wpAny_bind (wpAny_updateSeq gS rfl ?_ (by rw [sizeLine_eq]; decide) (by rw [sizeLine_eq]; decide))
    have gS3 := Heap.get?_update_self (Obj.mapSeq (·.push Value.none)) gS rfl
    refine wpAny_updateSeq gS3 rfl ?_ (by rw [sizeLine_eq]; decide) (by rw [sizeLine_eq]; decide)
    have gS4 := Heap.get?_update_self (Obj.mapSeq (·.pop)) gS3 rfl
    have oth : ∀ b o, b ≠ s.heap.objs.size → (s.heap.push { cls := .type "list", data := .seq ([] : List Value).toArray }).get? b = some o → (((s.heap.push { cls := .type "list", data := .seq ([] : List Value).toArray }).update s.heap.objs.size (Obj.mapSeq (·.push Value.none))).update s.heap.objs.size (Obj.mapSeq (·.pop))).get? b = some o :=
      fun b o nb e => (Heap.get?_update_other _ _ (Ne.symm nb)).trans ((Heap.get?_update_other _ _ (Ne.symm nb)).trans e)
    refine wpAny_pure ⟨plainId_quiet F.plain_extend_loop _, codeAny_extend_loopS W hz _ nSf _ items.size 0 _ _ _ rfl (Nat.zero_le _) ⟨Nat.zero_le _, ?_, ?_⟩ gS4 (ItemsOf.nil _) fun s1 acc c1 hm hS1 hacc => ?_⟩
    · rw [e0]
      exact hit1.at fun o e => oth it o nSi.symm e
    · exact let ⟨o, e, z⟩ := ht1; ⟨o, oth t o nSt.symm e, z⟩
    · show wpAny _ A (load s.heap.objs.size >>= _) _ _ s1
      refine wpAny_bind (wpAny_load hS1 (wpAny_pure ?_))
      rw [Moved.eq_with hm]
      refine hQ s1.heap s1.toks acc (fun b o nb e => ?_) hacc
      have lt := Heap.lt_size e
      refine hm.heap b o (fun mm => ?_) (oth b o (Nat.ne_of_lt lt) (Heap.get?_push_of_some _ e))
      rcases List.mem_cons.mp mm with e' | mm
      · exact absurd lt (by rw [e']; exact Nat.lt_irrefl _)
      · exact nb (List.mem_singleton.mp mm)
  · have oth : ∀ b o, b ≠ s.heap.objs.size → (s.heap.push { cls := .type "list", data := .seq ([] : List Value).toArray }).get? b = some o → (s.heap.push { cls := .type "list", data := .seq ([] : List Value).toArray }).get? b = some o := fun b o _ e => e
    refine wpAny_pure ⟨plainId_quiet F.plain_extend_loop _, codeAny_extend_loopS W hz _ nSf _ items.size 0 _ _ _ rfl (Nat.zero_le _) ⟨Nat.zero_le _, ?_, ?_⟩ gS (ItemsOf.nil _) fun s1 acc c1 hm hS1 hacc => ?_⟩
    · rw [e0]
      exact hit1.at fun o e => oth it o nSi.symm e
    · exact let ⟨o, e, z⟩ := ht1; ⟨o, oth t o nSt.symm e, z⟩
    · show wpAny _ A (load s.heap.objs.size >>= _) _ _ s1
      refine wpAny_bind (wpAny_load hS1 (wpAny_pure ?_))
      rw [Moved.eq_with hm]
      refine hQ s1.heap s1.toks acc (fun b o nb e => ?_) hacc
      have lt := Heap.lt_size e
      refine hm.heap b o (fun mm => ?_) (oth b o (Nat.ne_of_lt lt) (Heap.get?_push_of_some _ e))
      rcases List.mem_cons.mp mm with e' | mm
      · exact absurd lt (by rw [e']; exact Nat.lt_irrefl _)
      · exact nb (List.mem_singleton.mp mm)
theorem code_tuple_rt {it t : Addr} {items : Array Value} {Q1 : Value → Shared → Prop} (hh : A.handled = none) (hit : IsRt s.heap it t ((items.size : Int) - 1)) (ht : IsTup s.heap t items) (ne : t ≠ it) (hz : items.size ≤ sizeLine)
    (hq : ∀ (h1 : Heap) (tk : Nat) (acc : Array Value), (∀ b o, b ≠ it → s.heap.get? b = some o → h1.get? b = some o) → ItemsOf (fun i v => items[items.size - 1 - i]? = some v) acc items.size →
      Q1 (.ref h1.objs.size) { s with heap := h1.push { cls := .type "tuple", data := .seq acc }, toks := tk }) :
    codeAny (model prog w) A (.call (.builtin "tuple.__new__") ⟨[.type "tuple", .ref it], []⟩) (wants Q1 E) s := by
  refine codeAny_of_tree ?_
  show wpAny _ A.in1 (do checkBuiltinCall "tuple.__new__" ⟨[.type "tuple", .ref it], []⟩; again (.builtin "tuple.__new__" ⟨[.type "tuple", .ref it], []⟩)) _ _ s
  refine wpAny_bind (wpAny_of_eq (F.newCall_tuple_1 _) (wpAny_pure ⟨plainId_quiet F.plain_tuple_new _, codeAny_builtin F.entry_tuple_new ?_⟩))
  rw [Around.under_plainId F.plain_tuple_new _]
  have hsub := sub_tuple_self
  have hinit := init_tuple_lookup
  have hmh := madeHere_tuple
  have hTI : s.TypeIs (.ref it) "reversed" := hit.typeIs
  have hh1 : A.in1.handled = none := hh
  wp_walk using wpAny_typeOf hTI, collect_rt (A := A.in1) hh1 hit ht ne hz
  intro h1 tk acc k hacc
  show wpAny _ _ (Builtin.Tuple.tupleExact acc.toList.toArray >>= fun v => ret v) _ _ _
  unfold Builtin.Tuple.tupleExact
  refine wpAny_bind (wpAny_newObj_type ?_ (by show acc.toList.toArray.size ≤ sizeLine; simp only [Array.toArray_toList]; rw [hacc.1]; exact hz))
  refine wpAny_pure ?_
  have e : acc.toList.toArray = acc := by simp
  rw [e]
  exact hq h1 tk acc k hacc
theorem call_tuple_rt {it t : Addr} {items : Array Value} {Q : Value → Shared → Prop} (hh : A.handled = none) (hit : IsRt s.heap it t ((items.size : Int) - 1)) (ht : IsTup s.heap t items) (ne : t ≠ it) (hz : items.size ≤ sizeLine)
    (hQ : ∀ (h1 : Heap) (tk : Nat) (acc : Array Value), (∀ b o, b ≠ it → s.heap.get? b = some o → h1.get? b = some o) → ItemsOf (fun i v => items[items.size - 1 - i]? = some v) acc items.size →
      Q (.ref h1.objs.size) { s with heap := h1.push { cls := .type "tuple", data := .seq acc }, toks := tk }) :
    wpAny (model prog w) A (call (.type "tuple") [.ref it]) Q E s := by
  refine callType_codes (Q₁ := fun ov s1 => s1.TypeIs ov "tuple" ∧ Q ov s1) F.called_tuple (F.typeCall_tuple_1 _) F.entry_object_init
    (code_tuple_rt (A := A.in1) hh hit ht ne hz fun h1 tk acc k hacc => ⟨⟨_, Heap.get?_push_size _ rfl, rfl⟩, hQ h1 tk acc k hacc⟩) fun ov s1 z => ?_
  exact ⟨z.1, F.args_object_init_2 ov _, object_init_meets F.called_tuple.init.lookup F.called_tuple.made (by decide) prog w A.in1 _ s1 ⟨z.1, rfl, z.2⟩⟩
end
section
variable {X : Cx}
/-- tuple(reversed(x)), x a tuple -/
def tTupRt (K : PySem.W.Frag) (te : TE) : TE := fun σ H Q => te σ H fun v H1 => ∃ (a : Addr) (xs : List V), v = .ref a ∧ SqT K H1 a xs ∧ ∀ q, H1 q = none → Q (.ref q) (upd H1 q (.tup xs.reverse))
theorem pe_tupRt {e : Expr} {te : TE} {p p2 pos pos2 : Pos} (hc : X.calm = true) (hg : Gl X "tuple") (hm : X.mg "tuple" = none) (hg2 : Gl X "reversed") (hm2 : X.mg "reversed" = none) (he : PE X e te)
    (hs : starEach [e] X.env = (false, eval e X.env) :: starEach [] X.env := by rfl)
    (hs2 : starEach [.Call (.Name "reversed" p2) [e] [] pos2] X.env = (false, eval (.Call (.Name "reversed" p2) [e] [] pos2) X.env) :: starEach [] X.env := by rfl) :
    PE X (.Call (.Name "tuple" p) [.Call (.Name "reversed" p2) [e] [] pos2] [] pos) (tTupRt X.K te) := by
  refine ⟨fun pins s σ H Q I h => ?_⟩
  refine Call_ (ld_blt I hg hm boot_tuple (PyProof.Rows.callWith_type1 (args_cons (Call_ (ld_blt I hg2 hm2 PyProof.Rows.boot_reversed (PyProof.Rows.callWith_type1 (args_cons (thn (he.run pins s σ H _ I h) fun u s1 ⟨v, H1, I1, r1, q1⟩ => args_nil ?_) hs) hs rfl))) hs2) hs2 rfl))
  obtain ⟨a, xs, ev, hq, q⟩ := q1
  subst ev
  obtain rfl : u = Value.ref a := r1
  obtain ⟨its, rv, p1, hz⟩ := I1.tuple hq
  have hn : its.toArray.size ≤ sizeLine := by rw [List.size_toArray, ← rv.length]; exact hz
  have hn2 := hn
  rw [sizeLine_eq] at hn2
  refine call_reversed_tup p1 (fun A E Q k => len_tuple p1 (by omega) k) (args_nil ?_)
  have I1' : Inv X pins σ H1 { s1 with toks := s1.toks + 1 + 1 } := I1.tok _
  have k0 : ∀ b o, s1.heap.get? b = some o → (s1.heap.push (rtObj a ((its.toArray.size : Int) - 1))).get? b = some o := fun b o e => Heap.get?_push_of_some _ e
  have I2 : Inv X pins σ H1 { s1 with heap := s1.heap.push (rtObj a ((its.toArray.size : Int) - 1)), toks := s1.toks + 1 + 1 } := I1.kept (t' := s1.toks + 1 + 1) k0
  obtain ⟨f0, f1, f2, f3, f4, f5⟩ := I1.fpOk (H' := H1) (b := s1.heap.objs.size) (Nat.le_refl _) (I1.hok.fresh (Nat.le_refl _))
  obtain ⟨ol, hol, hol2⟩ := id p1
  have ne : a ≠ s1.heap.objs.size := Nat.ne_of_lt (Heap.lt_size hol)
  refine call_tuple_rt (s := { s1 with heap := s1.heap.push (rtObj a ((its.toArray.size : Int) - 1)), toks := s1.toks + 1 + 1 }) (I1.ok.hd hc) ⟨_, Heap.get?_push_size _ rfl, rfl, rfl⟩ ⟨ol, k0 _ _ hol, hol2⟩ ne hn fun h1 tk acc hk hi => ?_
  have I3 : Inv X pins σ H1 { s1 with heap := h1, toks := tk } := I2.turned (t' := tk) (fun b o nb e => hk b o nb e) f0 f1 f3 f4 f5
  refine ⟨.ref h1.objs.size, upd H1 h1.objs.size (.tup xs.reverse), I3.laid (t' := tk) (fun c o e => Heap.get?_push_of_some _ e) (Nat.le_refl _) (show ObjOk X.prog X.w _ _ _ (.tup xs.reverse) from ⟨by rw [List.length_reverse]; exact hz, acc.toList, vals_rev rv hi, ?_⟩), rfl, q _ (I3.hok.fresh (Nat.le_refl _))⟩
  rw [Array.toArray_toList]
  exact IsTup.new _ _
end
end Wk

set_option maxHeartbeats 4000000
/-! My own layer: comprehensions with a test, over a list and over a dict; dict comprehensions; dicts; loops over tuples of three. -/
namespace Wk
open PySem PySem.Spec PyProof.Rows L2
section
variable {X : Cx} {e a b c elt kx vx : Expr} {es rest : List Expr} {σ : L2.St} {H : Hp} {Q : VK} {pos p0 : Pos} {N G G' : List Str} {Vn : List (Nat × Str)} {sc scope : Scope}
@[irreducible] def wBkT (X : Cx) (Vn : List (Nat × Str)) (G' : List Str) (c : Expr) (scope : Scope) : TT := fun σ H Q => ∀ s0 H0 C cl fp, InB (Bk X s0 H0 scope C cl fp) Vn G' → wT (Bk X s0 H0 scope C cl fp) c σ H Q
theorem pts_bk {s0 : Shared} {H0 : Hp} {C : Addr} {cl : List (Str × Addr)} {fp : List Addr} (I : InB (Bk X s0 H0 scope C cl fp) Vn G') : PTs (Bk X s0 H0 scope C cl fp) [c] (wBkT X Vn G' c scope) :=
  pts_one ⟨fun pins s σ H Q Iv h => by unfold wBkT at h; exact pt.run pins s σ H Q Iv (h s0 H0 C cl fp I)⟩
/-- what the turns ask where there is a test -/
def Turn1 (X : Cx) (Vn : List (Nat × Str)) (G' : List Str) (elt c : Expr) (scope : Scope) (i : Nat) (D : Addr) (σ : L2.St) (x : L2.V) (H2 : Hp) (Nx : Hp → Prop) : Prop :=
  ∀ s0 H0 C cl fp, InB (Bk X s0 H0 scope C cl fp) Vn G' → wT (Bk X s0 H0 scope C cl fp) c ((wipe σ [i]).set i (some x)) H2 fun b H3 =>
    if b = true then ∀ s0 H0 C cl fp, InB (Bk X s0 H0 scope C cl fp) Vn G' → wE (Bk X s0 H0 scope C cl fp) elt ((wipe σ [i]).set i (some x)) H3 fun y H4 => ∃ acc, H4 D = some (.lst acc) ∧ acc.length < sizeLine ∧ Nx (upd H4 D (.lst (acc ++ [y]))) else Nx H3
theorem turn1_of {i : Nat} {D : Addr} {x : L2.V} {H2 : Hp} {Nx : Hp → Prop} (q : Turn1 X Vn G' elt c scope i D σ x H2 Nx) : gName i x (wipe σ [i]) H2 fun σ2 H3 => wipe σ2 [i] = wipe σ [i] ∧ wBkT X Vn G' c scope σ2 H3 fun b H4 =>
    if b = true then wBk X Vn G' elt scope σ2 H4 fun y H5 => ∃ acc, H5 D = some (.lst acc) ∧ acc.length < sizeLine ∧ Nx (upd H5 D (.lst (acc ++ [y]))) else Nx H4 := by
  refine ⟨wipe_set σ i _, ?_⟩
  unfold wBkT
  intro s0 H0 C cl fp I
  refine t_mono (q s0 H0 C cl fp I) fun b H4 z => ?_
  cases b with
  | true =>
    unfold wBk
    exact iteT z
  | false => exact iteF z
def LcLf (X : Cx) (Vn : List (Nat × Str)) (G' : List Str) (elt c : Expr) (scope : Scope) (i : Nat) (ad : Addr) (xs : List L2.V) (D : Addr) (σ : L2.St) (H1 : Hp) (Qd : Hp → Prop) : Prop := ∃ Pv : Nat → Hp → Prop, Pv 0 (upd H1 D (.lst [])) ∧ (∀ k H2, k ≤ xs.length → Pv k H2 → SqL X.K H2 ad xs) ∧
  (∀ k x H2, xs[k]? = some x → Pv k H2 → Turn1 X Vn G' elt c scope i D σ x H2 (Pv (k + 1))) ∧ ∀ H2, Pv xs.length H2 → Qd H2
def LcDf (X : Cx) (Vn : List (Nat × Str)) (G' : List Str) (elt c : Expr) (scope : Scope) (i : Nat) (d : Addr) (o : Obj) (kvs : List (Key × L2.V)) (D : Addr) (σ : L2.St) (H1 : Hp) (Qd : Hp → Prop) : Prop := ∃ Pv : Nat → Hp → Prop, Pv 0 (upd H1 D (.lst [])) ∧ (∀ k H2, k ≤ kvs.length → Pv k H2 → H2 d = some (.frz o (.dK kvs))) ∧
  (∀ k y v H2, kvs[k]? = some (y, v) → Pv k H2 → Turn1 X Vn G' elt c scope i D σ (kV y) H2 (Pv (k + 1))) ∧ ∀ H2, Pv kvs.length H2 → Qd H2
theorem lcLf_of {i : Nat} {ad : Addr} {xs : List L2.V} {D : Addr} {H1 : Hp} {Qd : Hp → Prop} (q : LcLf X Vn G' elt c scope i ad xs D σ H1 Qd) : ∃ W : Nat → Nat → Hp → Prop, (∃ m, W 0 m (upd H1 D (.lst []))) ∧ ∀ k m H, W k m H →
    ((Itl X.K ad).stop k H ∧ Qd H) ∨ ((Itl X.K ad).go k H ∧ ∃ Nx : Hp → Prop, (∀ H', Nx H' → ∃ m', m' < m ∧ W (k + 1) m' H') ∧ ∀ x H', (Itl X.K ad).yld k H x H' → gName i x (wipe σ [i]) H' fun σ2 H2 => wipe σ2 [i] = wipe σ [i] ∧ wBkT X Vn G' c scope σ2 H2 fun b H3 =>
      if b = true then wBk X Vn G' elt scope σ2 H3 fun y H4 => ∃ acc, H4 D = some (.lst acc) ∧ acc.length < sizeLine ∧ Nx (upd H4 D (.lst (acc ++ [y]))) else Nx H3) := by
  obtain ⟨Pv, h0, hl, hs, hd⟩ := q
  exact lc_list Pv h0 hl (fun k x H hk p => turn1_of (hs k x H hk p)) hd
theorem lcDf_of {i : Nat} {d : Addr} {o : Obj} {kvs : List (Key × L2.V)} {D : Addr} {H1 : Hp} {Qd : Hp → Prop} (q : LcDf X Vn G' elt c scope i d o kvs D σ H1 Qd) : ∃ W : Nat → Nat → Hp → Prop, (∃ m, W 0 m (upd H1 D (.lst []))) ∧ ∀ k m H, W k m H →
    ((Itk d o kvs).stop k H ∧ Qd H) ∨ ((Itk d o kvs).go k H ∧ ∃ Nx : Hp → Prop, (∀ H', Nx H' → ∃ m', m' < m ∧ W (k + 1) m' H') ∧ ∀ x H', (Itk d o kvs).yld k H x H' → gName i x (wipe σ [i]) H' fun σ2 H2 => wipe σ2 [i] = wipe σ [i] ∧ wBkT X Vn G' c scope σ2 H2 fun b H3 =>
      if b = true then wBk X Vn G' elt scope σ2 H3 fun y H4 => ∃ acc, H4 D = some (.lst acc) ∧ acc.length < sizeLine ∧ Nx (upd H4 D (.lst (acc ++ [y]))) else Nx H3) := by
  obtain ⟨Pv, h0, hl, hs, hd⟩ := q
  refine ⟨fun k m H => m = kvs.length - k ∧ k ≤ kvs.length ∧ Pv k H, ⟨kvs.length, rfl, Nat.zero_le _, h0⟩, ?_⟩
  rintro k m H ⟨rfl, hk, p⟩
  have fz := hl k H hk p
  by_cases lt : k < kvs.length
  · refine .inr ⟨⟨fz, lt⟩, Pv (k + 1), fun H' p' => ⟨kvs.length - (k + 1), by omega, rfl, lt, p'⟩, fun x H' y => ?_⟩
    obtain ⟨rfl, ky, v, hkv, rfl⟩ := y
    exact turn1_of (hs k ky v _ hkv p)
  · have ek : k = kvs.length := by omega
    subst ek
    exact .inl ⟨⟨fz, Nat.le_refl _⟩, hd H p⟩
theorem e_lcLf {i : Nat} {x : Str} {px : Pos} (B : BkOk X.N Vn G' i x sc scope)
    (q : wE X a σ H fun v H1 => ∃ ad xs, v = .ref ad ∧ SqL X.K H1 ad xs ∧ ∀ D, H1 D = none → LcLf X Vn G' elt c scope i ad xs D σ H1 fun H2 => Q (.ref D) H2)
    (I : In X N G sc := by assumption) (hc : X.calm = true := by rfl) (hs2 : ∀ z, foldedSetIterable a X.env z = pure z := by intro _; rfl) :
    wE X (.ListComp elt [⟨.Name x px, a, [c], 0⟩] scope pos) σ H Q := by
  refine e_of (pe_lc (own := [(x, i)]) (g := gName i) (tt := wBkT X Vn G' c scope) (te := wBk X Vn G' elt scope) hc I.nd (pi_list pe) (B.ok I) (fun s H C cl fp => B.pg I s H C cl fp) (fun s H C cl fp => pts_bk (B.inB I s H C cl fp)) (fun s H C cl fp => pe_bk (B.inB I s H C cl fp)) hs2) (e_mono q fun v H1 q1 => ?_)
  obtain ⟨ad, xs, rfl, hl, q2⟩ := q1
  exact ⟨ad, rfl, ⟨xs, hl⟩, fun D hD => lcLf_of (q2 D hD)⟩
theorem s_lcLf {nx : L2.St → Hp → Prop} {rt : VK} {bk ct : L2.St → Hp → Prop} {i j : Nat} {x y : Str} {px py spos : Pos} (B : BkOk X.N Vn G' i x sc scope)
    (q : wE X a σ H fun v H1 => ∃ ad xs, v = .ref ad ∧ SqL X.K H1 ad xs ∧ ∀ D, H1 D = none → LcLf X Vn G' elt c scope i ad xs D σ H1 fun H2 => nx (σ.set j (some (.ref D))) H2)
    (I : In X N G sc := by assumption) (hc : X.calm = true := by rfl) (hA : At N j y := by repeat (first | with_reducible apply At.z | with_reducible apply At.s))
    (hk : X.env.scope.kind = .function := by rfl) (hy : X.env.scope.names.lookup y = some .local := by rfl) (hl : (py.line == pos.line) = true := by rfl) (ha : (scope.names.any fun (n, k) => n == y && (k == .local || k == .cell)) = false := by decide +kernel) (hs2 : ∀ z, foldedSetIterable a X.env z = pure z := by intro _; rfl) :
    wS X (.Assign [.Name y py] (.ListComp elt [⟨.Name x px, a, [c], 0⟩] scope pos) spos) ⟨nx, rt, bk, ct⟩ σ H := by
  refine s_of (ps_setLc (own := [(x, i)]) (g := gName i) (tt := wBkT X Vn G' c scope) (te := wBk X Vn G' elt scope) hc I.nd (I.hi hA) hy (sw_true hk hy hl ha) (pi_list pe) (B.ok I) (fun s H C cl fp => B.pg I s H C cl fp) (fun s H C cl fp => pts_bk (B.inB I s H C cl fp)) (fun s H C cl fp => pe_bk (B.inB I s H C cl fp)) hs2) (e_mono q fun v H1 q1 => ?_)
  obtain ⟨ad, xs, rfl, hl, q2⟩ := q1
  exact ⟨ad, rfl, ⟨xs, hl⟩, fun D hD => lcLf_of (q2 D hD)⟩
/-- [elt for x in d if c], d a dict that stands at ad -/
theorem e_lcDf {i : Nat} {x : Str} {px : Pos} {ad : Addr} {kvs : List (Key × L2.V)} (B : BkOk X.N Vn G' i x sc scope) (hd : H ad = some (.dK kvs))
    (q : ∀ o, wE X a σ (upd H ad (.frz o (.dK kvs))) fun v H1 => v = .ref ad ∧ H1 ad = some (.frz o (.dK kvs)) ∧ ∀ D, H1 D = none → LcDf X Vn G' elt c scope i ad o kvs D σ H1 fun H2 => H2 ad = some (.frz o (.dK kvs)) ∧ Q (.ref D) (upd H2 ad (.dK kvs)))
    (I : In X N G sc := by assumption) (hc : X.calm = true := by rfl) (hs2 : ∀ z, foldedSetIterable a X.env z = pure z := by intro _; rfl) :
    wE X (.ListComp elt [⟨.Name x px, a, [c], 0⟩] scope pos) σ H Q := by
  refine e_of (pe_lock (pe_lc (own := [(x, i)]) (g := gName i) (tt := wBkT X Vn G' c scope) (te := wBk X Vn G' elt scope) hc I.nd (pi_keys pe) (B.ok I) (fun s H C cl fp => B.pg I s H C cl fp) (fun s H C cl fp => pts_bk (B.inB I s H C cl fp)) (fun s H C cl fp => pe_bk (B.inB I s H C cl fp)) hs2)) ?_
  refine ⟨ad, .dK kvs, hd, trivial, fun o => e_mono (q o) fun v H1 q1 => ?_⟩
  obtain ⟨rfl, h1, q2⟩ := q1
  exact ⟨ad, o, rfl, .inl ⟨kvs, h1, fun D hD => lcDf_of (q2 D hD)⟩⟩
end
end Wk
namespace Wk
open PySem PySem.Spec PyProof.Rows L2
section
variable {X : Cx} {e a b c elt kx vx o : Expr} {es rest : List Expr} {σ : L2.St} {H : Hp} {Q : VK} {pos p0 apos : Pos} {N G G' : List Str} {Vn : List (Nat × Str)} {sc scope : Scope}
theorem sw_trueD {gs : List Comprehension} {py : Pos} {y : Str} {l : Nat} {env : Env} (hk : env.scope.kind = .function) (hy : env.scope.names.lookup y = some .local) (hl : (py.line == pos.line) = true)
    (ha : (scope.names.any fun (n, k) => n == y && (k == .local || k == .cell)) = false) : swapsWith (.DictComp kx vx gs scope pos) (some (.Name y py)) l env = pure true := by
  have ky : env.kindOf y = some .local := hy
  have hb : env.blockKind = .function := by unfold Env.blockKind; rw [hk]; rfl
  unfold swapsWith
  simp only [hb, ky, ha, Expr.pos, hl]
  rfl
theorem ps_setDc {i : Nat} {y : Str} {py : Pos} {tg iter : Expr} {ifs : List Expr} {own : List (Str × Nat)} {spos : Pos} {wi : TI} {g : TG} {tt : TT} {tk tv : TE} (hc : X.calm = true) (hN : X.N.Nodup) (hy : X.N[i]? = some y) (hyl : X.env.scope.names.lookup y = some .local)
    (hsw : swapsWith (.DictComp kx vx [⟨tg, iter, ifs, 0⟩] scope pos) (some (.Name y py)) spos.line X.env = pure true) (hi : PI X tg iter wi) (ok : BlkOk X.N X.env.scope scope own)
    (hg : ∀ (s : Shared) (H : Hp) (C : Addr) (cl : List (Str × Addr)) (fp : List Addr), PG (X.blk s H scope (compEnvC scope cl C X.env) fp) tg g) (ht : ∀ (s : Shared) (H : Hp) (C : Addr) (cl : List (Str × Addr)) (fp : List Addr), PTs (X.blk s H scope (compEnvC scope cl C X.env) fp) ifs tt)
    (hkx : ∀ (s : Shared) (H : Hp) (C : Addr) (cl : List (Str × Addr)) (fp : List Addr), PE (X.blk s H scope (compEnvC scope cl C X.env) fp) kx tk)
    (hvx : ∀ (s : Shared) (H : Hp) (C : Addr) (cl : List (Str × Addr)) (fp : List Addr), PE (X.blk s H scope (compEnvC scope cl C X.env) fp) vx tv) (hs : ∀ x, foldedSetIterable iter X.env x = pure x) :
    PS X (.Assign [.Name y py] (.DictComp kx vx [⟨tg, iter, ifs, 0⟩] scope pos) spos) (tAsg (tDc wi g tt tk tv (own.map (·.2))) (gName i)) := by
  refine ⟨fun pins s σ H D I h => ?_⟩
  rw [exec_Assign_Name_used _ _ _ _ hsw]
  refine wpAny_bind (wpAny_standAt (wpAny_bind ?_))
  show wpAny _ X.A (do let _ ← comprehension (.DictComp kx vx [⟨tg, iter, ifs, 0⟩] scope pos) scope X.env (firstIterPos [⟨tg, iter, ifs, 0⟩] pos) newDict false (eval iter X.env) (some (assign (.Name y py) X.env))) _ _ s
  have h : tDc wi g tt tk tv (own.map (·.2)) σ H (fun x H1 => gName i x σ H1 D.nx) := h
  refine wpAny_bind (thn (dc_core (Qf := fun _ s' => SP X pins D .next s') hc hN I hi ok hg ht hkx hvx hs h fun L C s' m H' I' q hn f => ?_) fun _ s' hq => wpAny_pure (wpAny_pure hq))
  show wpAny _ _ (assign (.Name y py) X.env (.ref L)) _ _ _
  refine wpAny_assign_Name (store_ok2 (v := V.ref L) I' hN hy (.inl hyl) rfl (fun s2 I2 ⟨ad, sb, had⟩ => ?_) (.inr hyl))
  obtain ⟨f0, f1, f2, f3, f4, f5⟩ := f
  have nC : C ≠ ad := by
    rcases had with z | z
    · rw [z]; exact f1
    · exact fun e => f4 y ad z e.symm
  exact ⟨m, hn.sameBut sb nC, fun h3 sb3 => ⟨_, H', I2.turned (t' := s2.toks) (fun b o hb e => (sb3.2 b hb).trans e) f0 f1 f3 f4 f5, q⟩⟩
/-- d = {k: v for x in a}, a a list that stays -/
def DcL (X : Cx) (Vn : List (Nat × Str)) (G' : List Str) (kx vx : Expr) (scope : Scope) (i : Nat) (ad : Addr) (xs : List L2.V) (D : Addr) (σ : L2.St) (H1 : Hp) (Qd : Hp → Prop) : Prop := ∃ Pv : Nat → Hp → Prop, Pv 0 (upd H1 D (.dK [])) ∧ (∀ k H2, k ≤ xs.length → Pv k H2 → SqL X.K H2 ad xs) ∧
  (∀ k x H2, xs[k]? = some x → Pv k H2 → ∀ s0 H0 C cl fp, InB (Bk X s0 H0 scope C cl fp) Vn G' → wE (Bk X s0 H0 scope C cl fp) kx ((wipe σ [i]).set i (some x)) H2 fun y H3 => ∀ s0 H0 C cl fp, InB (Bk X s0 H0 scope C cl fp) Vn G' →
    wE (Bk X s0 H0 scope C cl fp) vx ((wipe σ [i]).set i (some x)) H3 fun z H4 => ∃ kvs ky, y = kV ky ∧ H4 D = some (.dK kvs) ∧ kvs.length < sizeLine ∧ Pv (k + 1) (upd H4 D (.dK (putK kvs ky z)))) ∧
  ∀ H2, Pv xs.length H2 → Qd H2
theorem dcL_of {i : Nat} {ad : Addr} {xs : List L2.V} {D : Addr} {H1 : Hp} {Qd : Hp → Prop} (q : DcL X Vn G' kx vx scope i ad xs D σ H1 Qd) : ∃ W : Nat → Nat → Hp → Prop, (∃ m, W 0 m (upd H1 D (.dK []))) ∧ ∀ k m H, W k m H →
    ((Itl X.K ad).stop k H ∧ Qd H) ∨ ((Itl X.K ad).go k H ∧ ∃ Nx : Hp → Prop, (∀ H', Nx H' → ∃ m', m' < m ∧ W (k + 1) m' H') ∧ ∀ x H', (Itl X.K ad).yld k H x H' → gName i x (wipe σ [i]) H' fun σ2 H2 => wipe σ2 [i] = wipe σ [i] ∧ tYes σ2 H2 fun b H3 =>
      if b = true then wBk X Vn G' kx scope σ2 H3 fun y H4 => wBk X Vn G' vx scope σ2 H4 fun z H5 => ∃ kvs k, y = kV k ∧ H5 D = some (.dK kvs) ∧ kvs.length < sizeLine ∧ Nx (upd H5 D (.dK (putK kvs k z))) else Nx H3) := by
  obtain ⟨Pv, h0, hl, hs, hd⟩ := q
  refine ⟨fun k m H => m = xs.length - k ∧ k ≤ xs.length ∧ Pv k H, ⟨xs.length, rfl, Nat.zero_le _, h0⟩, ?_⟩
  rintro k m H ⟨rfl, hk, p⟩
  have sq := hl k H hk p
  by_cases lt : k < xs.length
  · refine .inr ⟨⟨xs, xs[k], sq, by simp [lt]⟩, Pv (k + 1), fun H' p' => ⟨xs.length - (k + 1), by omega, rfl, lt, p'⟩, fun x H' y => ?_⟩
    obtain ⟨rfl, y⟩ := y
    refine ⟨wipe_set σ i _, ?_⟩
    unfold tYes
    refine iteT ?_
    unfold wBk
    intro s0 H0 C cl fp I
    exact hs k x _ (y xs sq) p s0 H0 C cl fp I
  · have ek : k = xs.length := by omega
    subst ek
    exact .inl ⟨⟨xs, sq, Nat.le_refl _⟩, hd H p⟩
theorem s_dcL {nx : L2.St → Hp → Prop} {rt : VK} {bk ct : L2.St → Hp → Prop} {i j : Nat} {x y : Str} {px py spos : Pos} (B : BkOk X.N Vn G' i x sc scope)
    (q : wE X a σ H fun v H1 => ∃ ad xs, v = .ref ad ∧ SqL X.K H1 ad xs ∧ ∀ D, H1 D = none → DcL X Vn G' kx vx scope i ad xs D σ H1 fun H2 => nx (σ.set j (some (.ref D))) H2)
    (I : In X N G sc := by assumption) (hc : X.calm = true := by rfl) (hA : At N j y := by repeat (first | with_reducible apply At.z | with_reducible apply At.s))
    (hk : X.env.scope.kind = .function := by rfl) (hy : X.env.scope.names.lookup y = some .local := by rfl) (hl : (py.line == pos.line) = true := by rfl) (ha : (scope.names.any fun (n, k) => n == y && (k == .local || k == .cell)) = false := by decide +kernel) (hs2 : ∀ z, foldedSetIterable a X.env z = pure z := by intro _; rfl) :
    wS X (.Assign [.Name y py] (.DictComp kx vx [⟨.Name x px, a, [], 0⟩] scope pos) spos) ⟨nx, rt, bk, ct⟩ σ H := by
  refine s_of (ps_setDc (own := [(x, i)]) (g := gName i) (tt := tYes) (tk := wBk X Vn G' kx scope) (tv := wBk X Vn G' vx scope) hc I.nd (I.hi hA) hy (sw_trueD hk hy hl ha) (pi_list pe) (B.ok I) (fun s H C cl fp => B.pg I s H C cl fp) (fun _ _ _ _ _ => pts_nil) (fun s H C cl fp => pe_bk (B.inB I s H C cl fp)) (fun s H C cl fp => pe_bk (B.inB I s H C cl fp)) hs2) (e_mono q fun v H1 q1 => ?_)
  obtain ⟨ad, xs, rfl, hl, q2⟩ := q1
  exact ⟨ad, rfl, ⟨xs, hl⟩, fun D hD => dcL_of (q2 D hD)⟩
theorem e_dcL {i : Nat} {x : Str} {px : Pos} (B : BkOk X.N Vn G' i x sc scope)
    (q : wE X a σ H fun v H1 => ∃ ad xs, v = .ref ad ∧ SqL X.K H1 ad xs ∧ ∀ D, H1 D = none → DcL X Vn G' kx vx scope i ad xs D σ H1 fun H2 => Q (.ref D) H2)
    (I : In X N G sc := by assumption) (hc : X.calm = true := by rfl) (hs2 : ∀ z, foldedSetIterable a X.env z = pure z := by intro _; rfl) :
    wE X (.DictComp kx vx [⟨.Name x px, a, [], 0⟩] scope pos) σ H Q := by
  refine e_of (pe_dc (own := [(x, i)]) (g := gName i) (tt := tYes) (tk := wBk X Vn G' kx scope) (tv := wBk X Vn G' vx scope) hc I.nd (pi_list pe) (B.ok I) (fun s H C cl fp => B.pg I s H C cl fp) (fun _ _ _ _ _ => pts_nil) (fun s H C cl fp => pe_bk (B.inB I s H C cl fp)) (fun s H C cl fp => pe_bk (B.inB I s H C cl fp)) hs2) (e_mono q fun v H1 q1 => ?_)
  obtain ⟨ad, xs, rfl, hl, q2⟩ := q1
  exact ⟨ad, rfl, ⟨xs, hl⟩, fun D hD => dcL_of (q2 D hD)⟩
/-- for x, y, z in t, a tuple of triples -/
theorem s_forT3 {nx : L2.St → Hp → Prop} {rt : VK} {bk ct : L2.St → Hp → Prop} {x y z : Str} {i j k : Nat} {body : List Stmt} {px py pz pt : Pos} {kk : Nat}
    (q : wE X a σ H fun v H1 => ∃ ad xs, v = .ref ad ∧ SqT X.K H1 ad xs ∧ ∃ Pv : Nat → L2.St → Hp → Prop, Pv 0 σ H1 ∧ (∀ n σ H, n ≤ xs.length → Pv n σ H → SqT X.K H ad xs) ∧
      (∀ n u σ H, xs[n]? = some u → Pv n σ H → ∃ t u1 u2 u3, u = .ref t ∧ SqT X.K H t [u1, u2, u3] ∧ wL X body ⟨Pv (n + 1), rt, nx, Pv (n + 1)⟩ (((σ.set i (some u1)).set j (some u2)).set k (some u3)) H) ∧ ∀ σ H, Pv xs.length σ H → nx σ H)
    (I : In X N G sc := by assumption) (hc : X.calm = true := by rfl) (hA : At N i x := by repeat (first | with_reducible apply At.z | with_reducible apply At.s)) (hB : At N j y := by repeat (first | with_reducible apply At.z | with_reducible apply At.s)) (hC : At N k z := by repeat (first | with_reducible apply At.z | with_reducible apply At.s))
    (hs2 : ∀ z, foldedSetIterable a X.env z = pure z := by intro _; rfl) :
    wS X (.For (.Tuple [.Name x px, .Name y py, .Name z pz] kk pt) a body [] pos) ⟨nx, rt, bk, ct⟩ σ H := by
  refine s_of (ps_for I.never hc (pi_tup pe) (pg_tup hc (pgs_cons (pg_name I.nd (I.hi hA) (I.loc hA) I.f) (pgs_cons (pg_name I.nd (I.hi hB) (I.loc hB) I.f) (pgs_cons (pg_name I.nd (I.hi hC) (I.loc hC) I.f) pgs_nil)))) pl hs2) (e_mono q fun v H1 q1 => ?_)
  obtain ⟨ad, xs, rfl, hl, Pv, h0, hk, hb, hd⟩ := q1
  refine ⟨ad, rfl, ⟨xs, hl⟩, for_tup Pv h0 hk (fun n u σ H hu p => ?_) hd⟩
  obtain ⟨t, u1, u2, u3, rfl, hq, z⟩ := hb n u σ H hu p
  exact ⟨t, [u1, u2, u3], rfl, hq, rfl, u1, [u2, u3], rfl, u2, [u3], rfl, u3, [], rfl, rfl, z⟩
end
end Wk

set_option maxHeartbeats 4000000
/-! My own layer: dicts, membership, least and greatest of a list, and the like. -/
namespace Wk
open PySem PySem.Spec PyProof.Rows L2
section
variable {X : Cx} {e a b c f o i : Expr} {es rest : List Expr} {σ : L2.St} {H : Hp} {Q : VK} {pos p0 apos : Pos} {N G G' : List Str} {Vn : List (Nat × Str)} {sc scope : Scope} {n : Nat}
theorem e_dg (hr : Room n X.A) (q : wE X o σ H fun x H1 => wE X i σ H1 fun y H2 => ∃ a v, x = .ref a ∧ DGet H2 a y (some v) ∧ Q v H2) (hs : NoSl i := by intro _ _; rfl) : wE X (.Subscript o i pos) σ H Q := e_of (pe_dget (hu_of hr) pe pe hs) q
theorem dg_k {ad : Addr} {kvs : List (Key × L2.V)} {z : Str} {v : L2.V} (h : H ad = some (.dK kvs)) (e : valV kvs (Sum.inr z) = some v) : DGet H ad (.str z) (some v) := by
  have g := DGet.k (k := (Sum.inr z : Key)) h
  rw [e] at g
  exact g
theorem dg_f {ad : Addr} {ob : Obj} {kvs : List (Key × L2.V)} {z : Str} {v : L2.V} (h : H ad = some (.frz ob (.dK kvs))) (e : valV kvs (Sum.inr z) = some v) : DGet H ad (.str z) (some v) :=
  .inl ⟨kvs, Sum.inr z, .inr ⟨ob, h⟩, rfl, e.symm⟩
theorem e_dget2 (hr : Room n X.A) (q : wE X o σ H fun x H1 => ∃ a, x = .ref a ∧ IsD H1 a ∧ wE X e σ H1 fun y H2 => wE X f σ H2 fun z H3 => ∃ o, DGet H3 a y o ∧ Q (o.getD z) H3)
    (m : M2 X o "get" apos e f pos := by exact ⟨rfl, rfl, rfl, rfl⟩) : wE X (.Call (.Attribute o "get" apos) [e, f] [] pos) σ H Q := e_of (pe_dget2 (hu_of hr) pe pe pe m) q
theorem e_dnew (q : ∀ p, H p = none → Q (.ref p) (upd H p (.dK []))) : wE X (.Dict [] [] pos) σ H Q := e_of pe_dnewK q
theorem o_in {x : L2.V} {p : Addr} {xs : List L2.V} (h : SqL X.K H p xs) (hx : flatV x = true) (hs : xs.all flatV = true) (q : Q (.bl (inV x xs)) H) : wK X .In x (.ref p) H Q := k_of op_in_seq ⟨p, xs, rfl, .inl h, hx, hs, q⟩
theorem o_nin {x : L2.V} {p : Addr} {xs : List L2.V} (h : SqL X.K H p xs) (hx : flatV x = true) (hs : xs.all flatV = true) (q : Q (.bl (!inV x xs)) H) : wK X .NotIn x (.ref p) H Q := k_of op_notIn_seq ⟨p, xs, rfl, .inl h, hx, hs, q⟩
theorem o_inS {c : Nat} {z : Str} (q : Q (.bl (decide (c ∈ z.cps.toList))) H) : wK X .In (.str ⟨#[c]⟩) (.str z) H Q := k_of op_in_sign ⟨c, z, rfl, rfl, q⟩
theorem c_minL {p : Addr} {ns : List Int} (hc : X.calm = true) (h : SqL X.K H p (ns.map V.int)) (h0 : 0 < ns.length) {m0 : Int} (h1 : m0 ∈ ns) (h2 : ∀ y ∈ ns, m0 ≤ y) (q : Q (.int m0) H) : wC X (.builtin "min") [.ref p] H Q :=
  c_of (cr_min hc) ⟨p, ns, rfl, h, h0, fun m hm hle => by
    have e : m = m0 := Int.le_antisymm (hle m0 h1) (h2 m hm)
    rw [e]
    exact q⟩
theorem c_maxL {p : Addr} {ns : List Int} (hc : X.calm = true) (h : SqL X.K H p (ns.map V.int)) (h0 : 0 < ns.length) {m0 : Int} (h1 : m0 ∈ ns) (h2 : ∀ y ∈ ns, y ≤ m0) (q : Q (.int m0) H) : wC X (.builtin "max") [.ref p] H Q :=
  c_of (cr_max hc) ⟨p, ns, rfl, h, h0, fun m hm hle => by
    have e : m = m0 := Int.le_antisymm (h2 m hm) (hle m0 h1)
    rw [e]
    exact q⟩
theorem c_setTx {l : Addr} {zs : List Str} (hc : X.calm = true) (h : SqL X.K H l (zs.map V.str)) (hb : zs.length + 1 < scanBound) (q : ∀ p, H p = none → Q (.ref p) (upd H p (SetTO X.w p (uniqL zs)))) : wC X (.type "set") [.ref l] H Q := c_of (cr_setOfTx hc) ⟨l, zs, rfl, h, hb, q⟩
theorem c_sortedTx {p : Addr} {L : List Str} (hc : X.calm = true) (h : H p = some (SetTO X.w p L)) (h64 : L.length < 64) (q : ∀ (ys : List Str) (l : Addr) H2, ys.Perm L → sortedS ys = true → Same H H2 → H l = none → H2 l = some (.lst (ys.map V.str)) → Q (.ref l) H2) : wC X (.builtin "sorted") [.ref p] H Q :=
  c_of (cr_sortedTx hc) ⟨p, L, rfl, h, h64, fun ys l pm hs np => q ys l _ pm hs (fun b o eo => by rw [upd_ne (ne_of_none eo np)]; exact eo) np upd_same⟩
theorem c_sortedL {p : Addr} {zs : List Str} (h : SqL X.K H p (zs.map V.str)) (h64 : zs.length < 64) (q : ∀ (ys : List Str) (l : Addr) H2, ys.Perm zs → sortedS ys = true → Same H H2 → H l = none → H2 l = some (.lst (ys.map V.str)) → Q (.ref l) H2) : wC X (.builtin "sorted") [.ref p] H Q :=
  c_of cr_sortedS ⟨p, zs, rfl, h, h64, fun ys l pm hs np => q ys l _ pm hs (fun b o eo => by rw [upd_ne (ne_of_none eo np)]; exact eo) np upd_same⟩
theorem c_tupL {p : Addr} {xs : List L2.V} (h : SqL X.K H p xs) (q : ∀ l H2, Same H H2 → H l = none → H2 l = some (.tup xs) → Q (.ref l) H2) : wC X (.type "tuple") [.ref p] H Q :=
  c_of call_tuple_of ⟨p, xs, rfl, .inl ⟨h, fun l np => q l _ (fun b o eo => by rw [upd_ne (ne_of_none eo np)]; exact eo) np upd_same⟩⟩
theorem c_strI {k : Int} (h : k.natAbs.log2 < 1920) (q : Q (.str (toString k)) H) : wC X (.type "str") [.int k] H Q := c_of call_str_int ⟨k, rfl, h, q⟩
theorem c_intB {k : Bool} (q : Q (.int (if k then 1 else 0)) H) : wC X (.type "int") [.bl k] H Q := c_of call_int1 (.inr ⟨k, rfl, q⟩)
theorem e_tupRev {g1 g2 : Nat} {p p2 pos2 : Pos} (hm : X.mg "tuple" = none) (hm2 : X.mg "reversed" = none) (q : wE X e σ H fun v H1 => ∃ (a : Addr) (xs : List L2.V), v = .ref a ∧ SqT X.K H1 a xs ∧ ∀ q H2, Same H1 H2 → H1 q = none → H2 q = some (.tup xs.reverse) → Q (.ref q) H2)
    (I : In X N G sc := by assumption) (hc : X.calm = true := by rfl) (hG : At G g1 ("tuple" : Str) := by repeat (first | with_reducible apply At.z | with_reducible apply At.s)) (hG2 : At G g2 ("reversed" : Str) := by repeat (first | with_reducible apply At.z | with_reducible apply At.s))
    (hs : starEach [e] X.env = (false, eval e X.env) :: starEach [] X.env := by rfl) (hs2 : starEach [.Call (.Name "reversed" p2) [e] [] pos2] X.env = (false, eval (.Call (.Name "reversed" p2) [e] [] pos2) X.env) :: starEach [] X.env := by rfl) :
    wE X (.Call (.Name "tuple" p) [.Call (.Name "reversed" p2) [e] [] pos2] [] pos) σ H Q :=
  e_of (pe_tupRt hc (I.g hG) hm (I.g hG2) hm2 pe hs hs2) (e_mono q fun v H1 ⟨a, xs, ev, hq, z⟩ => ⟨a, xs, ev, hq, fun l np => z l _ (fun b o eo => by rw [upd_ne (ne_of_none eo np)]; exact eo) np upd_same⟩)
theorem e_clear (q : wE X o σ H fun x H1 => ∃ l xs, x = .ref l ∧ H1 l = some (.lst xs) ∧ Q .non (upd H1 l (.lst [])))
    (hbase : attributeBase o "clear" X.env (eval o X.env) = eval o X.env := by rfl) (hline : (apos.endLine == pos.line) = true := by rfl) : wE X (.Call (.Attribute o "clear" apos) [] [] pos) σ H Q := by
  refine e_of (pe_bm0 PySem.F.plainAttrs_list PySem.F.slot_list_clear PySem.F.type_list_clear mt_clear pe hbase hline) (e_mono q fun x H1 z => ?_)
  obtain ⟨l, xs, rfl, h1, h2⟩ := z
  exact ⟨.inl ⟨rfl, _, SqL.of h1⟩, l, xs, rfl, rfl, h1, h2⟩
theorem b_callTy {g : Nat} {x : Str} {T : String} (hm : X.mg x = none) (hv : bootBuiltins x = some (.type T)) (q : wA X (e :: es) σ H fun vs H1 => wC X (.type T) vs H1 Q) (I : InB X Vn G := by assumption) (hG : At G g x := by repeat (first | with_reducible apply At.z | with_reducible apply At.s))
    (he : starEach (e :: es) X.env = (false, eval e X.env) :: starEach es X.env := by rfl) (hpl : (backTo pos (starEach es X.env)).any (·.1) = false := by rfl) : wE X (.Call (.Name x p0) (e :: es) [] pos) σ H Q := e_of (pe_callTy cr (I.g hG) hm hv pa (I.gn hG) (I.gd hG) he hpl) q
theorem b_bltn {g : Nat} {x : Str} {v : L2.V} {u : Value} (hm : X.mg x = none) (hv : bootBuiltins x = some u) (r : RelV v u) (q : Q v H) (I : InB X Vn G := by assumption) (hG : At G g x := by repeat (first | with_reducible apply At.z | with_reducible apply At.s)) : wE X (.Name x pos) σ H Q := e_of (pe_bltn (I.g hG) hm hv r (I.gn hG) (I.gd hG)) q
theorem o_eqD {x y : L2.V} {d e : PyData} (hr : Room n X.A) (h1 : Dp X.K H x d) (h2 : Dp X.K H y e) (s1 : SeqAt.shaped d = true) (s2 : SeqAt.shaped e = true) (q : Q (.bl (PyData.eqv d e)) H) : wK X .Eq x y H Q := k_of (op_eqD hr.units) ⟨d, e, h1, h2, s1, s2, q⟩
theorem o_neD {x y : L2.V} {d e : PyData} (hr : Room n X.A) (h1 : Dp X.K H x d) (h2 : Dp X.K H y e) (s1 : SeqAt.shaped d = true) (s2 : SeqAt.shaped e = true) (q : Q (.bl (!PyData.eqv d e)) H) : wK X .NotEq x y H Q := k_of (op_neD hr.units) ⟨d, e, h1, h2, s1, s2, q⟩
theorem b_set : bootBuiltins "set" = some (.type "set") := by decide +kernel
theorem b_sorted : bootBuiltins "sorted" = some (.builtin "sorted") := by decide +kernel
theorem ixr_d (hu : X.A.units + 1 < cLine) : IxR X (fun x y H Q => ∃ a v, x = .ref a ∧ DGet H a y (some v) ∧ Q v H) := by
  intro value slice pins s σ H x y v u Q I rx ry h hs
  obtain ⟨ad, z, rfl, g, q⟩ := h
  cases rx
  have hT := dict_typeIs I g
  unfold subscriptTail
  refine wpAny_bind ?_
  rw [getitemInPython_of_ne hT.not_modules]
  refine wpAny_bind (wpAny_specialOf hT PySem.F.slot_dict_getitem.lookup ?_)
  have fin : wpAny (model X.prog X.w) X.A (subscripted slice false (.ref ad) u) (fun r s3 => wpAny (model X.prog X.w) X.A (letTemporaryGo value (.ref ad) r >>= fun _ => pure r) (EP X pins σ Q) X.xe s3) X.xe s := by
    rw [hs]
    refine wpAny_operating (d_getItem hu I g ry fun w2 s2 I2 r2 => wpAny_bind (wpAny_letTemporaryGo (wpAny_pure ?_)))
    exact ⟨z, H, I2, r2, q⟩
  first
    | exact wpAny_pure (wpAny_bind fin)
    | exact wpAny_bind fin
    | exact wpAny_pure fin
theorem ix_d {x y : L2.V} (hr : Room n X.A) (q : ∃ a v, x = .ref a ∧ DGet H a y (some v) ∧ Q v H) : wIx X x y H Q := ix_of (ixr_d (hu_of hr)) q
end
end Wk

set_option maxHeartbeats 4000000
/-! My own layer: dicts of the module's top, comprehensions over a tuple with a test, slices of tuples, xs[::-1], extend, reversed, displayed dicts, copies and == of dicts, walks over a dict. -/
namespace Wk
open PySem PySem.Spec PyProof.Rows L2
/-- a dict of the module's top, its keys ints and texts -/
def KDict (w : World) (K : PySem.W.Frag) (D : Addr) (kvs : List (Key × L2.V)) : Prop := ∃ (o : Obj) (vs : List (Key × Value)), K.lookup D = some o ∧ KV kvs vs ∧ ∀ P, PySem.Obj.IsDictOf (mixKind P w) o vs
theorem pairs_mk {P : Program} {w : World} : ∀ (ts : List (Str × Tok × Value)), Pairs (mixKind P w) (ts.map fun x => (⟨hashStr w x.1, .str x.1 x.2.1, x.2.2⟩ : DictEntry)) (ts.map fun x => ((Sum.inr x.1 : Key), x.2.2))
  | [] => .nil
  | t :: ts => .cons (mixKind_str P w _ _) rfl (pairs_mk ts)
theorem kdict_mk {w : World} {K : PySem.W.Frag} {D : Addr} {o : Obj} {n : Nat} {kvs : List (Key × L2.V)} (ts : List (Str × Tok × Value)) (l : K.lookup D = some o) (hx : o.ExactDict) (hd : o.data = .dict (ts.map fun x => (⟨hashStr w x.1, .str x.1 x.2.1, x.2.2⟩ : DictEntry)).toArray n)
    (hk : KV kvs (ts.map fun x => ((Sum.inr x.1 : Key), x.2.2))) (nd : (ts.map (·.1)).Nodup) : KDict w K D kvs := by
  refine ⟨o, _, l, hk, fun P => ⟨_, n, hx, hd, ?_, ?_, ?_⟩⟩
  · intro e he
    obtain ⟨t, ht, rfl⟩ := List.mem_map.mp (List.mem_toArray.mp he)
    exact ⟨Sum.inr t.1, mixKind_str P w _ _, rfl⟩
  · rw [List.toList_toArray]
    exact pairs_mk ts
  · rw [List.map_map]
    have e : (ts.map ((fun x : Key × Value => x.1) ∘ fun x : Str × Tok × Value => ((Sum.inr x.1 : Key), x.2.2))) = (ts.map (·.1)).map Sum.inr := by rw [List.map_map]; rfl
    rw [e]
    exact List.pairwise_map.mpr (List.Pairwise.imp (fun h e => h (Sum.inr.inj e)) nd)
section
variable {X : Cx} {e a b c elt : Expr} {es rest : List Expr} {σ : L2.St} {H : Hp} {Q : VK} {pos p0 : Pos} {N G G' : List Str} {Vn : List (Nat × Str)} {sc scope : Scope}
theorem ixr_kd : IxR X (fun x y H Q => ∃ a kvs z v, x = .ref a ∧ y = .str z ∧ KDict X.w X.K a kvs ∧ valV kvs (Sum.inr z) = some v ∧ Q v H) := by
  intro value slice pins s σ H x y v u Q I rx ry h hs
  obtain ⟨ad, kvs, z, v0, rfl, rfl, ⟨o, vs, hl, hkv, hd⟩, hv, q⟩ := h
  cases rx
  have dd : s.heap.DictOf (mixKind X.prog X.w) ad vs := Heap.dictOf_iff.mpr ⟨o, I.kIn ad o hl, hd X.prog⟩
  have hT := dd.typeIs
  unfold subscriptTail
  refine wpAny_bind ?_
  rw [getitemInPython_of_ne hT.not_modules]
  refine wpAny_bind (wpAny_specialOf hT PySem.F.slot_dict_getitem.lookup ?_)
  obtain ⟨w', hw, rw'⟩ := RelO.some_of (v := v0) (o := valueAt vs (Sum.inr z)) (by rw [← hv]; exact hkv.val (Sum.inr z))
  have fin : wpAny (model X.prog X.w) X.A (subscripted slice false (.ref ad) u) (fun r s3 => wpAny (model X.prog X.w) X.A (letTemporaryGo value (.ref ad) r >>= fun _ => pure r) (EP X pins σ Q) X.xe s3) X.xe s := by
    rw [hs]
    refine wpAny_operating (wpAny_getItem_of (knd := mixKind X.prog X.w) (k := (Sum.inr z : Key)) (kV_is (k := Sum.inr z) ry) dd.mapOf hw ?_)
    refine wpAny_bind (wpAny_letTemporaryGo (wpAny_pure ?_))
    exact ⟨v0, H, I.tok _, rw', q⟩
  first
    | exact wpAny_pure (wpAny_bind fin)
    | exact wpAny_bind fin
    | exact wpAny_pure fin
theorem ix_kd {D : Addr} {kvs : List (Key × L2.V)} {z : Str} {v : L2.V} (h : KDict X.w X.K D kvs) (e : valV kvs (Sum.inr z) = some v) (q : Q v H) : wIx X (.ref D) (.str z) H Q := ix_of ixr_kd ⟨D, kvs, z, v, rfl, rfl, h, e, q⟩
theorem o_inT {x : L2.V} {p : Addr} {xs : List L2.V} (h : SqT X.K H p xs) (hx : flatV x = true) (hs : xs.all flatV = true) (q : Q (.bl (inV x xs)) H) : wK X .In x (.ref p) H Q := k_of op_in_seq ⟨p, xs, rfl, .inr h, hx, hs, q⟩
theorem o_catA {p r : Addr} {xs ys : List L2.V} (h1 : H p = some (.tup xs)) (h2 : H r = some (.tup ys)) (hz : xs.length + ys.length ≤ 200000) (q : ∀ t H2, Same H H2 → H2 t = some (.tup (xs ++ ys)) → Q (.ref t) H2) : wB X .Add (.ref p) (.ref r) H Q := by
  refine b_of op_catA ⟨p, r, xs, ys, rfl, rfl, SqT.of h1, SqT.of h2, by show _ ≤ 2 ^ 24; omega, fun e => ?_, fun _ e => ?_, fun _ _ t ht => ?_⟩
  · subst e
    exact q r H (Same.refl H) h2
  · subst e
    refine q p H (Same.refl H) ?_
    rw [List.append_nil]
    exact h1
  · exact q t _ (fun c u eo => by rw [upd_ne (ne_of_none eo ht)]; exact eo) upd_same
theorem cut_hi {xs ys : List L2.V} : cutV (xs ++ ys) none (some (xs.length : Int)) = xs := by
  unfold cutV
  rw [HT.sIx_none, HT.sIx_nat, List.length_append, Nat.min_eq_left (by omega), List.drop_zero, Nat.sub_zero, List.take_left]
theorem cut_lo {xs ys : List L2.V} : cutV (xs ++ ys) (some (xs.length : Int)) none = ys := by
  unfold cutV
  rw [HT.sIx_none, HT.sIx_nat, List.length_append, Nat.min_eq_left (by omega), List.drop_left, Nat.add_sub_cancel_left, List.take_length]
/-- t[:k] of t = xs ++ ys, k the length of xs -/
theorem e_tHi (q : wE X e σ H fun x H1 => wE X b σ H1 fun y H2 => ∃ p xs ys, x = .ref p ∧ y = .int (xs.length : Int) ∧ H2 p = some (.tup (xs ++ ys)) ∧ ∀ t H3, Same H2 H3 → H3 t = some (.tup xs) → Q (.ref t) H3) {p2 : Pos} : wE X (.Subscript e (.Slice none (some b) none p2) pos) σ H Q := by
  refine e_slL1 sl_tupA (e_mono q fun x H1 z => e_mono z fun y H2 ⟨p, xs, ys, ex, ey, ht, q⟩ => ⟨_, ey, p, xs ++ ys, ex, SqT.of ht, fun hw => ?_, fun _ t nt => ?_⟩)
  · refine q p H2 (Same.refl H2) ?_
    have e : xs ++ ys = xs := by
      have h2 := hw.2
      rw [HT.sIx_nat, List.length_append] at h2
      have : ys = [] := by
        cases ys with
        | nil => rfl
        | cons y ys => simp only [List.length_cons] at h2; omega
      rw [this, List.append_nil]
    rw [e] at ht
    exact ht
  · refine q t _ (fun c u eo => by rw [upd_ne (ne_of_none eo nt)]; exact eo) ?_
    rw [cut_hi]
    exact upd_same
theorem e_tLo (q : wE X e σ H fun x H1 => wE X a σ H1 fun y H2 => ∃ p xs ys, x = .ref p ∧ y = .int (xs.length : Int) ∧ H2 p = some (.tup (xs ++ ys)) ∧ ∀ t H3, Same H2 H3 → H3 t = some (.tup ys) → Q (.ref t) H3) {p2 : Pos} : wE X (.Subscript e (.Slice (some a) none none p2) pos) σ H Q := by
  refine e_slL0 sl_tupA (e_mono q fun x H1 z => e_mono z fun y H2 ⟨p, xs, ys, ex, ey, ht, q⟩ => ⟨_, ey, p, xs ++ ys, ex, SqT.of ht, fun hw => ?_, fun _ t nt => ?_⟩)
  · refine q p H2 (Same.refl H2) ?_
    have e : xs ++ ys = ys := by
      have h2 := hw.1
      rw [HT.sIx_nat, List.length_append] at h2
      have : xs = [] := by
        cases xs with
        | nil => rfl
        | cons y xs => simp only [List.length_cons] at h2; omega
      rw [this, List.nil_append]
    rw [e] at ht
    exact ht
  · refine q t _ (fun c u eo => by rw [upd_ne (ne_of_none eo nt)]; exact eo) ?_
    rw [cut_lo]
    exact upd_same
theorem e_rev {k : Nat} {p1 p2 p3 : Pos} (q : wE X e σ H fun x H1 => ∃ p xs, x = .ref p ∧ SqL X.K H1 p xs ∧ ∀ t H2, Same H1 H2 → H1 t = none → H2 t = some (.lst xs.reverse) → Q (.ref t) H2) : wE X (.Subscript e (.Slice none none (some (.UnaryOp .USub (.Constant (.int 1) k p1) p2)) p3) pos) σ H Q :=
  e_of (pe_revL pe) (e_mono q fun x H1 ⟨p, xs, ex, h, q⟩ => ⟨p, xs, ex, h, fun t nt => q t _ (fun c u eo => by rw [upd_ne (ne_of_none eo nt)]; exact eo) nt upd_same⟩)
theorem e_ext {o : Expr} {apos : Pos} (q : wE X o σ H fun x H1 => ∃ l xs0, x = .ref l ∧ SqL X.K H1 l xs0 ∧ wE X e σ H1 fun y H2 => ∃ r xs zs, y = .ref r ∧ H2 l = some (.lst xs) ∧ H2 r = some (.lst zs) ∧ xs.length + zs.length ≤ 200000 ∧ Q .non (upd H2 l (.lst (xs ++ zs))))
    (hbase : attributeBase o "extend" X.env (eval o X.env) = eval o X.env := by rfl)
    (hfew : ((backTo pos (starEach (e :: []) X.env)).all (fun x => !x.1) && (backToKw pos (keywordEach [] X.env)).all (fun x => x.1.isSome)
      && decide ((e :: []).length + ([] : List Keyword).length + (if ([] : List Keyword).isEmpty then 0 else 1) < 30)) = true := by rfl)
    (hline : (apos.endLine == pos.line) = true := by rfl) (hs : starEach (e :: []) X.env = (false, eval e X.env) :: starEach [] X.env := by rfl) (hplain : (backTo pos (starEach [] X.env)).any (·.1) = false := by rfl) :
    wE X (.Call (.Attribute o "extend" apos) [e] [] pos) σ H Q := by
  refine e_of (pe_bm PySem.F.plainAttrs_list PySem.F.slot_list_extend PySem.F.type_list_extend mt_extend pe (pa_cons pe pa_nil hs) hbase hfew hline hs hplain) (e_mono q fun x H1 z => ?_)
  obtain ⟨l, xs0, rfl, hl, z⟩ := z
  refine ⟨.inl ⟨rfl, _, hl⟩, e_mono z fun y H2 z2 => ?_⟩
  obtain ⟨r, xs, zs, rfl, h1, h2, h3, h4⟩ := z2
  exact ⟨l, r, xs, zs, rfl, rfl, h1, h2, by show _ ≤ 2 ^ 24; omega, h4⟩
theorem c_dict {p : Addr} {kvs : List (Key × L2.V)} (h : H p = some (.dK kvs)) (q : ∀ t H2, Same H H2 → H t = none → H2 t = some (.dK kvs) → Q (.ref t) H2) : wC X (.type "dict") [.ref p] H Q :=
  c_of call_dictD ⟨p, kvs, rfl, .inl h, fun t nt => q t _ (fun c u eo => by rw [upd_ne (ne_of_none eo nt)]; exact eo) nt upd_same⟩
theorem c_listT {p : Addr} {xs : List L2.V} (h : H p = some (.tup xs)) (q : ∀ l H2, Same H H2 → H l = none → H2 l = some (.lst xs) → Q (.ref l) H2) : wC X (.type "list") [.ref p] H Q :=
  c_of call_list_of ⟨p, xs, rfl, .inr (SqT.of h), fun l np => q l _ (fun c u eo => by rw [upd_ne (ne_of_none eo np)]; exact eo) np upd_same⟩
theorem c_listDn {p : Addr} {kvs : List (Key × L2.V)} (hc : X.calm = true) (h : H p = some (.dK kvs)) (q : ∀ l H2, Same H H2 → H l = none → H2 l = some (.lst (kvs.map fun kv => kV kv.1)) → Q (.ref l) H2) : wC X (.type "list") [.ref p] H Q :=
  c_of (call_list_dK hc) ⟨p, kvs, rfl, h, fun l np => q l _ (fun c u eo => by rw [upd_ne (ne_of_none eo np)]; exact eo) np upd_same⟩
theorem o_eqDt {n : Nat} {p r : Addr} {ks ls : List (Key × L2.V)} (hr : Room n X.A) (h1 : H p = some (.dK ks)) (h2 : H r = some (.dK ls)) (hl : ks.length = ls.length) (hv : ∀ p ∈ ks, valV ls p.1 = some p.2 ∧ flatB p.2 = true) (q : Q (.bl true) H) : wK X .Eq (.ref p) (.ref r) H Q :=
  k_of (op_eq_dictA (by have := hr.units; omega)) ⟨p, r, ks, ls, rfl, rfl, h1, h2, hl, hv, q⟩
/-- {k: v} and {k: v, k2: v2} -/
theorem e_d1 {k v : Expr} (q : ∀ p, H p = none → wE X k σ (upd H p (.dK [])) fun x H1 => wE X v σ H1 fun y H2 => H2 p = some (.dK []) ∧ ∃ z, x = .str z ∧ Q (.ref p) (upd H2 p (.dK [(Sum.inr z, y)]))) : wE X (.Dict [some k] [v] pos) σ H Q := by
  refine e_of (pe_disp (pps_cons pe pe pps_nil) rfl rfl (by simp) (by simp)) fun p np => e_mono (q p np) fun x H1 q1 => e_mono q1 fun y H2 q2 => ?_
  obtain ⟨h, z, rfl, q3⟩ := q2
  exact ⟨h, [(Sum.inr z, y)], rfl, by simp, q3⟩
theorem e_d2 {k v k2 v2 : Expr} (q : ∀ p, H p = none → wE X k σ (upd H p (.dK [])) fun x H1 => wE X v σ H1 fun y H2 => wE X k2 σ H2 fun x2 H3 => wE X v2 σ H3 fun y2 H4 => H4 p = some (.dK []) ∧ ∃ z z2, x = .str z ∧ x2 = .str z2 ∧ z ≠ z2 ∧ Q (.ref p) (upd H4 p (.dK [(Sum.inr z, y), (Sum.inr z2, y2)]))) :
    wE X (.Dict [some k, some k2] [v, v2] pos) σ H Q := by
  refine e_of (pe_disp (pps_cons pe pe (pps_cons pe pe pps_nil)) rfl rfl (by simp) (by simp)) fun p np => e_mono (q p np) fun x H1 q1 => e_mono q1 fun y H2 q2 => e_mono q2 fun x2 H3 q3 => e_mono q3 fun y2 H4 q4 => ?_
  obtain ⟨h, z, z2, rfl, rfl, ne, q5⟩ := q4
  refine ⟨h, [(Sum.inr z, y), (Sum.inr z2, y2)], rfl, by simp, ?_⟩
  have e : mergeK [] [((Sum.inr z : Key), y), (Sum.inr z2, y2)] = [(Sum.inr z, y), (Sum.inr z2, y2)] := by
    show putK (putK [] (Sum.inr z) y) (Sum.inr z2) y2 = _
    unfold putK
    simp [ne]
  rw [e]
  exact q5
/-- for x in reversed(xs), xs a list -/
theorem s_forRv {nx : L2.St → Hp → Prop} {rt : VK} {bk ct : L2.St → Hp → Prop} {g : Nat} {x : Str} {i : Nat} {body : List Stmt} {px p cp pos : Pos} (hm : X.mg "reversed" = none)
    (q : wE X a σ H fun v H1 => ∃ ad xs, v = .ref ad ∧ SqL X.K H1 ad xs ∧ ∃ Pv : Nat → L2.St → Hp → Prop, Pv 0 σ H1 ∧ (∀ k σ H, k ≤ xs.length → Pv k σ H → SqL X.K H ad xs) ∧ (∀ k y σ H, xs.reverse[k]? = some y → Pv k σ H → wL X body ⟨Pv (k + 1), rt, nx, Pv (k + 1)⟩ (σ.set i (some y)) H) ∧ ∀ σ H, Pv xs.length σ H → nx σ H)
    (I : In X N G sc := by assumption) (hc : X.calm = true := by rfl) (hA : At N i x := by repeat (first | with_reducible apply At.z | with_reducible apply At.s)) (hG : At G g ("reversed" : Str) := by repeat (first | with_reducible apply At.z | with_reducible apply At.s))
    (hs : starEach [a] X.env = (false, eval a X.env) :: starEach [] X.env := by rfl) (hs2 : ∀ z, foldedSetIterable (.Call (.Name "reversed" p) [a] [] cp) X.env z = pure z := by intro _; rfl) :
    wS X (.For (.Name x px) (.Call (.Name "reversed" p) [a] [] cp) body [] pos) ⟨nx, rt, bk, ct⟩ σ H := by
  refine s_of (ps_for I.never hc (RT.pi_revA (I.g hG) hm pe hs) (pg_name I.nd (I.hi hA) (I.loc hA) I.f) pl hs2) (e_mono q fun v H1 q1 => ?_)
  obtain ⟨ad, xs, rfl, hl, Pv, h0, hk, hb, hd⟩ := q1
  refine ⟨ad, xs, rfl, .inl ⟨hl, fun k m σ H => m = xs.length - k ∧ k ≤ xs.length ∧ Pv k σ H, ⟨xs.length, by simp, Nat.zero_le _, h0⟩, ?_⟩⟩
  rintro k m σ H ⟨rfl, hi, p⟩
  have q := hk k σ H hi p
  by_cases hlt : k < xs.length
  · refine .inr ⟨⟨hlt, xs, xs[xs.length - 1 - k]'(by omega), q, by simp⟩, Pv (k + 1), fun σ' H' p' => ⟨xs.length - (k + 1), by omega, rfl, hlt, p'⟩, fun x H' y => ?_⟩
    obtain ⟨e, y⟩ := y
    subst e
    refine hb k x σ _ ?_ p
    rw [List.getElem?_reverse hlt]
    exact y xs q
  · have e : k = xs.length := by omega
    subst e
    exact .inl ⟨Nat.le_refl _, hd σ H p⟩
/-- for x in d, d a dict that stands at ad -/
theorem s_forD {nx : L2.St → Hp → Prop} {rt : VK} {bk ct : L2.St → Hp → Prop} {x : Str} {i : Nat} {body : List Stmt} {px pos : Pos} {ad : Addr} {kvs : List (Key × L2.V)} (h : H ad = some (.dK kvs))
    (q : ∀ o, wE X a σ (upd H ad (.frz o (.dK kvs))) fun v H1 => v = .ref ad ∧ H1 ad = some (.frz o (.dK kvs)) ∧ ∃ Pv : Nat → L2.St → Hp → Prop, Pv 0 σ H1 ∧ (∀ k σ H, k ≤ kvs.length → Pv k σ H → H ad = some (.frz o (.dK kvs))) ∧
      (∀ k y v σ H, kvs[k]? = some (y, v) → Pv k σ H → wL X body ⟨Pv (k + 1), fun v H' => H' ad = some (.frz o (.dK kvs)) ∧ rt v (upd H' ad (.dK kvs)), fun σ' H' => H' ad = some (.frz o (.dK kvs)) ∧ nx σ' (upd H' ad (.dK kvs)), Pv (k + 1)⟩ (σ.set i (some (kV y))) H) ∧ ∀ σ H, Pv kvs.length σ H → nx σ (upd H ad (.dK kvs)))
    (I : In X N G sc := by assumption) (hc : X.calm = true := by rfl) (hA : At N i x := by repeat (first | with_reducible apply At.z | with_reducible apply At.s)) (hs2 : ∀ z, foldedSetIterable a X.env z = pure z := by intro _; rfl) :
    wS X (.For (.Name x px) a body [] pos) ⟨nx, rt, bk, ct⟩ σ H := by
  refine s_of (ps_lock (ps_for I.never hc (pi_keys pe) (pg_name I.nd (I.hi hA) (I.loc hA) I.f) pl hs2)) ?_
  refine ⟨ad, .dK kvs, h, trivial, fun o => e_mono (q o) fun v H1 q1 => ?_⟩
  obtain ⟨rfl, h1, Pv, h0, hk, hb, hd⟩ := q1
  refine ⟨ad, o, rfl, .inl ⟨kvs, h1, fun k m σ H => m = kvs.length - k ∧ k ≤ kvs.length ∧ Pv k σ H, ⟨kvs.length, by simp, Nat.zero_le _, h0⟩, ?_⟩⟩
  rintro k m σ H ⟨rfl, hi, p⟩
  have q := hk k σ H hi p
  by_cases hlt : k < kvs.length
  · refine .inr ⟨⟨q, hlt⟩, Pv (k + 1), fun σ' H' p' => ⟨kvs.length - (k + 1), by omega, rfl, hlt, p'⟩, fun x H' y => ?_⟩
    obtain ⟨rfl, ky, v, hkv, rfl⟩ := y
    exact hb k ky v σ _ hkv p
  · have e : k = kvs.length := by omega
    subst e
    exact .inl ⟨⟨q, Nat.le_refl _⟩, q, hd σ H p⟩
/-- [elt for x in t if c], t a tuple -/
def LcTf (X : Cx) (Vn : List (Nat × Str)) (G' : List Str) (elt c : Expr) (scope : Scope) (i : Nat) (ad : Addr) (xs : List L2.V) (D : Addr) (σ : L2.St) (H1 : Hp) (Qd : Hp → Prop) : Prop := ∃ Pv : Nat → Hp → Prop, Pv 0 (upd H1 D (.lst [])) ∧ (∀ k H2, k ≤ xs.length → Pv k H2 → SqT X.K H2 ad xs) ∧
  (∀ k x H2, xs[k]? = some x → Pv k H2 → Turn1 X Vn G' elt c scope i D σ x H2 (Pv (k + 1))) ∧ ∀ H2, Pv xs.length H2 → Qd H2
theorem e_lcTf {i : Nat} {x : Str} {px : Pos} (B : BkOk X.N Vn G' i x sc scope)
    (q : wE X a σ H fun v H1 => ∃ ad xs, v = .ref ad ∧ SqT X.K H1 ad xs ∧ ∀ D, H1 D = none → LcTf X Vn G' elt c scope i ad xs D σ H1 fun H2 => Q (.ref D) H2)
    (I : In X N G sc := by assumption) (hc : X.calm = true := by rfl) (hs2 : ∀ z, foldedSetIterable a X.env z = pure z := by intro _; rfl) :
    wE X (.ListComp elt [⟨.Name x px, a, [c], 0⟩] scope pos) σ H Q := by
  refine e_of (pe_lc (own := [(x, i)]) (g := gName i) (tt := wBkT X Vn G' c scope) (te := wBk X Vn G' elt scope) hc I.nd (pi_tup pe) (B.ok I) (fun s H C cl fp => B.pg I s H C cl fp) (fun s H C cl fp => pts_bk (B.inB I s H C cl fp)) (fun s H C cl fp => pe_bk (B.inB I s H C cl fp)) hs2) (e_mono q fun v H1 q1 => ?_)
  obtain ⟨ad, xs, rfl, hl, q2⟩ := q1
  refine ⟨ad, rfl, ⟨xs, hl⟩, fun D hD => ?_⟩
  obtain ⟨Pv, h0, hk, hs, hd⟩ := q2 D hD
  exact lc_tup Pv h0 hk (fun k x H hx p => turn1_of (hs k x H hx p)) hd
/-- y = [elt for x in range(a) if c] -/
def LcRf (X : Cx) (Vn : List (Nat × Str)) (G' : List Str) (elt c : Expr) (scope : Scope) (i n : Nat) (D : Addr) (σ : L2.St) (H1 : Hp) (Qd : Hp → Prop) : Prop := ∃ Pv : Nat → Hp → Prop, Pv 0 (upd H1 D (.lst [])) ∧
  (∀ k H2, k < n → Pv k H2 → Turn1 X Vn G' elt c scope i D σ (.int (k : Int)) H2 (Pv (k + 1))) ∧ ∀ H2, Pv n H2 → Qd H2
theorem lcRf_of {i n : Nat} {D : Addr} {H1 : Hp} {Qd : Hp → Prop} (q : LcRf X Vn G' elt c scope i n D σ H1 Qd) : ∃ W : Nat → Nat → Hp → Prop, (∃ m, W 0 m (upd H1 D (.lst []))) ∧ ∀ k m H, W k m H →
    ((Itr 0 n).stop k H ∧ Qd H) ∨ ((Itr 0 n).go k H ∧ ∃ Nx : Hp → Prop, (∀ H', Nx H' → ∃ m', m' < m ∧ W (k + 1) m' H') ∧ ∀ x H', (Itr 0 n).yld k H x H' → gName i x (wipe σ [i]) H' fun σ2 H2 => wipe σ2 [i] = wipe σ [i] ∧ wBkT X Vn G' c scope σ2 H2 fun b H3 =>
      if b = true then wBk X Vn G' elt scope σ2 H3 fun y H4 => ∃ acc, H4 D = some (.lst acc) ∧ acc.length < sizeLine ∧ Nx (upd H4 D (.lst (acc ++ [y]))) else Nx H3) := by
  obtain ⟨Pv, h0, hs, hd⟩ := q
  refine lc_range Pv h0 (fun k H hk p => ?_) hd
  rw [Int.zero_add]
  exact turn1_of (hs k H hk p)
theorem s_lcRf {nx : L2.St → Hp → Prop} {rt : VK} {bk ct : L2.St → Hp → Prop} {i j g : Nat} {x y : Str} {px py p cp spos : Pos} (B : BkOk X.N Vn G' i x sc scope) (hm : X.mg "range" = none)
    (q : wE X a σ H fun v H1 => ∃ n : Nat, v = .int n ∧ n < 2 ^ 62 ∧ ∀ D, H1 D = none → LcRf X Vn G' elt c scope i n D σ H1 fun H2 => nx (σ.set j (some (.ref D))) H2)
    (I : In X N G sc := by assumption) (hc : X.calm = true := by rfl) (hA : At N j y := by repeat (first | with_reducible apply At.z | with_reducible apply At.s)) (hG : At G g ("range" : Str) := by repeat (first | with_reducible apply At.z | with_reducible apply At.s))
    (hk : X.env.scope.kind = .function := by rfl) (hy : X.env.scope.names.lookup y = some .local := by rfl) (hl : (py.line == pos.line) = true := by rfl) (ha : (scope.names.any fun (n, k) => n == y && (k == .local || k == .cell)) = false := by decide +kernel)
    (hs : starEach [a] X.env = [(false, eval a X.env)] := by rfl) (hs2 : ∀ z, foldedSetIterable (.Call (.Name "range" p) [a] [] cp) X.env z = pure z := by intro _; rfl) (hs1 : starEach (a :: []) X.env = (false, eval a X.env) :: starEach [] X.env := by rfl) :
    wS X (.Assign [.Name y py] (.ListComp elt [⟨.Name x px, .Call (.Name "range" p) [a] [] cp, [c], 0⟩] scope pos) spos) ⟨nx, rt, bk, ct⟩ σ H := by
  refine s_of (ps_setLc (own := [(x, i)]) (g := gName i) (tt := wBkT X Vn G' c scope) (te := wBk X Vn G' elt scope) hc I.nd (I.hi hA) hy (sw_true hk hy hl ha) (pi_range1 (I.g hG) hm (pa_cons pe pa_nil hs1) hs) (B.ok I) (fun s H C cl fp => B.pg I s H C cl fp) (fun s H C cl fp => pts_bk (B.inB I s H C cl fp)) (fun s H C cl fp => pe_bk (B.inB I s H C cl fp)) hs2) (e_mono q fun v H1 q1 => ?_)
  obtain ⟨n, rfl, hn, q2⟩ := q1
  refine ⟨(n : Int), rfl, by omega, by omega, ?_⟩
  rw [Int.toNat_natCast]
  exact fun D hD => lcRf_of (q2 D hD)
end
end Wk

set_option maxHeartbeats 4000000
/-! My own layer: a walk over zip(a, b), each of the two a list or a tuple. -/
namespace Wk
open PySem PySem.Spec PyProof.Rows L2
/-- what stands on one side of a zip -/
inductive Side where
  | l | t
def Side.con : Side → Heap → Addr → Array Value → Prop
  | .l => fun h a xs => h.IsList a xs
  | .t => fun h a xs => h.IsTuple a xs
def Side.itr : Side → Heap → Addr → Addr → Nat → Prop
  | .l => fun h it a i => h.IsListIter it a i
  | .t => fun h it a i => h.IsTupleIter it a i
def Side.ob : Side → Addr → Obj
  | .l => fun a => { cls := .type "list_iterator", data := .fields #[.ref a, .int 0 0] }
  | .t => fun a => { cls := .type "tuple_iterator", data := .fields #[.ref a, .int 0 0] }
def Side.sq (K : PySem.W.Frag) : Side → Hp → Addr → List V → Prop
  | .l => SqL K
  | .t => SqT K
theorem Side.begins (c : Side) (a : Addr) (xs : Array Value) : Begins (.ref a) (c.ob a) fun h => c.con h a xs := by
  cases c with
  | l => exact begins_list a xs
  | t => exact begins_tuple a xs
theorem Side.draws {P : Program} {w : World} {A : Around} (c : Side) (hh : A.handled = none) (it a : Addr) (ne : a ≠ it) (xs : Array Value) : Draws P w A it [it, a] xs.size (fun i v => xs[i]? = some v) (fun i h => c.itr h it a i ∧ c.con h a xs) := by
  cases c with
  | l => exact Draws.list hh it a ne xs
  | t => exact Draws.tuple hh it a ne xs
theorem Side.own {X : Cx} {pins : List (Addr × Obj)} {σ : L2.St} {H : Hp} {s : Shared} {a : Addr} {xs : List V} (I : Inv X pins σ H s) (c : Side) (h : c.sq X.K H a xs) : ∃ its : List Value, Vals xs its ∧ c.con s.heap a its.toArray := by
  cases c with
  | l => obtain ⟨its, r, p, _⟩ := I.list h; exact ⟨its, r, p.isList⟩
  | t => obtain ⟨its, r, p, _⟩ := I.tuple h; exact ⟨its, r, p⟩
theorem Side.inj {X : Cx} {pins : List (Addr × Obj)} {σ : L2.St} {H : Hp} {s : Shared} {a : Addr} {xs ys : List V} (I : Inv X pins σ H s) (c : Side) (h : c.sq X.K H a xs) (h' : c.sq X.K H a ys) : xs = ys := by
  cases c with
  | l => exact I.list_inj h h'
  | t => exact I.tuple_inj h h'
theorem Side.up {h h' : Heap} {it a : Addr} {i : Nat} (c : Side) (x : c.itr h it a i) (k : ∀ o, h.get? it = some o → h'.get? it = some o) : c.itr h' it a i := by
  cases c with
  | l => exact x.at k
  | t => exact x.at k
theorem Side.nocell {h : Heap} {it a : Addr} {i : Nat} (c : Side) (x : c.itr h it a i) : ∃ o, h.get? it = some o ∧ ∀ v, o.data ≠ .cell v := by
  cases c with
  | l => obtain ⟨o, e, _, d⟩ := x; exact ⟨o, e, fun v q => by rw [d] at q; cases q⟩
  | t => obtain ⟨o, e, _, d⟩ := x; exact ⟨o, e, fun v q => by rw [d] at q; cases q⟩
theorem Side.start {h : Heap} {it a : Addr} (c : Side) (e : h.get? it = some (c.ob a)) : c.itr h it a 0 := by
  cases c with
  | l => exact ⟨_, e, rfl, rfl⟩
  | t => exact ⟨_, e, rfl, rfl⟩
theorem Side.lt {h : Heap} {a : Addr} {xs : Array Value} (c : Side) (x : c.con h a xs) : a < h.objs.size := by
  cases c with
  | l => obtain ⟨o, e, _⟩ := x; exact Heap.lt_size e
  | t => obtain ⟨o, e, _⟩ := x; exact Heap.lt_size e
/-- pairs out of the two sides, as they stand at each turn -/
def ItM (K : PySem.W.Frag) (c d : Side) (a b : Addr) : It :=
  ⟨fun i H => ∃ (xs ys : List V) (x y : V), c.sq K H a xs ∧ d.sq K H b ys ∧ xs[i]? = some x ∧ ys[i]? = some y,
    fun i H v H' => ∃ T x y, v = .ref T ∧ H T = none ∧ H' = upd H T (.tup [x, y]) ∧ (∀ xs, c.sq K H a xs → xs[i]? = some x) ∧ ∀ ys, d.sq K H b ys → ys[i]? = some y,
    fun i H => ∃ xs ys : List V, c.sq K H a xs ∧ d.sq K H b ys ∧ i ≤ xs.length ∧ i ≤ ys.length ∧ (i = xs.length ∨ i = ys.length)⟩
theorem turn_zipM {P : Program} {w : World} {K : PySem.W.Frag} {es : List Expr} {kk : Nat} {tp : Pos} {c d : Side} {a b z TI TO i1 i2 : Addr} (S : ZipSep2 z TI TO i1 i2 [i1, a] [i2, b]) (na : a ≠ i1) (nb : b ≠ i2) :
    Turn P w K (.Tuple es kk tp) (ItM K c d a b) [z, TI, TO, i1, i2] z (fun i h => IsZip h z TI TO .none ∧ IsTupOf2 h TI (.ref i1) (.ref i2) ∧ (∃ u v, IsTupOf2 h TO u v) ∧ c.itr h i1 a i ∧ d.itr h i2 b i) where
  mem := List.mem_cons_self ..
  obj := fun i h ⟨q1, q2, ⟨u, v, q3⟩, q4, q5⟩ e he => by
    simp only [List.mem_cons, List.not_mem_nil, or_false] at he
    rcases he with rfl | rfl | rfl | rfl | rfl
    · exact ⟨_, q1, fun _ r => nomatch r⟩
    · exact ⟨_, q2, fun _ r => nomatch r⟩
    · exact ⟨_, q3, fun _ r => nomatch r⟩
    · exact c.nocell q4
    · exact d.nocell q5
  keep := fun i h h' ⟨q1, q2, ⟨u, v, q3⟩, q4, q5⟩ kp => ⟨kp z (by simp) _ q1, kp TI (by simp) _ q2, ⟨u, v, kp TO (by simp) _ q3⟩, c.up q4 (kp i1 (by simp)), d.up q5 (kp i2 (by simp))⟩
  item := by
    intro X hP hw hK hc i pins s σ H E I fpk ⟨q1, q2, ⟨u, v, q3⟩, q4, q5⟩ ⟨xs, ys, x, y, sx, sy, ex, ey⟩
    subst hP hw hK
    obtain ⟨us, rus, cx⟩ := c.own I sx
    obtain ⟨vs, rvs, cy⟩ := d.own I sy
    obtain ⟨g, eg, rg⟩ := rus.get ex
    obtain ⟨g2, eg2, rg2⟩ := rvs.get ey
    have hh : X.A.in1.handled = none := I.ok.hd hc
    refine wpAny_pyNext_zipD2_item S (c.draws hh i1 a na us.toArray) (d.draws hh i2 b nb vs.toArray) q1 q2 q3 ⟨q4, cx⟩ ⟨q5, cy⟩ ?_ ?_ fun x1 x2 h1 tk p1 p2 n1 n2 n3 n4 n5 _ n7 => ?_
    · rw [List.size_toArray]; exact (List.getElem?_eq_some_iff.mp eg).1
    · rw [List.size_toArray]; exact (List.getElem?_eq_some_iff.mp eg2).1
    rw [List.getElem?_toArray, eg] at p1
    rw [List.getElem?_toArray, eg2] at p2
    cases p1
    cases p2
    have zl : z < s.heap.objs.size := Heap.lt_size q1
    refine ⟨_, rfl, wpAny_letOwnedTupleGo_zip (s := { s with heap := h1, toks := tk }) n1 fun h2 m1 sb => ?_⟩
    have tup2 : h2.get? s.heap.objs.size = some { cls := .type "tuple", data := .seq #[g, g2] } := (sb.2 _ (Nat.ne_of_gt zl)).trans n5
    have I1 : Inv X pins σ (upd H s.heap.objs.size (.tup [x, y])) { s with heap := h2, toks := tk } := by
      refine I.turnedNew (t' := tk) (ch := [z, TI, TO, i1, i2]) (fun e o hb q => ?_) fpk (Nat.le_refl _) ⟨by show 2 ≤ 2 ^ 24; decide, [g, g2], .cons rg (.cons rg2 .nil), ⟨_, tup2, rfl, _, rfl⟩⟩
      simp only [List.mem_cons, List.not_mem_nil, or_false, not_or] at hb
      exact (sb.2 e hb.1).trans (n7 e o hb.1 hb.2.2.1 hb.2.2.2.1 hb.2.2.2.2 q)
    have up : ∀ {e : Addr} {o : Obj}, e ≠ z → h1.get? e = some o → h2.get? e = some o := fun ne q => (sb.2 _ ne).trans q
    refine ⟨.ref s.heap.objs.size, _, I1, rfl, ⟨_, x, y, rfl, I.hok.fresh (Nat.le_refl _), rfl, fun l hl => by rw [c.inj I hl sx]; exact ex, fun l hl => by rw [d.inj I hl sy]; exact ey⟩,
      ⟨m1, up S.TIz (n7 TI _ S.TIz S.TITO S.TIi1 S.TIi2 q2), ⟨g, g2, up S.TOz n2⟩, c.up n3.1 fun o q => up (Ne.symm S.zi1) q, d.up n4.1 fun o q => up (Ne.symm S.zi2) q⟩, fun e he => ?_⟩
    rw [upd_ne]
    · exact (fpk e he).1
    · have : e < s.heap.objs.size := by
        simp only [List.mem_cons, List.not_mem_nil, or_false] at he
        rcases he with rfl | rfl | rfl | rfl | rfl
        · exact zl
        · exact Heap.lt_size q2
        · exact Heap.lt_size q3
        · obtain ⟨o, eo, _⟩ := c.nocell q4; exact Heap.lt_size eo
        · obtain ⟨o, eo, _⟩ := d.nocell q5; exact Heap.lt_size eo
      exact Nat.ne_of_lt this
  done := by
    intro X hP hw hK hc i pins s σ H E I fpk ⟨q1, q2, ⟨u, v, q3⟩, q4, q5⟩ ⟨xs, ys, sx, sy, l1, l2, le⟩
    subst hP hw hK
    obtain ⟨us, rus, cx⟩ := c.own I sx
    obtain ⟨vs, rvs, cy⟩ := d.own I sy
    have g1 := rus.length
    have g2 := rvs.length
    have hh : X.A.in1.handled = none := I.ok.hd hc
    refine wpAny_pyNext_zipD2_end S (c.draws hh i1 a na us.toArray) (d.draws hh i2 b nb vs.toArray) q1 q2 q3 ⟨q4, cx⟩ ⟨q5, cy⟩ (by rw [List.size_toArray]; omega) (by rw [List.size_toArray]; omega) (by rw [List.size_toArray, List.size_toArray]; omega) fun h1 tk kp => ⟨rfl, ?_⟩
    refine I.turnedL (t' := tk) (ch := [z, TI, TO, i1, i2]) (fun e o hb q => ?_) fpk
    simp only [List.mem_cons, List.not_mem_nil, or_false, not_or] at hb
    exact kp e o hb.1 hb.2.2.1 hb.2.2.2.1 hb.2.2.2.2 q
  self := fun A i s Q E st h => wpAny_pyIter_zip st.1 h
/-- zip(e, e2) -/
def iZipM (K : PySem.W.Frag) (c d : Side) (ta : TA) : TI := fun σ H R => ta σ H fun vs H1 => ∃ a b xs ys, vs = [.ref a, .ref b] ∧ c.sq K H1 a xs ∧ d.sq K H1 b ys ∧ R (ItM K c d a b) H1
theorem pi_zipM {X : Cx} {e e2 : Expr} {ta : TA} {p pos tp : Pos} {es : List Expr} {kk : Nat} {c d : Side} (hg : Gl X "zip") (hm : X.mg "zip" = none) (ha : PA X [e, e2] ta)
    (hs : starEach [e, e2] X.env = (false, eval e X.env) :: starEach [e2] X.env := by rfl) (hpl : (backTo pos (starEach [e2] X.env)).any (·.1) = false := by rfl) :
    PI X (.Tuple es kk tp) (.Call (.Name "zip" p) [e, e2] [] pos) (iZipM X.K c d ta) := by
  refine ⟨fun pins s σ H R I h => Call_ (ld_blt I hg hm PyProof.Rows.boot_zip (PyProof.Rows.callWith_type1 (thn (ha.run pos pins s σ H _ I h) fun us s1 ⟨vs, H1, I1, r1, a, b, xs, ys, ev, sx, sy, q⟩ => ?_) hs hpl))⟩
  subst ev
  obtain ⟨u, v, rfl, ru, rv⟩ : ∃ u v, us = [u, v] ∧ RelV (.ref a) u ∧ RelV (.ref b) v := by
    cases r1 with
    | cons r t => cases t with
      | cons r' t => cases t; exact ⟨_, _, rfl, r, r'⟩
  cases ru
  cases rv
  obtain ⟨ws, rw1, cx⟩ := c.own I1 sx
  obtain ⟨zs, rw2, cy⟩ := d.own I1 sy
  have la := c.lt cx
  have lb := d.lt cy
  generalize hN : s1.heap.objs.size = N at la lb
  have nw : ∀ e ∈ [N + 4, N + 2, N + 3, N, N + 1], FpOk X pins H1 e := fun e he => by
    have hle : s1.heap.objs.size ≤ e := by
      rw [hN]
      simp only [List.mem_cons, List.not_mem_nil, or_false] at he
      rcases he with z | z | z | z | z <;> (rw [z]; first | exact Nat.le_refl _ | exact Nat.le_add_right _ _)
    exact I1.fpOk hle (I1.hok.fresh hle)
  refine zip_begins2 (c.begins a ws.toArray) (d.begins b zs.toArray) cx cy fun h1 g1 g2 g3 g4 g5 _ kp => wpAny_pyIter_zip g1 ?_
  rw [hN] at g1 g2 g3 g4 g5 ⊢
  have S : ZipSep2 (N + 4) (N + 2) (N + 3) N (N + 1) [N, a] [N + 1, b] := zip_sep2 (fun e he => by rw [List.mem_singleton.mp he]; exact la) (fun e he => by rw [List.mem_singleton.mp he]; exact lb)
  exact ⟨N + 4, [N + 4, N + 2, N + 3, N, N + 1], _, ItM X.K c d a b, H1, rfl, I1.kept (t' := s1.toks) kp, turn_zipM S (Nat.ne_of_lt la) (Nat.ne_of_lt (Nat.lt_succ_of_lt lb)), ⟨g1, g2, ⟨_, _, g3⟩, c.start g4, d.start g5⟩, nw, q⟩
section
variable {X : Cx} {e a b : Expr} {σ : L2.St} {H : Hp} {N G : List Str} {sc : Scope}
/-- for x, y in zip(a, b): both sides stay while the loop goes -/
theorem s_forZ {nx : L2.St → Hp → Prop} {rt : VK} {bk ct : L2.St → Hp → Prop} (c d : Side) {g : Nat} {x y : Str} {i j : Nat} {body : List Stmt} {px py pt p cp pos : Pos} {kk : Nat} (hm : X.mg "zip" = none)
    (q : wE X a σ H fun v H1 => wE X b σ H1 fun u H2 => ∃ va vb xs ys, v = .ref va ∧ u = .ref vb ∧ c.sq X.K H2 va xs ∧ d.sq X.K H2 vb ys ∧ ∃ Pv : Nat → L2.St → Hp → Prop, Pv 0 σ H2 ∧ (∀ k σ H, k ≤ min xs.length ys.length → Pv k σ H → c.sq X.K H va xs ∧ d.sq X.K H vb ys) ∧
      (∀ k u1 u2 T σ H, xs[k]? = some u1 → ys[k]? = some u2 → Pv k σ H → H T = none → wL X body ⟨Pv (k + 1), rt, nx, Pv (k + 1)⟩ ((σ.set i (some u1)).set j (some u2)) (upd H T (.tup [u1, u2]))) ∧ ∀ σ H, Pv (min xs.length ys.length) σ H → nx σ H)
    (I : In X N G sc := by assumption) (hc : X.calm = true := by rfl) (hA : At N i x := by repeat (first | with_reducible apply At.z | with_reducible apply At.s)) (hB : At N j y := by repeat (first | with_reducible apply At.z | with_reducible apply At.s))
    (hG : At G g ("zip" : Str) := by repeat (first | with_reducible apply At.z | with_reducible apply At.s)) (hs : starEach [a, b] X.env = (false, eval a X.env) :: starEach [b] X.env := by rfl) (hpl : (backTo cp (starEach [b] X.env)).any (·.1) = false := by rfl)
    (hs1 : starEach (b :: []) X.env = (false, eval b X.env) :: starEach [] X.env := by rfl) (hs2 : ∀ z, foldedSetIterable (.Call (.Name "zip" p) [a, b] [] cp) X.env z = pure z := by intro _; rfl) :
    wS X (.For (.Tuple [.Name x px, .Name y py] kk pt) (.Call (.Name "zip" p) [a, b] [] cp) body [] pos) ⟨nx, rt, bk, ct⟩ σ H := by
  refine s_of (ps_for I.never hc (pi_zipM (c := c) (d := d) (I.g hG) hm (pa_cons pe (pa_cons pe pa_nil hs1) hs) hs hpl) (pg_tup hc (pgs_cons (pg_name I.nd (I.hi hA) (I.loc hA) I.f) (pgs_cons (pg_name I.nd (I.hi hB) (I.loc hB) I.f) pgs_nil))) pl hs2) (e_mono q fun v H1 q1 => e_mono q1 fun u H2 q2 => ?_)
  obtain ⟨va, vb, xs, ys, rfl, rfl, sx, sy, Pv, h0, hk, hb, hd⟩ := q2
  refine ⟨va, vb, xs, ys, rfl, sx, sy, fun k m σ H => m = min xs.length ys.length - k ∧ k ≤ min xs.length ys.length ∧ Pv k σ H, ⟨_, rfl, Nat.zero_le _, h0⟩, ?_⟩
  rintro k m σ H ⟨rfl, hle, pv⟩
  obtain ⟨tx, ty⟩ := hk k σ H hle pv
  by_cases lt : k < min xs.length ys.length
  · have l1 : k < xs.length := by omega
    have l2 : k < ys.length := by omega
    refine .inr ⟨⟨xs, ys, xs[k], ys[k], tx, ty, List.getElem?_eq_getElem l1, List.getElem?_eq_getElem l2⟩, Pv (k + 1), fun σ' H' p' => ⟨_, by omega, rfl, lt, p'⟩, fun w H' yl => ?_⟩
    obtain ⟨T, u1, u2, rfl, nT, rfl, y1, y2⟩ := yl
    exact ⟨T, [u1, u2], rfl, SqT.of upd_same, rfl, u1, [u2], rfl, u2, [], rfl, rfl, hb k u1 u2 T σ H (y1 xs tx) (y2 ys ty) pv nT⟩
  · have ek : k = min xs.length ys.length := by omega
    subst ek
    refine .inl ⟨⟨xs, ys, tx, ty, by omega, by omega, by omega⟩, hd σ H pv⟩
/-- [elt for x in range(a) if c], as a value -/
theorem e_lcRf {X : Cx} {elt c a : Expr} {σ : L2.St} {H : Hp} {Q : VK} {pos : Pos} {N G G' : List Str} {Vn : List (Nat × Str)} {sc scope : Scope} {i g : Nat} {x : Str} {px p cp : Pos} (B : BkOk X.N Vn G' i x sc scope) (hm : X.mg "range" = none)
    (q : wE X a σ H fun v H1 => ∃ n : Nat, v = .int n ∧ n < 2 ^ 62 ∧ ∀ D, H1 D = none → LcRf X Vn G' elt c scope i n D σ H1 fun H2 => Q (.ref D) H2)
    (I : In X N G sc := by assumption) (hc : X.calm = true := by rfl) (hG : At G g ("range" : Str) := by repeat (first | with_reducible apply At.z | with_reducible apply At.s))
    (hs : starEach [a] X.env = [(false, eval a X.env)] := by rfl) (hs2 : ∀ z, foldedSetIterable (.Call (.Name "range" p) [a] [] cp) X.env z = pure z := by intro _; rfl) (hs1 : starEach (a :: []) X.env = (false, eval a X.env) :: starEach [] X.env := by rfl) :
    wE X (.ListComp elt [⟨.Name x px, .Call (.Name "range" p) [a] [] cp, [c], 0⟩] scope pos) σ H Q := by
  refine e_of (pe_lc (own := [(x, i)]) (g := gName i) (tt := wBkT X Vn G' c scope) (te := wBk X Vn G' elt scope) hc I.nd (pi_range1 (I.g hG) hm (pa_cons pe pa_nil hs1) hs) (B.ok I) (fun s H C cl fp => B.pg I s H C cl fp) (fun s H C cl fp => pts_bk (B.inB I s H C cl fp)) (fun s H C cl fp => pe_bk (B.inB I s H C cl fp)) hs2) (e_mono q fun v H1 q1 => ?_)
  obtain ⟨n, rfl, hn, q2⟩ := q1
  refine ⟨(n : Int), rfl, by omega, by omega, ?_⟩
  rw [Int.toNat_natCast]
  exact fun D hD => lcRf_of (q2 D hD)
/-- for x in reversed(range(a)) -/
theorem s_forRR {X : Cx} {a : Expr} {σ : L2.St} {H : Hp} {N G : List Str} {sc : Scope} {nx : L2.St → Hp → Prop} {rt : VK} {bk ct : L2.St → Hp → Prop} {g g2 : Nat} {x : Str} {i : Nat} {body : List Stmt} {px p p2 cp cp2 pos : Pos} (hm : X.mg "reversed" = none) (hm2 : X.mg "range" = none)
    (q : wE X a σ H fun v H1 => ∃ n : Nat, v = .int n ∧ n < 2 ^ 62 ∧ ∃ Pv : Nat → L2.St → Hp → Prop, Pv 0 σ H1 ∧ (∀ k σ H, k < n → Pv k σ H → wL X body ⟨Pv (k + 1), rt, nx, Pv (k + 1)⟩ (σ.set i (some (.int ((n - 1 - k : Nat) : Int)))) H) ∧ ∀ σ H, Pv n σ H → nx σ H)
    (I : In X N G sc := by assumption) (hc : X.calm = true := by rfl) (hA : At N i x := by repeat (first | with_reducible apply At.z | with_reducible apply At.s))
    (hG : At G g ("reversed" : Str) := by repeat (first | with_reducible apply At.z | with_reducible apply At.s)) (hG2 : At G g2 ("range" : Str) := by repeat (first | with_reducible apply At.z | with_reducible apply At.s))
    (hs : starEach [.Call (.Name "range" p2) [a] [] cp2] X.env = (false, eval (.Call (.Name "range" p2) [a] [] cp2) X.env) :: starEach [] X.env := by rfl) (hs1 : starEach [a] X.env = (false, eval a X.env) :: starEach [] X.env := by rfl)
    (hs2 : ∀ z, foldedSetIterable (.Call (.Name "reversed" p) [.Call (.Name "range" p2) [a] [] cp2] [] cp) X.env z = pure z := by intro _; rfl) :
    wS X (.For (.Name x px) (.Call (.Name "reversed" p) [.Call (.Name "range" p2) [a] [] cp2] [] cp) body [] pos) ⟨nx, rt, bk, ct⟩ σ H := by
  refine s_of (ps_for I.never hc (pi_revR (I.g hG) hm (prg_1 (I.g hG2) hm2 pe hs1) hs) (pg_name I.nd (I.hi hA) (I.loc hA) I.f) pl hs2) (e_mono q fun v H1 q1 => ?_)
  obtain ⟨n, rfl, hn, Pv, h0, hb, hd⟩ := q1
  refine ⟨(n : Int), rfl, by omega, by omega, by omega, by omega, ?_⟩
  rw [show ((n : Int) - 0).toNat = n by omega]
  refine for_rangeC (n := n) Pv h0 (fun k σ H hk pv => ?_) hd
  rw [show (0 : Int) + ((n : Nat) : Int) - 1 + ((k : Nat) : Int) * (-1) = ((n - 1 - k : Nat) : Int) by omega]
  exact hb k σ H hk pv
end
end Wk

set_option maxHeartbeats 4000000
/-! My own layer: list(zip(a, b)), whose pairs the list holds. -/
namespace Wk
open PySem PySem.Spec PyProof.Rows L2
section
variable {prog : Program} {w : World} {A : Around} {E : Value → Shared → Prop} {s : Shared} {z TI TO T i1 i2 : Addr} {fa fb : List Addr} {n1 n2 i : Nat} {Pa Pb : Nat → Value → Prop} {Sa Sb : Nat → Heap → Prop} {fl : Bool} {oT : Obj}
/-- a turn of a zip whose last tuple is still held -/
theorem zh_item {Q : Value → Shared → Prop} (Z : ZipSep2 z TI TO i1 i2 fa fb) (Da : Draws prog w A i1 fa n1 Pa Sa) (Db : Draws prog w A i2 fb n2 Pb Sb)
    (hz : IsZipHeld s.heap z TI TO T fl) (hT : s.heap.get? T = some oT) (hI : IsTupOf2 s.heap TI (.ref i1) (.ref i2)) (ta : Sa i s.heap) (tb : Sb i s.heap) (la : i < n1) (lb : i < n2)
    (k : ∀ x y g tk, Pa i x → Pb i y → IsZipHeld g z TI TO T true → Sa (i + 1) g → Sb (i + 1) g → IsTupOf2 g s.heap.objs.size x y → g.objs.size = s.heap.objs.size + 1 →
      (∀ e o, e ≠ z → e ≠ i1 → e ≠ i2 → s.heap.get? e = some o → g.get? e = some o) → Q (.ref s.heap.objs.size) { s with heap := g, toks := tk }) :
    wpAny (model prog w) A (Builtin.«zip.__next__» ⟨[.ref z], []⟩) (fun r s' => ∃ v, r = .done (.ret v) ∧ Q v s') E s := by
  obtain ⟨h0, gn, dr, t0, os⟩ := s
  show wpAny _ A (field (.ref z) 2 >>= _) _ E _
  refine wpAny_bind (wpAny_field hz rfl (x := Value.bool false) rfl ?_)
  show wpAny _ A (field (.ref z) 3 >>= _) _ E _
  refine wpAny_bind (wpAny_field hz rfl (x := Value.ref TI) rfl ?_)
  refine wpAny_bind (wpAny_seqItems (s := ⟨h0, gn, dr, t0, os⟩) hI rfl ?_)
  show wpAny _ A (Builtin.SmallTypes.ownedTupleIsFree (.ref z) >>= _) _ E _
  refine wpAny_bind (wpAny_tupleHeld_zip (s := ⟨h0, gn, dr, t0, os⟩) hz hT fun h1 z1 b1 => ?_)
  replace b1 : Heap.SameBut z h0 h1 := b1
  simp only [Bool.false_eq_true, if_false]
  refine wpAny_bind ?_
  rw [← Array.forIn_toList]
  simp only [List.forIn_cons, List.forIn_nil]
  refine wpAny_bind (wpAny_bind (wpAny_holding ?_))
  show wpAny _ A (Builtin.SmallTypes.nextOf (.ref i1) >>= _) _ E ⟨h1, gn, dr, t0, os⟩
  refine wpAny_bind (Da.item i _ _ _ la (Da.over ta b1 Z.zf1) fun x h2 t2 px sx b2 => wpAny_pure ?_)
  replace b2 : Heap.SameBut i1 h1 h2 := b2
  refine wpAny_pure ?_
  refine wpAny_bind (wpAny_bind (wpAny_holding ?_))
  show wpAny _ A (Builtin.SmallTypes.nextOf (.ref i2) >>= _) _ E ⟨h2, gn, dr, t2, os⟩
  refine wpAny_bind (Db.item i _ _ _ lb (Db.over (Db.over tb b1 Z.zf2) b2 Z.sep1_2) fun y h3 t3 py sy b3 => wpAny_pure ?_)
  replace b3 : Heap.SameBut i2 h2 h3 := b3
  refine wpAny_pure (wpAny_pure ?_)
  show wpAny _ A (newTuple [x, y] >>= _) _ E ⟨h3, gn, dr, t3, os⟩
  refine wpAny_bind (wpAny_newTuple ?_)
  have sz : h3.objs.size = h0.objs.size := by rw [b3.1, b2.1, b1.1]
  have z3 : IsZipHeld h3 z TI TO T true := b3.extBut _ _ Z.zi2 (b2.extBut _ _ Z.zi1 z1)
  have kp : ∀ e o, e ≠ z → e ≠ i1 → e ≠ i2 → h0.get? e = some o → h3.get? e = some o := fun e o c1 c2 c3 q => b3.extBut _ _ c3 (b2.extBut _ _ c2 (b1.extBut _ _ c1 q))
  have tp : IsTupOf2 (h3.push { cls := .type "tuple", data := .seq #[x, y] }) h3.objs.size x y := Heap.get?_push_size _ rfl
  have s4 : (h3.push { cls := .type "tuple", data := .seq #[x, y] }).objs.size = h3.objs.size + 1 := Heap.size_push ..
  refine wpAny_pure ⟨_, rfl, ?_⟩
  show Q (.ref h3.objs.size) _
  rw [sz] at tp s4 ⊢
  exact k x y _ t3 px py (Heap.get?_push_of_some _ z3) (Da.frame _ _ _ (Da.over sx b3 Z.sep2_1) fun e _ o q => Heap.get?_push_of_some _ q) (Db.frame _ _ _ sy fun e _ o q => Heap.get?_push_of_some _ q) tp s4 fun e o c1 c2 c3 q => Heap.get?_push_of_some _ (kp e o c1 c2 c3 q)
theorem zh_stop {Q : PySem.Fin → Shared → Prop} (Z : ZipSep2 z TI TO i1 i2 fa fb) (Da : Draws prog w A i1 fa n1 Pa Sa) (Db : Draws prog w A i2 fb n2 Pb Sb)
    (hz : IsZipHeld s.heap z TI TO T fl) (hT : s.heap.get? T = some oT) (hI : IsTupOf2 s.heap TI (.ref i1) (.ref i2)) (ta : Sa i s.heap) (tb : Sb i s.heap) (la : i ≤ n1) (lb : i ≤ n2) (hend : i = n1 ∨ i = n2)
    (k : ∀ g tk e, (∀ c o, c ≠ z → c ≠ i1 → c ≠ i2 → s.heap.get? c = some o → g.get? c = some o) → (∃ o, g.get? e = some o ∧ o.cls = .type "StopIteration") → E (.ref e) { s with heap := g, toks := tk }) :
    wpAny (model prog w) A (Builtin.«zip.__next__» ⟨[.ref z], []⟩) Q E s := by
  obtain ⟨h0, gn, dr, t0, os⟩ := s
  show wpAny _ A (field (.ref z) 2 >>= _) _ E _
  refine wpAny_bind (wpAny_field hz rfl (x := Value.bool false) rfl ?_)
  show wpAny _ A (field (.ref z) 3 >>= _) _ E _
  refine wpAny_bind (wpAny_field hz rfl (x := Value.ref TI) rfl ?_)
  refine wpAny_bind (wpAny_seqItems (s := ⟨h0, gn, dr, t0, os⟩) hI rfl ?_)
  show wpAny _ A (Builtin.SmallTypes.ownedTupleIsFree (.ref z) >>= _) _ E _
  refine wpAny_bind (wpAny_tupleHeld_zip (s := ⟨h0, gn, dr, t0, os⟩) hz hT fun h1 z1 b1 => ?_)
  replace b1 : Heap.SameBut z h0 h1 := b1
  simp only [Bool.false_eq_true, if_false]
  refine wpAny_bind ?_
  rw [← Array.forIn_toList]
  simp only [List.forIn_cons, List.forIn_nil]
  refine wpAny_bind (wpAny_bind (wpAny_holding ?_))
  show wpAny _ A (Builtin.SmallTypes.nextOf (.ref i1) >>= _) _ E ⟨h1, gn, dr, t0, os⟩
  by_cases lt : i < n1
  · have e2 : i = n2 := by omega
    refine wpAny_bind (Da.item i _ _ _ lt (Da.over ta b1 Z.zf1) fun x h2 t2 px sx b2 => wpAny_pure ?_)
    replace b2 : Heap.SameBut i1 h1 h2 := b2
    refine wpAny_pure ?_
    refine wpAny_bind (wpAny_bind (wpAny_holding ?_))
    show wpAny _ A (Builtin.SmallTypes.nextOf (.ref i2) >>= _) _ E ⟨h2, gn, dr, t2, os⟩
    refine wpAny_bind (Db.done ⟨h2, gn, dr, t2, os⟩ _ _ (by rw [← e2]; exact Db.over (Db.over tb b1 Z.zf2) b2 Z.sep1_2) fun h3 e b3 he => ?_)
    replace b3 : Heap.ExtBut i2 h2 h3 := b3
    exact k h3 t2 e (fun c o c1 c2 c3 q => b3 _ _ c3 (b2.extBut _ _ c2 (b1.extBut _ _ c1 q))) he
  · have e1 : i = n1 := by omega
    refine wpAny_bind (Da.done ⟨h1, gn, dr, t0, os⟩ _ _ (by rw [← e1]; exact Da.over ta b1 Z.zf1) fun h3 e b3 he => ?_)
    replace b3 : Heap.ExtBut i1 h1 h3 := b3
    exact k h3 t0 e (fun c o c1 c2 _ q => b3 _ _ c2 (b1.extBut _ _ c1 q)) he
/-- how a zip stands whose tuples the list at L holds -/
def ZS (z TI TO i1 i2 L : Addr) (Sa Sb : Nat → Heap → Prop) (i : Nat) (h : Heap) : Prop := IsTupOf2 h TI (.ref i1) (.ref i2) ∧ Sa i h ∧ Sb i h ∧
  ((IsZip h z TI TO .none ∧ ∃ u v, IsTupOf2 h TO u v) ∨ ∃ T fl oT, IsZipHeld h z TI TO T fl ∧ h.get? T = some oT ∧ T ≠ z ∧ T ≠ i1 ∧ T ≠ i2 ∧ T ≠ L)
theorem zs_item {L : Addr} {Q : Option Value → Shared → Prop} (Z : ZipSep2 z TI TO i1 i2 fa fb) (Da : Draws prog w A.in1 i1 fa n1 Pa Sa) (Db : Draws prog w A.in1 i2 fb n2 Pb Sb) (st : ZS z TI TO i1 i2 L Sa Sb i s.heap) (hL : L < s.heap.objs.size) (la : i < n1) (lb : i < n2)
    (k : ∀ x y g tk, Pa i x → Pb i y → ZS z TI TO i1 i2 L Sa Sb (i + 1) g → IsTupOf2 g s.heap.objs.size x y → g.objs.size = s.heap.objs.size + 1 →
      (∀ e o, e ≠ z → e ≠ TO → e ≠ i1 → e ≠ i2 → s.heap.get? e = some o → g.get? e = some o) → Q (some (.ref s.heap.objs.size)) { s with heap := g, toks := tk }) :
    wpAny (model prog w) A (pyNext (.ref z)) Q E s := by
  obtain ⟨hI, ta, tb, hz⟩ := st
  obtain ⟨o1, l1⟩ := Da.live _ _ ta
  obtain ⟨o2, l2⟩ := Db.live _ _ tb
  have n1' : s.heap.objs.size ≠ i1 := Nat.ne_of_gt (Heap.lt_size l1)
  have n2' : s.heap.objs.size ≠ i2 := Nat.ne_of_gt (Heap.lt_size l2)
  rcases hz with ⟨hz, u, v, hO⟩ | ⟨T, fl, oT, hz, hT, r1, r2, r3, r4⟩
  · have nz : s.heap.objs.size ≠ z := Nat.ne_of_gt (Heap.lt_size hz)
    refine wpAny_pyNext_zipD2_item Z Da Db hz hI hO ta tb la lb fun x y g tk px py z' O' sa sb tp sz kp => ?_
    exact k x y g tk px py ⟨kp _ _ Z.TIz Z.TITO Z.TIi1 Z.TIi2 hI, sa, sb, .inr ⟨_, false, _, z', tp, nz, n1', n2', Nat.ne_of_gt hL⟩⟩ tp sz kp
  · have tz : s.TypeIs (.ref z) "zip" := ⟨_, hz, rfl⟩
    unfold pyNext
    exact wpAny_bind (wpAny_attempt (wpAny_callSpecial?_slot (name := Str.ofString "__next__") tz F.slot_zip_next (wpAny_call_entry F.slot_zip_next tz F.entry_zip_next
      (zh_item Z Da Db hz hT hI ta tb la lb fun x y g tk px py z' sa sb tp sz kp => wpAny_pure (k x y g tk px py ⟨kp _ _ Z.TIz Z.TIi1 Z.TIi2 hI, sa, sb, .inr ⟨T, true, oT, z', kp _ _ r1 r2 r3 hT, r1, r2, r3, r4⟩⟩ tp sz fun e o c1 _ c2 c3 q => kp e o c1 c2 c3 q)) (F.args_zip_next_1 _))))
theorem zs_stop {L : Addr} {Q : Option Value → Shared → Prop} (Z : ZipSep2 z TI TO i1 i2 fa fb) (Da : Draws prog w A.in1 i1 fa n1 Pa Sa) (Db : Draws prog w A.in1 i2 fb n2 Pb Sb) (st : ZS z TI TO i1 i2 L Sa Sb i s.heap) (la : i ≤ n1) (lb : i ≤ n2) (hend : i = n1 ∨ i = n2)
    (k : ∀ g tk, (∀ e o, e ≠ z → e ≠ TO → e ≠ i1 → e ≠ i2 → s.heap.get? e = some o → g.get? e = some o) → Q none { s with heap := g, toks := tk }) :
    wpAny (model prog w) A (pyNext (.ref z)) Q E s := by
  obtain ⟨hI, ta, tb, hz⟩ := st
  rcases hz with ⟨hz, u, v, hO⟩ | ⟨T, fl, oT, hz, hT, r1, r2, r3, r4⟩
  · exact wpAny_pyNext_zipD2_end Z Da Db hz hI hO ta tb la lb hend fun g tk kp => k g tk kp
  · have tz : s.TypeIs (.ref z) "zip" := ⟨_, hz, rfl⟩
    unfold pyNext
    refine wpAny_bind (wpAny_attempt (wpAny_callSpecial?_slot (name := Str.ofString "__next__") tz F.slot_zip_next (wpAny_call_entry F.slot_zip_next tz F.entry_zip_next (zh_stop Z Da Db hz hT hI ta tb la lb hend fun g tk e kp he => ?_) (F.args_zip_next_1 _))))
    obtain ⟨o, ho, hc⟩ := he
    refine wpAny_bind (wpAny_isInstance (T := "StopIteration") (b := true) ⟨o, ho, hc⟩ isSubtype_stop ?_)
    exact wpAny_pure (k g tk fun e o c1 _ c2 c3 q => kp e o c1 c2 c3 q)
/-- the pairs in the list: at rising addresses above lo -/
structure ZG (Pa Pb : Nat → Value → Prop) (lo : Addr) (h : Heap) (as : List Addr) : Prop where
  rise : as.Pairwise (· < ·)
  above : ∀ a ∈ as, lo < a
  pr : ∀ (j : Nat) (a : Addr), as[j]? = some a → ∃ x y, Pa j x ∧ Pb j y ∧ IsTupOf2 h a x y
theorem ZG.there {lo : Addr} {h : Heap} {as : List Addr} (g : ZG Pa Pb lo h as) {a : Addr} (ha : a ∈ as) : a < h.objs.size := by
  obtain ⟨j, hj⟩ := List.mem_iff_getElem?.mp ha
  obtain ⟨_, _, _, _, e⟩ := g.pr j a hj
  exact Heap.lt_size e
end
section
variable {prog : Program} {w : World} {A : Around} {s : Shared} {R : Result → Shared → Prop} {z TI TO i1 i2 : Addr} {fa fb : List Addr} {n1 n2 : Nat} {Pa Pb : Nat → Value → Prop} {Sa Sb : Nat → Heap → Prop}
theorem zs_loop {L lo : Addr} (Z : ZipSep2 z TI TO i1 i2 fa fb) (Da : Draws prog w A.in1.in1 i1 fa n1 Pa Sa) (Db : Draws prog w A.in1.in1 i2 fb n2 Pb Sb) (cz : z ≤ lo) (cO : TO ≤ lo) (c1 : i1 ≤ lo) (c2 : i2 ≤ lo) (cL : L ≤ lo) (lz : L ≠ z) (lI : L ≠ TI) (lO : L ≠ TO) (l1 : L ≠ i1) (l2 : L ≠ i2) (la : L ∉ fa) (lb : L ∉ fb) (hn : min n1 n2 ≤ sizeLine) (res : Value) {hb : Heap}
    (hR : ∀ g tk acc c as, (∀ b o, b ≠ L → b ≠ z → b ≠ TO → b ≠ i1 → b ≠ i2 → hb.get? b = some o → g.get? b = some o) → g.get? L = some { cls := .type "list", dict := none, data := .seq acc c, slots := #[] } → as.length = min n1 n2 → ZG Pa Pb lo g as → acc.toList = as.map Value.ref → R (.ok (.ret res)) { s with heap := g, toks := tk }) :
    ∀ (k i : Nat) (h : Heap) (tk c : Nat) (acc : Array Value) (as : List Addr), min n1 n2 - i = k → i ≤ min n1 n2 → ZS z TI TO i1 i2 L Sa Sb i h → (∀ b o, b ≠ L → b ≠ z → b ≠ TO → b ≠ i1 → b ≠ i2 → hb.get? b = some o → h.get? b = some o) →
      h.get? L = some { cls := .type "list", dict := none, data := .seq acc c, slots := #[] } → acc.toList = as.map Value.ref → as.length = i → ZG Pa Pb lo h as → lo < h.objs.size →
      codeAny (model prog w) A (.builtin "list.extend.loop" ⟨[.ref L, .ref z, res], []⟩) R { s with heap := h, toks := tk } := by
  intro k
  induction k with
  | zero =>
    intro i h tk c acc as hk hi st hkp hL hacc hl hG hlo
    refine codeAny_builtin F.entry_extend_loop ?_
    rw [Around.under_plainId F.plain_extend_loop _]
    show wpAny _ A.in1 (pyNext (.ref z) >>= _) _ _ _
    refine wpAny_bind (zs_stop (s := { s with heap := h, toks := tk }) (A := A.in1) Z Da Db st (by omega) (by omega) (by omega) fun g t' kp => ?_)
    refine wpAny_pure (hR g t' acc c as (fun b o q0 q1 q2 q3 q4 e => kp b o q1 q2 q3 q4 (hkp b o q0 q1 q2 q3 q4 e)) (kp L _ lz lO l1 l2 hL) (by omega) ⟨hG.rise, hG.above, fun j a hj => ?_⟩ hacc)
    obtain ⟨x, y, p1, p2, p3⟩ := hG.pr j a hj
    have ab := hG.above a (List.mem_of_getElem? hj)
    exact ⟨x, y, p1, p2, kp a _ (Nat.ne_of_gt (Nat.lt_of_le_of_lt cz ab)) (Nat.ne_of_gt (Nat.lt_of_le_of_lt cO ab)) (Nat.ne_of_gt (Nat.lt_of_le_of_lt c1 ab)) (Nat.ne_of_gt (Nat.lt_of_le_of_lt c2 ab)) p3⟩
  | succ k ih =>
    intro i h tk c acc as hk hi st hkp hL hacc hl hG hlo
    have lt1 : i < n1 := by omega
    have lt2 : i < n2 := by omega
    have hsz : acc.size = i := by rw [← Array.length_toList, hacc, List.length_map, hl]
    refine codeAny_builtin F.entry_extend_loop ?_
    rw [Around.under_plainId F.plain_extend_loop _]
    show wpAny _ A.in1 (pyNext (.ref z) >>= _) _ _ _
    refine wpAny_bind (zs_item (s := { s with heap := h, toks := tk }) (A := A.in1) Z Da Db st (Heap.lt_size hL) lt1 lt2 fun x y g t' px py st' tp sz kp => ?_)
    dsimp only at tp sz kp ⊢
    have hL' := kp L _ lz lO l1 l2 hL
    have Llt : L < h.objs.size := Heap.lt_size hL
    have up : ∀ b o, b ≠ L → g.get? b = some o → (g.update L (Obj.mapSeq (·.push (Value.ref h.objs.size)))).get? b = some o := fun b o nb e => (Heap.get?_update_other _ _ (Ne.symm nb)).trans e
    show wpAny _ A.in1 (updateSeq L (·.push (Value.ref h.objs.size)) >>= _) _ _ _
    refine wpAny_bind ?_
    refine wpAny_updateSeq hL' rfl (wpAny_pure ⟨plainId_quiet F.plain_extend_loop _, ih (i + 1) _ t' _ (acc.push (Value.ref h.objs.size)) (as ++ [h.objs.size]) (by omega) (by omega) ?_
      (fun b o q0 q1 q2 q3 q4 e => up b o q0 (kp b o q1 q2 q3 q4 (hkp b o q0 q1 q2 q3 q4 e))) (Heap.get?_update_self _ hL' rfl) (by rw [Array.toList_push, hacc, List.map_append]; rfl) (by rw [List.length_append, hl]; rfl) ⟨?_, ?_, ?_⟩ ?_⟩) (by rw [hsz]; omega) (by show (acc.push (Value.ref h.objs.size)).size ≤ sizeLine + 1; rw [Array.size_push, hsz]; omega)
    · obtain ⟨q1, q2, q3, q4⟩ := st'
      refine ⟨up _ _ (Ne.symm lI) q1, Da.frame _ _ _ q2 fun b hb o e => up b o (fun q => la (q ▸ hb)) e, Db.frame _ _ _ q3 fun b hb o e => up b o (fun q => lb (q ▸ hb)) e, ?_⟩
      rcases q4 with ⟨q5, u, v, q6⟩ | ⟨T, fl, oT, q5, q6, r1, r2, r3, r4⟩
      · exact .inl ⟨up _ _ (Ne.symm lz) q5, u, v, up _ _ (Ne.symm lO) q6⟩
      · exact .inr ⟨T, fl, oT, up _ _ (Ne.symm lz) q5, up _ _ r4 q6, r1, r2, r3, r4⟩
    · refine List.pairwise_append.mpr ⟨hG.rise, List.pairwise_singleton _ _, fun a ha b hb' => ?_⟩
      rw [List.mem_singleton.mp hb']
      exact hG.there ha
    · intro a ha
      rcases List.mem_append.mp ha with ha | ha
      · exact hG.above a ha
      · rw [List.mem_singleton.mp ha]; exact hlo
    · intro j b hj
      rcases Nat.lt_trichotomy j as.length with q | q | q
      · rw [List.getElem?_append_left q] at hj
        obtain ⟨x', y', p1, p2, p3⟩ := hG.pr j b hj
        have ab := hG.above b (List.mem_of_getElem? hj)
        exact ⟨x', y', p1, p2, up b _ (Nat.ne_of_gt (Nat.lt_of_le_of_lt cL ab)) (kp b _ (Nat.ne_of_gt (Nat.lt_of_le_of_lt cz ab)) (Nat.ne_of_gt (Nat.lt_of_le_of_lt cO ab)) (Nat.ne_of_gt (Nat.lt_of_le_of_lt c1 ab)) (Nat.ne_of_gt (Nat.lt_of_le_of_lt c2 ab)) p3)⟩
      · subst q
        have eb : h.objs.size = b := by simpa using hj
        subst eb
        exact ⟨x, y, by rw [hl]; exact px, by rw [hl]; exact py, up _ _ (Nat.ne_of_gt Llt) tp⟩
      · rw [List.getElem?_eq_none (by rw [List.length_append, List.length_singleton]; omega)] at hj
        cases hj
    · have e : (g.update L (Obj.mapSeq (·.push (Value.ref h.objs.size)))).get? h.objs.size = _ := up _ _ (Nat.ne_of_gt Llt) tp
      exact Nat.lt_trans hlo (Heap.lt_size e)
end
theorem zip_nolen : typeLookup (.type "zip") "__len__" = pure none := by rw [typeLookup_type, builtinLookup_eq_fast]; kernel_rfl
theorem zip_nohint : typeLookup (.type "zip") "__length_hint__" = pure none := by rw [typeLookup_type, builtinLookup_eq_fast]; kernel_rfl
section
variable {prog : Program} {w : World} {A : Around} {E : Value → Shared → Prop} {s : Shared} {z TI TO i1 i2 : Addr} {fa fb : List Addr} {n1 n2 : Nat} {Pa Pb : Nat → Value → Prop} {Sa Sb : Nat → Heap → Prop}
/-- list(z), z a zip that has not begun -/
theorem list_zip {Q : Value → Shared → Prop} (Z : ZipSep2 z TI TO i1 i2 fa fb) (D4 : Draws prog w A.in1.in1.in1 i1 fa n1 Pa Sa) (D5 : Draws prog w A.in1.in1.in1 i2 fb n2 Pb Sb)
    (hz : IsZip s.heap z TI TO .none) (hI : IsTupOf2 s.heap TI (.ref i1) (.ref i2)) (hO : ∃ u v, IsTupOf2 s.heap TO u v) (ta : Sa 0 s.heap) (tb : Sb 0 s.heap) (fa1 : ∀ b ∈ fa, b < s.heap.objs.size) (fb1 : ∀ b ∈ fb, b < s.heap.objs.size) (hn : min n1 n2 ≤ sizeLine)
    (hQ : ∀ g tk acc c as, (∀ b o, b ≠ z → b ≠ TO → b ≠ i1 → b ≠ i2 → s.heap.get? b = some o → g.get? b = some o) → g.get? s.heap.objs.size = some { cls := .type "list", dict := none, data := .seq acc c, slots := #[] } → as.length = min n1 n2 → ZG Pa Pb s.heap.objs.size g as → acc.toList = as.map Value.ref → Q (.ref s.heap.objs.size) { s with heap := g, toks := tk }) :
    wpAny (model prog w) A (call (.type "list") [.ref z]) Q E s := by
  refine callType_codes (Q₁ := fun ob t => ob = .ref s.heap.objs.size ∧ t = { s with heap := s.heap.push { cls := .type "list", data := .seq #[] } }) F.called_list (F.typeCall_list_1 _) F.entry_list_init (code_list_new _ ⟨rfl, rfl⟩) fun ob t h => ?_
  obtain ⟨rfl, rfl⟩ := h
  have hS : (s.heap.push { cls := .type "list", data := .seq #[] }).get? s.heap.objs.size = some { cls := .type "list", data := .seq #[] } := Heap.get?_push_size _ rfl
  have zlt : z < s.heap.objs.size := Heap.lt_size hz
  have Olt : TO < s.heap.objs.size := let ⟨_, _, e⟩ := hO; Heap.lt_size e
  have Ilt : TI < s.heap.objs.size := Heap.lt_size hI
  have lt1 : i1 < s.heap.objs.size := fa1 _ Z.mem1
  have lt2 : i2 < s.heap.objs.size := fb1 _ Z.mem2
  refine ⟨⟨_, hS, rfl⟩, F.args_list_init_2 _ _, ?_⟩
  show wpAny _ A.in1.in1 (do let old ← Builtin.List.listItems (.ref s.heap.objs.size); Builtin.List.listUpdate (.ref s.heap.objs.size) (fun _ => #[]); letGo old.toList.reverse; Builtin.List.listExtendWith (.ref s.heap.objs.size) (.ref z) .none) _ _ _
  refine wpAny_bind ?_
  unfold Builtin.List.listItems
  refine wpAny_bind (wpAny_seqItems hS rfl (wpAny_pure ?_))
  show wpAny _ A.in1.in1 (updateSeq s.heap.objs.size (fun _ => #[]) >>= fun _ => letGo (#[] : Array Value).toList.reverse >>= fun _ => Builtin.List.listExtendWith (.ref s.heap.objs.size) (.ref z) .none) _ _ _
  refine wpAny_bind (wpAny_updateSeq hS rfl ?_)
  have hS2 := Heap.get?_update_self (Obj.mapSeq (fun _ => (#[] : Array Value))) hS rfl
  refine wpAny_bind (wpAny_letGo ?_)
  have up : ∀ (h : Heap) (f : Obj → Obj), (∀ b o, s.heap.get? b = some o → h.get? b = some o) → ∀ b o, s.heap.get? b = some o → (h.update s.heap.objs.size f).get? b = some o := fun h f q b o e => (Heap.get?_update_other _ _ (Ne.symm (Nat.ne_of_lt (Heap.lt_size e)))).trans (q b o e)
  have k1 : ∀ b o, s.heap.get? b = some o → (s.heap.push { cls := .type "list", data := .seq #[] }).get? b = some o := fun b o e => Heap.get?_push_of_some _ e
  have k2 := up _ (Obj.mapSeq (fun _ => (#[] : Array Value))) k1
  unfold Builtin.List.listExtendWith
  have zt : ∀ {h : Heap} {g : Array GenState} {d : Drawn} {tk : Nat} {os : OsState}, (∀ b o, s.heap.get? b = some o → h.get? b = some o) → Shared.TypeIs ⟨h, g, d, tk, os⟩ (.ref z) "zip" := fun {h g d tk os} q => ⟨_, q _ _ hz, rfl⟩
  refine wpAny_bind (wpAny_typeOf (T := "zip") (zt k2) ?_)
  have e1 : Builtin.List.listSameRef (.ref s.heap.objs.size) (.ref z) = false := by simp [Builtin.List.listSameRef, Nat.ne_of_gt zlt]
  have e2 : (Value.type "zip" == Value.type "list") = false := by decide
  have e3 : (Value.type "zip" == Value.type "tuple") = false := by decide
  simp only [e1, e2, e3, Bool.or_false, Bool.false_eq_true, if_false]
  refine wpAny_bind (wpAny_pyIter_zip (s := { s with heap := _ }) (k2 _ _ hz) ?_)
  refine wpAny_bind (wpAny_holding ?_)
  unfold Builtin.List.listLengthHint
  refine wpAny_bind (wpAny_specialOf (zt k2) zip_nolen ?_)
  show wpAny _ A.in1.in1 (specialOf (Value.ref z) (Str.ofString "__length_hint__") >>= _) _ _ _
  refine wpAny_bind (wpAny_specialOf (zt k2) zip_nohint ?_)
  refine wpAny_pure ?_
  show wpAny _ A.in1.in1 (rule "list.extend.makes-room" >>= fun _ => Builtin.List.listTouch (.ref s.heap.objs.size) >>= fun _ => again (.builtin "list.extend.loop" ⟨[.ref s.heap.objs.size, .ref z, .none], []⟩)) _ _ _
  refine wpAny_bind (wpAny_rule ?_)
  refine wpAny_bind ?_
  show wpAny _ A.in1.in1 (updateSeq s.heap.objs.size (·.push .none) >>= fun _ => updateSeq s.heap.objs.size (·.pop)) _ _ _
  refine wpAny_bind (wpAny_updateSeq hS2 rfl ?_)
  have hS3 := Heap.get?_update_self (Obj.mapSeq (·.push Value.none)) hS2 rfl
  refine wpAny_updateSeq (hz := by seq_fits) hS3 rfl ?_
  have hS4 := Heap.get?_update_self (Obj.mapSeq (·.pop)) hS3 rfl
  have k3 := up _ (Obj.mapSeq (·.push Value.none)) k2
  have k4 := up _ (Obj.mapSeq (·.pop)) k3
  refine wpAny_pure ⟨plainId_quiet F.plain_extend_loop _, zs_loop (A := A.in1) (s := s) (L := s.heap.objs.size) (lo := s.heap.objs.size) (hb := s.heap) Z D4 D5 (Nat.le_of_lt zlt) (Nat.le_of_lt Olt) (Nat.le_of_lt lt1) (Nat.le_of_lt lt2) (Nat.le_refl _) (Nat.ne_of_gt zlt) (Nat.ne_of_gt Ilt) (Nat.ne_of_gt Olt) (Nat.ne_of_gt lt1) (Nat.ne_of_gt lt2)
    (fun q => Nat.lt_irrefl _ (fa1 _ q)) (fun q => Nat.lt_irrefl _ (fb1 _ q)) hn .none (fun g tk acc c as kp hL hl hG hacc => ?_) (min n1 n2) 0 _ s.toks _ #[] [] (Nat.sub_zero _) (Nat.zero_le _)
    ⟨k4 _ _ hI, D4.frame _ _ _ ta fun b _ o e => k4 b o e, D5.frame _ _ _ tb fun b _ o e => k4 b o e, .inl ⟨k4 _ _ hz, let ⟨u, v, e⟩ := hO; ⟨u, v, k4 _ _ e⟩⟩⟩ (fun b o _ _ _ _ _ e => k4 b o e) hS4 rfl rfl ⟨List.Pairwise.nil, (fun a ha => by cases ha), fun j a hj => by simp at hj⟩ (Heap.lt_size hS4)⟩
  exact ⟨rfl, hQ g tk acc c as (fun b o q1 q2 q3 q4 e => kp b o (Nat.ne_of_lt (Heap.lt_size e)) q1 q2 q3 q4 e) hL hl hG hacc⟩
end
/-! ### in the abstract heap -/
def putP : Hp → List Addr → List (V × V) → Hp
  | H, a :: as, p :: ps => putP (upd H a (.tup [p.1, p.2])) as ps
  | H, [], _ => H
  | H, _ :: _, [] => H
theorem putP_off {b : Addr} : ∀ (as : List Addr) (ps : List (V × V)) (H : Hp), b ∉ as → putP H as ps b = H b
  | [], _, _, _ => by unfold putP; rfl
  | _ :: _, [], _, _ => by unfold putP; rfl
  | a :: as, p :: ps, H, h => by
    unfold putP
    rw [putP_off as ps _ (fun q => h (List.mem_cons_of_mem _ q)), upd_ne (fun q => h (by rw [q]; exact List.mem_cons_self))]
theorem putP_at : ∀ (as : List Addr) (ps : List (V × V)) (H : Hp), as.length = ps.length → as.Nodup → ∀ (j : Nat) (a : Addr), as[j]? = some a → ∃ q, ps[j]? = some q ∧ putP H as ps a = some (.tup [q.1, q.2])
  | [], _, _, _, _, j, a, h => by simp at h
  | _ :: _, [], _, h, _, _, _, _ => by simp at h
  | b :: as, p :: ps, H, h, nd, j, a, hj => by
    have nd' := List.nodup_cons.mp nd
    cases j with
    | zero =>
      have e : b = a := by simpa using hj
      subst e
      refine ⟨p, rfl, ?_⟩
      unfold putP
      rw [putP_off as ps _ nd'.1, upd_same]
    | succ j =>
      obtain ⟨q, h1, h2⟩ := putP_at as ps (upd H b (.tup [p.1, p.2])) (by simpa using h) nd'.2 j a (by simpa using hj)
      refine ⟨q, by simpa using h1, ?_⟩
      unfold putP
      exact h2
theorem refs_vals : ∀ as : List Addr, Vals (as.map V.ref) (as.map Value.ref)
  | [] => .nil
  | _ :: as => .cons rfl (refs_vals as)
/-- the list and its pairs are tracked -/
theorem pairs_laid {X : Cx} {pins : List (Addr × Obj)} {σ : L2.St} {H : Hp} {s : Shared} {g : Heap} {tk : Nat} {ps : List (V × V)} {acc : Array Value} {c : Nat} {as : List Addr} {L : Addr} (I : Inv X pins σ H s) (hz : ps.length ≤ sizeLine) (kp : ∀ b o, s.heap.get? b = some o → g.get? b = some o) (hL : s.heap.objs.size ≤ L)
    (hS : g.get? L = some { cls := .type "list", dict := none, data := .seq acc c, slots := #[] }) (hl : as.length = ps.length) (rise : as.Pairwise (· < ·)) (ab : ∀ a ∈ as, L < a) (hacc : acc.toList = as.map Value.ref)
    (pr : ∀ (j : Nat) (a : Addr) (q : V × V), as[j]? = some a → ps[j]? = some q → ∃ x y, RelV q.1 x ∧ RelV q.2 y ∧ IsTupOf2 g a x y) :
    ∃ H' : Hp, Same H H' ∧ H L = none ∧ H' L = some (.lst (as.map V.ref)) ∧ (∀ (j : Nat) (a : Addr), as[j]? = some a → ∃ q, ps[j]? = some q ∧ H' a = some (.tup [q.1, q.2])) ∧ Inv X pins σ H' { s with heap := g, toks := tk } := by
  have nL : L ∉ as := fun q => Nat.lt_irrefl _ (ab _ q)
  have nd : as.Nodup := List.Pairwise.imp (fun {a b} (h : a < b) => Nat.ne_of_lt h) rise
  have nw : ∀ t ∈ as, H t = none := fun t ht => I.hok.fresh (Nat.le_trans hL (Nat.le_of_lt (ab t ht)))
  have nwL : H L = none := I.hok.fresh hL
  have at' := putP_at as ps (upd H L (.lst (as.map V.ref))) hl nd
  have off : ∀ b, b ∉ as → b ≠ L → putP (upd H L (.lst (as.map V.ref))) as ps b = H b := fun b h1 h2 => by rw [putP_off as ps _ h1, upd_ne h2]
  have low : ∀ b o, s.heap.get? b = some o → b ∉ as ∧ b ≠ L := fun b o e => ⟨fun q => absurd (Nat.lt_trans (Nat.lt_of_lt_of_le (Heap.lt_size e) hL) (ab b q)) (Nat.lt_irrefl _), fun q => absurd (Nat.lt_of_lt_of_le (Heap.lt_size e) hL) (by rw [q]; exact Nat.lt_irrefl _)⟩
  have kH : ∀ b u, H b = some u → putP (upd H L (.lst (as.map V.ref))) as ps b = some u := fun b u e => by
    rw [off b (fun q => by rw [nw b q] at e; cases e) (fun q => by rw [q, nwL] at e; cases e)]
    exact e
  have eL : putP (upd H L (.lst (as.map V.ref))) as ps L = some (.lst (as.map V.ref)) := by rw [putP_off as ps _ nL, upd_same]
  refine ⟨_, kH, nwL, eL, at', ?_⟩
  refine I.call' (ch := []) rfl ⟨fun b o q _ _ _ => kp b o q, fun b o q _ _ _ => ⟨o.slots, kp b o q⟩, fun b o q n _ => ?_, fun b o q _ => ⟨o, kp b o q⟩, fun b xs q => kH b _ q, fun b o u q => kH b _ q, fun b qs q => ⟨#[], by rw [kH b _ q]; simp⟩⟩ (fun b u q => ?_) I.bare fun b q => by simp at q
  · obtain ⟨z1, z2⟩ := low b o q
    rw [off b z1 z2]
    exact n
  · by_cases hb : b ∈ as
    · obtain ⟨j, hj⟩ := List.mem_iff_getElem?.mp hb
      obtain ⟨pq, e1, e2⟩ := at' j b hj
      rw [e2] at q
      cases q
      obtain ⟨x, y, r1, r2, tp⟩ := pr j b pq hj e1
      exact ⟨by show 2 ≤ 2 ^ 24; decide, [x, y], .cons r1 (.cons r2 .nil), ⟨_, tp, rfl, _, rfl⟩⟩
    · by_cases hb2 : b = L
      · rw [hb2] at q ⊢
        rw [eL] at q
        cases q
        refine ⟨by rw [List.length_map]; omega, acc.toList, c, by rw [hacc]; exact refs_vals as, ?_⟩
        rw [Array.toArray_toList]
        exact hS
      · rw [off b hb hb2] at q
        exact (I.hok b u q).stay (fun d v _ y => kp d v y) (fun d y => kH d _ y) fun d xs y => kH d _ y
end Wk
namespace Wk
open PySem PySem.Spec PyProof.Rows L2
section
variable {X : Cx} {e a b c elt kx vx o : Expr} {es rest : List Expr} {σ : L2.St} {H : Hp} {Q : VK} {pos p0 apos : Pos} {N G G' : List Str} {Vn : List (Nat × Str)} {sc scope : Scope}
/-- list(zip(a, b)) -/
theorem e_listZ (c d : Side) {g g2 : Nat} {p p2 pos2 : Pos} (hm : X.mg "list" = none) (hmz : X.mg "zip" = none)
    (q : wE X a σ H fun v H1 => wE X b σ H1 fun u H2 => ∃ va vb xs ys, v = .ref va ∧ u = .ref vb ∧ c.sq X.K H2 va xs ∧ d.sq X.K H2 vb ys ∧ min xs.length ys.length ≤ 200000 ∧
      ∀ (L : Addr) (as : List Addr) (H3 : Hp), Same H2 H3 → H2 L = none → H3 L = some (.lst (as.map V.ref)) → as.length = min xs.length ys.length → (∀ (j : Nat) (t : Addr), as[j]? = some t → ∃ x y, xs[j]? = some x ∧ ys[j]? = some y ∧ H3 t = some (.tup [x, y])) → Q (.ref L) H3)
    (I : In X N G sc := by assumption) (hc : X.calm = true := by rfl) (hG : At G g ("list" : Str) := by repeat (first | with_reducible apply At.z | with_reducible apply At.s)) (hGz : At G g2 ("zip" : Str) := by repeat (first | with_reducible apply At.z | with_reducible apply At.s))
    (hs : starEach [.Call (.Name "zip" p2) [a, b] [] pos2] X.env = (false, eval (.Call (.Name "zip" p2) [a, b] [] pos2) X.env) :: starEach [] X.env := by rfl) (hs0 : starEach [a, b] X.env = (false, eval a X.env) :: starEach [b] X.env := by rfl) (hpl : (backTo pos2 (starEach [b] X.env)).any (·.1) = false := by rfl)
    (hs1 : starEach (b :: []) X.env = (false, eval b X.env) :: starEach [] X.env := by rfl) :
    wE X (.Call (.Name "list" p) [.Call (.Name "zip" p2) [a, b] [] pos2] [] pos) σ H Q := by
  unfold wE
  intro pins s I0
  refine wpAny_Call_Name_kw (ld_blt I0 (I.g hG) hm b_list ?_ (I.gn hG) (I.gd hG))
  refine PyProof.Rows.callWith_type1 ?_ hs rfl
  rw [hs]
  show wpAny _ _ (spliced ((false, eval (.Call (.Name "zip" p2) [a, b] [] pos2) X.env) :: backTo pos (starEach [] X.env))) _ _ s
  refine Calls.spliced_cons ?_
  refine Call_ (ld_blt I0 (I.g hGz) hmz PyProof.Rows.boot_zip (PyProof.Rows.callWith_type1 (thn ((pa_cons pe (pa_cons pe pa_nil hs1) hs0).run pos2 pins s σ H (fun vs H2 => ∃ va vb xs ys, vs = [.ref va, .ref vb] ∧ c.sq X.K H2 va xs ∧ d.sq X.K H2 vb ys ∧ min xs.length ys.length ≤ 200000 ∧
      ∀ (L : Addr) (as : List Addr) (H3 : Hp), Same H2 H3 → H2 L = none → H3 L = some (.lst (as.map V.ref)) → as.length = min xs.length ys.length → (∀ (j : Nat) (t : Addr), as[j]? = some t → ∃ x y, xs[j]? = some x ∧ ys[j]? = some y ∧ H3 t = some (.tup [x, y])) → Q (.ref L) H3) I0 (e_mono q fun v H1 q1 => e_mono q1 fun u H2 ⟨va, vb, xs, ys, e1, e2, z⟩ => ⟨va, vb, xs, ys, by rw [e1, e2], z⟩)) fun us s1 ⟨vs, H1, I1, r1, va, vb, xs, ys, ev, sx, sy, hz, k⟩ => ?_) hs0 hpl))
  subst ev
  obtain ⟨u, v, rfl, ru, rv⟩ : ∃ u v, us = [u, v] ∧ RelV (.ref va) u ∧ RelV (.ref vb) v := by
    cases r1 with
    | cons r t => cases t with
      | cons r' t => cases t; exact ⟨_, _, rfl, r, r'⟩
  cases ru
  cases rv
  obtain ⟨ws, rw1, cx⟩ := c.own I1 sx
  obtain ⟨zs, rw2, cy⟩ := d.own I1 sy
  have la := c.lt cx
  have lb := d.lt cy
  have hh : X.A.handled = none := I1.ok.hd hc
  have lw := rw1.length
  have lz := rw2.length
  generalize hN : s1.heap.objs.size = M at la lb
  refine zip_begins2 (c.begins va ws.toArray) (d.begins vb zs.toArray) cx cy fun h1 g1 g2 g3 g4 g5 gsz kp => ?_
  rw [hN] at g1 g2 g3 g4 g5 gsz ⊢
  refine Calls.spliced_nil ?_
  have S : ZipSep2 (M + 4) (M + 2) (M + 3) M (M + 1) [M, va] [M + 1, vb] := zip_sep2 (fun e he => by rw [List.mem_singleton.mp he]; exact la) (fun e he => by rw [List.mem_singleton.mp he]; exact lb)
  have cu : ∀ (cc : Side) (x : Addr) (us : Array Value), cc.con s1.heap x us → cc.con h1 x us := fun cc x us hx => by
    cases cc with
    | l => exact hx.at fun o q => kp _ o q
    | t => exact hx.at fun o q => kp _ o q
  refine list_zip (s := { s1 with heap := h1 }) S (c.draws (A := X.A.in1.in1.in1) hh M va (Nat.ne_of_lt la) ws.toArray) (d.draws (A := X.A.in1.in1.in1) hh (M + 1) vb (Nat.ne_of_lt (Nat.lt_succ_of_lt lb)) zs.toArray) g1 g2 ⟨_, _, g3⟩ ⟨c.start g4, cu c _ _ cx⟩ ⟨d.start g5, cu d _ _ cy⟩ (fun e he => ?_) (fun e he => ?_) ?_ fun g tk acc cc as kg hL hl hG hacc => ?_
  · show e < h1.objs.size
    rw [gsz]
    simp only [List.mem_cons, List.not_mem_nil, or_false] at he
    rcases he with rfl | rfl
    · exact Nat.lt_add_of_pos_right (by decide)
    · exact Nat.lt_of_lt_of_le la (Nat.le_add_right _ _)
  · show e < h1.objs.size
    rw [gsz]
    simp only [List.mem_cons, List.not_mem_nil, or_false] at he
    rcases he with rfl | rfl
    · exact Nat.add_lt_add_left (by decide) M
    · exact Nat.lt_of_lt_of_le lb (Nat.le_add_right _ _)
  · rw [List.size_toArray, List.size_toArray, ← lw, ← lz]
    show _ ≤ 2 ^ 24
    omega
  · dsimp only at kg hL hG
    have lo : ∀ b o, s1.heap.get? b = some o → b < M := fun b o q => hN ▸ Heap.lt_size q
    have lm : min xs.length ys.length = (xs.zip ys).length := by rw [List.length_zip]
    have hl2 : as.length = (xs.zip ys).length := by rw [hl, List.size_toArray, List.size_toArray, ← lw, ← lz, lm]
    obtain ⟨H', e1, e2, e3, e4, J⟩ := pairs_laid (tk := tk) (ps := xs.zip ys) (L := h1.objs.size) I1 (by rw [← lm]; show _ ≤ 2 ^ 24; omega) (fun b o q => kg b o (Nat.ne_of_lt (Nat.lt_of_lt_of_le (lo b o q) (Nat.le_add_right M 4))) (Nat.ne_of_lt (Nat.lt_of_lt_of_le (lo b o q) (Nat.le_add_right M 3))) (Nat.ne_of_lt (lo b o q)) (Nat.ne_of_lt (Nat.lt_of_lt_of_le (lo b o q) (Nat.le_add_right M 1))) (kp b o q)) (by omega) hL hl2 hG.rise hG.above hacc
      (fun j t pq hj hq => by
        obtain ⟨x', y', p1, p2, p3⟩ := hG.pr j t hj
        obtain ⟨q1, q2⟩ := List.getElem?_zip_eq_some.mp hq
        obtain ⟨w1, f1, f2⟩ := rw1.get q1
        obtain ⟨w2, f3, f4⟩ := rw2.get q2
        rw [List.getElem?_toArray, f1] at p1
        rw [List.getElem?_toArray, f3] at p2
        cases p1
        cases p2
        exact ⟨_, _, f2, f4, p3⟩)
    refine ⟨.ref h1.objs.size, H', J, rfl, k _ as H' e1 e2 e3 (by rw [hl2, lm]) fun j t hj => ?_⟩
    obtain ⟨pq, q1, q2⟩ := e4 j t hj
    obtain ⟨q3, q4⟩ := List.getElem?_zip_eq_some.mp q1
    exact ⟨pq.1, pq.2, q3, q4, q2⟩
/-- for x, y in reversed(xs), xs a list of pairs -/
theorem s_forRv2 {nx : L2.St → Hp → Prop} {rt : VK} {bk ct : L2.St → Hp → Prop} {g : Nat} {x y : Str} {i j : Nat} {body : List Stmt} {px py pt p cp pos : Pos} {kk : Nat} (hm : X.mg "reversed" = none)
    (q : wE X a σ H fun v H1 => ∃ ad xs, v = .ref ad ∧ SqL X.K H1 ad xs ∧ ∃ Pv : Nat → L2.St → Hp → Prop, Pv 0 σ H1 ∧ (∀ k σ H, k ≤ xs.length → Pv k σ H → SqL X.K H ad xs) ∧
      (∀ k y σ H, xs.reverse[k]? = some y → Pv k σ H → ∃ t u1 u2, y = .ref t ∧ SqT X.K H t [u1, u2] ∧ wL X body ⟨Pv (k + 1), rt, nx, Pv (k + 1)⟩ ((σ.set i (some u1)).set j (some u2)) H) ∧ ∀ σ H, Pv xs.length σ H → nx σ H)
    (I : In X N G sc := by assumption) (hc : X.calm = true := by rfl) (hA : At N i x := by repeat (first | with_reducible apply At.z | with_reducible apply At.s)) (hB : At N j y := by repeat (first | with_reducible apply At.z | with_reducible apply At.s)) (hG : At G g ("reversed" : Str) := by repeat (first | with_reducible apply At.z | with_reducible apply At.s))
    (hs : starEach [a] X.env = (false, eval a X.env) :: starEach [] X.env := by rfl) (hs2 : ∀ z, foldedSetIterable (.Call (.Name "reversed" p) [a] [] cp) X.env z = pure z := by intro _; rfl) :
    wS X (.For (.Tuple [.Name x px, .Name y py] kk pt) (.Call (.Name "reversed" p) [a] [] cp) body [] pos) ⟨nx, rt, bk, ct⟩ σ H := by
  refine s_of (ps_for I.never hc (RT.pi_revA (I.g hG) hm pe hs) (pg_tup hc (pgs_cons (pg_name I.nd (I.hi hA) (I.loc hA) I.f) (pgs_cons (pg_name I.nd (I.hi hB) (I.loc hB) I.f) pgs_nil))) pl hs2) (e_mono q fun v H1 q1 => ?_)
  obtain ⟨ad, xs, rfl, hl, Pv, h0, hk, hb, hd⟩ := q1
  refine ⟨ad, xs, rfl, .inl ⟨hl, fun k m σ H => m = xs.length - k ∧ k ≤ xs.length ∧ Pv k σ H, ⟨xs.length, by simp, Nat.zero_le _, h0⟩, ?_⟩⟩
  rintro k m σ H ⟨rfl, hi, p⟩
  have q := hk k σ H hi p
  by_cases hlt : k < xs.length
  · refine .inr ⟨⟨hlt, xs, xs[xs.length - 1 - k]'(by omega), q, by simp⟩, Pv (k + 1), fun σ' H' p' => ⟨xs.length - (k + 1), by omega, rfl, hlt, p'⟩, fun x H' y => ?_⟩
    obtain ⟨e, y⟩ := y
    subst e
    obtain ⟨t, u1, u2, rfl, hq, z⟩ := hb k x σ _ (by rw [List.getElem?_reverse hlt]; exact y xs q) p
    exact ⟨t, [u1, u2], rfl, hq, rfl, u1, [u2], rfl, u2, [], rfl, rfl, z⟩
  · have e : k = xs.length := by omega
    subst e
    exact .inl ⟨Nat.le_refl _, hd σ H p⟩
/-- what the turns of a dict's comprehension over a dict ask, with a test or without -/
def DTurn (X : Cx) (Vn : List (Nat × Str)) (G' : List Str) (kx vx : Expr) (scope : Scope) (i : Nat) (D : Addr) (σ : L2.St) (x : V) (H2 : Hp) (nxt : Hp → Prop) : Prop := ∀ s0 H0 C cl fp, InB (Bk X s0 H0 scope C cl fp) Vn G' →
  wE (Bk X s0 H0 scope C cl fp) kx ((wipe σ [i]).set i (some x)) H2 fun y H3 => ∀ s0 H0 C cl fp, InB (Bk X s0 H0 scope C cl fp) Vn G' →
    wE (Bk X s0 H0 scope C cl fp) vx ((wipe σ [i]).set i (some x)) H3 fun z H4 => ∃ kvs ky, y = kV ky ∧ H4 D = some (.dK kvs) ∧ kvs.length < sizeLine ∧ nxt (upd H4 D (.dK (putK kvs ky z)))
def DcD (X : Cx) (Vn : List (Nat × Str)) (G' : List Str) (kx vx : Expr) (scope : Scope) (i : Nat) (d : Addr) (o : Obj) (kvs : List (Key × V)) (D : Addr) (σ : L2.St) (H1 : Hp) (Qd : Hp → Prop) : Prop := ∃ Pv : Nat → Hp → Prop, Pv 0 (upd H1 D (.dK [])) ∧ (∀ k H2, k ≤ kvs.length → Pv k H2 → H2 d = some (.frz o (.dK kvs))) ∧
  (∀ k y v H2, kvs[k]? = some (y, v) → Pv k H2 → DTurn X Vn G' kx vx scope i D σ (kV y) H2 (Pv (k + 1))) ∧ ∀ H2, Pv kvs.length H2 → Qd H2
def DcDf (X : Cx) (Vn : List (Nat × Str)) (G' : List Str) (kx vx c : Expr) (scope : Scope) (i : Nat) (d : Addr) (o : Obj) (kvs : List (Key × V)) (D : Addr) (σ : L2.St) (H1 : Hp) (Qd : Hp → Prop) : Prop := ∃ Pv : Nat → Hp → Prop, Pv 0 (upd H1 D (.dK [])) ∧ (∀ k H2, k ≤ kvs.length → Pv k H2 → H2 d = some (.frz o (.dK kvs))) ∧
  (∀ k y v H2, kvs[k]? = some (y, v) → Pv k H2 → ∀ s0 H0 C cl fp, InB (Bk X s0 H0 scope C cl fp) Vn G' → wT (Bk X s0 H0 scope C cl fp) c ((wipe σ [i]).set i (some (kV y))) H2 fun t H3 => if t = true then DTurn X Vn G' kx vx scope i D σ (kV y) H3 (Pv (k + 1)) else Pv (k + 1) H3) ∧ ∀ H2, Pv kvs.length H2 → Qd H2
theorem dturn_of {i : Nat} {D : Addr} {x : V} {H2 : Hp} {nxt : Hp → Prop} (q : DTurn X Vn G' kx vx scope i D σ x H2 nxt) : wBk X Vn G' kx scope ((wipe σ [i]).set i (some x)) H2 fun y H4 => wBk X Vn G' vx scope ((wipe σ [i]).set i (some x)) H4 fun z H5 => ∃ kvs k, y = kV k ∧ H5 D = some (.dK kvs) ∧ kvs.length < sizeLine ∧ nxt (upd H5 D (.dK (putK kvs k z))) := by
  unfold wBk
  exact q
theorem dcD_of {i : Nat} {d : Addr} {ob : Obj} {kvs : List (Key × V)} {D : Addr} {H1 : Hp} {Qd : Hp → Prop} (q : DcD X Vn G' kx vx scope i d ob kvs D σ H1 Qd) : ∃ W : Nat → Nat → Hp → Prop, (∃ m, W 0 m (upd H1 D (.dK []))) ∧ ∀ k m H, W k m H →
    ((Itk d ob kvs).stop k H ∧ Qd H) ∨ ((Itk d ob kvs).go k H ∧ ∃ Nx : Hp → Prop, (∀ H', Nx H' → ∃ m', m' < m ∧ W (k + 1) m' H') ∧ ∀ x H', (Itk d ob kvs).yld k H x H' → gName i x (wipe σ [i]) H' fun σ2 H2 => wipe σ2 [i] = wipe σ [i] ∧ tYes σ2 H2 fun b H3 =>
      if b = true then wBk X Vn G' kx scope σ2 H3 fun y H4 => wBk X Vn G' vx scope σ2 H4 fun z H5 => ∃ kvs k, y = kV k ∧ H5 D = some (.dK kvs) ∧ kvs.length < sizeLine ∧ Nx (upd H5 D (.dK (putK kvs k z))) else Nx H3) := by
  obtain ⟨Pv, h0, hl, hs, hd⟩ := q
  refine ⟨fun k m H => m = kvs.length - k ∧ k ≤ kvs.length ∧ Pv k H, ⟨kvs.length, rfl, Nat.zero_le _, h0⟩, ?_⟩
  rintro k m H ⟨rfl, hk, p⟩
  have fz := hl k H hk p
  by_cases lt : k < kvs.length
  · refine .inr ⟨⟨fz, lt⟩, Pv (k + 1), fun H' p' => ⟨kvs.length - (k + 1), by omega, rfl, lt, p'⟩, fun x H' y => ?_⟩
    obtain ⟨rfl, ky, v, hkv, rfl⟩ := y
    refine ⟨wipe_set σ i _, ?_⟩
    unfold tYes
    exact iteT (dturn_of (hs k ky v _ hkv p))
  · have ek : k = kvs.length := by omega
    subst ek
    exact .inl ⟨⟨fz, Nat.le_refl _⟩, hd H p⟩
theorem dcDf_of {i : Nat} {d : Addr} {ob : Obj} {kvs : List (Key × V)} {D : Addr} {H1 : Hp} {Qd : Hp → Prop} (q : DcDf X Vn G' kx vx c scope i d ob kvs D σ H1 Qd) : ∃ W : Nat → Nat → Hp → Prop, (∃ m, W 0 m (upd H1 D (.dK []))) ∧ ∀ k m H, W k m H →
    ((Itk d ob kvs).stop k H ∧ Qd H) ∨ ((Itk d ob kvs).go k H ∧ ∃ Nx : Hp → Prop, (∀ H', Nx H' → ∃ m', m' < m ∧ W (k + 1) m' H') ∧ ∀ x H', (Itk d ob kvs).yld k H x H' → gName i x (wipe σ [i]) H' fun σ2 H2 => wipe σ2 [i] = wipe σ [i] ∧ wBkT X Vn G' c scope σ2 H2 fun b H3 =>
      if b = true then wBk X Vn G' kx scope σ2 H3 fun y H4 => wBk X Vn G' vx scope σ2 H4 fun z H5 => ∃ kvs k, y = kV k ∧ H5 D = some (.dK kvs) ∧ kvs.length < sizeLine ∧ Nx (upd H5 D (.dK (putK kvs k z))) else Nx H3) := by
  obtain ⟨Pv, h0, hl, hs, hd⟩ := q
  refine ⟨fun k m H => m = kvs.length - k ∧ k ≤ kvs.length ∧ Pv k H, ⟨kvs.length, rfl, Nat.zero_le _, h0⟩, ?_⟩
  rintro k m H ⟨rfl, hk, p⟩
  have fz := hl k H hk p
  by_cases lt : k < kvs.length
  · refine .inr ⟨⟨fz, lt⟩, Pv (k + 1), fun H' p' => ⟨kvs.length - (k + 1), by omega, rfl, lt, p'⟩, fun x H' y => ?_⟩
    obtain ⟨rfl, ky, v, hkv, rfl⟩ := y
    refine ⟨wipe_set σ i _, ?_⟩
    unfold wBkT
    intro s0 H0 C cl fp IB
    refine t_mono (hs k ky v _ hkv p s0 H0 C cl fp IB) fun t H3 z => ?_
    cases t with
    | true => exact iteT (dturn_of z)
    | false => exact z
  · have ek : k = kvs.length := by omega
    subst ek
    exact .inl ⟨⟨fz, Nat.le_refl _⟩, hd H p⟩
/-- {kx: vx for x in d}, d a dict that stands at ad -/
theorem e_dcD {i : Nat} {x : Str} {px : Pos} {ad : Addr} {kvs : List (Key × V)} (B : BkOk X.N Vn G' i x sc scope) (hd : H ad = some (.dK kvs))
    (q : ∀ o, wE X a σ (upd H ad (.frz o (.dK kvs))) fun v H1 => v = .ref ad ∧ H1 ad = some (.frz o (.dK kvs)) ∧ ∀ D, H1 D = none → DcD X Vn G' kx vx scope i ad o kvs D σ H1 fun H2 => H2 ad = some (.frz o (.dK kvs)) ∧ Q (.ref D) (upd H2 ad (.dK kvs)))
    (I : In X N G sc := by assumption) (hc : X.calm = true := by rfl) (hs2 : ∀ z, foldedSetIterable a X.env z = pure z := by intro _; rfl) :
    wE X (.DictComp kx vx [⟨.Name x px, a, [], 0⟩] scope pos) σ H Q := by
  refine e_of (pe_lock (pe_dc (own := [(x, i)]) (g := gName i) (tt := tYes) (tk := wBk X Vn G' kx scope) (tv := wBk X Vn G' vx scope) hc I.nd (pi_keys pe) (B.ok I) (fun s H C cl fp => B.pg I s H C cl fp) (fun _ _ _ _ _ => pts_nil) (fun s H C cl fp => pe_bk (B.inB I s H C cl fp)) (fun s H C cl fp => pe_bk (B.inB I s H C cl fp)) hs2)) ?_
  refine ⟨ad, .dK kvs, hd, trivial, fun o => e_mono (q o) fun v H1 q1 => ?_⟩
  obtain ⟨rfl, h1, q2⟩ := q1
  exact ⟨ad, o, rfl, .inl ⟨kvs, h1, fun D hD => dcD_of (q2 D hD)⟩⟩
theorem s_dcD {nx : L2.St → Hp → Prop} {rt : VK} {bk ct : L2.St → Hp → Prop} {i j : Nat} {x y : Str} {px py spos : Pos} {ad : Addr} {kvs : List (Key × V)} (B : BkOk X.N Vn G' i x sc scope) (hd : H ad = some (.dK kvs))
    (q : ∀ o, wE X a σ (upd H ad (.frz o (.dK kvs))) fun v H1 => v = .ref ad ∧ H1 ad = some (.frz o (.dK kvs)) ∧ ∀ D, H1 D = none → DcD X Vn G' kx vx scope i ad o kvs D σ H1 fun H2 => H2 ad = some (.frz o (.dK kvs)) ∧ nx (σ.set j (some (.ref D))) (upd H2 ad (.dK kvs)))
    (I : In X N G sc := by assumption) (hc : X.calm = true := by rfl) (hA : At N j y := by repeat (first | with_reducible apply At.z | with_reducible apply At.s))
    (hk : X.env.scope.kind = .function := by rfl) (hy : X.env.scope.names.lookup y = some .local := by rfl) (hl : (py.line == pos.line) = true := by rfl) (ha : (scope.names.any fun (n, k) => n == y && (k == .local || k == .cell)) = false := by decide +kernel) (hs2 : ∀ z, foldedSetIterable a X.env z = pure z := by intro _; rfl) :
    wS X (.Assign [.Name y py] (.DictComp kx vx [⟨.Name x px, a, [], 0⟩] scope pos) spos) ⟨nx, rt, bk, ct⟩ σ H := by
  refine s_of (ps_lock (ps_setDc (own := [(x, i)]) (g := gName i) (tt := tYes) (tk := wBk X Vn G' kx scope) (tv := wBk X Vn G' vx scope) hc I.nd (I.hi hA) hy (sw_trueD hk hy hl ha) (pi_keys pe) (B.ok I) (fun s H C cl fp => B.pg I s H C cl fp) (fun _ _ _ _ _ => pts_nil) (fun s H C cl fp => pe_bk (B.inB I s H C cl fp)) (fun s H C cl fp => pe_bk (B.inB I s H C cl fp)) hs2)) ?_
  refine ⟨ad, .dK kvs, hd, trivial, fun o => e_mono (q o) fun v H1 q1 => ?_⟩
  obtain ⟨rfl, h1, q2⟩ := q1
  exact ⟨ad, o, rfl, .inl ⟨kvs, h1, fun D hD => dcD_of (q2 D hD)⟩⟩
theorem s_dcDf {nx : L2.St → Hp → Prop} {rt : VK} {bk ct : L2.St → Hp → Prop} {i j : Nat} {x y : Str} {px py spos : Pos} {ad : Addr} {kvs : List (Key × V)} (B : BkOk X.N Vn G' i x sc scope) (hd : H ad = some (.dK kvs))
    (q : ∀ o, wE X a σ (upd H ad (.frz o (.dK kvs))) fun v H1 => v = .ref ad ∧ H1 ad = some (.frz o (.dK kvs)) ∧ ∀ D, H1 D = none → DcDf X Vn G' kx vx c scope i ad o kvs D σ H1 fun H2 => H2 ad = some (.frz o (.dK kvs)) ∧ nx (σ.set j (some (.ref D))) (upd H2 ad (.dK kvs)))
    (I : In X N G sc := by assumption) (hc : X.calm = true := by rfl) (hA : At N j y := by repeat (first | with_reducible apply At.z | with_reducible apply At.s))
    (hk : X.env.scope.kind = .function := by rfl) (hy : X.env.scope.names.lookup y = some .local := by rfl) (hl : (py.line == pos.line) = true := by rfl) (ha : (scope.names.any fun (n, k) => n == y && (k == .local || k == .cell)) = false := by decide +kernel) (hs2 : ∀ z, foldedSetIterable a X.env z = pure z := by intro _; rfl) :
    wS X (.Assign [.Name y py] (.DictComp kx vx [⟨.Name x px, a, [c], 0⟩] scope pos) spos) ⟨nx, rt, bk, ct⟩ σ H := by
  refine s_of (ps_lock (ps_setDc (own := [(x, i)]) (g := gName i) (tt := wBkT X Vn G' c scope) (tk := wBk X Vn G' kx scope) (tv := wBk X Vn G' vx scope) hc I.nd (I.hi hA) hy (sw_trueD hk hy hl ha) (pi_keys pe) (B.ok I) (fun s H C cl fp => B.pg I s H C cl fp) (fun s H C cl fp => pts_bk (B.inB I s H C cl fp)) (fun s H C cl fp => pe_bk (B.inB I s H C cl fp)) (fun s H C cl fp => pe_bk (B.inB I s H C cl fp)) hs2)) ?_
  refine ⟨ad, .dK kvs, hd, trivial, fun o => e_mono (q o) fun v H1 q1 => ?_⟩
  obtain ⟨rfl, h1, q2⟩ := q1
  exact ⟨ad, o, rfl, .inl ⟨kvs, h1, fun D hD => dcDf_of (q2 D hD)⟩⟩
/-- w, x, y, z = a tuple -/
theorem s_tup4 {nx : L2.St → Hp → Prop} {rt : VK} {bk ct : L2.St → Hp → Prop} {i1 i2 i3 i4 : Nat} {x1 x2 x3 x4 : Str} {k : Nat} {p1 p2 p3 p4 pt : Pos} (q : wE X e σ H fun v H1 => ∃ a u1 u2 u3 u4, v = .ref a ∧ SqT X.K H1 a [u1, u2, u3, u4] ∧ nx ((((σ.set i1 (some u1)).set i2 (some u2)).set i3 (some u3)).set i4 (some u4)) H1)
    (I : In X N G sc := by assumption) (hc : X.calm = true := by rfl) (h1 : At N i1 x1 := by repeat (first | with_reducible apply At.z | with_reducible apply At.s)) (h2 : At N i2 x2 := by repeat (first | with_reducible apply At.z | with_reducible apply At.s)) (h3 : At N i3 x3 := by repeat (first | with_reducible apply At.z | with_reducible apply At.s)) (h4 : At N i4 x4 := by repeat (first | with_reducible apply At.z | with_reducible apply At.s))
    (hs : swapsWithSole [.Tuple [.Name x1 p1, .Name x2 p2, .Name x3 p3, .Name x4 p4] k pt] e pos.line X.env = pure false := by rfl) (hw : swappedStores [.Tuple [.Name x1 p1, .Name x2 p2, .Name x3 p3, .Name x4 p4] k pt] e X.env = pure none := by rfl) (hp : (assignEach [.Tuple [.Name x1 p1, .Name x2 p2, .Name x3 p3, .Name x4 p4] k pt] X.env).map (·.2) = [assign (.Tuple [.Name x1 p1, .Name x2 p2, .Name x3 p3, .Name x4 p4] k pt) X.env] := by rfl) :
    wS X (.Assign [.Tuple [.Name x1 p1, .Name x2 p2, .Name x3 p3, .Name x4 p4] k pt] e pos) ⟨nx, rt, bk, ct⟩ σ H := by
  refine s_of (ps_asg pe (pg_tup hc (pgs_cons (pg_name I.nd (I.hi h1) (I.loc h1) I.f) (pgs_cons (pg_name I.nd (I.hi h2) (I.loc h2) I.f) (pgs_cons (pg_name I.nd (I.hi h3) (I.loc h3) I.f) (pgs_cons (pg_name I.nd (I.hi h4) (I.loc h4) I.f) pgs_nil))))) hs hw hp) (e_mono q fun v H1 q1 => ?_)
  obtain ⟨ad, u1, u2, u3, u4, ev, hq, q2⟩ := q1
  exact ⟨ad, [u1, u2, u3, u4], ev, hq, rfl, u1, [u2, u3, u4], rfl, u2, [u3, u4], rfl, u3, [u4], rfl, u4, [], rfl, rfl, q2⟩
theorem op_inDt (hu : X.A.units + 1 < cLine) : OpR X (compareOp .In) (fun x y H Q => ∃ a o, y = .ref a ∧ DGet H a x o ∧ Q (.bl o.isSome) H) := by
  intro pins s σ H x y v u Q I rx ry h
  obtain ⟨ad, ov, rfl, g, q⟩ := h
  cases ry
  exact d_in hu I g rx fun s3 I3 => ⟨.bl ov.isSome, H, I3, rfl, q⟩
theorem op_ninDt (hu : X.A.units + 1 < cLine) : OpR X (compareOp .NotIn) (fun x y H Q => ∃ a o, y = .ref a ∧ DGet H a x o ∧ Q (.bl (!o.isSome)) H) := by
  intro pins s σ H x y v u Q I rx ry h
  obtain ⟨ad, ov, rfl, g, q⟩ := h
  cases ry
  exact d_notIn hu I g rx fun s3 I3 => ⟨.bl (!ov.isSome), H, I3, rfl, q⟩
theorem o_inD {n : Nat} {x : V} {d : Addr} {ov : Option V} (hr : Room n X.A) (g : DGet H d x ov) (q : Q (.bl ov.isSome) H) : wK X .In x (.ref d) H Q := k_of (op_inDt (hu_of hr)) ⟨d, ov, rfl, g, q⟩
theorem o_ninD {n : Nat} {x : V} {d : Addr} {ov : Option V} (hr : Room n X.A) (g : DGet H d x ov) (q : Q (.bl (!ov.isSome)) H) : wK X .NotIn x (.ref d) H Q := k_of (op_ninDt (hu_of hr)) ⟨d, ov, rfl, g, q⟩
theorem dg_K {ad : Addr} {kvs : List (Key × V)} {k : Key} (h : H ad = some (.dK kvs)) : DGet H ad (kV k) (valV kvs k) := .inl ⟨kvs, k, .inl h, rfl, rfl⟩
theorem dg_F {ad : Addr} {ob : Obj} {kvs : List (Key × V)} {k : Key} (h : H ad = some (.frz ob (.dK kvs))) : DGet H ad (kV k) (valV kvs k) := .inl ⟨kvs, k, .inr ⟨ob, h⟩, rfl, rfl⟩
theorem c_lenD {d : Addr} {kvs : List (Key × V)} (h : H d = some (.dK kvs)) (q : Q (.int kvs.length) H) : wC X (.builtin "len") [.ref d] H Q := c_of call_lenD ⟨d, kvs, rfl, h, q⟩
theorem c_sumL {l : Addr} {ns : List Int} (hc : X.calm = true) (h : SqL X.K H l (ns.map V.int)) (q : Q (.int ns.sum) H) : wC X (.builtin "sum") [.ref l] H Q := c_of (cr_sum hc) ⟨l, ns, rfl, h, q⟩
theorem ty_dk {K : PySem.W.Frag} {H : Hp} {d : Addr} {kvs : List (Key × V)} (h : H d = some (.dK kvs)) : TyX K H (.ref d) (.type "dict") := .base (.dK h)
theorem e_dclr (q : wE X o σ H fun x H1 => ∃ d kvs, x = .ref d ∧ H1 d = some (.dK kvs) ∧ Q .non (upd H1 d (.dK [])))
    (hbase : attributeBase o "clear" X.env (eval o X.env) = eval o X.env := by rfl) (hline : (apos.endLine == pos.line) = true := by rfl) : wE X (.Call (.Attribute o "clear" apos) [] [] pos) σ H Q := by
  refine e_of (pe_dclear pe hbase hline) (e_mono q fun x H1 z => ?_)
  obtain ⟨d, kvs, rfl, h1, h2⟩ := z
  exact ⟨.inr (.inr (.inl ⟨rfl, .inl ⟨kvs, h1⟩⟩)), d, kvs, rfl, rfl, h1, h2⟩
/-- {k: v}, k a text or a number -/
theorem e_dk1 {k v : Expr} (q : ∀ p, H p = none → wE X k σ (upd H p (.dK [])) fun x H1 => wE X v σ H1 fun y H2 => H2 p = some (.dK []) ∧ ∃ z, x = kV z ∧ Q (.ref p) (upd H2 p (.dK [(z, y)]))) : wE X (.Dict [some k] [v] pos) σ H Q := by
  refine e_of (pe_disp (pps_cons pe pe pps_nil) rfl rfl (by simp) (by simp)) fun p np => e_mono (q p np) fun x H1 q1 => e_mono q1 fun y H2 q2 => ?_
  obtain ⟨h, z, rfl, q3⟩ := q2
  exact ⟨h, [(z, y)], rfl, by simp, q3⟩
end
end Wk
namespace Wk
open PySem PySem.Spec
/-! places in a text -/
def nE : Expr := .Name "" ⟨0, 0, 0, 0⟩
def exA : Expr → Nat → Expr
  | .BoolOp _ es _, n => es.getD n nE
  | .BinOp a _ b _, n => [a, b].getD n nE
  | .UnaryOp _ a _, _ => a
  | .IfExp c a b _, n => [c, a, b].getD n nE
  | .Dict _ vs _, n => vs.getD n nE
  | .ListComp e gs _ _, n => (e :: gs.flatMap fun g => g.iter :: g.ifs).getD n nE
  | .DictComp e f gs _ _, n => (e :: f :: gs.flatMap fun g => g.iter :: g.ifs).getD n nE
  | .Compare a _ bs _, n => (a :: bs).getD n nE
  | .Call f as ks _, n => (f :: as ++ ks.map (·.value)).getD n nE
  | .Attribute a _ _, _ => a
  | .Subscript a b _, n => [a, b].getD n nE
  | .List es _, n => es.getD n nE
  | .Tuple es _ _, n => es.getD n nE
  | e, _ => e
def stE : Stmt → Expr
  | .Return (some e) _ => e
  | .Assign _ e _ => e
  | .For _ e _ _ _ => e
  | .While e _ _ _ => e
  | .If e _ _ _ => e
  | .Expr e _ => e
  | _ => nE
def nS : Stmt := .Pass ⟨0, 0, 0, 0⟩
def stB : Stmt → Nat → Nat → Stmt
  | .For _ _ a b _, j, n => ((if j = 0 then a else b).getD n nS)
  | .While _ a b _, j, n => ((if j = 0 then a else b).getD n nS)
  | .If _ a b _, j, n => ((if j = 0 then a else b).getD n nS)
  | .Try a _ b _ _, j, n => ((if j = 0 then a else b).getD n nS)
  | _, _, _ => nS
def xSc : Expr → Scope
  | .ListComp _ _ sc _ => sc
  | .DictComp _ _ _ sc _ => sc
  | _ => { kind := .function, names := [], isGenerator := false, isCoroutine := false }
end Wk
namespace Wk
open PySem PySem.Spec PyProof.Rows L2
section
variable {X : Cx} {o e : Expr} {σ : L2.St} {H : Hp} {Q : VK} {pos apos : Pos}
/-- t.index(e), t a tuple of texts of the module's top -/
theorem e_tIx (q : wE X o σ H fun x H1 => ∃ p, x = .ref p ∧ (∃ ob, X.K.lookup p = some ob ∧ ob.cls = .type "tuple" ∧ ob.dict = none) ∧ wE X e σ H1 fun y H2 => ∃ (ys : List Str) (z : Str) (j : Nat), y = .str z ∧ SqT X.K H2 p (ys.map V.str) ∧ ys[j]? = some z ∧ (∀ m, m < j → ys[m]? ≠ some z) ∧ Q (.int (j : Int)) H2)
    (hbase : attributeBase o "index" X.env (eval o X.env) = eval o X.env := by rfl)
    (hfew : ((backTo pos (starEach (e :: []) X.env)).all (fun x => !x.1) && (backToKw pos (keywordEach [] X.env)).all (fun x => x.1.isSome)
      && decide ((e :: []).length + ([] : List Keyword).length + (if ([] : List Keyword).isEmpty then 0 else 1) < 30)) = true := by rfl)
    (hline : (apos.endLine == pos.line) = true := by rfl) (hs : starEach (e :: []) X.env = (false, eval e X.env) :: starEach [] X.env := by rfl) (hplain : (backTo pos (starEach [] X.env)).any (·.1) = false := by rfl) :
    wE X (.Call (.Attribute o "index" apos) [e] [] pos) σ H Q := by
  refine e_of (pe_bm PySem.F.plainAttrs_tuple PySem.F.slot_tuple_index PySem.F.type_tuple_index mt_tup_index pe (pa_cons pe pa_nil hs) hbase hfew hline hs hplain) (e_mono q fun x H1 z => ?_)
  obtain ⟨p, rfl, ho, z⟩ := z
  refine ⟨.inr (.inl ⟨rfl, ho⟩), e_mono z fun y H2 z2 => ?_⟩
  obtain ⟨ys, z, j, rfl, h1, h2, h3, h4⟩ := z2
  exact ⟨p, ys, z, j, rfl, rfl, h1, h2, h3, h4⟩
end
end Wk

set_option maxHeartbeats 4000000
/-! My own layer: enumerate, ranges that are held, list(range(..)), all of a list, dicts of lists compared, classes whose making may raise. -/
namespace Wk
open PySem PySem.Spec PyProof.Rows L2
section
variable {X : Cx} {e a b : Expr} {σ : L2.St} {H : Hp} {Q : VK} {N G G' : List Str} {sc scope : Scope} {Vn : List (Nat × Str)} {elt : Expr} {pos : Pos}
/-- for x, y in enumerate(a) -/
theorem s_forE {nx : L2.St → Hp → Prop} {rt : VK} {bk ct : L2.St → Hp → Prop} {g : Nat} {x y : Str} {i j : Nat} {body : List Stmt} {px py pt p cp pos : Pos} {kk : Nat} (hm : X.mg "enumerate" = none)
    (q : wE X a σ H fun v H1 => ∃ va xs, v = .ref va ∧ SqL X.K H1 va xs ∧ ∃ Pv : Nat → L2.St → Hp → Prop, Pv 0 σ H1 ∧ (∀ k σ H, k ≤ xs.length → Pv k σ H → SqL X.K H va xs) ∧
      (∀ k u T σ H, xs[k]? = some u → Pv k σ H → H T = none → wL X body ⟨Pv (k + 1), rt, nx, Pv (k + 1)⟩ ((σ.set i (some (.int (k : Nat)))).set j (some u)) (upd H T (.tup [.int (k : Nat), u]))) ∧ ∀ σ H, Pv xs.length σ H → nx σ H)
    (I : In X N G sc := by assumption) (hc : X.calm = true := by rfl) (hA : At N i x := by repeat (first | with_reducible apply At.z | with_reducible apply At.s)) (hB : At N j y := by repeat (first | with_reducible apply At.z | with_reducible apply At.s))
    (hG : At G g ("enumerate" : Str) := by repeat (first | with_reducible apply At.z | with_reducible apply At.s)) (hs : starEach [a] X.env = [(false, eval a X.env)] := by rfl)
    (hs1 : starEach (a :: []) X.env = (false, eval a X.env) :: starEach [] X.env := by rfl) (hs2 : ∀ z, foldedSetIterable (.Call (.Name "enumerate" p) [a] [] cp) X.env z = pure z := by intro _; rfl) :
    wS X (.For (.Tuple [.Name x px, .Name y py] kk pt) (.Call (.Name "enumerate" p) [a] [] cp) body [] pos) ⟨nx, rt, bk, ct⟩ σ H := by
  refine s_of (ps_for I.never hc (pi_enum (I.g hG) hm (pa_cons pe pa_nil hs1) hs) (pg_tup hc (pgs_cons (pg_name I.nd (I.hi hA) (I.loc hA) I.f) (pgs_cons (pg_name I.nd (I.hi hB) (I.loc hB) I.f) pgs_nil))) pl hs2) (e_mono q fun v H1 q1 => ?_)
  obtain ⟨va, xs, rfl, sx, Pv, h0, hk, hb, hd⟩ := q1
  refine ⟨va, xs, rfl, sx, fun k m σ H => m = xs.length - k ∧ k ≤ xs.length ∧ Pv k σ H, ⟨_, rfl, Nat.zero_le _, h0⟩, ?_⟩
  rintro k m σ H ⟨rfl, hle, pv⟩
  have tx := hk k σ H hle pv
  by_cases lt : k < xs.length
  · refine .inr ⟨⟨xs, xs[k], tx, List.getElem?_eq_getElem lt⟩, Pv (k + 1), fun σ' H' p' => ⟨_, by omega, rfl, lt, p'⟩, fun w H' yl => ?_⟩
    obtain ⟨T, u1, rfl, nT, rfl, y1⟩ := yl
    exact ⟨T, [.int (k : Nat), u1], rfl, SqT.of upd_same, rfl, .int (k : Nat), [u1], rfl, u1, [], rfl, rfl, hb k u1 T σ H (y1 xs tx) pv nT⟩
  · have ek : k = xs.length := by omega
    subst ek
    refine .inl ⟨⟨xs, tx, by omega⟩, hd σ H pv⟩
theorem cr_range1 : CallR X (.type "range") (fun vs H Q => ∃ j, vs = [V.int j] ∧ ∀ p, H p = none → Q (.ref p) (upd H p (.rng 0 j))) := by
  intro pins s σ H vs us Q I r h
  obtain ⟨j, rfl, q⟩ := h
  cases r with
  | cons r1 rr =>
    cases rr
    obtain ⟨t, rfl⟩ := r1
    exact call_range_1 ⟨.ref s.heap.objs.size, upd H s.heap.objs.size (.rng 0 j), I.laid (t' := s.toks + 1 + 1) (fun b o e => Heap.get?_push_of_some _ e) (Nat.le_refl _) ⟨_, _, _, Heap.get?_push_size _ rfl⟩, rfl, q _ (I.hok.fresh (Nat.le_refl _))⟩
theorem c_rng1 {j : Int} (q : ∀ p, H p = none → Q (.ref p) (upd H p (.rng 0 j))) : wC X (.type "range") [.int j] H Q := c_of cr_range1 ⟨j, rfl, q⟩
def iRngV (tl : TE) : TI := fun σ H R => tl σ H fun x H1 => ∃ ad lo hi, x = .ref ad ∧ H1 ad = some (.rng lo hi) ∧ (-(2 ^ 62) ≤ lo ∧ lo < 2 ^ 62 ∧ -(2 ^ 62) ≤ hi ∧ hi < 2 ^ 62) ∧ R (Itr lo (hi - lo).toNat) H1
/-- a range object that stands -/
theorem pi_rngV {tg l : Expr} {tl : TE} (hl : PE X l tl) : PI X tg l (iRngV tl) := by
  refine ⟨fun pins s σ H R I h => thn (hl.run pins s σ H _ I h) fun v s1 ⟨x, H1, I1, r1, ad, lo, hi, ex, had, ⟨b1, b2, b3, b4⟩, q⟩ => ?_⟩
  subst ex
  cases r1
  obtain ⟨t, u, w, ho⟩ := I1.hok ad _ had
  refine wpAny_pyIter_range (show IsRange s1.heap ad lo hi 1 t u w from ho) (small_one b1 b2 b3 b4) ?_
  refine ⟨s1.heap.objs.size, [s1.heap.objs.size], _, _, H1, rfl, I1.kept (t' := s1.toks) fun b o e => Heap.get?_push_of_some _ e, turn_range _ lo (hi - lo).toNat, ?_, fun b hb => ?_, q⟩
  · have z1 : lo + ((0 : Nat) : Int) * 1 = lo := by simp
    have z2 : (((hi - lo).toNat : Nat) : Int) - ((0 : Nat) : Int) = Builtin.Range.rangeSize lo hi 1 := by rw [rangeSize_one]; split <;> omega
    show IsRangeIter _ _ (lo + ((0 : Nat) : Int) * 1) ((((hi - lo).toNat : Nat) : Int) - ((0 : Nat) : Int)) 1
    rw [z1, z2]
    exact Heap.get?_push_size _ rfl
  · obtain rfl : b = s1.heap.objs.size := by simpa using hb
    exact I1.fpOk (Nat.le_refl _) (I1.hok.fresh (Nat.le_refl _))
/-- [elt for x in a], a holds range(n) -/
theorem e_lcRv {i : Nat} {x : Str} {px : Pos} (B : BkOk X.N Vn G' i x sc scope)
    (q : wE X a σ H fun v H1 => ∃ (ad : Addr) (n : Nat), v = .ref ad ∧ H1 ad = some (.rng 0 n) ∧ n < 2 ^ 62 ∧ ∀ D, H1 D = none → LcR X Vn G' elt scope i n D σ H1 fun H2 => Q (.ref D) H2)
    (I : In X N G sc := by assumption) (hc : X.calm = true := by rfl) (hs2 : ∀ z, foldedSetIterable a X.env z = pure z := by intro _; rfl) :
    wE X (.ListComp elt [⟨.Name x px, a, [], 0⟩] scope pos) σ H Q := by
  refine e_of (pe_lc (own := [(x, i)]) (g := gName i) (tt := tYes) (te := wBk X Vn G' elt scope) hc I.nd (pi_rngV pe) (B.ok I) (fun s H C cl fp => B.pg I s H C cl fp) (fun _ _ _ _ _ => pts_nil) (fun s H C cl fp => pe_bk (B.inB I s H C cl fp)) hs2) (e_mono q fun v H1 q1 => ?_)
  obtain ⟨ad, n, rfl, had, hn, q2⟩ := q1
  refine ⟨ad, 0, n, rfl, had, ⟨by omega, by omega, by omega, by omega⟩, ?_⟩
  rw [Int.sub_zero, Int.toNat_natCast]
  exact fun D hD => lcR_of (q2 D hD)
theorem c_allL {l : Addr} {bs : List Bool} (hc : X.calm = true) (h : SqL X.K H l (bs.map V.bl)) (q : Q (.bl (bs.all id)) H) : wC X (.builtin "all") [.ref l] H Q := c_of (cr_all hc) ⟨l, bs, rfl, h, q⟩
theorem b_all : bootBuiltins "all" = some (.builtin "all") := by decide +kernel
theorem b_range : bootBuiltins "range" = some (.type "range") := by decide +kernel
/-- list(range(a)) -/
theorem e_listRg {g g2 : Nat} {p p2 cp cp2 : Pos} (hm : X.mg "list" = none) (hm2 : X.mg "range" = none) (q : wE X a σ H fun v H1 => ∃ n : Nat, v = .int n ∧ n ≤ 100000 ∧ ∀ l, H1 l = none → Q (.ref l) (upd H1 l (.lst ((List.range n).map fun (k : Nat) => V.int (k : Int)))))
    (I : In X N G sc := by assumption) (hc : X.calm = true := by rfl) (hG : At G g ("list" : Str) := by repeat (first | with_reducible apply At.z | with_reducible apply At.s)) (hG2 : At G g2 ("range" : Str) := by repeat (first | with_reducible apply At.z | with_reducible apply At.s))
    (hs : starEach [a] X.env = (false, eval a X.env) :: starEach [] X.env := by rfl) (na : starEach [.Call (.Name "range" p2) [a] [] cp2] X.env = (false, eval (.Call (.Name "range" p2) [a] [] cp2) X.env) :: starEach [] X.env := by rfl) :
    wE X (.Call (.Name "list" p) [.Call (.Name "range" p2) [a] [] cp2] [] cp) σ H Q := by
  refine e_of (pe_listRg hc (I.g hG) hm (prg_1 (I.g hG2) hm2 pe hs) na) (e_mono q fun v H1 q1 => ?_)
  obtain ⟨n, rfl, hn, q2⟩ := q1
  refine ⟨n, rfl, ⟨by omega, by omega, by omega, by omega, by omega⟩, fun l nl => ?_⟩
  have := q2 l nl
  have e : rgV 0 (n : Int) = (List.range n).map fun (k : Nat) => V.int (k : Int) := by
    unfold rgV
    simp
  rw [e]
  exact this
end
/-! ### dicts of lists of numbers -/
abbrev iV (l : List Int) : List V := l.map V.int
theorem dp_ints {K : PySem.W.Frag} {H : Hp} : ∀ l : List Int, DpAll K H (iV l) (l.map PyData.int)
  | [] => .nil
  | i :: l => .cons (.int i) (dp_ints l)
theorem plain_ints : ∀ l : List Int, PyData.plainAll (l.map PyData.int) = true
  | [] => rfl
  | _ :: l => by show (true && PyData.plainAll _) = true; rw [plain_ints l]; rfl
theorem depth_ints : ∀ l : List Int, PyData.depthAll (l.map PyData.int) = 0
  | [] => rfl
  | _ :: l => by show max 0 (PyData.depthAll _) = 0; rw [depth_ints l]; rfl
/-- the same numbers, under each name -/
def rNeDL (K : PySem.W.Frag) : R2 := fun x y H Q => ∃ a b ks ls, x = .ref a ∧ y = .ref b ∧ H a = some (.dK ks) ∧ H b = some (.dK ls) ∧ ks.length = ls.length ∧ (∀ p ∈ ks, ∃ c d l, p.2 = .ref c ∧ valV ls p.1 = some (.ref d) ∧ SqL K H c (iV l) ∧ SqL K H d (iV l)) ∧ Q (.bl false) H
theorem op_neDL {X : Cx} (hu : X.A.units + 64 < cLine) : OpR X (compareOp .NotEq) (rNeDL X.K) := by
  intro pins s σ H x y v u Q I rx ry h
  obtain ⟨a, b, ks, ls, rfl, rfl, ea, eb, hlen, hp, q⟩ := h
  cases rx
  cases ry
  obtain ⟨_, ya, va, ra, da⟩ := (show ObjOk X.prog X.w H s.heap a (.dK ks) from I.hok a _ ea)
  obtain ⟨_, yb, vb, rb, db⟩ := (show ObjOk X.prog X.w H s.heap b (.dK ls) from I.hok b _ eb)
  have hits : ∀ {ks : List (Key × V)} {va : List (Key × Value)}, KV ks va → (∀ p ∈ ks, ∃ c d l, p.2 = .ref c ∧ valV ls p.1 = some (.ref d) ∧ SqL X.K H c (iV l) ∧ SqL X.K H d (iV l)) → PySem.W.KeqHits X.A.in1 s vb va true := by
    intro ks va ra
    unfold KV at ra
    induction ra with
    | nil => intro _; exact .nil
    | @cons p q ps qs h1 t ih =>
      intro hp
      obtain ⟨hk, hv⟩ := h1
      obtain ⟨c, d, l, e1, e2, s1, s2⟩ := hp p List.mem_cons_self
      have rr : RelO (some (V.ref d)) (valueAt vb p.1) := by rw [← e2]; exact rb.val p.1
      obtain ⟨y, hy, ry⟩ := rr.some_of
      obtain ⟨k, v⟩ := q
      have hk' : p.1 = k := hk
      rw [hk'] at hy
      rw [e1] at hv
      have hv' : RelV (.ref c) v := hv
      obtain ⟨as, r1⟩ := Dp.reads I (.list (l.map .int)) _ _ (.lst s1 (dp_ints l)) hv'
      obtain ⟨bs, r2⟩ := Dp.reads I (.list (l.map .int)) _ _ (.lst s2 (dp_ints l)) ry
      have hpl : (PyData.list (l.map .int)).plain = true := plain_ints l
      have hq := PySem.SeqAt.eqAt_plain _ _ X.A.in1 s _ _ as bs r1 r2 hpl hpl (by
        have : (PyData.list (l.map .int)).depth = 1 := by show PyData.depthAll _ + 1 = 1; rw [depth_ints]
        rw [this]
        have : X.A.in1.units ≤ X.A.units + 2 := by simp [Around.in1, Around.units] <;> omega
        omega)
      rw [PySem.SeqAt.eqv_refl_plain _ hpl] at hq
      show PySem.W.KeqHits _ s vb ((k, v) :: qs) (true && true)
      exact .hit hy hq (ih fun p' hm => hp p' (List.mem_cons_of_mem _ hm))
  have hl : va.length = vb.length := by rw [← ra.length, ← rb.length]; exact hlen
  exact PySem.W.keq_ne (knd := mixKind X.prog X.w) (r := true) ya yb da db (by omega) (fun _ => hits ra hp) (fin_bl I q (by simp [hl]))
/-! ### a class whose making may raise -/
section
variable {P : Program} {w : World} {K : PySem.W.Frag} {mg : Str → Option Value} {base : Heap}
theorem me_okN {x qual : Str} {C : Addr} {st : Stmt} {N D G ps : List Str} {k : Nat} {sp : Sp} (T : TopM K C x qual st) (S : FnScope (N ++ D) ps (defScope st)) (O : ScOk N G (defScope st)) (len : ∀ vs H Q E, sp vs H Q E → vs.length = ps.length)
    (hb : ∀ (kV doc pm : Value) (an : Option Addr) (cdv ct : Value) (us : List Value), us.length = ps.length → bindArgs (PySem.W.fnOf x qual (defArgs st) (defBody st) (defScope st) .none kV doc pm an cdv ct) ⟨us, []⟩ = pure (ps.zip us))
    (hbody : ∀ (f : Addr) (cdv : Value) (A : Around) (outer : List Env) (s : Shared) (H : Hp) (vs : List V) (Q : VK) (E : XK), Room k (A.deeper (envOfC qual (defScope st) s.heap.objs.size f cdv)) → sp vs H Q E → In (cxOf (L2N.CX P w) P w K mg base (N ++ D) qual (defScope st) f cdv A outer s H E) N G (defScope st) →
      L2N.Takes (cxOf (L2N.CX P w) P w K mg base (N ++ D) qual (defScope st) f cdv A outer s H E) (fun cls d _ H => E cls d H) →
      wL (cxOf (L2N.CX P w) P w K mg base (N ++ D) qual (defScope st) f cdv A outer s H E) (defBody st) { nx := fun _ H' => Q .non H', rt := Q } (start (N ++ D) vs) H) :
    ∃ (f : Addr) (fd : FuncData), FnOk P w K mg base (L2N.CX P w) (k + 1) f fd ps sp ∧ Binds K fd ps [] ∧ PySem.W.findIn K (.ref C) x = some (some (.ref f)) ∧ PySem.W.isFn K (.ref f) = true ∧ PySem.W.keepIn K (.ref f) = true := by
  obtain ⟨f, fd, F, hf, hi⟩ := T.ex
  obtain ⟨oc, od, kV, doc, pm, an, cdv, ct, osl, rfl, lk, hcd⟩ := id F.ex
  exact ⟨f, _, fn_of lk hcd S len (fun A outer s H vs Q E hr h => ⟨_, pl, hbody f cdv A outer s H vs Q E hr h ⟨O, ⟨D, rfl⟩, S.nd, rfl, rfl, passes_of rfl⟩ (L2N.takes_of rfl rfl rfl rfl)⟩), F.binds hb, hf, hi, F.kp⟩
structure KlN (P : Program) (w : World) (K : PySem.W.Frag) (mg : Str → Option Value) (base : Heap) (k : Nat) (x : Str) (C : Addr) (sp : Sp) : Prop where
  ex : ∃ (f : Addr) (fd : FuncData) (ps : List Str), FnOk P w K mg base (L2N.CX P w) k f fd ps sp ∧ mg x = some (.ref C) ∧ Mk K C f ∧ Binds K fd ps []
theorem cx_weak {outer : List Env} {H : Hp} {s s' : Shared} {E E' : XK} {u : Value} (h : L2N.CX P w outer H s E u s') (m : ∀ cls d H, E cls d H → E' cls d H) : L2N.CX P w outer H s E' u s' := by
  obtain ⟨a, B, H', cls, d, h1, h2, h3, h4, h5, h6, h7, h8⟩ := h
  exact ⟨a, B, H', cls, d, h1, h2, h3, h4, h5, h6, h7, m _ _ _ h8⟩
end
section
variable {X : Cx} {e : Expr} {es : List Expr} {pos p0 : Pos} {σ : L2.St} {H : Hp} {Q : VK} {N G : List Str} {sc : Scope}
theorem e_makeN {g k n : Nat} {x : Str} {C : Addr} {sp : Sp} {W : WX} (F : KlN X.prog X.w X.K X.mg X.base k x C sp) (tk : L2N.Takes X W) (hr : Room n X.A) (hk : k + 1 ≤ n)
    (q : wA X (e :: es) σ H fun vs H1 => ∀ x dx, H1 x = none → H1 dx = none → dx ≠ x → sp (.ref x :: vs) (upd (upd H1 dx (.own x)) x (.ins C dx [])) (fun v H2 => v = .non ∧ Q (.ref x) H2) (fun cls d H' => ∀ σ' : L2.St, σ'.length = X.N.length → W cls d σ' H'))
    (I : In X N G sc := by assumption) (hG : At G g x := by repeat (first | with_reducible apply At.z | with_reducible apply At.s)) (he : starEach (e :: es) X.env = (false, eval e X.env) :: starEach es X.env := by rfl) (hpl : (backTo pos (starEach es X.env)).any (·.1) = false := by rfl) : wE X (.Call (.Name x p0) (e :: es) [] pos) σ H Q := by
  obtain ⟨f, fd, ps, F0, hm, M, hb⟩ := F.ex
  have hx : Passes (L2N.CX X.prog X.w) X (fun cls d H' => ∀ σ' : L2.St, σ'.length = X.N.length → W cls d σ' H') := fun pins σ' H s e s' I0 c => L2N.passAt tk σ' pins H s e s' I0 (cx_weak c fun cls d H z => z σ' I0.len)
  refine e_of (pe_make M F0 (hr.mono hk) (I.g hG) hm hb .nil hx pa (I.gd hG) he hpl) ?_
  show wA X (e :: es) σ H fun vs H1 => ∀ x dx, H1 x = none → H1 dx = none → dx ≠ x → sp (.ref x :: (vs ++ [])) (upd (upd H1 dx (.own x)) x (.ins C dx [])) (fun v H2 => v = .non ∧ Q (.ref x) H2) _
  simp only [List.append_nil]
  exact q
end
/-! ### len of an instance whose class has its own __len__ -/
structure LnO (P : Program) (w : World) (K : PySem.W.Frag) (mg : Str → Option Value) (base : Heap) (k : Nat) (C : Addr) (sp : Sp) : Prop where
  ex : ∃ (f : Addr) (fd : FuncData) (pn : List Str), FnOk P w K mg base CX0 k f fd pn sp ∧ PySem.W.findIn K (.ref C) "__len__" = some (some (.ref f)) ∧ PySem.W.isFn K (.ref f) = true ∧ Binds K fd pn []
theorem c_lenO {X : Cx} {H : Hp} {Q : VK} {k n : Nat} {C a dx : Addr} {fs : List (Str × V)} {sp : Sp} (F : LnO X.prog X.w X.K X.mg X.base k C sp) (hr : Room (n + 1) X.A) (hk : k ≤ n) (ha : H a = some (.ins C dx fs))
    (q : sp [.ref a] H (fun v H' => ∃ m : Nat, v = .int (m : Int) ∧ m < 2 ^ 62 ∧ Q (.int (m : Int)) H') E0) : wC X (.builtin "len") [.ref a] H Q := by
  obtain ⟨f, fd, pn, F0, hs, hf, hb⟩ := F.ex
  refine c_of (r := fun xs H Q => xs = [.ref a] ∧ H a = some (.ins C dx fs) ∧ sp [.ref a] H (fun v H' => ∃ m : Nat, v = .int (m : Int) ∧ m < 2 ^ 62 ∧ Q (.int (m : Int)) H') E0) ?_ ⟨rfl, ha, q⟩
  intro pins s σ H xs us Q I r h
  obtain ⟨rfl, ha, q⟩ := h
  cases r with
  | cons r1 rr =>
    cases rr
    cases r1
    obtain ⟨mA, J, _⟩ := ins_get I.hok ha
    obtain ⟨od, J, _⟩ := J.look
    obtain ⟨m, hF⟩ := I.fr
    refine PySem.W.len_K hF I.ok.mod.kin J hs hf ?_
    have hl : ([Value.ref a] : List Value).length = pn.length := F0.len _ _ _ _ q
    refine wpAny_call (codeAny_mono (F0.run X.A.in1 X.stack s H ⟨[.ref a], []⟩ [.ref a] [.ref a] _ E0 (hr.in1.mono hk) I.env0.in1 (hb s [.ref a] I.kIn hl) (.cons rfl .nil) q) fun r s' hq => ?_)
    cases r with
    | error e => exact pass0 pins σ H s e s' I hq
    | ok fl =>
      cases fl with
      | ret u =>
        obtain ⟨v, H', I', rv, m, rfl, hm, q2⟩ := I.after hq
        obtain ⟨t, rfl⟩ := rv
        exact ⟨⟨by omega, by omega⟩, .int (m : Int), H', I'.tok _, ⟨_, rfl⟩, q2⟩
      | next => exact False.elim hq
      | brk => exact False.elim hq
      | cont => exact False.elim hq
section
variable {X : Cx} {σ : L2.St} {H : Hp}
/-- for x in range(a, b), a below b + 1 -/
theorem s_forR12 {nx : L2.St → Hp → Prop} {rt : VK} {bk ct : L2.St → Hp → Prop} {g : Nat} {N G : List Str} {sc : Scope} {x : Str} {i : Nat} {a b : Expr} {body : List Stmt} {px p cp pos : Pos} (hm : X.mg "range" = none)
    (q : wE X a σ H fun v H1 => wE X b σ H1 fun u H2 => ∃ lo n : Nat, v = .int (lo : Int) ∧ u = .int ((lo + n : Nat) : Int) ∧ lo + n < 2 ^ 62 ∧ ∃ Pv : Nat → L2.St → Hp → Prop, Pv 0 σ H2 ∧ (∀ k σ H, k < n → Pv k σ H → wL X body ⟨Pv (k + 1), rt, nx, Pv (k + 1)⟩ (σ.set i (some (.int ((lo + k : Nat) : Int)))) H) ∧ ∀ σ H, Pv n σ H → nx σ H)
    (I : In X N G sc := by assumption) (hc : X.calm = true := by rfl) (hA : At N i x := by repeat (first | with_reducible apply At.z | with_reducible apply At.s))
    (hG : At G g ("range" : Str) := by repeat (first | with_reducible apply At.z | with_reducible apply At.s)) (hs : starEach [a, b] X.env = [(false, eval a X.env), (false, eval b X.env)] := by rfl) (hsb : starEach [b] X.env = [(false, eval b X.env)] := by rfl)
    (hs2 : ∀ z, foldedSetIterable (.Call (.Name "range" p) [a, b] [] cp) X.env z = pure z := by intro _; rfl)
    (h1 : starEach (a :: [b]) X.env = (false, eval a X.env) :: starEach [b] X.env := by rfl) (h2 : starEach (b :: []) X.env = (false, eval b X.env) :: starEach [] X.env := by rfl) :
    wS X (.For (.Name x px) (.Call (.Name "range" p) [a, b] [] cp) body [] pos) ⟨nx, rt, bk, ct⟩ σ H := by
  refine s_of (ps_for I.never hc (pi_range2 (I.g hG) hm (pa_cons pe (pa_cons pe pa_nil h2) h1) hs hsb) (pg_name I.nd (I.hi hA) (I.loc hA) I.f) pl hs2) (e_mono q fun v H1 q1 => e_mono q1 fun u H2 q2 => ?_)
  obtain ⟨lo, n, rfl, rfl, hn, Pv, h0, hb, hd⟩ := q2
  refine ⟨(lo : Int), ((lo + n : Nat) : Int), rfl, ⟨by omega, by omega, by omega, by omega⟩, ?_⟩
  rw [show (((lo + n : Nat) : Int) - (lo : Int)).toNat = n by omega]
  refine for_range (n := n) Pv h0 (fun k σ H hk p => ?_) hd
  have := hb k σ H hk p
  rwa [show ((lo + k : Nat) : Int) = (lo : Int) + (k : Int) by omega] at this
theorem o_bor {X : Cx} {H : Hp} {Q : VK} {i j : Int} (q : Q (.int (Builtin.bitOr i j)) H) : wB X .BitOr (.int i) (.int j) H Q := b_of op_or ⟨i, j, rfl, rfl, q⟩
theorem bor_nn : ∀ a < 32, ∀ b < 32, 0 ≤ Builtin.bitOr ((a : Nat) : Int) ((b : Nat) : Int) := by decide +kernel
end
end Wk

/-! str of plain lists and tuples: it asks what is under way below (A.guards), so a def that shows them is promised where nothing is: FnG. -/
namespace Wk
open PySem PySem.Spec PyProof.Rows L2
section
variable {X : Cx} {H : Hp} {Q : VK}
/-- str of a list or a tuple of plain data, where nothing is being shown below -/
theorem call_strD (hg : X.A.guards = some []) (hu : X.A.units + 80 < cLine) :
    CallR X (.type "str") (fun xs H Q => ∃ a d, xs = [.ref a] ∧ Dp X.K H (.ref a) d ∧ d.showable = true ∧ d.hasDict = false ∧ d.depth ≤ 70 ∧ d.shown.length ≤ sizeLine ∧ Q (.str d.shown) H) := by
  intro pins s σ H xs us Q I r h
  obtain ⟨a, d, rfl, hd, h1, h2, h3, h4, q⟩ := h
  obtain ⟨u, rfl, rr⟩ := vals1 r
  obtain ⟨as, rd⟩ := Dp.reads I d _ _ hd rr
  cases rr
  exact PySem.str_of_reads rd h1 (fun z => by rw [h2] at z; cases z) hg (by omega) (fun _ _ e => e) (fun h' u tk hk => ⟨.str d.shown, H, I.turnedL (ch := []) (fun b o _ e => hk b o e) (fun b hb => by cases hb), ⟨_, rfl⟩, q⟩) h4
end
end Wk
namespace Wk
open PySem PySem.Spec PyProof.Rows L2
section
variable {P : Program} {w : World} {K : PySem.W.Frag} {mg : Str → Option Value} {base : Heap}
/-- a def that is promised where nothing is being shown below -/
structure FnG (P : Program) (w : World) (K : PySem.W.Frag) (mg : Str → Option Value) (base : Heap) (k : Nat) (f : Addr) (fd : FuncData) (ps : List Str) (sp : Sp) : Prop where
  len : ∀ vs H Q E, sp vs H Q E → vs.length = ps.length
  run : ∀ (A : Around) (outer : List Env) (s : Shared) (H : Hp) (args : Args) (us : List Value) (vs : List V) (Q : VK) (E : XK), A.guards = some [] → Room k A → Env0 P w K mg base A outer s H → BindsTo s fd args (ps.zip us) → Vals vs us → sp vs H Q E →
    codeAny (model P w) A (.call (.ref f) args) (CR CX0 outer P w H s Q E) s
theorem FnG.mono {j k : Nat} {f : Addr} {fd : FuncData} {ps : List Str} {sp : Sp} (F : FnG P w K mg base j f fd ps sp) (h : j ≤ k) : FnG P w K mg base k f fd ps sp :=
  ⟨F.len, fun A outer s H args us vs Q E hg hr => F.run A outer s H args us vs Q E hg (hr.mono h)⟩
/-- by its body, which knows that nothing is being shown below it -/
theorem fun_okG {x qual : Str} {st : Stmt} {f : Addr} {fd : FuncData} {N ps : List Str} {k : Nat} {sp : Sp} (F : Fun K x qual st f fd) (S : FnScope N ps (defScope st)) (len : ∀ vs H Q E, sp vs H Q E → vs.length = ps.length)
    (hbody : ∀ (cdv : Value) (A : Around) (outer : List Env) (s : Shared) (H : Hp) (vs : List V) (Q : VK) (E : XK), A.guards = some [] → Room k (A.deeper (envOfC qual (defScope st) s.heap.objs.size f cdv)) → sp vs H Q E →
      ∃ t, PSs (cxOf CX0 P w K mg base N qual (defScope st) f cdv A outer s H E).nox (defBody st) t ∧ t { nx := fun _ H' => Q .non H', rt := Q } (start N vs) H) : FnG P w K mg base (k + 1) f fd ps sp := by
  obtain ⟨oc, od, kV, doc, pm, an, cdv, ct, osl, rfl, lk, hcd⟩ := F.ex
  refine ⟨len, fun A outer s H args us vs Q E hg hr e0 hb r hsp => ?_⟩
  obtain ⟨t, ht, hq⟩ := hbody cdv A outer s H vs Q E hg (hr.deeper _) hsp
  have own : K.In s.heap := e0.mod.kin.keeps fun b o e => (e0.bs b o e).1
  have kinds : ∀ y ∈ ps.zip us, (defScope st).names.lookup y.1 = some .local ∨ ((defScope st).names.lookup y.1 = some .cell ∧ ((cellsFrom (s.heap.objs.size + 1) (defScope st).names []).lookup y.1).isSome = true) := by
    intro y hy
    obtain ⟨n, v⟩ := y
    cases S.par n (List.of_mem_zip hy).1 with
    | inl q => exact .inl q
    | inr q => exact .inr ⟨q, PySem.W.cellsFrom_some _ _ _ (.inl q)⟩
  refine codeAny_call_function hr.depth (own _ _ lk) rfl S.co S.gen rfl (PySem.W.codeRec_of own hcd) (hb _ _ _ _ (wpAny_newFunctionEnv_cells S.kind kinds fun env he s1 x => ?_))
  cases he
  refine ⟨(e0.mod.nolimit.keeps fun b o e => (e0.bs b o e).1).keeps x.toInCall.keep, codeAny_func (wpAny_mono (ht.nox.run [] s1 (start N vs) H _ (inv_start S hr.hd e0 (len _ _ _ _ hsp) r x) hq) (fun fl s' hs => ?_) fun e s' hs => hs)⟩
  cases fl with
  | next => exact let ⟨_, H', J, q⟩ := hs; ⟨.non, H', J.os, J.bare, J.base, J.hok, rfl, q⟩
  | ret u => exact let ⟨v, _, H', J, rv, q⟩ := hs; ⟨v, H', J.os, J.bare, J.base, J.hok, rv, q⟩
  | brk => exact (let ⟨_, _, _, q⟩ := hs; q : False).elim
  | cont => exact (let ⟨_, _, _, q⟩ := hs; q : False).elim
end
end Wk
namespace Wk
open PySem PySem.Spec PyProof.Rows L2
section
variable {X : Cx}
theorem run_fnG {k : Nat} {f : Addr} {fd : FuncData} {ps : List Str} {sp : Sp} {pins : List (Addr × Obj)} {σ : L2.St} {H : Hp} {s : Shared} {Q : VK} {us : List Value} {vs : List V} (F : FnG X.prog X.w X.K X.mg X.base k f fd ps sp) (hg : X.A.guards = some []) (hr : Room k X.A) (hb : Binds X.K fd ps [])
    (I : Inv X pins σ H s) (r : Vals vs us) (h : sp vs H Q E0) : wpAny (model X.prog X.w) X.A (call (.ref f) us) (EP X pins σ Q) X.xe s := by
  have hl : (us ++ []).length = ps.length := by rw [List.append_nil, ← r.length]; exact F.len _ _ _ _ h
  refine wpAny_call (codeAny_mono (F.run X.A X.stack s H ⟨us, []⟩ us vs Q E0 hg hr I.env0 (by have := hb s us I.kIn hl; rwa [List.append_nil] at this) r h) fun r s' hq => ?_)
  cases r with
  | error e => exact False.elim hq
  | ok fl =>
    cases fl with
    | ret u => exact I.after hq
    | next => exact False.elim hq
    | brk => exact False.elim hq
    | cont => exact False.elim hq
/-- a def of the module that is promised where nothing is being shown below -/
structure FnS (P : Program) (w : World) (K : PySem.W.Frag) (mg : Str → Option Value) (base : Heap) (k : Nat) (x : Str) (sp : Sp) : Prop where
  ex : ∃ (f : Addr) (fd : FuncData) (ps : List Str), FnG P w K mg base k f fd ps sp ∧ mg x = some (.ref f) ∧ PySem.W.keepIn K (.ref f) = true ∧ Binds K fd ps []
theorem pe_callG {x : Str} {p pos : Pos} {e : Expr} {es : List Expr} {t : TA} {k : Nat} {f : Addr} {fd : FuncData} {ps : List Str} {sp : Sp} (F : FnG X.prog X.w X.K X.mg X.base k f fd ps sp) (hgd : X.A.guards = some []) (hr : Room k X.A) (hg : Gl X x) (hm : X.mg x = some (.ref f)) (hk : PySem.W.keepIn X.K (.ref f) = true) (hb : Binds X.K fd ps [])
    (ha : PA X (e :: es) t) (hdb : (x == ("__debug__" : Str)) = false) (he : starEach (e :: es) X.env = (false, eval e X.env) :: starEach es X.env) (hpl : (backTo pos (starEach es X.env)).any (·.1) = false) :
    PE X (.Call (.Name x p) (e :: es) [] pos) (tCall sp [] E0 t) := by
  refine ⟨fun pins s σ H Q I h => wpAny_Call_Name_kw (ld_glob I hg hm (PySem.W.callWith_K (h₀ := X.base) I.ok.mod.kin hk (thn (ha.run pos pins s σ H _ I h) fun us s1 z => ?_) he hpl) hdb)⟩
  obtain ⟨vs, H1, I1, r, q⟩ := z
  exact ⟨I1.kIn, run_fnG F hgd hr hb I1 r (by rwa [List.append_nil] at q)⟩
theorem e_callG {N G : List Str} {sc : Scope} {e : Expr} {es : List Expr} {pos p0 : Pos} {σ : L2.St} {H : Hp} {Q : VK} {g : Nat} {k n : Nat} {x : Str} {sp : Sp} (F : FnS X.prog X.w X.K X.mg X.base k x sp) (hgd : X.A.guards = some []) (hr : Room n X.A) (hk : k ≤ n) (q : wA X (e :: es) σ H fun vs H1 => sp vs H1 Q E0)
    (I : In X N G sc := by assumption) (hG : At G g x := by repeat (first | with_reducible apply At.z | with_reducible apply At.s))
    (he : starEach (e :: es) X.env = (false, eval e X.env) :: starEach es X.env := by rfl) (hpl : (backTo pos (starEach es X.env)).any (·.1) = false := by rfl) : wE X (.Call (.Name x p0) (e :: es) [] pos) σ H Q := by
  obtain ⟨f, fd, ps, F0, hm, hkp, hb⟩ := F.ex
  refine e_of (pe_callG F0 hgd (hr.mono hk) (I.g hG) hm hkp hb pa (I.gd hG) he hpl) ?_
  show wA X (e :: es) σ H fun vs H1 => sp (vs ++ []) H1 Q E0
  simp only [List.append_nil]
  exact q
end
end Wk
namespace Wk
open PySem PySem.Spec PyProof.Rows L2
section
variable {P : Program} {w : World} {K : PySem.W.Frag}
/-- the heap in which the script alone is told (unless it is an object of the module) -/
def toldS (K : PySem.W.Frag) (a : Addr) (vs : List Value) (ns : List Int) : Hp := fun b =>
  if b = a ∧ (K.lookup a).isNone = true then some (.frz { cls := .type "list", data := .seq vs.toArray } (.lst (ns.map V.int))) else none
theorem toldS_some {a b : Addr} {vs : List Value} {ns : List Int} {u : HO} (h : toldS K a vs ns b = some u) : b = a ∧ K.lookup a = none ∧ u = .frz { cls := .type "list", data := .seq vs.toArray } (.lst (ns.map V.int)) := by
  unfold toldS at h
  split at h
  · rename_i hc
    cases h
    exact ⟨hc.1, Option.isNone_iff_eq_none.mp hc.2, rfl⟩
  · cases h
theorem toldS_none {a b : Addr} {vs : List Value} {ns : List Int} (h : ¬ (b = a ∧ K.lookup a = none)) : toldS K a vs ns b = none := by
  cases e : toldS K a vs ns b with
  | none => rfl
  | some u => exact absurd ⟨(toldS_some e).1, (toldS_some e).2.1⟩ h
theorem law_callG {mg mb : Str → Option Value} {k : Nat} {fa a : Addr} {fd : FuncData} {x : Str} {sp : Sp} {s : Shared} {vs : List Value} {ns : List Int}
    (KX : K.In s.heap) (hns : s.heap.Ns mainGlobals mg) (hb : s.heap.Ns builtinsNs mb) (hbb : ∀ x : Str, x ≠ "__name__" → mb x = bootBuiltins x) (hlim : s.heap.NoLimit) (hg : s.gens = #[])
    (ha : s.heap.get? a = some { cls := .type "list", data := .seq vs.toArray }) (hi : IntsAre vs ns) (hl : ns.length ≤ sizeLine) (hr : Room k callerA)
    (F : ∀ base : Heap, K.In base → base.Ns mainGlobals mg → FnG P w K mg base k fa fd [x] sp) (hbind : ∀ (s : Shared) (u : Value), BindsTo s fd ⟨[u], []⟩ [(x, u)])
    (hsp : ∀ H : Hp, Only H → SqL K H a (ns.map V.int) → sp [.ref a] H (fun v _ => v = .bl true) fun _ _ _ => False) :
    codeAny (model P w) callerA (.call (.ref fa) ⟨[.ref a], []⟩) (fun r s' => r = .ok (.ret (.bool true)) ∧ OldK s.heap s'.heap ∧ s'.os = s.os ∧ AllBare s'.gens) s := by
  have hT : ∀ {b : Addr} {u : HO}, toldS K a vs ns b = some u → b = a ∧ K.lookup a = none ∧ u = .frz { cls := .type "list", data := .seq vs.toArray } (.lst (ns.map V.int)) := toldS_some
  have hN : ∀ {b : Addr}, ¬ (b = a ∧ K.lookup a = none) → toldS K a vs ns b = none := toldS_none
  have hS : SqL K (toldS K a vs ns) a (ns.map V.int) := by
    cases hk : K.lookup a with
    | none => exact .inl (.inr ⟨_, if_pos ⟨rfl, by rw [hk]; rfl⟩⟩)
    | some o =>
      have e := KX a o hk
      rw [ha] at e
      cases e
      exact .inr ⟨_, vs.toArray, _, hk, rfl, rfl, rfl, by rw [List.size_toArray, hi.length]; exact hl, by simpa using vals_ints hi⟩
  generalize toldS K a vs ns = H at hT hN hS
  have only : Only H := fun b => by
    cases e : H b with
    | none => exact .inl rfl
    | some u => exact .inr ⟨_, _, by rw [(hT e).2.2]⟩
  have notDict : ∀ {b : Addr} {o : Obj} {es : Array DictEntry} {n : Nat}, s.heap.get? b = some o → o.data = .dict es n → H b = none := fun {b o es n} e d => hN fun z => by
    obtain ⟨rfl, _⟩ := z
    rw [ha] at e
    cases e
    cases (show Data.seq vs.toArray _ = Data.dict es n from d)
  have names : ∀ {b : Addr} {m : Str → Option Value}, s.heap.Ns b m → (hidT s.heap H).Ns b m := fun z => let ⟨o, es, n, e, d, r⟩ := z; ⟨o, es, n, hidT_get e (notDict e d), d, r⟩
  have inB : K.In (hidT s.heap H) := fun b o e => hidT_get (KX b o e) (hN fun z => by rw [← z.1, e] at z; cases z.2)
  have md : Mod K mg (hidT s.heap H) := ⟨inB, names hns, ⟨mb, names hb, hbb⟩, let ⟨m, z1, z2⟩ := hlim; ⟨m, names z1, z2⟩⟩
  have hok : HOk P w H s.heap := fun b u e => by
    obtain ⟨rfl, _, rfl⟩ := hT e
    exact ⟨ha, by rw [List.length_map]; exact hl, vs, _, vals_ints hi, ha⟩
  have env : Env0 P w K mg (hidT s.heap H) callerA [] s H := ⟨rfl, md, fun b o e => of_hidT e, Nat.le_of_eq (hidT_size _ _), trivial, fun b z => (List.not_mem_nil z).elim, hok, .of_eq hg⟩
  refine codeAny_mono ((F _ inB (names hns)).run callerA [] s H ⟨[.ref a], []⟩ [.ref a] [.ref a] _ _ rfl hr env (hbind s (.ref a)) (.cons rfl .nil) (hsp H only hS)) fun r s' z => ?_
  cases r with
  | error e => exact False.elim z
  | ok fl =>
    cases fl with
    | ret u =>
      obtain ⟨v, H', os, bare, un, hok', rv, q⟩ := z
      cases (show v = .bl true from q)
      cases (show u = Value.bool true from rv)
      refine ⟨rfl, OldK.of_keep fun b o e => ?_, os, bare⟩
      cases t : H b with
      | none => exact un.keep b o e t (List.not_mem_nil) (by simp)
      | some u =>
        obtain ⟨rfl, _, rfl⟩ := hT t
        have e2 := (hok' b _ (un.frzs b _ _ t)).1
        rw [ha] at e
        cases e
        exact e2
    | next => exact False.elim z
    | brk => exact False.elim z
    | cont => exact False.elim z
/-- the law's end, by a promise where nothing is being shown below -/
theorem walk_ofG {l : PySem.W.OpenLaw} {n k : Nat} {q : Program} {loose : List Str} {XP : (Str → Option Value) → Heap → Prop} {YP : World → Heap → Prop} {d : DefRec} {K : Params → PySem.W.Frag} {sp : World → Sp} {x : Str}
    (hn : l.most = some n) (hn2 : n ≤ sizeLine) (hdf : d.params.defaults = []) (hr : Room k callerA)
    (hY : ∀ (w : World) (h : Heap), YP w h → (K w.params).In h)
    (F : ∀ (w : World) (mg : Str → Option Value) (fa : Addr) (h : Heap), (K w.params).In h → h.Ns mainGlobals mg → mg d.name = some (.ref fa) →
      ∃ fd : FuncData, (∀ (s : Shared) (u : Value), BindsTo s fd ⟨[u], []⟩ [(x, u)]) ∧
        ∀ base : Heap, (K w.params).In base → base.Ns mainGlobals mg → FnG l.prog w (K w.params) mg base k fa fd [x] (sp w))
    (hsp : ∀ (w : World) (H : Hp) (a : Addr) (ns : List Int), ns.length ≤ n → Only H → SqL (K w.params) H a (ns.map V.int) → sp w [.ref a] H (fun v _ => v = .bl true) fun _ _ _ => False) :
    PySem.W.WalkO q loose XP YP l.row.toRowW d [] (fun f vs => PySem.call f vs) :=
  Att.attach_call hn hdf fun w s₀ s₁ mg mb fa o pm cd doc a vs ns G Y ho hd hcd hmg hobj hints hlen hg => by
    obtain ⟨fd, hb, hF⟩ := F w mg fa _ (hY w _ Y) G.T.g hmg
    exact law_callG (hY w _ Y) G.T.g G.T.b G.T.builtins G.T.nolimit hg hobj hints (Nat.le_trans hlen hn2) hr hF hb fun H hO hS => hsp w H a ns hlen hO hS
end
end Wk

set_option maxHeartbeats 4000000
/-! My own layer: a def that hands out, walked by a loop: while it sleeps its consumer works. The generator's run is told over a family of contexts; the consumer tells at each wake what it did. -/
namespace Wk
open PySem PySem.Spec PyProof.Rows L2 GenW
structure Fam {ι : Type} (𝒳 : ι → Cx) (P : Program) (w : World) (env : Env) (A : Around) (xe : Value → Shared → Prop) : Prop where
  own : PassesOwn (model P w) A env xe
  prog : ∀ i, (𝒳 i).prog = P
  wd : ∀ i, (𝒳 i).w = w
  ev : ∀ i, (𝒳 i).env = env
  ar : ∀ i, (𝒳 i).A = A
  xs : ∀ i, (𝒳 i).xe = xe
section
variable {ι : Type} {𝒳 : ι → Cx} {P : Program} {w : World} {env : Env} {AX : Around} {xe : Value → Shared → Prop} {Pp : List (Addr × Obj) → Prop} {Wy : Nat → L2.V → Hp → Prop} {Wr : L2.V → Hp → Hp → Prop}
/-- the generator's state, in one of its contexts -/
def HI (𝒳 : ι → Cx) (Pp : List (Addr × Obj) → Prop) (σ : L2.St) (H : Hp) (s : Shared) : Prop := ∃ i pins, Pp pins ∧ Inv (𝒳 i) pins σ H s
/-- x goes out; when it is woken the consumer has done Wr -/
def YG (𝒳 : ι → Cx) (Pp : List (Addr × Obj) → Prop) (Wy : Nat → L2.V → Hp → Prop) (Wr : L2.V → Hp → Hp → Prop) : Protocol := fun n _ v s kap =>
  ∃ j x σ H, n + 1 + j = sizeLine ∧ RelV x v ∧ HI 𝒳 Pp σ H s ∧ Wy j x H ∧ ∀ s' H', HI 𝒳 Pp σ H' s' → Wr x H H' → kap (.send .none) s'
structure HEnds where
  nx : Nat → L2.St → Hp → Prop
  rt : Nat → VK
  bk : Nat → L2.St → Hp → Prop := fun _ _ _ => False
  ct : Nat → L2.St → Hp → Prop := fun _ _ _ => False
abbrev THn := HEnds → Nat → L2.St → Hp → Prop
def HEnds.at (D : HEnds) (j : Nat) : Ends := { nx := D.nx j, rt := D.rt j, bk := D.bk j, ct := D.ct j }
def HSP (𝒳 : ι → Cx) (Pp : List (Addr × Obj) → Prop) (D : HEnds) (j : Nat) (f : Flow) (s : Shared) : Prop :=
  match f with
  | .next => ∃ σ H, HI 𝒳 Pp σ H s ∧ D.nx j σ H
  | .brk => ∃ σ H, HI 𝒳 Pp σ H s ∧ D.bk j σ H
  | .cont => ∃ σ H, HI 𝒳 Pp σ H s ∧ D.ct j σ H
  | .ret u => ∃ v σ H, HI 𝒳 Pp σ H s ∧ RelV v u ∧ D.rt j v H
structure HC (AX A : Around) (c : Code) (fs : List Frame) (gd : Bool → Bool) : Prop where
  over : A.over c fs = AX
  split : splitAtGen fs = none
  guard : fs.any Frame.guarded = false
  gd : gd false = false
structure HK (𝒳 : ι → Cx) (Pp : List (Addr × Obj) → Prop) (P : Program) (w : World) (xe : Value → Shared → Prop) (Y : Protocol) (A : Around) (R : GenEnd) (c : Code) (fs : List Frame) (K : Flow → Sem PySem.Fin) (J : Value → Sem PySem.Fin) (D : HEnds) : Prop where
  ok : ∀ (n j : Nat) (s₀ s : Shared) (f : Flow), n + j = sizeLine → HSP 𝒳 Pp D j f s → Seg (model P w) A R Y n s₀ c (K f) fs s
  exc : ∀ (n : Nat) (s₀ : Shared) (e : Value) (s : Shared), xe e s → Seg (model P w) A R Y n s₀ c (J e) fs s
structure HS (𝒳 : ι → Cx) (Pp : List (Addr × Obj) → Prop) (P : Program) (w : World) (env : Env) (AX : Around) (xe : Value → Shared → Prop) (Wy : Nat → L2.V → Hp → Prop) (Wr : L2.V → Hp → Hp → Prop) (st : Stmt) (t : THn) : Prop where
  run : ∀ (A : Around) (R : GenEnd) (n j : Nat) (s₀ : Shared) (c : Code) (fs : List Frame) (K : Flow → Sem PySem.Fin) (J : Value → Sem PySem.Fin) (gd : Bool → Bool) (lv : List Value → List Value) (s : Shared) (σ : L2.St) (H : Hp) (D : HEnds),
    HC AX A c fs gd → n + j = sizeLine → HK 𝒳 Pp P w xe (YG 𝒳 Pp Wy Wr) A R c fs K J D → HI 𝒳 Pp σ H s → t D j σ H →
    Seg (model P w) A R (YG 𝒳 Pp Wy Wr) n s₀ c ((exec st env).wrap K J gd lv) fs s
structure HSs (𝒳 : ι → Cx) (Pp : List (Addr × Obj) → Prop) (P : Program) (w : World) (env : Env) (AX : Around) (xe : Value → Shared → Prop) (Wy : Nat → L2.V → Hp → Prop) (Wr : L2.V → Hp → Hp → Prop) (st : List Stmt) (t : THn) : Prop where
  run : ∀ (A : Around) (R : GenEnd) (n j : Nat) (s₀ : Shared) (c : Code) (fs : List Frame) (K : Flow → Sem PySem.Fin) (J : Value → Sem PySem.Fin) (gd : Bool → Bool) (lv : List Value → List Value) (s : Shared) (σ : L2.St) (H : Hp) (D : HEnds),
    HC AX A c fs gd → n + j = sizeLine → HK 𝒳 Pp P w xe (YG 𝒳 Pp Wy Wr) A R c fs K J D → HI 𝒳 Pp σ H s → t D j σ H →
    Seg (model P w) A R (YG 𝒳 Pp Wy Wr) n s₀ c ((execs st env).wrap K J gd lv) fs s
variable {st : Stmt} {rest : List Stmt}
def hPlain (t : TS) : THn := fun D j σ H => t (D.at j) σ H
theorem hsp_of {i : ι} {pins : List (Addr × Obj)} {s : Shared} {D : HEnds} {j : Nat} {f : Flow} (hp : Pp pins) (h : SP (𝒳 i) pins (D.at j) f s) : HSP 𝒳 Pp D j f s := by
  cases f with
  | next => obtain ⟨σ, H, I, q⟩ := h; exact ⟨σ, H, ⟨i, pins, hp, I⟩, q⟩
  | brk => obtain ⟨σ, H, I, q⟩ := h; exact ⟨σ, H, ⟨i, pins, hp, I⟩, q⟩
  | cont => obtain ⟨σ, H, I, q⟩ := h; exact ⟨σ, H, ⟨i, pins, hp, I⟩, q⟩
  | ret u => obtain ⟨v, σ, H, I, r1, q⟩ := h; exact ⟨v, σ, H, ⟨i, pins, hp, I⟩, r1, q⟩
theorem hs_ps {t : TS} (F : Fam 𝒳 P w env AX xe) (h : ∀ i, PS (𝒳 i) st t) : HS 𝒳 Pp P w env AX xe Wy Wr st (hPlain t) := by
  refine ⟨fun A R n j s₀ c fs K J gd lv s σ H D g hn k hI ht => ?_⟩
  obtain ⟨i, pins, hp, I⟩ := hI
  refine seg_wrap ?_
  rw [g.over]
  have q := (h i).run pins s σ H (D.at j) I ht
  rw [F.prog i, F.wd i, F.ar i, F.ev i, F.xs i] at q
  exact wpAny_mono q (fun f s' hs => k.ok n j s₀ s' f hn (hsp_of hp hs)) fun x s' hx => k.exc n s₀ x s' hx
theorem hss_pss {t : TS} (F : Fam 𝒳 P w env AX xe) (h : ∀ i, PSs (𝒳 i) rest t) : HSs 𝒳 Pp P w env AX xe Wy Wr rest (hPlain t) := by
  refine ⟨fun A R n j s₀ c fs K J gd lv s σ H D g hn k hI ht => ?_⟩
  obtain ⟨i, pins, hp, I⟩ := hI
  refine seg_wrap ?_
  rw [g.over]
  have q := (h i).run pins s σ H (D.at j) I ht
  rw [F.prog i, F.wd i, F.ar i, F.ev i, F.xs i] at q
  exact wpAny_mono q (fun f s' hs => k.ok n j s₀ s' f hn (hsp_of hp hs)) fun x s' hx => k.exc n s₀ x s' hx
theorem hss_nil : HSs 𝒳 Pp P w env AX xe Wy Wr [] (fun D j σ H => D.nx j σ H) := by
  refine ⟨fun A R n j s₀ c fs K J gd lv s σ H D g hn k hI ht => ?_⟩
  exact seg_execs_nil (k.ok n j s₀ s .next hn ⟨σ, H, hI, ht⟩)
def hThen (t u : THn) : THn := fun D j σ H => t { D with nx := fun j' σ' H' => u D j' σ' H' } j σ H
theorem hss_cons {t u : THn} (a : HS 𝒳 Pp P w env AX xe Wy Wr st t) (b : HSs 𝒳 Pp P w env AX xe Wy Wr rest u) : HSs 𝒳 Pp P w env AX xe Wy Wr (st :: rest) (hThen t u) := by
  refine ⟨fun A R n j s₀ c fs K J gd lv s σ H D g hn k hI ht => ?_⟩
  refine seg_execs_cons ?_
  refine a.run A R n j s₀ c fs _ J gd lv s σ H { D with nx := fun j' σ' H' => u D j' σ' H' } g hn ⟨fun n' j' s₀' s' f hn' hs => ?_, k.exc⟩ hI ht
  cases f with
  | next =>
    obtain ⟨σ', H', I', q⟩ := hs
    exact b.run A R n' j' s₀' c fs K J gd lv s' σ' H' D g hn' k I' q
  | brk => exact k.ok n' j' s₀' s' .brk hn' hs
  | cont => exact k.ok n' j' s₀' s' .cont hn' hs
  | ret u => exact k.ok n' j' s₀' s' (.ret u) hn' hs
def hYield (Wy : Nat → L2.V → Hp → Prop) (Wr : L2.V → Hp → Hp → Prop) (te : TE) : THn := fun D j σ H => j < sizeLine ∧ te σ H fun x H1 => Wy j x H1 ∧ ∀ H', Wr x H1 H' → D.nx (j + 1) σ H'
theorem hs_yield {e : Expr} {yp pos : Pos} {te : TE} (F : Fam 𝒳 P w env AX xe) (he : ∀ i, PE (𝒳 i) e te) (hco : env.scope.isCoroutine = false := by rfl) (hi : interactive env = false := by rfl) : HS 𝒳 Pp P w env AX xe Wy Wr (.Expr (.Yield (some e) yp) pos) (hYield Wy Wr te) := by
  refine ⟨fun A R n j s₀ c fs K J gd lv s σ H D g hn k hI ht => ?_⟩
  obtain ⟨hlt, ht⟩ := ht
  obtain ⟨n, rfl⟩ : ∃ m, n = m + 1 := ⟨n - 1, by omega⟩
  obtain ⟨i, pins, hp, I⟩ := hI
  refine seg_Expr_Yield g.split g.gd g.guard ?_ hco hi
  rw [g.over]
  have q := (he i).run pins s σ H _ I ht
  rw [F.prog i, F.wd i, F.ar i, F.ev i, F.xs i] at q
  refine wpAny_mono q (fun v s' hv => ?_) fun x s' hx => k.exc _ s₀ x s' hx
  obtain ⟨x, H1, I1, rv, q1, q2⟩ := hv
  intro kap hk
  refine ⟨j, x, σ, H1, by omega, rv, ⟨i, pins, hp, I1⟩, q1, fun s'' H' hI' hr => hk .none s'' ?_⟩
  exact k.ok n (j + 1) s'' s'' .next (by omega) ⟨σ, H', hI', q2 H' hr⟩
theorem hc_loop {A : Around} {c c' : Code} {fs : List Frame} {gd : Bool → Bool} {k : Result → Sem PySem.Fin} {l kp : List Value} {p : Pos} (g : HC AX A c fs gd) (hw : c'.weight = 0) (hu : c'.cUnits = 0) :
    HC AX A c' (.ret k none (gd false) l c p kp :: fs) id where
  over := (over_loop hw hu).trans g.over
  split := by
    show (splitAtGen fs).map _ = none
    rw [g.split]; rfl
  guard := by
    show (gd false || fs.any Frame.guarded) = false
    rw [g.gd, g.guard]; rfl
  gd := rfl
theorem hseg_back {Y : Protocol} {A : Around} {R : GenEnd} {c : Code} {fs : List Frame} {K : Flow → Sem PySem.Fin} {J : Value → Sem PySem.Fin} {gd : Bool → Bool} {lv : List Value → List Value} {D : HEnds} {n : Nat} {s₀ s : Shared} {e : Value}
    (g : HC AX A c fs gd) (k : HK 𝒳 Pp P w xe Y A R c fs K J D) (h : cameBackBy (model P w) AX env xe e s) :
    Seg (model P w) A R Y n s₀ c (((Sem.raise e : Sem Flow).onRaise (cameBack env)).wrap K J gd lv) fs s := by
  show Seg _ _ _ _ _ _ _ (((cameBack env e).bind fun _ => (Sem.raise e : Sem Flow)).wrap K J gd lv) _ _
  rw [Sem.bind_eq_wrap, Sem.wrap_wrap]
  refine seg_wrap ?_
  rw [g.over]
  exact wpAny_mono h (fun _ s' hx => k.exc n s₀ e s' hx) fun x s' hx => k.exc n s₀ x s' hx
def hWhile (c : TT) (tb : THn) : THn := fun D j σ H => ∃ W : Nat → Nat → L2.St → Hp → Prop, (∃ m, W m j σ H) ∧ ∀ m j σ H, W m j σ H →
  c σ H fun b H1 => if b = true then ∃ N : Nat → L2.St → Hp → Prop, (∀ j' σ' H', N j' σ' H' → ∃ m', m' < m ∧ W m' j' σ' H') ∧ tb { D with nx := N, ct := N, bk := D.nx } j σ H1 else D.nx j σ H1
theorem hs_while {test : Expr} {body : List Stmt} {pos : Pos} {tc : TT} {tb : THn} (F : Fam 𝒳 P w env AX xe) (hc : ∀ i, PT (𝒳 i) test tc) (hb : HSs 𝒳 Pp P w env AX xe Wy Wr body tb) : HS 𝒳 Pp P w env AX xe Wy Wr (.While test body [] pos) (hWhile tc tb) := by
  refine ⟨fun A R n j s₀ c fs K J gd lv s σ H D g hn k hI ht => ?_⟩
  obtain ⟨W, ⟨m0, w0⟩, turn⟩ := ht
  refine seg_While fun p => ?_
  have gl := fun (kk : Result → Sem PySem.Fin) => hc_loop (k := kk) (c' := .whileLoop test body [] env) (l := lv []) (kp := []) (p := p) g rfl rfl
  have loop : ∀ (m n j : Nat) (s₀ s : Shared) (σ : L2.St) (H : Hp), n + j = sizeLine → W m j σ H → HI 𝒳 Pp σ H s →
      Seg (model P w) A R (YG 𝒳 Pp Wy Wr) n s₀ (.whileLoop test body [] env) ((model P w).den (.whileLoop test body [] env))
        (.ret (fun r => ((match r with | .ok f => (.pure f : Sem Flow) | .error e => .raise e).onRaise (cameBack env)).wrap K J gd lv) none (gd false) (lv []) c p [] :: fs) s := by
    intro m
    induction m using Nat.strongRecOn with
    | ind m ih =>
      intro n j s₀ s σ H hn w1 hI
      have ee : ∀ (n : Nat) (s₀ : Shared) (x : Value) (s' : Shared), xe x s' → Seg (model P w) A R (YG 𝒳 Pp Wy Wr) n s₀ (.whileLoop test body [] env)
          ((do noteFrame x env; theTreesLotGoes x : Sem Unit).wrap (fun _ => .raise x) .raise id id)
          (.ret (fun r => ((match r with | .ok f => (.pure f : Sem Flow) | .error e => .raise e).onRaise (cameBack env)).wrap K J gd lv) none (gd false) (lv []) c p [] :: fs) s' := fun n s₀ x s' hx => by
        refine seg_wrap ?_
        rw [(gl _).over]
        refine wpAny_bind (wpAny_mono (F.own x s' hx) (fun _ s'' hcb => wpAny_theTreesLotGoes ?_) fun y s'' hcb => ?_)
        · exact seg_leaf (.error x) (hseg_back g k hcb)
        · exact seg_leaf (.error y) (hseg_back g k hcb)
      refine seg_whileLoop ?_
      rw [(gl _).over]
      obtain ⟨i, pins, hp, I⟩ := hI
      have q := (hc i).run pins s σ H _ I (turn m j σ H w1)
      rw [F.prog i, F.wd i, F.ar i, F.ev i, F.xs i] at q
      refine wpAny_mono q (fun b s' hb' => ?_) fun x s' hx => ee n s₀ x s' hx
      obtain ⟨H2, I2, q2⟩ := hb'
      cases b with
      | true =>
        obtain ⟨N, hN, q2⟩ := q2
        rw [if_pos rfl]
        refine hb.run A R n j s₀ _ _ _ _ id id s' σ H2 { D with nx := N, ct := N, bk := D.nx } (gl _) hn ⟨fun n' j' s₀' s3 f hn' hs => ?_, fun n' s₀' x s3 hx => ee n' s₀' x s3 hx⟩ ⟨i, pins, hp, I2⟩ q2
        cases f with
        | next =>
          obtain ⟨σ3, H3, I3, n3⟩ := hs
          obtain ⟨m', hm, w3⟩ := hN j' σ3 H3 n3
          exact seg_again rfl (ih m' hm n' j' s₀' s3 σ3 H3 hn' w3 I3)
        | cont =>
          obtain ⟨σ3, H3, I3, n3⟩ := hs
          obtain ⟨m', hm, w3⟩ := hN j' σ3 H3 n3
          exact seg_again rfl (ih m' hm n' j' s₀' s3 σ3 H3 hn' w3 I3)
        | brk => exact seg_leaf (.ok .next) (k.ok n' j' s₀' s3 .next hn' hs)
        | ret v => exact seg_leaf (.ok (.ret v)) (k.ok n' j' s₀' s3 (.ret v) hn' hs)
      | false =>
        rw [if_neg Bool.false_ne_true]
        refine seg_execs_nil ?_
        exact seg_leaf (.ok .next) (k.ok n j s₀ s' .next hn ⟨σ, H2, ⟨i, pins, hp, I2⟩, q2⟩)
  exact loop m0 n j s₀ s σ H hn w0 hI
end

/-! ### by the weakest readings, in every context of the family -/
section
variable {ι : Type} {𝒳 : ι → Cx} {P : Program} {w : World} {env : Env} {AX : Around} {xe : Value → Shared → Prop} {Pp : List (Addr × Obj) → Prop} {Wy : Nat → L2.V → Hp → Prop} {Wr : L2.V → Hp → Hp → Prop} {st : Stmt} {rest : List Stmt}
theorem hs_w (F : Fam 𝒳 P w env AX xe) : HS 𝒳 Pp P w env AX xe Wy Wr st (hPlain fun D σ H => ∀ i, wS (𝒳 i) st D σ H) := hs_ps F fun i => ⟨fun pins s σ H D I h => ps.run pins s σ H D I (h i)⟩
theorem hss_w (F : Fam 𝒳 P w env AX xe) : HSs 𝒳 Pp P w env AX xe Wy Wr rest (hPlain fun D σ H => ∀ i, wL (𝒳 i) rest D σ H) := hss_pss F fun i => ⟨fun pins s σ H D I h => pl.run pins s σ H D I (h i)⟩
theorem hs_yieldw {e : Expr} {yp pos : Pos} (F : Fam 𝒳 P w env AX xe) (hco : env.scope.isCoroutine = false := by rfl) (hi : interactive env = false := by rfl) : HS 𝒳 Pp P w env AX xe Wy Wr (.Expr (.Yield (some e) yp) pos) (hYield Wy Wr fun σ H Q => ∀ i, wE (𝒳 i) e σ H Q) :=
  hs_yield F (fun i => ⟨fun pins s σ H Q I h => pe.run pins s σ H Q I (h i)⟩) hco hi
theorem hs_whilew {test : Expr} {body : List Stmt} {pos : Pos} {tb : THn} (F : Fam 𝒳 P w env AX xe) (hb : HSs 𝒳 Pp P w env AX xe Wy Wr body tb) : HS 𝒳 Pp P w env AX xe Wy Wr (.While test body [] pos) (hWhile (fun σ H Q => ∀ i, wT (𝒳 i) test σ H Q) tb) :=
  hs_while F (fun i => ⟨fun pins s σ H Q I h => pt.run pins s σ H Q I (h i)⟩) hb
end
/-! ### the def -/
/-- the generator's body in its frame at n0; i: the state and the heap that what is kept is told from -/
def gX (P : Program) (w : World) (K : PySem.W.Frag) (mg : Str → Option Value) (base : Heap) (N : List Str) (qual : Str) (scope : Scope) (f : Addr) (cd : Value) (A : Around) (outer : List Env) (n0 : Nat) (pn : List (Addr × Obj)) (i : Shared × Hp) : Cx where
  prog := P
  w := w
  K := K
  mg := mg
  base := base
  A := A.deeper (envOfC qual scope n0 f cd)
  N := N
  s_0 := i.1
  H_0 := i.2
  env := envOfC qual scope n0 f cd
  outer := outer
  stack := envOfC qual scope n0 f cd :: outer
  ex := []
  fn := fun _ => true
  calm := true
  pn := pn
  xe := fun e s' => wpAny (model P w) (A.deeper (envOfC qual scope n0 f cd)) (leaving (envOfC qual scope n0 f cd) e) (fun _ _ => False) (fun _ _ => False) s'
section
variable {P : Program} {w : World} {K : PySem.W.Frag} {mg : Str → Option Value} {base : Heap} {N : List Str} {qual : Str} {scope : Scope} {f : Addr} {cd : Value} {A : Around} {outer : List Env} {n0 : Nat} {pn : List (Addr × Obj)}
theorem own_gX {i : Shared × Hp} : PassesOwn (model P w) (gX P w K mg base N qual scope f cd A outer n0 pn i).A (gX P w K mg base N qual scope f cd A outer n0 pn i).env (gX P w K mg base N qual scope f cd A outer n0 pn i).xe :=
  passes_of (X := gX P w K mg base N qual scope f cd A outer n0 pn i) (K := fun _ _ => False) (E₁ := fun _ _ => False) rfl
theorem fam_gX {ι : Type} (ent : ι → Shared × Hp) (i0 : ι) : Fam (fun i => gX P w K mg base N qual scope f cd A outer n0 pn (ent i)) P w (envOfC qual scope n0 f cd) (A.deeper (envOfC qual scope n0 f cd))
    (fun e s' => wpAny (model P w) (A.deeper (envOfC qual scope n0 f cd)) (leaving (envOfC qual scope n0 f cd) e) (fun _ _ => False) (fun _ _ => False) s') :=
  ⟨own_gX (K := K) (mg := mg) (base := base) (N := N) (outer := outer) (pn := pn) (i := ent i0), fun _ => rfl, fun _ => rfl, fun _ => rfl, fun _ => rfl, fun _ => rfl⟩
theorem inv_gX {s s1 : Shared} {H H' : Hp} {E : XK} {pins : List (Addr × Obj)} {σ : L2.St} (I : Inv (gcxOf P w K mg base N qual scope f cd A outer s H E []) [] σ H' s1)
    (h : ∀ p ∈ pn ++ pins, s1.heap.get? p.1 = some p.2 ∧ H' p.1 = none ∧ p.1 ≠ s.heap.objs.size ∧ p.1 ∉ frs outer ∧ ∀ v, p.2.data ≠ .cell v) : Inv (gX P w K mg base N qual scope f cd A outer s.heap.objs.size pn (s, H)) pins σ H' s1 :=
  ⟨⟨I.ok.mod, I.ok.kind, I.ok.glob, I.ok.blt, I.ok.above, I.ok.inj, I.ok.has, I.ok.cab, I.ok.hd, I.ok.frames, I.ok.stk, I.ok.exf, I.ok.bs, I.ok.bsz, I.ok.noex, I.ok.exfs, I.ok.funs, I.ok.frf⟩, I.os, I.bare, I.base, I.loc, I.cell, I.free, I.freeC, h, I.hok, I.len⟩
end
/-- a promise: the arguments, the heap at the first wake, what goes out, what the consumer does, the end -/
abbrev SpH := List L2.V → Hp → (Nat → L2.V → Hp → Prop) → (L2.V → Hp → Hp → Prop) → (Nat → Hp → Prop) → Prop
def RG {ι : Type} (𝒳 : ι → Cx) (Pp : List (Addr × Obj) → Prop) (Q : Nat → Hp → Prop) : GenEnd := fun _ _ r s1 =>
  ((r = .ok (.ret .none) ∨ r = .ok .next) ∧ ∃ j σ H, HI 𝒳 Pp σ H s1 ∧ Q j H) ∨ ∃ e, r = .error e ∧ False
def GMd (P : Program) (w : World) (K : PySem.W.Frag) (mg : Str → Option Value) (base : Heap) (k : Nat) (N : List Str) (qual : Str) (scope : Scope) (f : Addr) (cd : Value) (outer : List Env) (H : Hp) (s : Shared) (vs : List L2.V) (sp : SpH) (u : Value) (s' : Shared) : Prop :=
  ∃ (a : Addr) (g : Nat) (c : Code) (go : Obj), u = .ref a ∧ s.heap.objs.size ≤ a ∧ a < s'.heap.objs.size ∧ s'.heap.get? a = some go ∧ (∀ h : Heap, h.get? a = some go → h.IsGen a g) ∧ s'.gens[g]? = some (.fresh c) ∧ s'.os = s.os ∧ AllBare s'.gens ∧ s'.heap.NoLimit ∧ (∀ b o, s.heap.get? b = some o → s'.heap.get? b = some o) ∧
    ∀ (Aw : Around) {ι : Type} (ent : ι → Shared × Hp) (i0 : ι) (Pp : List (Addr × Obj) → Prop) (Wy : Nat → L2.V → Hp → Prop) (Wr : L2.V → Hp → Hp → Prop) (Q : Nat → Hp → Prop) (s2 : Shared) (H2 : Hp) (pins : List (Addr × Obj)), ent i0 = (s, H) → Room k Aw → Aw.frames = some outer → Pp pins →
      Un (frs outer) [] H H2 s'.heap s2.heap → HOk P w H2 s2.heap → s2.os = s.os → AllBare s2.gens → (∀ p ∈ pins, s2.heap.get? p.1 = some p.2 ∧ H2 p.1 = none ∧ s'.heap.objs.size ≤ p.1 ∧ ∀ v, p.2.data ≠ .cell v) → sp vs H2 Wy Wr Q →
      Seg (model P w) Aw (RG (fun i => gX P w K mg base N qual scope f cd Aw outer s.heap.objs.size [(a, go)] (ent i)) Pp Q) (YG (fun i => gX P w K mg base N qual scope f cd Aw outer s.heap.objs.size [(a, go)] (ent i)) Pp Wy Wr) sizeLine s2 c ((model P w).den c) [] s2
structure GFh (P : Program) (w : World) (K : PySem.W.Frag) (mg : Str → Option Value) (base : Heap) (k : Nat) (f : Addr) (fd : FuncData) (ps : List Str) (N : List Str) (qual : Str) (scope : Scope) (cd : Value) (sp : SpH) : Prop where
  len : ∀ vs H Wy Wr Q, sp vs H Wy Wr Q → vs.length = ps.length
  run : ∀ (A : Around) (outer : List Env) (s : Shared) (H : Hp) (args : Args) (us : List Value) (vs : List L2.V), Room k A → Env0 P w K mg base A outer s H → BindsTo s fd args (ps.zip us) → Vals vs us → vs.length = ps.length →
    codeAny (model P w) A (.call (.ref f) args) (fun r s' => match r with | .ok (.ret u) => GMd P w K mg base k N qual scope f cd outer H s vs sp u s' | _ => False) s
/-- THE RULE: a def that hands out, by its body -/
theorem gfh_of {P : Program} {w : World} {K : PySem.W.Frag} {mg : Str → Option Value} {base : Heap} {k : Nat} {f : Addr} {name qual : Str} {params : Arguments} {body : List Stmt} {scope : Scope} {dV kV doc pm cdv ct oc : Value} {an od : Option Addr}
    {osl : Array (Option Value)} {N ps : List Str} {sp : SpH} (lk : K.lookup f = some ⟨oc, od, .func (PySem.W.fnOf name qual params body scope dV kV doc pm an cdv ct), osl⟩) (hcd : PySem.W.codeIn K cdv qual = true) (S : GScope N ps scope)
    (len : ∀ vs H Wy Wr Q, sp vs H Wy Wr Q → vs.length = ps.length)
    (hbody : ∀ (A : Around) (outer : List Env) (n0 : Nat) (pn : List (Addr × Obj)) {ι : Type} (ent : ι → Shared × Hp) (i0 : ι) (Pp : List (Addr × Obj) → Prop) (Wy : Nat → L2.V → Hp → Prop) (Wr : L2.V → Hp → Hp → Prop), Room k (A.deeper (envOfC qual scope n0 f cdv)) →
      ∃ t, HSs (fun i => gX P w K mg base N qual scope f cdv A outer n0 pn (ent i)) Pp P w (envOfC qual scope n0 f cdv) (A.deeper (envOfC qual scope n0 f cdv)) (fun e s' => wpAny (model P w) (A.deeper (envOfC qual scope n0 f cdv)) (leaving (envOfC qual scope n0 f cdv) e) (fun _ _ => False) (fun _ _ => False) s') Wy Wr body t ∧
        ∀ vs H Q, sp vs H Wy Wr Q → t { nx := fun j _ H' => Q j H', rt := fun j v H' => v = .non ∧ Q j H' } 0 (start N vs) H) :
    GFh P w K mg base (k + 1) f (PySem.W.fnOf name qual params body scope dV kV doc pm an cdv ct) ps N qual scope cdv sp := by
  refine ⟨len, fun A outer s H args us vs hr e0 hb r hl => ?_⟩
  have KX : K.In s.heap := e0.mod.kin.keeps fun b o e => (e0.bs b o e).1
  have lim : s.heap.NoLimit := e0.mod.nolimit.keeps fun b o e => (e0.bs b o e).1
  have hkind : ∀ y ∈ ps.zip us, scope.names.lookup y.1 = some .local ∨ (scope.names.lookup y.1 = some .cell ∧ ((cellsFrom (s.heap.objs.size + 1) scope.names []).lookup y.1).isSome = true) := fun ⟨n, v⟩ hy => by
    rcases S.par n (List.of_mem_zip hy).1 with q | q
    · exact .inl q
    · exact .inr ⟨q, PySem.W.cellsFrom_some _ _ _ (.inl q)⟩
  refine codeAny_call_generator hr.depth (KX _ _ lk) rfl S.co S.gen rfl (PySem.W.codeRec_of KX hcd) (hb _ _ _ _ ?_)
  refine wpAny_newFunctionEnv_cells S.kind hkind fun env he s1 x => ?_
  subst he
  have lim1 : s1.heap.NoLimit := lim.keeps x.toInCall.keep
  refine ⟨lim1, ?_⟩
  obtain ⟨h1, tk, es1, hk1⟩ := x.done
  have os1 : s1.os = s.os := by rw [es1]
  have gen1 : s1.gens = s.gens := by rw [es1]
  have lt1 : s.heap.objs.size < s1.heap.objs.size := x.toInCall.ns.lt
  have kp1 : ∀ b o, s.heap.get? b = some o → s1.heap.get? b = some o := x.toInCall.keep
  have main : ∀ (go : Obj) (nm qn : Value) (tk2 : Nat), go.cls = .type "generator" → go.data = .fields #[.int s1.gens.size 0, nm, qn] → go.slots = #[] → (∀ h : Heap, (h.push go).get? h.objs.size = some go) →
      GMd P w K mg base (k + 1) N qual scope f cdv outer H s vs sp (.ref s1.heap.objs.size) { s1 with gens := s1.gens.push (.fresh (.func body (envOfC qual scope s.heap.objs.size f cdv))), toks := tk2, heap := s1.heap.push go } := by
    intro go nm qn tk2 hgc hgd0 hgs hgp
    have hgen : ∀ h : Heap, h.get? s1.heap.objs.size = some go → h.IsGen s1.heap.objs.size s1.gens.size := fun h e => ⟨go, nm, qn, e, hgc, hgd0, hgs⟩
    have hpushed : (s1.heap.push go).get? s1.heap.objs.size = some go := hgp _
    have kp2 : ∀ b o, s1.heap.get? b = some o → (s1.heap.push go).get? b = some o := fun b o e => Heap.get?_push_of_some _ e
    refine ⟨s1.heap.objs.size, s1.gens.size, _, go, rfl, Nat.le_of_lt lt1, ?_, hpushed, hgen, Array.getElem?_push_size .., os1, ?_, lim1.keeps kp2, fun b o e => kp2 b o (kp1 b o e), ?_⟩
    · show _ < (s1.heap.push _).objs.size
      rw [Heap.size_push]; exact Nat.lt_succ_self _
    · exact AllBare.push (by rw [gen1]; exact e0.bare) rfl
    intro Aw ι ent i0 Pp Wy Wr Q s2 H2 pins hent hrw hfr hpp un hok hos hba hpins hsp
    have e0w : Env0 P w K mg base Aw outer s H := ⟨hfr, e0.mod, e0.bs, e0.bsz, e0.funs, e0.frf, e0.hok, e0.bare⟩
    obtain ⟨t, ht, hq⟩ := hbody Aw outer s.heap.objs.size [(s1.heap.objs.size, go)] ent i0 Pp Wy Wr (hrw.deeper _)
    have I1 : Inv (gcxOf P w K mg base N qual scope f cdv Aw outer s H E0 []) [] (start N vs) H s1 := inv_startG S hrw.hd e0w hl r x
    have hk2 : HOk P w H (s1.heap.push go) := I1.hok.kept kp2
    have un1 : Un (frs outer) [] H H2 s1.heap s2.heap := (Un.kept kp2).trans un
    have I2 : Inv (gcxOf P w K mg base N qual scope f cdv Aw outer s H E0 []) [] (start N vs) H2 s2 :=
      I1.call' (ch := []) (hos.trans os1.symm) (un1.mono (fun b hb => by unfold frs; exact List.mem_filterMap.mpr (by obtain ⟨c, h1, h2⟩ := List.mem_filterMap.mp hb; exact ⟨c, List.mem_cons_of_mem _ h1, h2⟩)) fun b hb => hb) hok hba fun b z => by simp at z
    have ga : H s1.heap.objs.size = none := I1.hok.fresh (Nat.le_refl _)
    have nfa : s1.heap.objs.size ∉ frs outer := I1.nofs (Nat.le_refl _)
    have hgd : ∀ v, go.data ≠ .cell v := fun v q => by rw [hgd0] at q; cases q
    have I3 : Inv (gX P w K mg base N qual scope f cdv Aw outer s.heap.objs.size [(s1.heap.objs.size, go)] (s, H)) pins (start N vs) H2 s2 := by
      refine inv_gX I2 fun p hp => ?_
      rcases List.mem_append.mp hp with z | z
      · rw [List.mem_singleton.mp z]
        exact ⟨un.keep _ _ hpushed ga nfa (by simp), un.free _ _ hpushed ga (by simp), Nat.ne_of_gt lt1, nfa, hgd⟩
      · obtain ⟨q1, q2, q3, q4⟩ := hpins p z
        have q3' : s1.heap.objs.size ≤ p.1 := by
          have q3 : (s1.heap.push go).objs.size ≤ p.1 := q3
          rw [Heap.size_push] at q3
          exact Nat.le_of_succ_le q3
        exact ⟨q1, q2, Nat.ne_of_gt (Nat.lt_of_lt_of_le lt1 q3'), I1.nofs q3', q4⟩
    have I3' : Inv (gX P w K mg base N qual scope f cdv Aw outer s.heap.objs.size [(s1.heap.objs.size, go)] (ent i0)) pins (start N vs) H2 s2 := by rw [hent]; exact I3
    refine seg_func ?_
    refine ht.run Aw _ sizeLine 0 s2 _ [] _ _ id id s2 (start N vs) H2 _ ⟨over_func, rfl, rfl, rfl⟩ (Nat.add_zero _) ⟨fun n j s₀ s' fl hn hs => ?_, fun n s₀ e s' hx => ?_⟩ ⟨i0, pins, hpp, I3'⟩ (hq vs H2 Q hsp)
    · cases fl with
      | next =>
        obtain ⟨σ', H', hI, hQ⟩ := hs
        exact seg_end (.ok (.ret .none)) (.inl ⟨.inl rfl, j, σ', H', hI, hQ⟩)
      | brk => obtain ⟨_, _, _, q⟩ := hs; exact False.elim q
      | cont => obtain ⟨_, _, _, q⟩ := hs; exact False.elim q
      | ret u =>
        obtain ⟨v, σ', H', hI, rv, ev, hQ⟩ := hs
        subst ev
        have eu : u = Value.none := rv
        subst eu
        exact seg_end (.ok (.ret .none)) (.inl ⟨.inl rfl, j, σ', H', hI, hQ⟩)
    · refine seg_wrap ?_
      rw [over_func]
      refine wpAny_mono hx (fun _ s'' q => q.elim) fun _ s'' q => q.elim
  exact main _ _ _ _ rfl rfl rfl fun h => Heap.get?_push_size _ rfl
end Wk

set_option maxHeartbeats 4000000
/-! My own layer: a list comprehension with a test over a def that hands out pairs. -/
namespace Wk
open PySem PySem.Spec PyProof.Rows L2 GenW
/-- what goes out is a pair, its second a text; the consumer's list has room -/
def WyC (D : Addr) : Nat → L2.V → Hp → Prop := fun _ x H => ∃ T u nm us, x = .ref T ∧ H T = some (.tup [u, .str nm]) ∧ H D = some (.lst us) ∧ us.length < sizeLine
def WrC (D : Addr) (lit : Str) : L2.V → Hp → Hp → Prop := fun x H H' => ∃ T u nm us, x = .ref T ∧ H T = some (.tup [u, .str nm]) ∧ H D = some (.lst us) ∧ H' = if nm = lit then upd H D (.lst (us ++ [u])) else H
section
variable {Xg : Cx} {A : Around} {E : Value → Shared → Prop} {cenv : Env} {a C D T : Addr} {x y lit : Str} {nm : Str} {u : L2.V} {us : List L2.V} {H : Hp} {σ : L2.St} {s : Shared} {oC : Obj}
theorem turn_c {g : Nat} {m : Str → Option Value} {v : Value} {p1 p2 p3 p4 p5 p6 pt : Pos} {kk k2 : Nat} {Q : Shared → Prop} (hA : A.handled = none) (hg : s.heap.IsGen a g) (I : Inv Xg [(C, oC)] σ H s) (hn : s.heap.Ns C m)
    (hC1 : Xg.s_0.heap.objs.size ≤ C) (hC2 : ∀ x c, Xg.env.cells.lookup x = some c → c ≠ C) (hC3 : ∀ p ∈ Xg.pn, p.1 ≠ C) (hL : cenv.locals = C) (hk : cenv.scope.kind = .function) (hkx : cenv.kindOf x = some .local) (hky : cenv.kindOf y = some .local) (hxy : x ≠ y)
    (hdx : (x == ("__debug__" : Str)) = false) (hdy : (y == ("__debug__" : Str)) = false) (hv : RelV (.ref T) v) (hT : H T = some (.tup [u, .str nm])) (hD : H D = some (.lst us)) (hz : us.length < sizeLine)
    (hQ : ∀ sF H', sF.gens = s.gens → Inv Xg [] σ H' sF → (∃ m, sF.heap.Ns C m) → (H' = if nm = lit then upd H D (.lst (us ++ [u])) else H) → Q sF) :
    wpAny (model Xg.prog Xg.w) A (letOwnedTupleGo (.Tuple [.Name x p1, .Name y p2] kk pt) (.ref a) v) (fun _ s1 => wpAny (model Xg.prog Xg.w) A (assign (.Tuple [.Name x p1, .Name y p2] kk pt) cenv v) (fun _ s2 =>
      wpAny (model Xg.prog Xg.w) A (forIn [Expr.Compare (.Name y p3) [.Eq] [.Constant (.str lit) k2 p4] p5] true fun c r => if r = true then do let ok ← isTrue c cenv (eval c cenv); pure (ForInStep.yield ok) else pure (ForInStep.yield r)) (fun ok s3 =>
        if ok = true then wpAny (model Xg.prog Xg.w) A (eval (.Name x p6) cenv) (fun z s4 => wpAny (model Xg.prog Xg.w) A (call (.builtin "list.append") [.ref D, z]) (fun _ s5 => Q s5) E s4) E s3 else Q s3) E s2) E s1) E s := by
  obtain rfl : v = Value.ref T := hv
  obtain ⟨hlen, its, rv, ht⟩ := I.hok T _ hT
  obtain ⟨o, nm', qn, ho, hc, hd, hsl⟩ := hg
  have hcls : (cenv.scope.kind == .class || (cenv.scope.kind == .module && cenv.locals != cenv.globals)) = false := by rw [hk]; rfl
  have pC := I.pin (C, oC) (List.mem_append_right _ (List.mem_singleton.mpr rfl))
  obtain ⟨pc1, pc2, pc3, pc4, pc5⟩ := pC
  have I0 : Inv Xg [] σ H s := I.pins_of fun p hp => by simp at hp
  cases rv with
  | cons r1 rr =>
  cases rr with
  | cons r2 rr =>
  cases rr
  obtain ⟨tk, rfl⟩ := r2
  refine go_of ho hc hd (by decide) ?_
  refine assign_Tuple_tuple hA ht rfl rfl fun h1 hx => ?_
  have hn1 : h1.Ns cenv.locals m := by rw [hL]; exact hn.at' fun o e => hx _ o (Nat.ne_of_lt (Heap.lt_size e)) e
  refine assignInOrder_cons (wpAny_assign_Name (wpAny_storeName_local hkx hn1 (fun h2 hn2 hs2 => ?_) hcls))
  refine assignInOrder_cons (wpAny_assign_Name (wpAny_storeName_local hky hn2 (fun h3 hn3 hs3 => ?_) hcls))
  refine assignInOrder_nil ?_
  have kp : ∀ b o, b ≠ C → s.heap.get? b = some o → h3.get? b = some o := fun b o hb e => by
    rw [hL] at hs2 hs3
    exact (hs3.2 b hb).trans ((hs2.2 b hb).trans (hx b o (Nat.ne_of_lt (Heap.lt_size e)) e))
  have hnC : ∃ m, h3.Ns C m := ⟨_, by rw [← hL]; exact hn3⟩
  refine wpAny_tests_one (wpAny_isTrue_Compare1 (wpAny_Name (wpAny_loadName_local hk hky hn3 (by rw [if_pos rfl]) ?_) hdy))
  refine Calls.Constant_str ?_
  refine eq_str ?_
  refine wpAny_truthy_bool ?_
  have I1 : ∀ t, Inv Xg [] σ H { s with heap := h3, toks := t } := fun t => I0.turned (it := C) kp pc2 pc3 (.inr hC1) hC2 fun p hp => hC3 p (by simpa using hp)
  by_cases e : nm = lit
  · subst e
    rw [show (nm == nm) = true by simp, if_pos rfl]
    refine wpAny_Name (wpAny_loadName_local hk hkx hn3 (by rw [if_neg hxy, if_pos rfl]) ?_) hdx
    have I2 := I1 (s.toks + 1 + 1 + 1)
    obtain ⟨hz', js, n, ri, e2⟩ := I2.hok D _ hD
    have hl := ri.length
    have hDC : D ≠ C := fun z => by rw [z, pc2] at hD; cases hD
    refine append_at (hsz := by rw [List.size_toArray]; omega) e2 fun h' sb ho' => ?_
    refine hQ _ (upd H D (.lst (us ++ [u]))) rfl (I2.write (t' := s.toks + 1 + 1 + 1) (by rw [hD]; trivial) (.inl rfl) (fun b u hb q => (sb.2 b hb).trans q) ⟨_, ho'⟩ ⟨by rw [List.length_append]; exact hz, js ++ [_], n + 1, ri.append (.cons r1 .nil), ?_⟩) ?_ (by rw [if_pos rfl])
    · rw [ho']
      simp
    · obtain ⟨m', q⟩ := hnC
      exact ⟨m', q.sameBut sb (Ne.symm hDC)⟩
  · rw [show (nm == lit) = false by simp [e]]
    simp only [Bool.false_eq_true, if_false]
    exact hQ _ H rfl (I1 _) hnC (by rw [if_neg e])
end
section
variable {X : Cx} {k : Nat} {f : Addr} {fd : FuncData} {ps : List Str} {Ng : List Str} {qual : Str} {scg : Scope} {cdg : Value} {sp : SpH}
theorem blk_call {arg : Expr} {ta : TA} {fn x y lit : Str} {p1 p2 p3 p4 p5 p6 pf pt pc pos : Pos} {kk k2 i j : Nat} {scope : Scope} (hc : X.calm = true) (F : GFh X.prog X.w X.K X.mg X.base k f fd ps Ng qual scg cdg sp) (hr : Room (k + 2) X.A) (hgl : Gl X fn) (hm : X.mg fn = some (.ref f)) (hkp : PySem.W.keepIn X.K (.ref f) = true) (hb : Binds X.K fd ps [])
    (ha : PA X [arg] ta) (ok : BlkOk X.N X.env.scope scope [(x, i), (y, j)]) (hx : (relS scope X.env.scope).names.lookup x = some .local) (hy : (relS scope X.env.scope).names.lookup y = some .local) (hxy : x ≠ y)
    (hdf : (fn == ("__debug__" : Str)) = false) (hdx : (x == ("__debug__" : Str)) = false) (hdy : (y == ("__debug__" : Str)) = false)
    (he : starEach [arg] X.env = (false, eval arg X.env) :: starEach [] X.env := by rfl) (hpl : (backTo pc (starEach [] X.env)).any (·.1) = false := by rfl)
    (hs : ∀ z, foldedSetIterable (.Call (.Name fn pf) [arg] [] pc) X.env z = pure z := by intro _; rfl) :
    PE X (.ListComp (.Name x p6) [⟨.Tuple [.Name x p1, .Name y p2] kk pt, .Call (.Name fn pf) [arg] [] pc, [.Compare (.Name y p3) [.Eq] [.Constant (.str lit) k2 p4] p5], 0⟩] scope pos)
      (fun σ H Q => ta σ H fun vs H1 => ∀ D, H1 D = none → sp vs (upd H1 D (.lst [])) (WyC D) (WrC D lit) (fun _ H2 => Q (.ref D) H2)) := by
  refine ⟨fun pins s σ H Q I h => ?_⟩
  rw [eval_ListComp]
  have hfree : ∀ y ∈ scope.names, y.2 = .free → ∃ c, X.env.cells.lookup y.1 = some c := fun y hy e => by
    rcases ok.free y hy e with k | k
    · exact I.ok.has _ (.inl k)
    · exact I.ok.has _ (.inr k)
  refine wpAny_comprehension_free (use := none) rfl hs (closure_ok hfree) ok.kind (fun y hy e => by rw [ok.uniq y hy, e]) ?_
  refine wpAny_Call_Name_kw (ld_glob I hgl hm ?_ hdf)
  refine PySem.W.callWith_K (h₀ := X.base) I.ok.mod.kin hkp (thn (ha.run pc pins s σ H _ I h) fun us s1 ⟨vs, H1, I1, r, q⟩ => ⟨I1.kIn, ?_⟩) he hpl
  have hl := F.len _ _ _ _ _ (q s1.heap.objs.size (I1.hok.fresh (Nat.le_refl _)))
  have hl2 : us.length = ps.length := by rw [← r.length]; exact hl
  have hb' := hb s1 us I1.kIn (by rw [List.append_nil]; exact hl2)
  rw [List.append_nil] at hb'
  refine wpAny_call (codeAny_mono (F.run X.A X.stack s1 H1 ⟨us, []⟩ us vs (hr.mono (by omega)) I1.env0 hb' r hl) fun rr s2 hq => ?_)
  cases rr with
  | error e => exact False.elim hq
  | ok fl =>
  cases fl with
  | next => exact False.elim hq
  | brk => exact False.elim hq
  | cont => exact False.elim hq
  | ret u =>
  obtain ⟨a, g, c, go, rfl, ha1, ha2, hago, hgen, hgs, hos, hba, hlim, hkp2, wake⟩ := hq
  show wpAny _ _ (pyIter (.ref a)) _ _ _
  refine wpAny_pyIter_gen (hgen _ hago) ?_
  refine wpAny_newObj_type (newEnv_comp ?_) (by show 0 ≤ sizeLine; decide)
  generalize hD : s2.heap.objs.size = D
  generalize hs3 : ({ s2 with heap := s2.heap.push { cls := .type "list", data := .seq ([] : List Value).toArray } } : Shared) = s3
  have h3 : s3.heap = s2.heap.push { cls := .type "list", data := .seq ([] : List Value).toArray } := by rw [← hs3]
  have g3 : s3.gens = s2.gens := by rw [← hs3]
  have o3 : s3.os = s2.os := by rw [← hs3]
  have D12 : s1.heap.objs.size ≤ D := by rw [← hD]; exact Nat.le_trans ha1 (Nat.le_of_lt ha2)
  have z3 : s3.heap.objs.size = D + 1 := by rw [h3, Heap.size_push, hD]
  have hDn : H1 D = none := I1.hok.fresh D12
  have C12 : s1.heap.objs.size ≤ s3.heap.objs.size := by rw [z3]; exact Nat.le_succ_of_le D12
  generalize hC : s3.heap.objs.size = C at z3 C12
  show codeAny (model X.prog X.w) X.A (.compStart (.ListComp (.Name x p6) [⟨.Tuple [.Name x p1, .Name y p2] kk pt, .Call (.Name fn pf) [arg] [] pc, [.Compare (.Name y p3) [.Eq] [.Constant (.str lit) k2 p4] p5], 0⟩] scope pos) 0 (.ref a) (.ref D) (compEnvC scope (cellsFrom (C + 1) scope.names (cloFrom X.env.cells scope.names [])) C X.env)) (compPost (model X.prog X.w) X.A X.xe none (EP X pins σ Q) (.ref D) C) { s3 with heap := pushCells (s3.heap.push { cls := .type "dict", data := .dict #[] }) scope.names }
  generalize hs4 : ({ s3 with heap := pushCells (s3.heap.push { cls := .type "dict", data := .dict #[] }) scope.names } : Shared) = s4
  have h4 : s4.heap = pushCells (s3.heap.push { cls := .type "dict", data := .dict #[] }) scope.names := by rw [← hs4]
  have g4 : s4.gens = s2.gens := by rw [← hs4]; exact g3
  have o4 : s4.os = s1.os := by rw [← hs4]; exact o3.trans hos
  have k34 : ∀ b o, s3.heap.get? b = some o → s4.heap.get? b = some o := fun b o e => by rw [h4]; exact pushCells_keeps _ _ _ _ (Heap.get?_push_of_some _ e)
  have k24 : ∀ b o, s2.heap.get? b = some o → s4.heap.get? b = some o := fun b o e => k34 b o (by rw [h3]; exact Heap.get?_push_of_some _ e)
  have hn4 : s4.heap.Ns C (fun _ => none) := by
    rw [h4, ← hC]
    exact Heap.Ns.keeps (Heap.Ns.new ..) fun b o e => pushCells_keeps _ _ _ _ e
  have hD4 : s4.heap.get? D = some { cls := .type "list", data := .seq ([] : List Value).toArray } := k34 _ _ (by rw [h3, ← hD]; exact Heap.get?_push_size _ rfl)
  have hk1 : HOk X.prog X.w H1 s2.heap := I1.hok.kept hkp2
  have hok4 : HOk X.prog X.w (upd H1 D (.lst [])) s4.heap := hk1.laid k24 (Nat.le_of_eq hD) ⟨Nat.zero_le _, [], 0, .nil, hD4⟩
  have un4 : Un (frs X.stack) [] H1 (upd H1 D (.lst [])) s2.heap s4.heap := Un.laid k24 (Nat.le_of_eq hD) hDn
  have hCn : (upd H1 D (.lst [])) C = none := by
    rw [upd_ne (by rw [z3]; exact Nat.succ_ne_self D)]
    exact I1.hok.fresh C12
  obtain ⟨oC, es, ep, hoC, hdC, hrC⟩ := id hn4
  let 𝒳 : Unit → Cx := fun _ => gX X.prog X.w X.K X.mg X.base Ng qual scg f cdg X.A.in1 X.stack s1.heap.objs.size [(a, go)] (s1, H1)
  let Pp : List (Addr × Obj) → Prop := fun pins => ∃ oC, pins = [(C, oC)] ∧ ∀ h : Heap, h.get? C = some oC → ∃ m, h.Ns C m
  have wk : Seg (model X.prog X.w) X.A.in1 (RG 𝒳 Pp fun _ H2 => Q (.ref D) H2) (YG 𝒳 Pp (WyC D) (WrC D lit)) sizeLine (s4.setGen g .running) c ((model X.prog X.w).den c) [] (s4.setGen g .running) := by
    refine wake X.A.in1 (fun _ : Unit => (s1, H1)) () Pp (WyC D) (WrC D lit) (fun _ H2 => Q (.ref D) H2) (s4.setGen g .running) (upd H1 D (.lst [])) [(C, oC)] rfl ⟨hr.hd, ?_, ?_⟩ I1.ok.frames ⟨oC, rfl, fun h e => ⟨_, hn4.at' fun o e' => by rw [hoC] at e'; cases e'; exact e⟩⟩ un4 hok4 o4 (allBare_setGen (by rw [g4]; exact hba) rfl) (fun p hp => ?_) (q D hDn)
    · have := hr.dp
      show X.A.depth + 3 * k + 5 < _
      omega
    · have := hr.un
      show X.A.units + 1 + 16 * k + 200 < _
      omega
    · rw [List.mem_singleton.mp hp]
      refine ⟨hoC, hCn, ?_, fun v z => ?_⟩
      · show s2.heap.objs.size ≤ C
        rw [hD, z3]; exact Nat.le_succ _
      · have z : oC.data = .cell v := z
        rw [hdC] at z; cases z
  have hh : X.A.handled = none := I.ok.hd hc
  have ddp : X.A.depth < recursionLimit := by have := hr.dp; omega
  have nca : a ≠ C := fun z => by
    have q1 : s2.heap.objs.size ≤ C := by rw [hD, z3]; exact Nat.le_succ _
    rw [← z] at q1
    exact absurd (Nat.lt_of_lt_of_le ha2 q1) (Nat.lt_irrefl _)
  generalize hce : compEnvC scope (cellsFrom (C + 1) scope.names (cloFrom X.env.cells scope.names [])) C X.env = ce
  have cL : ce.locals = C := by subst hce; rfl
  have cs : ce.scope = relS scope X.env.scope := by subst hce; rfl
  have ck : ce.scope.kind = .function := by rw [cs]; exact ok.kind
  have cx : ce.kindOf x = some .local := by show ce.scope.names.lookup x = _; rw [cs]; exact hx
  have cy : ce.kindOf y = some .local := by show ce.scope.names.lookup y = _; rw [cs]; exact hy
  have f4 := I1.fpOk (b := C) C12 (H' := fun _ => none) rfl
  have loop : codeAny (model X.prog X.w) X.A (.compLoop (.ListComp (.Name x p6) [⟨.Tuple [.Name x p1, .Name y p2] kk pt, .Call (.Name fn pf) [arg] [] pc, [.Compare (.Name y p3) [.Eq] [.Constant (.str lit) k2 p4] p5], 0⟩] scope pos) 0 (.ref a) (.ref D) ce) (compPost (model X.prog X.w) X.A X.xe none (EP X pins σ Q) (.ref D) C) s4 := by
    refine compLoop_any (fun n s' => s'.heap.IsGen a g ∧ s'.heap.NoLimit ∧ ∃ gs, s'.gens[g]? = some gs ∧ gs.Goes (model X.prog X.w) X.A.in1 (RG 𝒳 Pp fun _ H2 => Q (.ref D) H2) (YG 𝒳 Pp (WyC D) (WrC D lit)) n (.send .none) (s'.setGen g .running)) ?_ sizeLine ⟨hgen _ (k24 _ _ hago), hlim.keeps k24, .fresh c, by rw [g4]; exact hgs, rfl, wk⟩
    rintro n s5 ⟨hg5, hl5, gs, hgs5, hgo⟩
    have hgl : g < s5.gens.size := (Array.getElem?_eq_some_iff.mp hgs5).1
    refine wpAny_gsz (n := g + 1) hgl (next_genG (A := X.A) (F := fun _ _ s1 => ∃ j σ H, HI 𝒳 Pp σ H s1 ∧ Q (.ref D) H) (Er := fun _ _ => False) hh hl5 ddp hg5 hgs5 hgo (fun v s6 gs' hb hv => ?_) (fun s6 hp h' hk => ?_) fun e s6 he => he.elim)
    · intro hsz
      obtain ⟨j, xv, σg, Hy, hnj, rx, ⟨i0, pins', ⟨oC', rfl, hNs⟩, Iy⟩, ⟨T, uu, nm, us', rfl, hT, hDy, hz⟩, kap⟩ := hv
      have hsz1 : g < s6.gens.size := by
        have q : (s6.setGen g gs').gens.size = s6.gens.size := setGen_size _ _ _
        have hsz' : g + 1 ≤ (s6.setGen g gs').gens.size := hsz
        omega
      have Iy' : Inv (𝒳 i0) [(C, oC')] σg Hy (s6.setGen g gs') := Iy.call' (ch := []) rfl Un.refl Iy.hok (allBare_setGen Iy.bare hb) fun b z => by simp at z
      have pC := Iy.pin (C, oC') (List.mem_append_right _ (List.mem_singleton.mpr rfl))
      obtain ⟨m6, hn6⟩ := hNs s6.heap pC.1
      refine turn_c (Xg := 𝒳 i0) (g := g) hh (hgen _ (Iy.pin (a, go) (List.mem_append_left _ (List.mem_singleton.mpr rfl))).1) Iy' hn6 C12 (fun y c e z => ?_) (fun p hp => ?_) cL ck cx cy hxy hdx hdy rx hT hDy hz fun sF H' gF IF hnF eH => ?_
      · obtain ⟨v', o', ho', hd'⟩ := Iy.cell y c e
        rw [z, pC.1] at ho'
        cases ho'
        exact pC.2.2.2.2 _ hd'
      · rw [List.mem_singleton.mp hp]
        exact nca
      · obtain ⟨mF, hnF⟩ := hnF
        obtain ⟨oF, es', ep', hoF, hdF, hrF⟩ := id hnF
        have IF2 : Inv (𝒳 i0) [] σg H' (sF.setGen g .running) := IF.call' (ch := []) rfl Un.refl IF.hok (allBare_setGen IF.bare rfl) fun b z => by simp at z
        have HF : H' C = none := by
          rw [eH]
          split
          · rw [upd_ne (fun z => by rw [z] at pC; rw [pC.2.1] at hDy; cases hDy)]; exact pC.2.1
          · exact pC.2.1
        have hi : HI 𝒳 Pp σg H' (sF.setGen g .running) := ⟨i0, [(C, oF)], ⟨oF, rfl, fun h e => ⟨_, hnF.at' fun o e' => by rw [hoF] at e'; cases e'; exact e⟩⟩, IF2.pins_of fun p hp => by
          rw [List.mem_singleton.mp hp]
          exact ⟨hoF, HF, pC.2.2.1, pC.2.2.2.1, fun v z => by
            have z : oF.data = .cell v := z
            rw [hdF] at z; cases z⟩⟩
        have kk := kap (sF.setGen g .running) H' hi ⟨T, uu, nm, us', rfl, hT, hDy, eH⟩
        cases n with
        | zero => exact kk.elim
        | succ n =>
          refine ⟨n, Nat.lt_succ_self _, hgen _ (IF.pin (a, go) (List.mem_append_left _ (List.mem_singleton.mpr rfl))).1, IF.nolimit, gs', ?_, kk⟩
          rw [gF]
          exact setGen_at hsz1
    · intro hsz
      obtain ⟨j, σ', Hn, ⟨i0, pins', ⟨oC', rfl, hNs⟩, Ie⟩, hQ⟩ := hp
      have pC := Ie.pin (C, oC') (List.mem_append_right _ (List.mem_singleton.mpr rfl))
      obtain ⟨m6, hn6⟩ := hNs h' (hk _ _ pC.1)
      have Iend : Inv X pins σ Hn { s6.setGen g .finished with heap := h' } := I1.call' (ch := []) Ie.os (Ie.base.trans (Un.kept hk)) (Ie.hok.kept hk) (allBare_setGen Ie.bare rfl) fun b z => by simp at z
      obtain ⟨f0, f1, f2, f3, f5, f6⟩ := f4
      exact ⟨m6, hn6, fun h'' sb => ⟨.ref D, Hn, Iend.turned (t' := s6.toks) (fun b o hb e => (sb.2 b hb).trans e) pC.2.1 f1 f3 f5 f6, rfl, hQ⟩⟩
  exact codeAny_compStart_list loop (wpAny_pyIter_gen (hgen _ (k24 _ _ hago)) loop)
end
section
variable {X : Cx} {arg : Expr} {σ : L2.St} {H : Hp} {Q : VK} {N G G' : List Str} {Vn : List (Nat × Str)} {sc scope : Scope}
/-- [x for x, y in f(a) if y == lit], f a def that hands out pairs -/
theorem e_lcG {k n i j g : Nat} {f : Addr} {fd : FuncData} {ps : List Str} {Ng : List Str} {qual : Str} {scg : Scope} {cdg : Value} {sp : SpH} {fn x y lit : Str} {p1 p2 p3 p4 p5 p6 pf pt pc pos : Pos} {kk k2 : Nat} (B : BkOk2 X.N Vn G' i j x y sc scope)
    (F : GFh X.prog X.w X.K X.mg X.base k f fd ps Ng qual scg cdg sp) (hm : X.mg fn = some (.ref f)) (hkp : PySem.W.keepIn X.K (.ref f) = true) (hb : Binds X.K fd ps []) (hr : Room n X.A) (hk : k + 2 ≤ n)
    (q : wA X [arg] σ H fun vs H1 => ∀ D, H1 D = none → sp vs (upd H1 D (.lst [])) (WyC D) (WrC D lit) (fun _ H2 => Q (.ref D) H2))
    (I : In X N G sc := by assumption) (hc : X.calm = true := by rfl) (hxy : x ≠ y := by decide) (hdx : (x == ("__debug__" : Str)) = false := by decide) (hdy : (y == ("__debug__" : Str)) = false := by decide)
    (hG : At G g fn := by repeat (first | with_reducible apply At.z | with_reducible apply At.s)) (he : starEach [arg] X.env = (false, eval arg X.env) :: starEach [] X.env := by rfl) (hpl : (backTo pc (starEach [] X.env)).any (·.1) = false := by rfl)
    (hs : ∀ z, foldedSetIterable (.Call (.Name fn pf) [arg] [] pc) X.env z = pure z := by intro _; rfl) :
    wE X (.ListComp (.Name x p6) [⟨.Tuple [.Name x p1, .Name y p2] kk pt, .Call (.Name fn pf) [arg] [] pc, [.Compare (.Name y p3) [.Eq] [.Constant (.str lit) k2 p4] p5], 0⟩] scope pos) σ H Q :=
  e_of (blk_call hc F (hr.mono hk) (I.g hG) hm hkp hb pa (B.ok I) (by rw [I.sc]; exact B.own.2) (by rw [I.sc]; exact B.own2.2) hxy (I.gd hG) hdx hdy he hpl hs) q
end
end Wk

set_option maxHeartbeats 4000000
/-! My own layer: a loop of a def over a def that hands out pairs, with a test of the second that ends it. The consumer's own names are stored while the generator sleeps: at each wake its run is told from a snapshot. -/
namespace Wk
open PySem PySem.Spec PyProof.Rows L2 GenW
/-- the first n objects -/
def cutH (h : Heap) (n : Nat) : Heap := { h with objs := h.objs.extract 0 n }
theorem cutH_get {h : Heap} {n b : Nat} (hb : b < n) : (cutH h n).get? b = h.get? b := by
  have e : (h.objs.extract 0 n)[b]? = h.objs[b]? := by
    rw [Array.getElem?_extract]
    by_cases hz : b < h.objs.size
    · rw [if_pos (by omega), Nat.zero_add]
    · rw [if_neg (by omega), Array.getElem?_eq_none (by omega)]
  unfold cutH Heap.get?
  rw [e]
theorem cutH_size {h : Heap} {n : Nat} (hn : n ≤ h.objs.size) : (cutH h n).objs.size = n := by
  unfold cutH
  rw [Array.size_extract]
  omega
theorem cutH_of {h : Heap} {n b : Nat} {o : Obj} (e : (cutH h n).get? b = some o) : h.get? b = some o ∧ b < n := by
  have hb : b < n := by
    have h1 := Heap.lt_size e
    unfold cutH at h1
    rw [Array.size_extract] at h1
    exact Nat.lt_of_lt_of_le h1 (by omega)
  exact ⟨(cutH_get hb).symm.trans e, hb⟩
/-- what a body's state owes to its names and its entry, without what is tracked -/
structure SnapX (X : Cx) (pins : List (Addr × Obj)) (σ : L2.St) (H : Hp) (h : Heap) : Prop where
  un : Un X.fs X.ex X.H_0 H X.s_0.heap h
  nm : ∃ m, h.Ns X.env.locals m ∧ ∀ (i : Nat) (x : Str) (v : L2.V), X.N[i]? = some x → σ[i]? = some (some v) → Vis X.env.scope x → ∃ u, RelV v u ∧ Look X.env h m x u
  cl : ∀ x c, X.env.cells.lookup x = some c → ∃ v, h.IsCell c v
  fl : H X.env.locals = none
  fc : ∀ x c, X.env.cells.lookup x = some c → H c = none
  pn : ∀ p ∈ X.pn ++ pins, h.get? p.1 = some p.2 ∧ H p.1 = none ∧ p.1 ≠ X.env.locals ∧ p.1 ∉ X.fs ∧ ∀ v, p.2.data ≠ .cell v
  ln : σ.length = X.N.length
theorem stk_sub {X : Cx} (ok : X.Ok) {b : Addr} (hb : b ∈ frs X.stack) : b = X.env.locals ∨ b ∈ X.fs := by
  rcases ok.stk with e | ⟨e, hf⟩
  · rw [e] at hb; exact .inr hb
  · rw [e] at hb
    unfold frs at hb
    rw [List.filterMap_cons, hf] at hb
    exact List.mem_cons.mp hb
theorem sub_stk {X : Cx} (ok : X.Ok) {b : Addr} (hb : b ∈ X.fs) : b ∈ frs X.stack := by
  rcases ok.stk with e | ⟨e, hf⟩
  · rw [e]; exact hb
  · rw [e]
    unfold frs
    rw [List.filterMap_cons, hf]
    exact List.mem_cons_of_mem _ hb
theorem SnapX.inv {X : Cx} {pins : List (Addr × Obj)} {σ : L2.St} {H H' : Hp} {h : Heap} {s' : Shared} (ok : X.Ok) (S : SnapX X pins σ H h) (u : Un (frs X.stack) [] H H' h s'.heap) (ho : s'.os = X.s_0.os) (hb : AllBare s'.gens) (hok : HOk X.prog X.w H' s'.heap) : Inv X pins σ H' s' := by
  have nx : ∀ b : Addr, b ∉ ([] : List Addr) := fun b z => nomatch z
  have far : ∀ {b : Addr} {o : Obj}, X.s_0.heap.get? b = some o → b ≠ X.env.locals := fun e => Nat.ne_of_lt (Nat.lt_of_lt_of_le (Heap.lt_size e) ok.above)
  have cells : ∀ x c, X.env.cells.lookup x = some c → ∀ v, h.IsCell c v → s'.heap.IsCell c v := fun x c e v hc => by
    obtain ⟨o, q1, q2⟩ := hc
    obtain ⟨sl, q3⟩ := u.any q1 (S.fc x c e) (nx c)
    exact ⟨_, q3, q2⟩
  obtain ⟨m, hm, hl⟩ := S.nm
  refine { ok := ok, os := ho, bare := hb, base := ?_, loc := ⟨m, ?_, fun i x v q1 q2 q3 => ?_⟩, cell := fun x c e => ?_, free := ?_, freeC := fun x c e => ?_, pin := fun p hp => ?_, hok := hok, len := S.ln }
  · refine { keep := fun b o e n hf hx => ?_, slot := fun b o e n hf hx => ?_, free := fun b o e n hx => ?_, there := fun b o e hx => ?_, tups := fun b xs e => u.tups b xs (S.un.tups b xs e), frzs := fun b o v e => u.frzs b o v (S.un.frzs b o v e), tbls := fun b ps e => ?_ }
    · exact u.keep b o (S.un.keep b o e n hf hx) (S.un.free b o e n hx) (fun z => (stk_sub ok z).elim (far e) hf) (nx b)
    · obtain ⟨sl, q1⟩ := S.un.slot b o e n hf hx
      obtain ⟨sl2, q2⟩ := u.any q1 (S.un.free b o e n hx) (nx b)
      exact ⟨sl2, q2⟩
    · obtain ⟨o1, q1⟩ := S.un.there b o e hx
      exact u.free b o1 q1 (S.un.free b o e n hx) (nx b)
    · obtain ⟨o1, q1⟩ := S.un.there b o e hx
      exact u.there b o1 q1 (nx b)
    · obtain ⟨a1, q1⟩ := S.un.tbls b ps e
      obtain ⟨a2, q2⟩ := u.tbls b _ q1
      exact ⟨a1 ++ a2, by rw [q2, Array.append_assoc]⟩
  · obtain ⟨o, es, ep, q1, q2⟩ := hm
    obtain ⟨sl, q3⟩ := u.any q1 S.fl (nx _)
    exact ⟨_, es, ep, q3, q2⟩
  · obtain ⟨w, r, q⟩ := hl i x v q1 q2 q3
    rcases q with q | ⟨q4, c, q5, q6⟩
    · exact ⟨w, r, .inl q⟩
    · exact ⟨w, r, .inr ⟨q4, c, q5, cells x c q5 _ q6⟩⟩
  · obtain ⟨v, q⟩ := S.cl x c e
    exact ⟨v, cells x c e v q⟩
  · obtain ⟨o, _, _, q1, _⟩ := hm
    exact u.free _ o q1 S.fl (nx _)
  · obtain ⟨v, o, q1, _⟩ := S.cl x c e
    exact u.free c o q1 (S.fc x c e) (nx _)
  · obtain ⟨q1, q2, q3, q4, q5⟩ := S.pn p hp
    exact ⟨u.keep _ _ q1 q2 (fun z => (stk_sub ok z).elim q3 q4) (nx _), u.free _ _ q1 q2 (nx _), q3, q4, q5⟩
theorem snap_of {X : Cx} {pins : List (Addr × Obj)} {σ : L2.St} {H : Hp} {s : Shared} (I : Inv X pins σ H s) {n : Nat} (h0 : X.s_0.heap.objs.size ≤ n) (hL : X.env.locals < n) (hC : ∀ x c, X.env.cells.lookup x = some c → c < n) (hp : ∀ p ∈ X.pn ++ pins, p.1 < n) : SnapX X pins σ H (cutH s.heap n) := by
  have low : ∀ {b : Addr} {o : Obj}, b < n → s.heap.get? b = some o → (cutH s.heap n).get? b = some o := fun hb e => (cutH_get hb).trans e
  have far : ∀ {b : Addr} {o : Obj}, X.s_0.heap.get? b = some o → b < n := fun e => Nat.lt_of_lt_of_le (Heap.lt_size e) h0
  obtain ⟨m, hm, hl⟩ := I.loc
  refine { un := ?_, nm := ⟨m, ?_, fun i x v q1 q2 q3 => ?_⟩, cl := fun x c e => ?_, fl := I.free, fc := I.freeC, pn := fun p hq => ?_, ln := I.len }
  · refine { keep := fun b o e n hf hx => low (far e) (I.base.keep b o e n hf hx), slot := fun b o e n hf hx => ?_, free := I.base.free, there := fun b o e hx => ?_, tups := I.base.tups, frzs := I.base.frzs, tbls := I.base.tbls }
    · obtain ⟨sl, q⟩ := I.base.slot b o e n hf hx
      exact ⟨sl, low (far e) q⟩
    · obtain ⟨o1, q⟩ := I.base.there b o e hx
      exact ⟨o1, low (far e) q⟩
  · exact hm.at' fun o e => low hL e
  · obtain ⟨w, r, q⟩ := hl i x v q1 q2 q3
    rcases q with q | ⟨q4, c, q5, o, q6, q7⟩
    · exact ⟨w, r, .inl q⟩
    · exact ⟨w, r, .inr ⟨q4, c, q5, o, low (hC x c q5) q6, q7⟩⟩
  · obtain ⟨v, o, q1, q2⟩ := I.cell x c e
    exact ⟨v, o, low (hC x c e) q1, q2⟩
  · obtain ⟨q1, q2, q3, q4, q5⟩ := I.pin p hq
    exact ⟨low (hp p hq) q1, q2, q3, q4, q5⟩
/-- two own names are stored, all else is kept -/
theorem inv_two {X : Cx} {pins : List (Addr × Obj)} {σ : L2.St} {H : Hp} {s : Shared} {h3 : Heap} {i j : Nat} {x y : Str} {u w : L2.V} {v1 v2 : Value} {m : Str → Option Value} (I : Inv X pins σ H s) (hN : X.N.Nodup) (hi : X.N[i]? = some x) (hj : X.N[j]? = some y) (hx : X.env.scope.names.lookup x = some .local) (hy : X.env.scope.names.lookup y = some .local) (r1 : RelV u v1) (r2 : RelV w v2)
    (hm : s.heap.Ns X.env.locals m) (kp : ∀ b o, b ≠ X.env.locals → s.heap.get? b = some o → h3.get? b = some o) (hn : h3.Ns X.env.locals (fun z => if z = y then some v2 else if z = x then some v1 else m z)) (t : Nat) : Inv X pins ((σ.set i (some u)).set j (some w)) H { s with heap := h3, toks := t } := by
  have far : ∀ {b : Addr} {o : Obj}, X.s_0.heap.get? b = some o → b ≠ X.env.locals := fun e => Nat.ne_of_lt (Nat.lt_of_lt_of_le (Heap.lt_size e) I.ok.above)
  obtain ⟨m0, hm0, hl⟩ := I.loc
  have em : ∀ z, m0 z = m z := fun z => by
    obtain ⟨o, es, ep, q1, q2, _, q3⟩ := hm0
    obtain ⟨o', es', ep', q1', q2', _, q3'⟩ := hm
    rw [q1] at q1'; cases q1'
    rw [q2] at q2'; cases q2'
    rw [← q3 z, ← q3' z]
  refine { ok := I.ok, os := I.os, bare := I.bare, base := ?_, loc := ⟨_, hn, fun k z v q1 q2 q3 => ?_⟩, cell := fun z c e => ?_, free := I.free, freeC := I.freeC, pin := fun p hp => ?_, hok := fun b o e => ?_, len := by simpa using I.len }
  · refine { keep := fun b o e n hf hx => kp b o (far e) (I.base.keep b o e n hf hx), slot := fun b o e n hf hx => ?_, free := I.base.free, there := fun b o e hx => ?_, tups := I.base.tups, frzs := I.base.frzs, tbls := I.base.tbls }
    · obtain ⟨sl, q⟩ := I.base.slot b o e n hf hx
      exact ⟨sl, kp _ _ (far e) q⟩
    · obtain ⟨o1, q⟩ := I.base.there b o e hx
      exact ⟨o1, kp _ _ (far e) q⟩
  · by_cases hkj : k = j
    · subst hkj
      rw [hj] at q1; cases q1
      have hlt : k < (σ.set i (some u)).length := by
        rw [List.length_set, I.len]; exact (List.getElem?_eq_some_iff.mp hj).1
      rw [List.getElem?_set_self hlt] at q2
      cases q2
      exact ⟨v2, r2, .inl ⟨hy, if_pos rfl⟩⟩
    · rw [List.getElem?_set_ne (Ne.symm hkj)] at q2
      have hzy : z ≠ y := fun e => hkj (nodup_ix hN q1 (e ▸ hj))
      by_cases hki : k = i
      · subst hki
        rw [hi] at q1; cases q1
        have hlt : k < σ.length := by rw [I.len]; exact (List.getElem?_eq_some_iff.mp hi).1
        rw [List.getElem?_set_self hlt] at q2
        cases q2
        exact ⟨v1, r1, .inl ⟨hx, (if_neg hzy).trans (if_pos rfl)⟩⟩
      · rw [List.getElem?_set_ne (Ne.symm hki)] at q2
        have hzx : z ≠ x := fun e => hki (nodup_ix hN q1 (e ▸ hi))
        obtain ⟨a, r, q⟩ := hl k z v q1 q2 q3
        rcases q with ⟨q4, q5⟩ | ⟨q4, c, q5, o, q6, q7⟩
        · exact ⟨a, r, .inl ⟨q4, ((if_neg hzy).trans (if_neg hzx)).trans ((em z).symm.trans q5)⟩⟩
        · exact ⟨a, r, .inr ⟨q4, c, q5, o, kp _ _ (I.cne z c q5) q6, q7⟩⟩
  · obtain ⟨v, o, q1, q2⟩ := I.cell z c e
    exact ⟨v, o, kp _ _ (I.cne z c e) q1, q2⟩
  · obtain ⟨q1, q2, q3, q4, q5⟩ := I.pin p hp
    exact ⟨kp _ _ q3 q1, q2, q3, q4, q5⟩
  · refine (I.hok b o e).stay (fun c a hc q => kp c a (fun z => ?_) q) (fun _ q => q) fun _ _ q => q
    rcases hc with rfl | hc
    · rw [z, I.free] at e; cases e
    · rw [z, I.free] at hc; cases hc
/-- the sleeping generator's state, told from a new snapshot -/
theorem rebase {P : Program} {w : World} {K : PySem.W.Frag} {mg : Str → Option Value} {base : Heap} {N : List Str} {qual : Str} {scope : Scope} {f : Addr} {cd : Value} {A : Around} {outer : List Env} {n0 : Nat} {pn : List (Addr × Obj)} {i : Shared × Hp} {σ : L2.St} {H : Hp} {s s8 : Shared} {L : Addr} (I : Inv (gX P w K mg base N qual scope f cd A outer n0 pn i) [] σ H s)
    (hz : i.1.heap.objs.size = n0) (hL : L < n0) (hLb : base.get? L = none) (kp : ∀ b o, b ≠ L → s.heap.get? b = some o → s8.heap.get? b = some o) (hn8 : n0 ≤ s8.heap.objs.size) (ho : s8.os = s.os) (hb : AllBare s8.gens) (hok : HOk P w H s8.heap) (hfu : s8.heap.FunFrames base outer) (hfr : ∀ b ∈ frs outer, H b = none ∧ b < n0) (hpn : ∀ p ∈ pn, p.1 ≠ L) :
    Inv (gX P w K mg base N qual scope f cd A outer n0 pn ({ s8 with heap := cutH s8.heap n0 }, H)) [] σ H s8 := by
  obtain ⟨m, hm, hl⟩ := I.loc
  have big : ∀ x c, (gX P w K mg base N qual scope f cd A outer n0 pn i).env.cells.lookup x = some c → c ≠ L := fun x c e z => by
    have h1 : i.1.heap.objs.size ≤ c := I.ok.cab x c rfl e
    have h2 : n0 ≤ L := by rw [← z, ← hz]; exact h1
    exact absurd (Nat.lt_of_lt_of_le hL h2) (Nat.lt_irrefl _)
  have hbs : ∀ b o, base.get? b = some o → s8.heap.get? b = some o ∧ H b = none ∧ b < n0 := fun b o e => by
    obtain ⟨q1, q2⟩ := I.bs b o e
    have q3 : base.objs.size ≤ i.1.heap.objs.size := I.ok.bsz
    refine ⟨kp b o (fun z => by rw [z, hLb] at e; cases e) q1, q2, Nat.lt_of_lt_of_le (Heap.lt_size e) (by rw [← hz]; exact q3)⟩
  have nL : n0 ≠ L := fun z => by rw [z] at hL; exact absurd hL (Nat.lt_irrefl _)
  refine { ok := ?_, os := rfl, bare := hb, base := Un.kept fun b o e => (cutH_of e).1, loc := ⟨m, ?_, fun k x v q1 q2 q3 => ?_⟩, cell := fun x c e => ?_, free := I.free, freeC := I.freeC, pin := fun p hp => ?_, hok := hok, len := I.len }
  · refine { mod := I.ok.mod, kind := I.ok.kind, glob := I.ok.glob, blt := I.ok.blt, above := ?_, inj := I.ok.inj, has := I.ok.has, cab := fun x c e1 e2 => ?_, hd := I.ok.hd, frames := I.ok.frames, stk := I.ok.stk, exf := I.ok.exf, bs := fun b o e => ?_, bsz := ?_, noex := I.ok.noex, exfs := I.ok.exfs, funs := ?_, frf := fun b hb => (hfr b hb).1 }
    · show (cutH s8.heap n0).objs.size ≤ n0
      rw [cutH_size hn8]
      exact Nat.le_refl _
    · show (cutH s8.heap n0).objs.size ≤ c
      rw [cutH_size hn8, ← hz]
      exact I.ok.cab x c e1 e2
    · obtain ⟨q1, q2, q3⟩ := hbs b o e
      exact ⟨(cutH_get q3).trans q1, q2⟩
    · show base.objs.size ≤ (cutH s8.heap n0).objs.size
      rw [cutH_size hn8, ← hz]
      exact I.ok.bsz
    · show (cutH s8.heap n0).FunFrames base outer
      have all : ∀ l : List Env, (∀ b ∈ frs l, b < n0) → s8.heap.FunFrames base l → (cutH s8.heap n0).FunFrames base l := by
        intro l
        induction l with
        | nil => intro _ _; trivial
        | cons e r ih =>
          intro hs hq
          obtain ⟨k1, ⟨L', o, k2, k3, k4, k5⟩, k6⟩ := hq
          have hL' : L' < n0 := hs L' (by unfold frs; rw [List.filterMap_cons, k2]; exact List.mem_cons_self)
          refine ⟨k1, ⟨L', o, k2, k3, (cutH_get hL').trans k4, k5⟩, ih (fun b hb => hs b ?_) k6⟩
          unfold frs
          rw [List.filterMap_cons, k2]
          exact List.mem_cons_of_mem _ hb
      exact all outer (fun b hb => (hfr b hb).2) hfu
  · exact hm.at' fun o e => kp _ o nL e
  · obtain ⟨a, r, q⟩ := hl k x v q1 q2 q3
    rcases q with q | ⟨q4, c, q5, o, q6, q7⟩
    · exact ⟨a, r, .inl q⟩
    · exact ⟨a, r, .inr ⟨q4, c, q5, o, kp _ _ (big x c q5) q6, q7⟩⟩
  · obtain ⟨v, o, q1, q2⟩ := I.cell x c e
    exact ⟨v, o, kp _ _ (big x c e) q1, q2⟩
  · obtain ⟨q1, q2, q3, q4, q5⟩ := I.pin p hp
    exact ⟨kp _ _ (hpn p ((List.mem_append.mp hp).elim (fun h => h) fun h => nomatch h)) q1, q2, q3, q4, q5⟩

/-- a snapshot of the consumer: an entry for the generator's context, and what the consumer's state owes -/
structure SnI (X : Cx) (pins : List (Addr × Obj)) (σ0 : L2.St) (i j n0 : Nat) : Type where
  s : Shared
  H : Hp
  σ : L2.St
  sn : SnapX X pins σ H s.heap
  fm : σ = σ0 ∨ ∃ a b, σ = (σ0.set i a).set j b
  sz : s.heap.objs.size = n0
  os : s.os = X.s_0.os
theorem fm_set {σ0 σ : L2.St} {i j : Nat} (hij : i ≠ j) (h : σ = σ0 ∨ ∃ a b, σ = (σ0.set i a).set j b) (a b : Option L2.V) : (σ.set i a).set j b = (σ0.set i a).set j b := by
  rcases h with rfl | ⟨c, d, rfl⟩
  · rfl
  · rw [List.set_comm d a (Ne.symm hij), List.set_set, List.set_set]
/-- what goes out is a pair of anything and a text; where the text is one of the two, the suite ends the loop -/
def WyF (X : Cx) (σ0 : L2.St) (i j : Nat) (l1 l2 : Str) (body : List Stmt) (rt : VK) : Nat → L2.V → Hp → Prop := fun _ x H =>
  ∃ T u nm, x = .ref T ∧ H T = some (.tup [u, .str nm]) ∧ (nm = l1 ∨ nm = l2 → wL X body ⟨fun _ _ => False, rt, fun _ _ => False, fun _ _ => False⟩ ((σ0.set i (some u)).set j (some (.str nm))) H)
def WrF (l1 l2 : Str) : L2.V → Hp → Hp → Prop := fun x H H' => ∃ T u nm, x = .ref T ∧ H T = some (.tup [u, .str nm]) ∧ nm ≠ l1 ∧ nm ≠ l2 ∧ H' = H
section
variable {X : Cx} {k : Nat} {f : Addr} {fd : FuncData} {ps : List Str} {Ng : List Str} {qual : Str} {scg : Scope} {cdg : Value} {sp : SpH}
theorem for_gen {arg : Expr} {ta : TA} {fn x y l1 l2 : Str} {body : List Stmt} {p1 p2 p3 p4 p5 p6 p7 p8 pf pt pc pos : Pos} {kk k2 k3 k4 i j : Nat} (hc : X.calm = true) (nev : PassesOwn (model X.prog X.w) X.A X.env X.xe) (F : GFh X.prog X.w X.K X.mg X.base k f fd ps Ng qual scg cdg sp) (hr : Room (k + 2) X.A) (hgl : Gl X fn) (hm : X.mg fn = some (.ref f)) (hkp : PySem.W.keepIn X.K (.ref f) = true) (hb : Binds X.K fd ps [])
    (ha : PA X [arg] ta) (hN : X.N.Nodup) (hi : X.N[i]? = some x) (hj : X.N[j]? = some y) (hij : i ≠ j) (hxy : x ≠ y) (hx : X.env.scope.names.lookup x = some .local) (hy : X.env.scope.names.lookup y = some .local)
    (hdf : (fn == ("__debug__" : Str)) = false) (hdy : (y == ("__debug__" : Str)) = false)
    (he : starEach [arg] X.env = (false, eval arg X.env) :: starEach [] X.env := by rfl) (hpl : (backTo pc (starEach [] X.env)).any (·.1) = false := by rfl)
    (hs : ∀ z, foldedSetIterable (.Call (.Name fn pf) [arg] [] pc) X.env z = pure z := by intro _; rfl)
    (hst : starEach [.Constant (.str l1) k2 p4, .Constant (.str l2) k3 p5] X.env = [(false, eval (.Constant (.str l1) k2 p4) X.env), (false, eval (.Constant (.str l2) k3 p5) X.env)] := by rfl) :
    PS X (.For (.Tuple [.Name x p1, .Name y p2] kk pt) (.Call (.Name fn pf) [arg] [] pc) [.If (.Compare (.Name y p3) [.In] [.Tuple [.Constant (.str l1) k2 p4, .Constant (.str l2) k3 p5] k4 p6] p8) body [] p7] [] pos)
      (fun D σ H => ta σ H fun vs H1 => sp vs H1 (WyF X σ i j l1 l2 body D.rt) (WrF l1 l2) (fun _ H2 => ∀ σ', (σ' = σ ∨ ∃ a b, σ' = (σ.set i a).set j b) → D.nx σ' H2)) := by
  refine ⟨fun pins s σ H D I h => ?_⟩
  refine wpAny_For ?_ hs
  refine wpAny_Call_Name_kw (ld_glob I hgl hm ?_ hdf)
  refine PySem.W.callWith_K (h₀ := X.base) I.ok.mod.kin hkp (thn (ha.run pc pins s σ H _ I h) fun us s1 ⟨vs, H1, I1, r, q⟩ => ⟨I1.kIn, ?_⟩) he hpl
  have hl := F.len _ _ _ _ _ q
  have hl2 : us.length = ps.length := by rw [← r.length]; exact hl
  have hb' := hb s1 us I1.kIn (by rw [List.append_nil]; exact hl2)
  rw [List.append_nil] at hb'
  refine wpAny_call (codeAny_mono (F.run X.A X.stack s1 H1 ⟨us, []⟩ us vs (hr.mono (by omega)) I1.env0 hb' r hl) fun rr s2 hq => ?_)
  cases rr with
  | error e => exact False.elim hq
  | ok fl =>
  cases fl with
  | next => exact False.elim hq
  | brk => exact False.elim hq
  | cont => exact False.elim hq
  | ret u =>
  obtain ⟨a, g, c, go, rfl, ha1, ha2, hago, hgen, hgs, hos, hba, hlim, hkp2, wake⟩ := hq
  show wpAny _ _ (pyIter (.ref a)) _ _ _
  refine wpAny_pyIter_gen (hgen _ hago) ?_
  have I2 : Inv X pins σ H1 s2 := I1.call' (ch := []) hos (Un.kept hkp2) (I1.hok.kept hkp2) hba fun b z => by simp at z
  have hh : X.A.handled = none := I.ok.hd hc
  have ddp : X.A.depth < recursionLimit := by have := hr.dp; omega
  -- the sizes
  generalize hn0 : s1.heap.objs.size = n0 at ha1 wake
  have z1 : ∀ {b : Addr} {o : Obj}, s1.heap.get? b = some o → b < n0 := fun e => by rw [← hn0]; exact Heap.lt_size e
  have hLn : X.env.locals < n0 := by obtain ⟨m, hm', _⟩ := I1.loc; rw [← hn0]; exact hm'.lt
  have h0n : X.s_0.heap.objs.size ≤ n0 := by rw [← hn0]; exact I1.sz
  have hCn : ∀ z c, X.env.cells.lookup z = some c → c < n0 := fun z c e => by obtain ⟨v, o, q1, _⟩ := I1.cell z c e; exact z1 q1
  have hPn : ∀ p ∈ X.pn ++ pins, p.1 < n0 := fun p hp => z1 (I1.pin p hp).1
  have hFn : ∀ b ∈ frs X.stack, b < n0 := fun b hb => by
    obtain ⟨_, o, q1, _⟩ := I1.stack.mem hb
    exact z1 q1
  have hLb : X.base.get? X.env.locals = none := Heap.get?_none_of_le (Nat.le_trans I.ok.bsz I.ok.above)
  have hn2 : n0 ≤ s2.heap.objs.size := Nat.le_trans ha1 (Nat.le_of_lt ha2)
  let ι := SnI X pins σ i j n0
  let ent : ι → Shared × Hp := fun z => (z.s, z.H)
  let 𝒳 : ι → Cx := fun z => gX X.prog X.w X.K X.mg X.base Ng qual scg f cdg X.A.in1 X.stack n0 [(a, go)] (ent z)
  let Pp : List (Addr × Obj) → Prop := fun pins => pins = []
  have sn1 : SnapX X pins σ H1 s1.heap := { un := I1.base, nm := I1.loc, cl := I1.cell, fl := I1.free, fc := I1.freeC, pn := I1.pin, ln := I1.len }
  let i0 : ι := ⟨s1, H1, σ, sn1, .inl rfl, hn0, I1.os⟩
  have wk : Seg (model X.prog X.w) X.A.in1 (RG 𝒳 Pp fun _ H2 => ∀ σ', (σ' = σ ∨ ∃ a b, σ' = (σ.set i a).set j b) → D.nx σ' H2) (YG 𝒳 Pp (WyF X σ i j l1 l2 body D.rt) (WrF l1 l2)) sizeLine (s2.setGen g .running) c ((model X.prog X.w).den c) [] (s2.setGen g .running) := by
    refine wake X.A.in1 ent i0 Pp (WyF X σ i j l1 l2 body D.rt) (WrF l1 l2) _ (s2.setGen g .running) H1 [] rfl ⟨hr.hd, ?_, ?_⟩ I1.ok.frames rfl Un.refl I2.hok hos (allBare_setGen hba rfl) (fun p hp => nomatch hp) q
    · have := hr.dp
      show X.A.depth + 3 * k + 5 < _
      omega
    · have := hr.un
      show X.A.units + 1 + 16 * k + 200 < _
      omega
  -- the loop
  refine codeAny_forLoop_any (fun n s' => s'.heap.IsGen a g ∧ s'.heap.NoLimit ∧ ∃ gs, s'.gens[g]? = some gs ∧ gs.Goes (model X.prog X.w) X.A.in1 (RG 𝒳 Pp fun _ H2 => ∀ σ', (σ' = σ ∨ ∃ a b, σ' = (σ.set i a).set j b) → D.nx σ' H2) (YG 𝒳 Pp (WyF X σ i j l1 l2 body D.rt) (WrF l1 l2)) n (.send .none) (s'.setGen g .running)) ?_ sizeLine ⟨hgen _ hago, hlim, .fresh c, hgs, rfl, wk⟩
  rintro n s5 ⟨hg5, hl5, gs, hgs5, hgo⟩
  have hgl5 : g < s5.gens.size := (Array.getElem?_eq_some_iff.mp hgs5).1
  refine wpAny_gsz (n := g + 1) hgl5 (next_genG (A := X.A) (F := fun _ _ s1 => ∃ j' σ' H', HI 𝒳 Pp σ' H' s1 ∧ ∀ σ'', (σ'' = σ ∨ ∃ a b, σ'' = (σ.set i a).set j b) → D.nx σ'' H') (Er := fun _ _ => False) hh hl5 ddp hg5 hgs5 hgo (fun v s6 gs' hb hv => ?_) (fun s6 hp h' hk => ?_) fun e s6 he => he.elim)
  · intro hsz
    obtain ⟨j', xv, σg, Hy, hnj, rx, ⟨iy, pins', rfl, Iy⟩, ⟨T, uu, nm, rfl, hT, hbody⟩, kap⟩ := hv
    have hsz1 : g < s6.gens.size := by
      have q : (s6.setGen g gs').gens.size = s6.gens.size := setGen_size _ _ _
      have hsz' : g + 1 ≤ (s6.setGen g gs').gens.size := hsz
      omega
    have bare6 : AllBare (s6.setGen g gs').gens := allBare_setGen Iy.bare hb
    have Iy' : Inv (𝒳 iy) [] σg Hy (s6.setGen g gs') := Iy.call' (ch := []) rfl Un.refl Iy.hok bare6 fun b z => by simp at z
    have os6 : s6.os = X.s_0.os := Iy.os.trans iy.os
    have X6 : Inv X pins iy.σ Hy (s6.setGen g gs') := iy.sn.inv I.ok Iy.base os6 bare6 Iy.hok
    obtain rfl : v = Value.ref T := rx
    obtain ⟨hlen, its, rv, ht⟩ := X6.hok T _ hT
    cases rv with
    | cons r1 rr =>
    cases rr with
    | cons r2 rr =>
    cases rr
    obtain ⟨tk, rfl⟩ := r2
    obtain ⟨o, nm', qn, ho, hcl, hd, hsl⟩ := hgen _ (Iy.pin (a, go) (List.mem_append_left _ (List.mem_singleton.mpr rfl))).1
    have hcls : (X.env.scope.kind == .class || (X.env.scope.kind == .module && X.env.locals != X.env.globals)) = false := by rw [I.ok.kind]; rfl
    obtain ⟨m, hn6, _⟩ := id X6.loc
    refine go_of (s := s6.setGen g gs') ho hcl hd (by decide) ?_
    refine assign_Tuple_tuple hh ht rfl rfl fun h1 hx1 => ?_
    have k1 : ∀ b o, (s6.setGen g gs').heap.get? b = some o → h1.get? b = some o := fun b o e => hx1 b o (Nat.ne_of_lt (Heap.lt_size e)) e
    have hn1 : h1.Ns X.env.locals m := hn6.at' fun o e => k1 _ o e
    refine assignInOrder_cons (wpAny_assign_Name (wpAny_storeName_local hx hn1 (fun h2 hn2 hs2 => ?_) hcls))
    refine assignInOrder_cons (wpAny_assign_Name (wpAny_storeName_local hy hn2 (fun h3 hn3 hs3 => ?_) hcls))
    refine assignInOrder_nil ?_
    have kp : ∀ b o, b ≠ X.env.locals → (s6.setGen g gs').heap.get? b = some o → h3.get? b = some o := fun b o hb e => (hs3.2 b hb).trans ((hs2.2 b hb).trans (k1 b o e))
    have X7 := inv_two (h3 := h3) X6 hN hi hj hx hy r1 (show RelV (.str nm) (.str nm tk) from ⟨tk, rfl⟩) hn6 kp hn3 ((s6.setGen g gs').toks + 1 + 1)
    rw [fm_set hij iy.fm] at X7
    have s3z : h3.objs.size = h1.objs.size := by rw [hs3.1, hs2.1]
    -- the test
    refine wpAny_mono (Q := fun f s3 => match f with
      | .next => (fun s9 => ∃ m', m' < n ∧ s9.heap.IsGen a g ∧ s9.heap.NoLimit ∧ ∃ gs, s9.gens[g]? = some gs ∧ gs.Goes (model X.prog X.w) X.A.in1 (RG 𝒳 Pp fun _ H2 => ∀ σ', (σ' = σ ∨ ∃ a b, σ' = (σ.set i a).set j b) → D.nx σ' H2) (YG 𝒳 Pp (WyF X σ i j l1 l2 body D.rt) (WrF l1 l2)) m' (.send .none) (s9.setGen g .running)) s3
      | .ret v => SP X pins D (.ret v) s3
      | _ => False) ?_ (fun f s3 hf => ?_) fun _ _ z => z
    rotate_left
    · cases f with
      | next => exact hf
      | brk => exact hf.elim
      | cont => exact hf.elim
      | ret v => exact hf
    refine wpAny_passesOwn nev ?_
    refine wpAny_execs_cons (wpAny_If (wpAny_isTrue_Compare1 (wpAny_Name (wpAny_loadName_local I.ok.kind hy hn3 (if_pos rfl) ?_) hdy)))
    refine wpAny_Tuple_spliced ?_
    rw [hst]
    refine Calls.spliced_cons (Calls.Constant_str (k := k2) (pos := p4) (Calls.spliced_cons (Calls.Constant_str (k := k3) (pos := p5) (Calls.spliced_nil ⟨by show 2 ≤ sizeLine; decide, ?_⟩))))
    refine SeqAt.in_tupleAt (fun v => match v with | .str z _ => z == nm | _ => false) ⟨_, Heap.get?_push_size _ rfl, rfl, _, rfl⟩ (fun w hw => ?_) ?_
    · simp only [List.mem_toArray, List.mem_cons, List.not_mem_nil, or_false] at hw
      rcases hw with rfl | rfl
      · exact SeqAt.EqAt.str_str _ _ _ _
      · exact SeqAt.EqAt.str_str _ _ _ _
    refine wpAny_truthy_bool ?_
    have X9 : ∀ t, Inv X pins ((σ.set i (some uu)).set j (some (.str nm))) Hy { s6.setGen g gs' with heap := h3.push { cls := .type "tuple", data := .seq [Value.str l1 ((s6.setGen g gs').toks + 1 + 1), Value.str l2 ((s6.setGen g gs').toks + 1 + 1 + 1)].toArray }, toks := t } := fun t => X7.kept (t' := t) fun b o e => Heap.get?_push_of_some _ e
    by_cases hnm : nm = l1 ∨ nm = l2
    · rw [show (#[Value.str l1 _, Value.str l2 _].any fun v => match v with | .str z _ => z == nm | _ => false) = true by
        rcases hnm with rfl | rfl <;> simp]
      rw [if_pos rfl]
      refine wpAny_mono (pl.run pins _ _ _ _ (X9 _) (hbody hnm)) (fun f s9 hf => ?_) fun _ _ z => z
      cases f with
      | next => obtain ⟨_, _, _, q⟩ := hf; exact q.elim
      | brk => obtain ⟨_, _, _, q⟩ := hf; exact q.elim
      | cont => obtain ⟨_, _, _, q⟩ := hf; exact q.elim
      | ret v => exact hf
    · rw [show (#[Value.str l1 _, Value.str l2 _].any fun v => match v with | .str z _ => z == nm | _ => false) = false by
        have h1 : ¬ l1 = nm := fun e => hnm (.inl e.symm)
        have h2 : ¬ l2 = nm := fun e => hnm (.inr e.symm)
        simp [h1, h2]]
      rw [if_neg Bool.false_ne_true]
      refine wpAny_execs_nil (wpAny_execs_nil ?_)
      have X8 := X9 ((s6.setGen g gs').toks + 1 + 1 + 1 + 1)
      generalize hs8 : ({ s6.setGen g gs' with heap := h3.push { cls := .type "tuple", data := .seq [Value.str l1 ((s6.setGen g gs').toks + 1 + 1), Value.str l2 ((s6.setGen g gs').toks + 1 + 1 + 1)].toArray }, toks := (s6.setGen g gs').toks + 1 + 1 + 1 + 1 } : Shared) = s8 at X8
      show ∃ m', m' < n ∧ s8.heap.IsGen a g ∧ s8.heap.NoLimit ∧ ∃ gs, s8.gens[g]? = some gs ∧ gs.Goes (model X.prog X.w) X.A.in1 (RG 𝒳 Pp fun _ H2 => ∀ σ', (σ' = σ ∨ ∃ a b, σ' = (σ.set i a).set j b) → D.nx σ' H2) (YG 𝒳 Pp (WyF X σ i j l1 l2 body D.rt) (WrF l1 l2)) m' (.send .none) (s8.setGen g .running)
      have kp8 : ∀ b o, b ≠ X.env.locals → (s6.setGen g gs').heap.get? b = some o → s8.heap.get? b = some o := fun b o hb e => by
        rw [← hs8]
        exact Heap.get?_push_of_some _ (kp b o hb e)
      have os8 : s8.os = s6.os := by rw [← hs8]; rfl
      have gn8 : s8.gens = (s6.setGen g gs').gens := by rw [← hs8]
      have n0L : n0 ≠ X.env.locals := fun e => absurd (e ▸ hLn) (Nat.lt_irrefl _)
      have n8 : n0 ≤ s8.heap.objs.size := by
        obtain ⟨mg', ⟨o', _, _, q1, _⟩, _⟩ := Iy'.loc
        exact Nat.le_of_lt (Heap.lt_size (kp8 n0 o' n0L q1))
      have anL : a ≠ X.env.locals := fun e => absurd (Nat.lt_of_lt_of_le (e ▸ hLn : a < n0) ha1) (Nat.lt_irrefl _)
      have X8' : Inv X pins ((σ.set i (some uu)).set j (some (.str nm))) Hy (s8.setGen g .running) := X8.call' (ch := []) rfl Un.refl X8.hok (allBare_setGen X8.bare rfl) fun b z => by simp at z
      have R8 := rebase (L := X.env.locals) (s8 := s8.setGen g .running) Iy' iy.sz hLn hLb kp8 n8 os8 X8'.bare X8'.hok X8'.stack (fun b hb => ⟨X8'.stkFree b hb, hFn b hb⟩) (fun p hp => by rw [List.mem_singleton.mp hp]; exact anL)
      have hi : HI 𝒳 Pp σg Hy (s8.setGen g .running) := ⟨(⟨{ s8.setGen g .running with heap := cutH (s8.setGen g .running).heap n0 }, Hy, _, snap_of X8' h0n hLn hCn hPn, .inr ⟨_, _, rfl⟩, cutH_size n8, os8.trans os6⟩ : ι), [], rfl, R8⟩
      have kk := kap (s8.setGen g .running) Hy hi ⟨T, uu, nm, rfl, hT, fun e => hnm (.inl e), fun e => hnm (.inr e), rfl⟩
      cases n with
      | zero => exact kk.elim
      | succ n => exact ⟨n, Nat.lt_succ_self _, hgen _ (kp8 a go anL (Iy.pin (a, go) (List.mem_append_left _ (List.mem_singleton.mpr rfl))).1), X8.nolimit, gs', by rw [gn8]; exact setGen_at hsz1, kk⟩
  · intro hsz
    obtain ⟨j', σg, Hn, ⟨iy, pins', rfl, Ie⟩, hQ⟩ := hp
    have X6 : Inv X pins iy.σ Hn { s6.setGen g .finished with heap := h' } := iy.sn.inv I.ok (Ie.base.trans (Un.kept hk)) (Ie.os.trans iy.os) (allBare_setGen Ie.bare rfl) (Ie.hok.kept hk)
    exact wpAny_execs_nil ⟨iy.σ, Hn, X6, hQ iy.σ iy.fm⟩
end
section
variable {X : Cx} {arg : Expr} {σ : L2.St} {H : Hp} {N G : List Str} {sc : Scope}
/-- for x, y in f(a): if y in (l1, l2): .., f a def that hands out pairs; the suite ends the loop -/
theorem s_forG {nx : L2.St → Hp → Prop} {rt : VK} {bk ct : L2.St → Hp → Prop} {k n i j : Nat} {f : Addr} {fd : FuncData} {ps : List Str} {Ng : List Str} {qual : Str} {scg : Scope} {cdg : Value} {sp : SpH} {fn x y l1 l2 : Str} {body : List Stmt} {p1 p2 p3 p4 p5 p6 p7 p8 pf pt pc pos : Pos} {kk k2 k3 k4 : Nat}
    (F : GFh X.prog X.w X.K X.mg X.base k f fd ps Ng qual scg cdg sp) (hm : X.mg fn = some (.ref f)) (hkp : PySem.W.keepIn X.K (.ref f) = true) (hb : Binds X.K fd ps []) (hr : Room n X.A) (hk : k + 2 ≤ n)
    (q : wA X [arg] σ H fun vs H1 => sp vs H1 (WyF X σ i j l1 l2 body rt) (WrF l1 l2) (fun _ H2 => ∀ σ', (σ' = σ ∨ ∃ a b, σ' = (σ.set i a).set j b) → nx σ' H2))
    (I : In X N G sc := by assumption) (hc : X.calm = true := by rfl) (hA : At N i x := by repeat (first | with_reducible apply At.z | with_reducible apply At.s)) (hB : At N j y := by repeat (first | with_reducible apply At.z | with_reducible apply At.s)) (hij : i ≠ j := by decide) (hxy : x ≠ y := by decide)
    (hx : sc.names.lookup x = some .local := by decide +kernel) (hy : sc.names.lookup y = some .local := by decide +kernel)
    (hG : At G g fn := by repeat (first | with_reducible apply At.z | with_reducible apply At.s)) (he : starEach [arg] X.env = (false, eval arg X.env) :: starEach [] X.env := by rfl) (hpl : (backTo pc (starEach [] X.env)).any (·.1) = false := by rfl)
    (hs : ∀ z, foldedSetIterable (.Call (.Name fn pf) [arg] [] pc) X.env z = pure z := by intro _; rfl)
    (hst : starEach [.Constant (.str l1) k2 p4, .Constant (.str l2) k3 p5] X.env = [(false, eval (.Constant (.str l1) k2 p4) X.env), (false, eval (.Constant (.str l2) k3 p5) X.env)] := by rfl) :
    wS X (.For (.Tuple [.Name x p1, .Name y p2] kk pt) (.Call (.Name fn pf) [arg] [] pc) [.If (.Compare (.Name y p3) [.In] [.Tuple [.Constant (.str l1) k2 p4, .Constant (.str l2) k3 p5] k4 p6] p8) body [] p7] [] pos) ⟨nx, rt, bk, ct⟩ σ H :=
  s_of (for_gen hc I.never F (hr.mono hk) (I.g hG) hm hkp hb pa I.nd (I.hi hA) (I.hi hB) hij hxy (by rw [I.sc]; exact hx) (by rw [I.sc]; exact hy) (I.gd hG) (I.ok.lo y hB.mem).2.1 he hpl hs hst) q
end
end Wk

set_option maxHeartbeats 4000000
/-! My own layer: comprehensions inside of comprehensions, comprehensions over zip, a loop over zip that unpacks triples, not of a list, methods that raise, errors without own __init__. -/
namespace Wk
open PySem PySem.Spec PyProof.Rows L2
/-- where a block's scope stands in -/
structure Sc (X : Cx) (sc : Scope) : Prop where
  nd : X.N.Nodup
  sc : X.env.scope = sc
section
variable {X : Cx} {e a b c elt o : Expr} {es rest : List Expr} {σ : L2.St} {H : Hp} {Q : VK} {pos p0 apos : Pos} {N G G' : List Str} {Vn : List (Nat × Str)} {sc scope : Scope}
theorem In.s (I : In X N G sc) : Sc X sc := ⟨I.nd, I.sc⟩
theorem Sc.bk (S : Sc X sc) {s : Shared} {H : Hp} {C : Addr} {cl : List (Str × Addr)} {fp : List Addr} : Sc (Bk X s H scope C cl fp) (relS scope sc) := ⟨S.nd, rel_eq S.sc C cl⟩
theorem BkOk.inS {i : Nat} {x : Str} (B : BkOk X.N Vn G' i x sc scope) (I : Sc X sc) (s : Shared) (H : Hp) (C : Addr) (cl : List (Str × Addr)) (fp : List Addr) : InB (Bk X s H scope C cl fp) Vn G' := by
  have e : (compEnvC scope cl C X.env).scope = relS scope sc := rel_eq I.sc C cl
  refine ⟨I.nd, fun p hp => ?_, fun y hy => ?_⟩
  · obtain ⟨h1, h2, h3, h4⟩ := B.lo p hp
    exact ⟨h1, by show Vis (compEnvC scope cl C X.env).scope p.2; rw [e]; exact h2, h3, h4⟩
  · obtain ⟨h1, h2, h3⟩ := B.gl y hy
    exact ⟨by show (compEnvC scope cl C X.env).scope.names.lookup y = _; rw [e]; exact h1, h2, h3⟩
theorem BkOk.pgS {i : Nat} {x : Str} {px : Pos} (B : BkOk X.N Vn G' i x sc scope) (I : Sc X sc) (s : Shared) (H : Hp) (C : Addr) (cl : List (Str × Addr)) (fp : List Addr) : PG (Bk X s H scope C cl fp) (.Name x px) (gName i) := by
  have e : (compEnvC scope cl C X.env).scope = relS scope sc := rel_eq I.sc C cl
  have l : (Bk X s H scope C cl fp).env.scope.names.lookup x = some .local := by
    show (compEnvC scope cl C X.env).scope.names.lookup x = _
    rw [e]
    exact B.own.2
  exact pg_name I.nd B.own.1 (.inl l) (.inr l)
theorem BkOk.okS {i : Nat} {x : Str} (B : BkOk X.N Vn G' i x sc scope) (I : Sc X sc) : BlkOk X.N X.env.scope scope [(x, i)] := by
  rw [I.sc]
  exact blkOk_by B.blk
/-- a block whose own name is captured by a block inside of it -/
structure BkOkC (N : List Str) (Vn : List (Nat × Str)) (G : List Str) (i : Nat) (x : Str) (sc scope : Scope) : Prop where
  lo : ∀ p ∈ Vn, N[p.1]? = some p.2 ∧ Vis (relS scope sc) p.2 ∧ (p.2 == ("__debug__" : Str)) = false ∧ (p.2 == ("__classdict__" : Str)) = false
  gl : ∀ x ∈ G, (relS scope sc).names.lookup x = some .globalImplicit ∧ (x == ("__debug__" : Str)) = false ∧ x ≠ "__name__"
  own : N[i]? = some x ∧ (relS scope sc).names.lookup x = some .cell
  cel : (scope.names.lookup x == some .cell) = true
  blk : blkC N sc scope [(x, i)] = true
theorem BkOkC.inS {i : Nat} {x : Str} (B : BkOkC X.N Vn G' i x sc scope) (I : Sc X sc) (s : Shared) (H : Hp) (C : Addr) (cl : List (Str × Addr)) (fp : List Addr) : InB (Bk X s H scope C cl fp) Vn G' := by
  have e : (compEnvC scope cl C X.env).scope = relS scope sc := rel_eq I.sc C cl
  refine ⟨I.nd, fun p hp => ?_, fun y hy => ?_⟩
  · obtain ⟨h1, h2, h3, h4⟩ := B.lo p hp
    exact ⟨h1, by show Vis (compEnvC scope cl C X.env).scope p.2; rw [e]; exact h2, h3, h4⟩
  · obtain ⟨h1, h2, h3⟩ := B.gl y hy
    exact ⟨by show (compEnvC scope cl C X.env).scope.names.lookup y = _; rw [e]; exact h1, h2, h3⟩
theorem BkOkC.pgS {i : Nat} {x : Str} {px : Pos} (B : BkOkC X.N Vn G' i x sc scope) (I : Sc X sc) (s : Shared) (H : Hp) (C : Addr) (cl : List (Str × Addr)) (fp : List Addr) : PG (Bk X s H scope C cl fp) (.Name x px) (gName i) := by
  have e : (compEnvC scope cl C X.env).scope = relS scope sc := rel_eq I.sc C cl
  have l : (Bk X s H scope C cl fp).env.scope.names.lookup x = some .cell := by
    show (compEnvC scope cl C X.env).scope.names.lookup x = _
    rw [e]
    exact B.own.2
  exact pg_name I.nd B.own.1 (.inr l) (.inl B.cel)
theorem BkOkC.okS {i : Nat} {x : Str} (B : BkOkC X.N Vn G' i x sc scope) (I : Sc X sc) : BlkOk X.N X.env.scope scope [(x, i)] := by
  rw [I.sc]
  exact blkOk_by B.blk
theorem e_lcLC {i : Nat} {x : Str} {px : Pos} (B : BkOkC X.N Vn G' i x sc scope)
    (q : wE X a σ H fun v H1 => ∃ ad xs, v = .ref ad ∧ SqL X.K H1 ad xs ∧ ∀ D, H1 D = none → LcL X Vn G' elt scope i ad xs D σ H1 fun H2 => Q (.ref D) H2)
    (I : In X N G sc := by assumption) (hc : X.calm = true := by rfl) (hs2 : ∀ z, foldedSetIterable a X.env z = pure z := by intro _; rfl) :
    wE X (.ListComp elt [⟨.Name x px, a, [], 0⟩] scope pos) σ H Q := by
  refine e_of (pe_lc (own := [(x, i)]) (g := gName i) (tt := tYes) (te := wBk X Vn G' elt scope) hc I.nd (pi_list pe) (B.okS I.s) (fun s H C cl fp => B.pgS I.s s H C cl fp) (fun _ _ _ _ _ => pts_nil) (fun s H C cl fp => pe_bk (B.inS I.s s H C cl fp)) hs2) (e_mono q fun v H1 q1 => ?_)
  obtain ⟨ad, xs, rfl, hl, q2⟩ := q1
  exact ⟨ad, rfl, ⟨xs, hl⟩, fun D hD => lcL_of (q2 D hD)⟩
theorem e_lcRC {i g : Nat} {x : Str} {px p cp : Pos} (B : BkOkC X.N Vn G' i x sc scope) (hm : X.mg "range" = none)
    (q : wE X a σ H fun v H1 => ∃ n : Nat, v = .int n ∧ n < 2 ^ 62 ∧ ∀ D, H1 D = none → LcR X Vn G' elt scope i n D σ H1 fun H2 => Q (.ref D) H2)
    (I : In X N G sc := by assumption) (hc : X.calm = true := by rfl) (hG : At G g ("range" : Str) := by repeat (first | with_reducible apply At.z | with_reducible apply At.s)) (hs : starEach [a] X.env = [(false, eval a X.env)] := by rfl) (hs2 : ∀ z, foldedSetIterable (.Call (.Name "range" p) [a] [] cp) X.env z = pure z := by intro _; rfl)
    (hs1 : starEach (a :: []) X.env = (false, eval a X.env) :: starEach [] X.env := by rfl) :
    wE X (.ListComp elt [⟨.Name x px, .Call (.Name "range" p) [a] [] cp, [], 0⟩] scope pos) σ H Q := by
  refine e_of (pe_lc (own := [(x, i)]) (g := gName i) (tt := tYes) (te := wBk X Vn G' elt scope) hc I.nd (pi_range1 (I.g hG) hm (pa_cons pe pa_nil hs1) hs) (B.okS I.s) (fun s H C cl fp => B.pgS I.s s H C cl fp) (fun _ _ _ _ _ => pts_nil) (fun s H C cl fp => pe_bk (B.inS I.s s H C cl fp)) hs2) (e_mono q fun v H1 q1 => ?_)
  obtain ⟨n, rfl, hn, q2⟩ := q1
  refine ⟨(n : Int), rfl, by omega, by omega, ?_⟩
  rw [Int.toNat_natCast]
  exact fun D hD => lcR_of (q2 D hD)
/-- [elt for x in a], a list, inside of a block -/
theorem n_lcL {i : Nat} {x : Str} {px : Pos} (S : Sc X sc) (B : BkOk X.N Vn G' i x sc scope)
    (q : wE X a σ H fun v H1 => ∃ ad xs, v = .ref ad ∧ SqL X.K H1 ad xs ∧ ∀ D, H1 D = none → LcL X Vn G' elt scope i ad xs D σ H1 fun H2 => Q (.ref D) H2)
    (hc : X.calm = true := by rfl) (hs2 : ∀ z, foldedSetIterable a X.env z = pure z := by intro _; rfl) :
    wE X (.ListComp elt [⟨.Name x px, a, [], 0⟩] scope pos) σ H Q := by
  refine e_of (pe_lc (own := [(x, i)]) (g := gName i) (tt := tYes) (te := wBk X Vn G' elt scope) hc S.nd (pi_list pe) (B.okS S) (fun s H C cl fp => B.pgS S s H C cl fp) (fun _ _ _ _ _ => pts_nil) (fun s H C cl fp => pe_bk (B.inS S s H C cl fp)) hs2) (e_mono q fun v H1 q1 => ?_)
  obtain ⟨ad, xs, rfl, hl, q2⟩ := q1
  exact ⟨ad, rfl, ⟨xs, hl⟩, fun D hD => lcL_of (q2 D hD)⟩
theorem n_lcLf {i : Nat} {x : Str} {px : Pos} (S : Sc X sc) (B : BkOk X.N Vn G' i x sc scope)
    (q : wE X a σ H fun v H1 => ∃ ad xs, v = .ref ad ∧ SqL X.K H1 ad xs ∧ ∀ D, H1 D = none → LcLf X Vn G' elt c scope i ad xs D σ H1 fun H2 => Q (.ref D) H2)
    (hc : X.calm = true := by rfl) (hs2 : ∀ z, foldedSetIterable a X.env z = pure z := by intro _; rfl) :
    wE X (.ListComp elt [⟨.Name x px, a, [c], 0⟩] scope pos) σ H Q := by
  refine e_of (pe_lc (own := [(x, i)]) (g := gName i) (tt := wBkT X Vn G' c scope) (te := wBk X Vn G' elt scope) hc S.nd (pi_list pe) (B.okS S) (fun s H C cl fp => B.pgS S s H C cl fp) (fun s H C cl fp => pts_bk (B.inS S s H C cl fp)) (fun s H C cl fp => pe_bk (B.inS S s H C cl fp)) hs2) (e_mono q fun v H1 q1 => ?_)
  obtain ⟨ad, xs, rfl, hl, q2⟩ := q1
  exact ⟨ad, rfl, ⟨xs, hl⟩, fun D hD => lcLf_of (q2 D hD)⟩
/-- [elt for x in a if c], a holds range(n) -/
theorem e_lcRvf {i : Nat} {x : Str} {px : Pos} (B : BkOk X.N Vn G' i x sc scope)
    (q : wE X a σ H fun v H1 => ∃ (ad : Addr) (n : Nat), v = .ref ad ∧ H1 ad = some (.rng 0 n) ∧ n < 2 ^ 62 ∧ ∀ D, H1 D = none → LcRf X Vn G' elt c scope i n D σ H1 fun H2 => Q (.ref D) H2)
    (I : In X N G sc := by assumption) (hc : X.calm = true := by rfl) (hs2 : ∀ z, foldedSetIterable a X.env z = pure z := by intro _; rfl) :
    wE X (.ListComp elt [⟨.Name x px, a, [c], 0⟩] scope pos) σ H Q := by
  refine e_of (pe_lc (own := [(x, i)]) (g := gName i) (tt := wBkT X Vn G' c scope) (te := wBk X Vn G' elt scope) hc I.nd (pi_rngV pe) (B.ok I) (fun s H C cl fp => B.pg I s H C cl fp) (fun s H C cl fp => pts_bk (B.inB I s H C cl fp)) (fun s H C cl fp => pe_bk (B.inB I s H C cl fp)) hs2) (e_mono q fun v H1 q1 => ?_)
  obtain ⟨ad, n, rfl, had, hn, q2⟩ := q1
  refine ⟨ad, 0, n, rfl, had, ⟨by omega, by omega, by omega, by omega⟩, ?_⟩
  rw [Int.sub_zero, Int.toNat_natCast]
  exact fun D hD => lcRf_of (q2 D hD)
/-- not a, by its truth -/
theorem e_notT (q : wE X a σ H fun x H1 => ∃ k, TruV X.K x H1 k ∧ Q (.bl (!k)) H1) : wE X (.UnaryOp .Not a pos) σ H Q := e_of (pe_notT pe) q
/-- [elt for x, y in zip(a, b)] -/
def LcZ (X : Cx) (Vn : List (Nat × Str)) (G' : List Str) (c d : Side) (elt : Expr) (scope : Scope) (i j : Nat) (va vb : Addr) (xs ys : List L2.V) (D : Addr) (σ : L2.St) (H1 : Hp) (Qd : Hp → Prop) : Prop := ∃ Pv : Nat → Hp → Prop, Pv 0 (upd H1 D (.lst [])) ∧ (∀ k H2, k ≤ min xs.length ys.length → Pv k H2 → c.sq X.K H2 va xs ∧ d.sq X.K H2 vb ys) ∧
  (∀ k u1 u2 T H2, xs[k]? = some u1 → ys[k]? = some u2 → Pv k H2 → H2 T = none → ∀ s0 H0 C cl fp, InB (Bk X s0 H0 scope C cl fp) Vn G' → wE (Bk X s0 H0 scope C cl fp) elt (((wipe σ [i, j]).set i (some u1)).set j (some u2)) (upd H2 T (.tup [u1, u2])) fun y H4 => ∃ acc, H4 D = some (.lst acc) ∧ acc.length < sizeLine ∧ Pv (k + 1) (upd H4 D (.lst (acc ++ [y])))) ∧
  ∀ H2, Pv (min xs.length ys.length) H2 → Qd H2
theorem e_lcZ (cs ds : Side) {i j g : Nat} {x y : Str} {px py pt p cp : Pos} {kt : Nat} (B : BkOk2 X.N Vn G' i j x y sc scope) (hm : X.mg "zip" = none)
    (q : wE X a σ H fun v H1 => wE X b σ H1 fun u H2 => ∃ va vb xs ys, v = .ref va ∧ u = .ref vb ∧ cs.sq X.K H2 va xs ∧ ds.sq X.K H2 vb ys ∧ ∀ D, H2 D = none → LcZ X Vn G' cs ds elt scope i j va vb xs ys D σ H2 fun H3 => Q (.ref D) H3)
    (I : In X N G sc := by assumption) (hc : X.calm = true := by rfl) (hG : At G g ("zip" : Str) := by repeat (first | with_reducible apply At.z | with_reducible apply At.s)) (hs : starEach [a, b] X.env = (false, eval a X.env) :: starEach [b] X.env := by rfl) (hpl : (backTo cp (starEach [b] X.env)).any (·.1) = false := by rfl)
    (hs1 : starEach (b :: []) X.env = (false, eval b X.env) :: starEach [] X.env := by rfl) (hs2 : ∀ z, foldedSetIterable (.Call (.Name "zip" p) [a, b] [] cp) X.env z = pure z := by intro _; rfl) :
    wE X (.ListComp elt [⟨.Tuple [.Name x px, .Name y py] kt pt, .Call (.Name "zip" p) [a, b] [] cp, [], 0⟩] scope pos) σ H Q := by
  refine e_of (pe_lc (own := [(x, i), (y, j)]) (g := gT2 X.K i j) (tt := tYes) (te := wBk X Vn G' elt scope) hc I.nd (pi_zipM (c := cs) (d := ds) (I.g hG) hm (pa_cons pe (pa_cons pe pa_nil hs1) hs) hs hpl) (B.ok I) (fun s H C cl fp => B.pg hc I s H C cl fp) (fun _ _ _ _ _ => pts_nil) (fun s H C cl fp => pe_bk (B.inB I s H C cl fp)) hs2) (e_mono q fun v H1 q1 => e_mono q1 fun u H2 q2 => ?_)
  obtain ⟨va, vb, xs, ys, rfl, rfl, sx, sy, q3⟩ := q2
  refine ⟨va, vb, xs, ys, rfl, sx, sy, fun D hD => ?_⟩
  obtain ⟨Pv, h0, hk, hb, hd⟩ := q3 D hD
  refine ⟨fun k m H => m = min xs.length ys.length - k ∧ k ≤ min xs.length ys.length ∧ Pv k H, ⟨_, rfl, Nat.zero_le _, h0⟩, ?_⟩
  rintro k m H ⟨rfl, hle, pv⟩
  obtain ⟨tx, ty⟩ := hk k H hle pv
  by_cases lt : k < min xs.length ys.length
  · have l1 : k < xs.length := by omega
    have l2 : k < ys.length := by omega
    refine .inr ⟨⟨xs, ys, xs[k], ys[k], tx, ty, List.getElem?_eq_getElem l1, List.getElem?_eq_getElem l2⟩, Pv (k + 1), fun H' p' => ⟨_, by omega, rfl, lt, p'⟩, fun w H' yl => ?_⟩
    obtain ⟨T, u1, u2, rfl, nT, rfl, y1, y2⟩ := yl
    refine ⟨T, u1, u2, rfl, SqT.of upd_same, wipe_set2 σ B.ne u1 u2, ?_⟩
    unfold tYes
    refine iteT ?_
    unfold wBk
    exact fun s0 H0 C cl fp I => hb k u1 u2 T H (y1 xs tx) (y2 ys ty) pv nT s0 H0 C cl fp I
  · have ek : k = min xs.length ys.length := by omega
    subst ek
    exact .inl ⟨⟨xs, ys, tx, ty, by omega, by omega, by omega⟩, hd H pv⟩
/-- for (x1, x2, x3), y in zip(a, b) -/
theorem s_forZ3 {nx : L2.St → Hp → Prop} {rt : VK} {bk ct : L2.St → Hp → Prop} (c d : Side) {g : Nat} {x1 x2 x3 y : Str} {i1 i2 i3 j : Nat} {body : List Stmt} {p1 p2 p3 py pt pt2 p cp pos : Pos} {kk kk2 : Nat} (hm : X.mg "zip" = none)
    (q : wE X a σ H fun v H1 => wE X b σ H1 fun u H2 => ∃ va vb xs ys, v = .ref va ∧ u = .ref vb ∧ c.sq X.K H2 va xs ∧ d.sq X.K H2 vb ys ∧ ∃ Pv : Nat → L2.St → Hp → Prop, Pv 0 σ H2 ∧ (∀ k σ H, k ≤ min xs.length ys.length → Pv k σ H → c.sq X.K H va xs ∧ d.sq X.K H vb ys) ∧
      (∀ k u1 u2 T σ H, xs[k]? = some u1 → ys[k]? = some u2 → Pv k σ H → H T = none → ∃ t v1 v2 v3, u1 = .ref t ∧ SqT X.K (upd H T (.tup [u1, u2])) t [v1, v2, v3] ∧ wL X body ⟨Pv (k + 1), rt, nx, Pv (k + 1)⟩ ((((σ.set i1 (some v1)).set i2 (some v2)).set i3 (some v3)).set j (some u2)) (upd H T (.tup [u1, u2]))) ∧ ∀ σ H, Pv (min xs.length ys.length) σ H → nx σ H)
    (I : In X N G sc := by assumption) (hc : X.calm = true := by rfl) (hA1 : At N i1 x1 := by repeat (first | with_reducible apply At.z | with_reducible apply At.s)) (hA2 : At N i2 x2 := by repeat (first | with_reducible apply At.z | with_reducible apply At.s)) (hA3 : At N i3 x3 := by repeat (first | with_reducible apply At.z | with_reducible apply At.s)) (hB : At N j y := by repeat (first | with_reducible apply At.z | with_reducible apply At.s))
    (hG : At G g ("zip" : Str) := by repeat (first | with_reducible apply At.z | with_reducible apply At.s)) (hs : starEach [a, b] X.env = (false, eval a X.env) :: starEach [b] X.env := by rfl) (hpl : (backTo cp (starEach [b] X.env)).any (·.1) = false := by rfl)
    (hs1 : starEach (b :: []) X.env = (false, eval b X.env) :: starEach [] X.env := by rfl) (hs2 : ∀ z, foldedSetIterable (.Call (.Name "zip" p) [a, b] [] cp) X.env z = pure z := by intro _; rfl) :
    wS X (.For (.Tuple [.Tuple [.Name x1 p1, .Name x2 p2, .Name x3 p3] kk2 pt2, .Name y py] kk pt) (.Call (.Name "zip" p) [a, b] [] cp) body [] pos) ⟨nx, rt, bk, ct⟩ σ H := by
  refine s_of (ps_for I.never hc (pi_zipM (c := c) (d := d) (I.g hG) hm (pa_cons pe (pa_cons pe pa_nil hs1) hs) hs hpl) (pg_tup hc (pgs_cons (pg_tup hc (pgs_cons (pg_name I.nd (I.hi hA1) (I.loc hA1) I.f) (pgs_cons (pg_name I.nd (I.hi hA2) (I.loc hA2) I.f) (pgs_cons (pg_name I.nd (I.hi hA3) (I.loc hA3) I.f) pgs_nil)))) (pgs_cons (pg_name I.nd (I.hi hB) (I.loc hB) I.f) pgs_nil))) pl hs2) (e_mono q fun v H1 q1 => e_mono q1 fun u H2 q2 => ?_)
  obtain ⟨va, vb, xs, ys, rfl, rfl, sx, sy, Pv, h0, hk, hb, hd⟩ := q2
  refine ⟨va, vb, xs, ys, rfl, sx, sy, fun k m σ H => m = min xs.length ys.length - k ∧ k ≤ min xs.length ys.length ∧ Pv k σ H, ⟨_, rfl, Nat.zero_le _, h0⟩, ?_⟩
  rintro k m σ H ⟨rfl, hle, pv⟩
  obtain ⟨tx, ty⟩ := hk k σ H hle pv
  by_cases lt : k < min xs.length ys.length
  · have l1 : k < xs.length := by omega
    have l2 : k < ys.length := by omega
    refine .inr ⟨⟨xs, ys, xs[k], ys[k], tx, ty, List.getElem?_eq_getElem l1, List.getElem?_eq_getElem l2⟩, Pv (k + 1), fun σ' H' p' => ⟨_, by omega, rfl, lt, p'⟩, fun w H' yl => ?_⟩
    obtain ⟨T, u1, u2, rfl, nT, rfl, y1, y2⟩ := yl
    obtain ⟨t, v1, v2, v3, rfl, ht, z⟩ := hb k u1 u2 T σ H (y1 xs tx) (y2 ys ty) pv nT
    exact ⟨T, [.ref t, u2], rfl, SqT.of upd_same, rfl, .ref t, [u2], rfl, t, [v1, v2, v3], rfl, ht, rfl, v1, [v2, v3], rfl, v2, [v3], rfl, v3, [], rfl, rfl, u2, [], rfl, rfl, z⟩
  · have ek : k = min xs.length ys.length := by omega
    subst ek
    exact .inl ⟨⟨xs, ys, tx, ty, by omega, by omega, by omega⟩, hd σ H pv⟩
/-! ### errors without own __init__, methods that raise -/
abbrev bmVE : List Value := [.type "ValueError", .type "Exception", .type "BaseException", .type "object"]
structure Ei (K : PySem.W.Frag) (mg : Str → Option Value) (x : Str) (C : Addr) : Prop where
  mgC : mg x = some (.ref C)
  kp : PySem.W.keepIn K (.ref C) = true
  ex : PySem.W.excIn K C bmVE "ValueError.__new__" = true
  sub : PySem.W.subIn K (.ref C) (.type "BaseException") = some true
  ty : PySem.W.typeIn K (.ref C) = some (.type "type")
theorem pmk0N {x : Str} {C : Addr} (R : Ei X.K X.mg x C) (hg : Gl X x) (hdb : (x == ("__debug__" : Str)) = false) : L2N.PMk X (.Call (.Name x p0) [] [] pos) (fun _ H Q => Q (.ref C) none H) := by
  intro pins s σ H Q I h
  refine wpAny_Call_Name_kw (ld_glob I hg R.mgC ?_ hdb)
  refine PySem.W.callWith_K0 I.kIn R.kp ?_
  obtain ⟨bm, N, nm, qn, bs, hdct, sn, sub, ab, col, dd, k0, k1, k2, k3, k5, mN, hC, hN, hni, T⟩ := exc_obj I.kIn R.ex
  refine wpAny_call_exc_subT F.excBase_ValueError T hC hN hni (fun h' e hm => ?_) (Nat.zero_le _)
  exact L2N.mk_of I hm (raises_own R.sub R.ty) h (I.hok.gone hm.new)
/-- raise C() -/
theorem s_raise0 {nx : L2.St → Hp → Prop} {rt : VK} {bk ct : L2.St → Hp → Prop} {g : Nat} {x : Str} {C : Addr} {W : WX} {pos' : Pos} (R : Ei X.K X.mg x C) (tk : L2N.Takes X W) (q : W (.ref C) none σ H)
    (I : In X N G sc := by assumption) (hG : At G g x := by repeat (first | with_reducible apply At.z | with_reducible apply At.s)) (hc : X.calm = true := by rfl) :
    wS X (.Raise (some (.Call (.Name x p0) [] [] pos)) none pos') ⟨nx, rt, bk, ct⟩ σ H :=
  s_of (L2N.ps_raise hc tk (pmk0N R (I.g hG) (I.gd hG))) q
structure MtN (P : Program) (w : World) (K : PySem.W.Frag) (mg : Str → Option Value) (base : Heap) (k : Nat) (C : Addr) (m : Str) (sp : Sp) : Prop where
  ex : ∃ (f : Addr) (fd : FuncData) (ps : List Str), FnOk P w K mg base (L2N.CX P w) k f fd ps sp ∧ Meth K C m f ∧ Binds K fd ps [] ∧ Cls K C
theorem e_methN {k n : Nat} {m : Str} {C : Addr} {pl : Sem Bool} {sp : Sp} {W : WX} (F : MtN X.prog X.w X.K X.mg X.base k C m sp) (tk : L2N.Takes X W) (hr : Room n X.A) (hk : k ≤ n)
    (q : wE X o σ H fun x H1 => ∃ a dx fs, x = .ref a ∧ H1 a = some (.ins C dx fs) ∧ fs.lookup m = none ∧ wA X (e :: es) σ H1 fun vs H2 => sp (x :: vs) H2 Q (fun cls d H' => W cls d σ H'))
    (hst : starEach (e :: es) X.env = (false, eval e X.env) :: starEach es X.env := by rfl) (hpl : (backTo pos (starEach es X.env)).any (·.1) = false := by rfl)
    (ht : eval (.Call (.Attribute o m apos) (e :: es) [] pos) X.env = (do let ov ← eval o X.env; standAt apos.atName; let (f, first) ← holding [ov] (getMethod ov m pl); callWith pos f first (backTo pos (starEach (e :: es) X.env)) (backToKw pos (keywordEach [] X.env))) := by rfl) :
    wE X (.Call (.Attribute o m apos) (e :: es) [] pos) σ H Q := by
  obtain ⟨f, fd, ps, F0, M, hb, c⟩ := F.ex
  refine e_of (t := fun σ H Q => wE X o σ H fun x H1 => ∃ a dx fs, x = .ref a ∧ H1 a = some (.ins C dx fs) ∧ fs.lookup m = none ∧ wA X (e :: es) σ H1 fun vs H2 => sp (x :: vs) H2 Q (fun cls d H' => W cls d σ H')) ⟨fun pins s σ H Q I h => ?_⟩ q
  refine PySem.W.methodCall_KW (pl := pl) (thn (pe.run pins s σ H _ I h) fun u s1 ⟨x, H1, I1, rx, a, dx, fs, ex, ea, l, q⟩ => ?_) ht
  subst ex
  obtain rfl : u = Value.ref a := rx
  refine getmeth_ok I1 ea c M l ?_
  refine PySem.W.callWith_K (first := [.ref a]) (h₀ := X.base) I.ok.mod.kin M.kp (thn (pa.run pos pins s1 σ H1 _ I1 q) fun us s2 ⟨vs, H2, I2, r, q2⟩ => ⟨I2.kIn, ?_⟩) hst hpl
  exact run_fnSD (us := .ref a :: us) (vs := .ref a :: vs) (E := fun σ cls d H' => W cls d σ H') F0 (hr.mono hk) hb .nil (L2N.passAt tk σ) I2 (.cons rfl r) (by rw [List.append_nil]; exact q2)
end
end Wk

set_option maxHeartbeats 4000000
/-! My own layer: errors as values: made, their fields read, asked by isinstance; repr of plain data. -/
namespace Wk
open PySem PySem.Spec PyProof.Rows L2
section
variable {X : Cx} {e o : Expr} {es : List Expr} {σ : L2.St} {H : Hp} {Q : VK} {pos p0 apos : Pos} {N G : List Str} {sc : Scope}
/-- an own class of errors with its own __init__ -/
structure Ec (P : Program) (w : World) (K : PySem.W.Frag) (mg : Str → Option Value) (base : Heap) (x : Str) (C : Addr) (sp : Sp) : Prop where
  o : OexC K C
  mgC : mg x = some (.ref C)
  ex : ∃ (fI : Addr) (fd : FuncData) (ps : List Str), FnOk P w K mg base CX0 1 fI fd ps sp ∧ PySem.W.findIn K (.ref C) "__init__" = some (some (.ref fI)) ∧ PySem.W.typeIn K (.ref fI) = some (.type "function") ∧ Binds K fd ps []
/-- C(e, ..) as a value -/
theorem e_mkX {g n : Nat} {x : Str} {C : Addr} {sp : Sp} (R : Ec X.prog X.w X.K X.mg X.base x C sp) (hr : Room n X.A) (hn : 2 ≤ n)
    (q : wA X (e :: es) σ H fun vs H1 => vs.length ≤ 1000 ∧ ∀ a, H1 a = none → sp (.ref a :: vs) (upd H1 a (exo a C none)) (fun v H2 => v = .non ∧ Q (.ref a) H2) (fun _ _ _ => False))
    (I : In X N G sc := by assumption) (hG : At G g x := by repeat (first | with_reducible apply At.z | with_reducible apply At.s))
    (he : starEach (e :: es) X.env = (false, eval e X.env) :: starEach es X.env := by rfl) (hpl : (backTo pos (starEach es X.env)).any (·.1) = false := by rfl) : wE X (.Call (.Name x p0) (e :: es) [] pos) σ H Q := by
  have hg := I.g hG
  have hdb := I.gd hG
  refine e_of (t := fun σ H Q => wA X (e :: es) σ H fun vs H1 => vs.length ≤ 1000 ∧ ∀ a, H1 a = none → sp (.ref a :: vs) (upd H1 a (exo a C none)) (fun v H2 => v = .non ∧ Q (.ref a) H2) (fun _ _ _ => False)) ⟨fun pins s σ H Q I h => ?_⟩ q
  obtain ⟨fI, fd, ps, F0, hi, ht, hb⟩ := R.ex
  obtain ⟨_, _, _, _, bm, _, _, _, _, _, _, _, _, _, _, hC, hbm⟩ := R.o.cls
  refine wpAny_Call_Name_kw (ld_glob I hg R.mgC ?_ hdb)
  refine PySem.W.callWith_K (h₀ := X.base) I.ok.mod.kin R.o.kC (thn (pa.run pos pins s σ H _ I h) fun us s1 ⟨vs, H1, I1, r1, hl, q1⟩ => ⟨I1.kIn, ?_⟩) he hpl
  show wpAny _ _ (call (.ref C) us) _ _ _
  obtain ⟨hp, g, dr, tk, os⟩ := s1
  have hget0 : ((hp.push (PySem.W.kdv_tup us)).push (PySem.HandSPX.excO C hp.objs.size)).get? (hp.objs.size + 1) = some (PySem.HandSPX.excO C hp.objs.size) := by heap_get
  let a := hp.objs.size + 1
  have na : H1 a = none := I1.hok.fresh (Nat.le_succ _)
  let hp2 := (hp.push (PySem.W.kdv_tup us)).push (PySem.HandSPX.excO C hp.objs.size)
  have kk : ∀ b o, hp.get? b = some o → hp2.get? b = some o := fun b o z => Heap.get?_push_of_some _ (Heap.get?_push_of_some _ z)
  have hget : hp2.get? a = some (PySem.HandSPX.excO C hp.objs.size) := hget0
  have I2 : Inv X pins σ (upd H1 a (exo a C none)) ⟨hp2, g, dr, tk, os⟩ := I1.laid (t' := tk) (h' := hp2) kk (Nat.le_succ _) (exo_ok hget)
  have r2 : Vals (V.ref a :: vs) (Value.ref a :: us) := .cons rfl r1
  have lu : us.length ≤ 1000 := by rw [← r1.length]; exact hl
  have hq := q1 a na
  have lp : (Value.ref a :: us).length = ps.length := by
    have z1 := r2.length
    rw [F0.len _ _ _ _ hq] at z1
    exact z1.symm
  have bind : BindsTo ⟨hp2, g, dr, tk, os⟩ fd ⟨Value.ref a :: us, []⟩ (ps.zip (Value.ref a :: us)) := by
    have z1 := hb ⟨hp2, g, dr, tk, os⟩ (Value.ref a :: us) I2.kIn (by rw [List.append_nil]; exact lp)
    rwa [List.append_nil] at z1
  have room : Room 1 (X.A.under (.builtin "type.__call__" ⟨.ref C :: us, []⟩)) := (hr.mono hn).make C us []
  have go := F0.run _ X.stack _ _ ⟨Value.ref a :: us, []⟩ (Value.ref a :: us) (V.ref a :: vs) _ (fun _ _ _ => False) room (I2.env0.make C us []) bind r2 hq
  refine wpAny_call (PySem.HandSPX.call_own F.excBase_ValueError (fun Y => PySem.HandSPX.refsVE_contains Y bm hbm) (I1.kIn _ _ hC) (PySem.W.looks_findIn I1.kIn hi) (fun self => PySem.W.bind_fn I1.kIn self ht) (by rw [sizeLine_eq]; omega) (codeAny_mono go fun r s' back => ?_))
  cases r with
  | error er => exact False.elim back
  | ok fl =>
    cases fl with
    | ret u =>
      obtain ⟨v', H', I', rz, e1, q2⟩ := I2.after back
      subst e1
      exact ⟨rz, .ref a, H', I', rfl, q2⟩
    | next => exact False.elim back
    | brk => exact False.elim back
    | cont => exact False.elim back
/-- C() as a value, C without own __init__ -/
theorem e_mk0 {g : Nat} {x : Str} {C : Addr} (R : Ei X.K X.mg x C) (q : ∀ a, H a = none → Q (.ref a) (upd H a (exo a C none)))
    (I : In X N G sc := by assumption) (hG : At G g x := by repeat (first | with_reducible apply At.z | with_reducible apply At.s)) : wE X (.Call (.Name x p0) [] [] pos) σ H Q := by
  have hg := I.g hG
  have hdb := I.gd hG
  refine e_of (t := fun σ H Q => ∀ a, H a = none → Q (.ref a) (upd H a (exo a C none))) ⟨fun pins s σ H Q I h => ?_⟩ q
  refine wpAny_Call_Name_kw (ld_glob I hg R.mgC ?_ hdb)
  refine PySem.W.callWith_K0 I.kIn R.kp ?_
  obtain ⟨bm, N, nm, qn, bs, hdct, sn, sub, ab, col, dd, k0, k1, k2, k3, k5, mN, hC, hN, hni, T⟩ := exc_obj I.kIn R.ex
  refine wpAny_call_exc_subT F.excBase_ValueError T hC hN hni (fun h' e hm => ?_) (Nat.zero_le _)
  obtain ⟨t, he, _, _⟩ := hm.there
  have na := I.hok.gone hm.new
  exact ⟨.ref e, _, I.laidN (t' := _) hm.keeps hm.new na (exo_ok he), rfl, h e na⟩
/-- e.f of an error that is held -/
theorem e_xA {C : Addr} {f : Str} (T : XfC X.K C) (hno : PySem.W.findIn X.K (.ref C) f = some none)
    (q : wE X e σ H fun x H1 => ∃ (a dd : Addr) (fs : List (Str × V)) (v : V), x = .ref a ∧ H1 a = some (exo a C (some dd)) ∧ H1 dd = some (exd dd fs) ∧ fs.lookup f = some v ∧ Q v H1) (hb : attributeBase e f X.env (eval e X.env) = eval e X.env := by rfl) :
    wE X (.Attribute e f pos) σ H Q := by
  refine e_of (t := fun σ H Q => wE X e σ H fun x H1 => ∃ (a dd : Addr) (fs : List (Str × V)) (v : V), x = .ref a ∧ H1 a = some (exo a C (some dd)) ∧ H1 dd = some (exd dd fs) ∧ fs.lookup f = some v ∧ Q v H1) ⟨fun pins s σ H Q I h => ?_⟩ q
  refine attr_of hb (thn (pe.run pins s σ H _ I h) fun u s1 hh => ?_)
  obtain ⟨x, H1, I1, rx, a, dd, fs, v, ex, ea, ed, l, q⟩ := hh
  subst ex
  obtain rfl : u = Value.ref a := rx
  obtain ⟨t1, ho⟩ := exo_at I1.hok ea
  obtain ⟨mA, hns, hr⟩ := exd_at I1.hok ed
  obtain ⟨od, hod, hl⟩ := lookIn_ns hns
  obtain ⟨u, hu, ru⟩ := RelO.some_of (v := v) (o := mA f) (by rw [← l]; exact hr f)
  have J : PySem.W.InstAt s1.heap a { cls := .ref C, dict := some dd, data := .fields #[.ref t1, .none, .none, .none, .bool false, .none] } C (some od) := ⟨ho, rfl, rfl, hod⟩
  exact HandSPX.exc_get I1.kIn J T.ga T.gg T.exC (PySem.W.findObj_own T.hdC hno rfl (by rw [hl, hu])) (handed_of ru) ⟨v, H1, I1.tok _, ru, q⟩
/-- an error that is held, with its fields -/
def ErrV (H : Hp) (a C : Addr) (fv : List (Str × V)) : Prop := (fv = [] ∧ H a = some (exo a C none)) ∨ ∃ dd fs, H a = some (exo a C (some dd)) ∧ H dd = some (exd dd fs) ∧ ∀ p ∈ fv, fs.lookup p.1 = some p.2
theorem ErrV.same {H H' : Hp} {a C : Addr} {fv : List (Str × V)} (h : ErrV H a C fv) (e : Same H H') : ErrV H' a C fv := by
  rcases h with ⟨h1, h2⟩ | ⟨dd, fs, h1, h2, h3⟩
  · exact .inl ⟨h1, e _ _ h2⟩
  · exact .inr ⟨dd, fs, e _ _ h1, e _ _ h2, h3⟩
/-- isinstance(e, c) of an error that is held -/
theorem c_isX {a C : Addr} {fv : List (Str × V)} {c : V} {cv : Value} {b : Bool} (T : EcC X.K C) (h : ErrV H a C fv) (k : ClsV c cv) (e : PySem.W.kitOne X.K (.ref C) cv = some b) (q : Q (.bl b) H) : wC X (.builtin "isinstance") [.ref a, c] H Q := by
  unfold wC
  intro pins s σ us I r
  obtain ⟨u1, u2, rfl, r1, r2⟩ := vals2 r
  cases (show u1 = Value.ref a from r1)
  have ec := k.eq r2
  subst ec
  have J : ∃ oe od, PySem.W.InstAt s.heap a oe C od := by
    rcases h with ⟨_, h⟩ | ⟨dd, fs, h, hd, _⟩
    · obtain ⟨t1, ho⟩ := exo_at I.hok h
      exact ⟨_, none, ho, rfl, rfl, trivial⟩
    · obtain ⟨t1, ho⟩ := exo_at I.hok h
      obtain ⟨mA, hns, _⟩ := exd_at I.hok hd
      obtain ⟨od, hod, _⟩ := lookIn_ns hns
      exact ⟨_, some od, ho, rfl, rfl, hod⟩
  obtain ⟨oe, od, J⟩ := J
  exact PySem.W.kia_one (PySem.W.kitx_exc (od := od) T.cl T.hg T.hk T.hs T.ha T.hn T.ht T.hm) I.kIn J e (fun z => nomatch z) fun tk => ⟨.bl b, H, I.tok tk, rfl, q⟩
/-- repr of a list or a tuple of plain data, where nothing is being shown below -/
theorem call_reprD (hg : X.A.guards = some []) (hu : X.A.units + 80 < cLine) :
    CallR X (.builtin "repr") (fun xs H Q => ∃ a d, xs = [.ref a] ∧ Dp X.K H (.ref a) d ∧ d.showable = true ∧ d.hasDict = false ∧ d.depth ≤ 70 ∧ d.shown.length ≤ sizeLine ∧ Q (.str d.shown) H) := by
  intro pins s σ H xs us Q I r h
  obtain ⟨a, d, rfl, hd, h1, h2, h3, h4, q⟩ := h
  obtain ⟨u, rfl, rr⟩ := vals1 r
  obtain ⟨as, rd⟩ := Dp.reads I d _ _ hd rr
  cases rr
  exact PySem.repr_of_reads' rd h1 (fun z => by rw [h2] at z; cases z) hg (by omega) (fun _ _ e => e) (fun h' u tk hk => ⟨.str d.shown, H, I.turnedL (ch := []) (fun b o _ e => hk b o e) (fun b hb => by cases hb), ⟨_, rfl⟩, q⟩) h4
theorem b_repr : bootBuiltins "repr" = some (.builtin "repr") := by decide +kernel
end
end Wk

set_option maxHeartbeats 4000000
/-! My own layer: a piece of a text between two places, x += e, f-strings, a class called without arguments, a text repeated, int of a text, count. -/
namespace Wk
open PySem PySem.Spec PyProof.Rows L2
section
variable {X : Cx} {a b e o : Expr} {es : List Expr} {σ : L2.St} {H : Hp} {Q : VK} {pos p0 p2 apos : Pos} {N G : List Str} {sc : Scope}
theorem e_slB {r : L2.V → Option Int → Option Int → Hp → VK → Prop} (hr : SlR X r) (q : wE X e σ H fun x H1 => wE X a σ H1 fun y H2 => ∃ j, y = .int j ∧ wE X b σ H2 fun y' H3 => ∃ j', y' = .int j' ∧ r x (some j) (some j') H3 Q) : wE X (.Subscript e (.Slice (some a) (some b) none p2) pos) σ H Q :=
  e_of (pe_slice hr pe (po_some pe) (po_some pe)) (e_mono q fun x H1 z => e_mono z fun y H2 ⟨j, e, z2⟩ => ⟨j, e, e_mono z2 fun y' H3 ⟨j', e', z3⟩ => ⟨j', e', z3⟩⟩)
theorem s_aug {nx : L2.St → Hp → Prop} {rt : VK} {bk ct : L2.St → Hp → Prop} {i : Nat} {x : Str} {pos' : Pos} {j : Int} (hs : σ[i]? = some (some (.int j))) (q : wE X e σ H fun v H' => ∃ k : Int, v = .int k ∧ nx (σ.set i (some (.int (j + k)))) H') (I : In X N G sc := by assumption) (hA : At N i x := by repeat (first | with_reducible apply At.z | with_reducible apply At.s)) :
    wS X (.AugAssign (.Name x pos') .Add e pos) ⟨nx, rt, bk, ct⟩ σ H := by
  refine s_of (ps_aug I.nd (I.hi hA) (I.loc hA) pe ip_add I.f) ⟨_, hs, e_mono q fun v H' z => ?_⟩
  obtain ⟨k, rfl, z⟩ := z
  exact ⟨j, k, rfl, rfl, z⟩
/-- the parts of an f-string -/
def jsW (X : Cx) : List Expr → Str → L2.St → Hp → (Str → Hp → Prop) → Prop
  | [], acc, _, H, Q => Q acc H
  | e :: es, acc, σ, H, Q => wE X e σ H fun x H1 => ∃ y : Str, x = .str y ∧ (acc ++ y).length ≤ sizeLine ∧ jsW X es (acc ++ y) σ H1 Q
theorem pj_w : ∀ es : List Expr, PJ X es (es.map fun e => wE X e)
  | [] => .nil
  | _ :: es => .cons pe (pj_w es)
theorem tjs_w : ∀ (es : List Expr) (acc : Str) (σ : L2.St) (H : Hp) (Q : Str → Hp → Prop), jsW X es acc σ H Q → tJs (es.map fun e => wE X e) acc σ H Q
  | [], _, _, _, _, q => q
  | e :: es, acc, σ, H, Q, q => by
    show wE X e σ H _
    refine e_mono q fun x H1 z => ?_
    obtain ⟨y, e1, e2, z⟩ := z
    exact ⟨y, e1, e2, tjs_w es _ σ H1 Q z⟩
theorem e_js {v1 v2 : Expr} {rest : List Expr} (q : jsW X (v1 :: v2 :: rest) Str.empty σ H fun out H1 => Q (.str out) H1) : wE X (.JoinedStr (v1 :: v2 :: rest) pos) σ H Q :=
  e_of (pe_joined (pj_w (v1 :: v2 :: rest))) (tjs_w _ _ σ H _ q)
theorem e_fmt (q : wE X e σ H fun x H1 => (∃ y : Str, x = .str y ∧ y.length ≤ sizeLine ∧ Q (.str y) H1) ∨ ∃ i : Int, x = .int i ∧ i.natAbs.log2 < 1920 ∧ Q (.str (toString i)) H1) : wE X (.FormattedValue e (-1) none pos) σ H Q := e_of (pe_fmt pe) q
theorem e_make0 {g : Nat} {k n : Nat} {x : Str} {C : Addr} {sp : Sp} (F : Kl X.prog X.w X.K X.mg X.base k x C sp) (hr : Room n X.A) (hk : k + 1 ≤ n)
    (q : ∀ x dx, H x = none → H dx = none → dx ≠ x → sp [.ref x] (upd (upd H dx (.own x)) x (.ins C dx [])) (fun v H2 => v = .non ∧ Q (.ref x) H2) E0)
    (I : In X N G sc := by assumption) (hG : At G g x := by repeat (first | with_reducible apply At.z | with_reducible apply At.s)) : wE X (.Call (.Name x p0) [] [] pos) σ H Q := by
  obtain ⟨f, fd, ps, F0, hm, M, hb⟩ := F.ex
  exact e_of (pe_make0 M F0 (hr.mono hk) (I.g hG) hm hb .nil pass0 (I.gd hG)) q
theorem c_intS {z : Str} {n : Int} (h : PySem.intText? z = some n) (hl : z.length ≤ 640) (q : Q (.int n) H) : wC X (.type "int") [.str z] H Q := c_of call_int_str ⟨z, n, rfl, h, hl, q⟩
theorem op_mulS : OpR X (binaryOp .Mult) (fun x y H Q => ∃ z n, x = .str z ∧ y = .int n ∧ MulOk z n ∧ Q (.str (Txt.mul z n)) H) := by
  intro pins s σ H x y v u Q I rx ry h
  obtain ⟨z, n, rfl, rfl, ok, q⟩ := h
  obtain ⟨t, rfl⟩ := rx
  obtain ⟨t', rfl⟩ := ry
  exact SB.mul ok fun t' k => ⟨.str (Txt.mul z n), H, I.tok _, ⟨_, rfl⟩, q⟩
theorem m_count {x y : Str} (q : wE X o σ H fun v H1 => ∃ x, v = .str x ∧ wE X e σ H1 fun w H2 => ∃ y, w = .str y ∧ Q (.int (Txt.count x y)) H2)
    (hs : starEach [e] X.env = [(false, eval e X.env)] := by rfl) (hbase : attributeBase o "count" X.env (eval o X.env) = eval o X.env := by rfl) (hline : (apos.endLine == pos.line) = true := by rfl) : wE X (.Call (.Attribute o "count" apos) [e] [] pos) σ H Q := by
  refine e_of (pe_m1 PySem.F.slot_str_count PySem.F.type_str_count mt_count pe pe hs hbase hline) (e_mono q fun v H1 z => ?_)
  obtain ⟨x, rfl, z⟩ := z
  refine ⟨⟨x, rfl⟩, e_mono z fun w H2 z2 => ?_⟩
  obtain ⟨y, rfl, z3⟩ := z2
  exact ⟨x, y, rfl, rfl, z3⟩
/-- try: .. except C: .. -/
theorem s_tryO {nx : L2.St → Hp → Prop} {rt : VK} {bk ct : L2.St → Hp → Prop} {g : Nat} {x : Str} {c : Value} {body suite : List Stmt} {b0 : Stmt} {np pos' : Pos} {Wout : WX} (hm : X.mg x = some c) (tk : L2N.Takes X Wout)
    (q : ∀ (pn : List (Addr × Obj)) (xe : Value → Shared → Prop), L2N.Takes (X.tr pn xe) (wMany X.K Wout ⟨nx, rt, bk, ct⟩ [(c, tsN X N G sc (b0 :: suite))]) → In (X.tr pn xe) N G sc → wL (X.tr pn xe) body ⟨nx, rt, bk, ct⟩ σ H)
    (I : In X N G sc := by assumption) (hG : At G g x := by repeat (first | with_reducible apply At.z | with_reducible apply At.s))
    (hs : X.stack = X.env :: X.outer := by rfl) (hf : X.env.frame = some X.env.locals := by rfl) :
    wS X (.Try body [.ExceptHandler (some (.Name x np)) none (b0 :: suite) pos'] [] [] pos) ⟨nx, rt, bk, ct⟩ σ H :=
  s_of (L2N.ps_try_many (tb := fun W D σ H => ∀ (pn : List (Addr × Obj)) (xe : Value → Shared → Prop), L2N.Takes (X.tr pn xe) W → In (X.tr pn xe) N G sc → wL (X.tr pn xe) body D σ H) hs hf tk
    (fun W pn xe tk' po => ⟨fun pins s σ H D Iv h => pl.run pins s σ H D Iv (h pn xe tk' (I.tr po))⟩)
    (.cons ⟨I.g hG, I.gd hG, .inl hm⟩ (fun a oe cls d pn hz hd => ⟨fun pins s σ H D Iv h => pl.run pins s σ H D Iv (h oe pn hz.zc hd I.suite (by
      obtain ⟨vs, hv⟩ := hd
      exact ⟨(a, oe), ⟨rfl, vs, hv, hz.2.2 vs hv⟩, List.mem_cons_self⟩))⟩) .nil)) q
end
end Wk

set_option maxHeartbeats 4000000
/-! My own layer: split and join of texts, displayed dicts of many text keys. -/
namespace Wk
open PySem PySem.Spec PyProof.Rows L2
section
variable {X : Cx} {a b e o : Expr} {es : List Expr} {σ : L2.St} {H : Hp} {Q : VK} {pos p0 p2 apos : Pos} {N G : List Str} {sc : Scope}
/-- o.split(e) -/
theorem e_split (q : wE X o σ H fun v H1 => ∃ x : Str, v = .str x ∧ wE X e σ H1 fun w H2 => ∃ y : Str, w = .str y ∧ (y.length == 0) = false ∧ x.length + 2 ≤ sizeLine ∧ ∀ p H3, Same H2 H3 → H2 p = none → H3 p = some (.lst ((Txt.split x y).map V.str)) → Q (.ref p) H3)
    (hs : starEach [e] X.env = [(false, eval e X.env)] := by rfl) (hbase : attributeBase o "split" X.env (eval o X.env) = eval o X.env := by rfl) (hline : (apos.endLine == pos.line) = true := by rfl) : wE X (.Call (.Attribute o "split" apos) [e] [] pos) σ H Q := by
  refine e_of (pe_split pe pe hs hbase hline) (e_mono q fun v H1 z => ?_)
  obtain ⟨x, rfl, z⟩ := z
  refine ⟨⟨x, rfl⟩, e_mono z fun w H2 z2 => ?_⟩
  obtain ⟨y, rfl, h1, h2, z3⟩ := z2
  exact ⟨x, y, rfl, rfl, h1, h2, fun p np => z3 p _ (fun c u eo => by rw [upd_ne (ne_of_none eo np)]; exact eo) np upd_same⟩
/-- o.join(e), e a list of texts -/
theorem e_join (q : wE X o σ H fun v H1 => ∃ x : Str, v = .str x ∧ wE X e σ H1 fun w H2 => ∃ (p : Addr) (ys : List Str), w = .ref p ∧ SqL X.K H2 p (ys.map V.str) ∧ (ys.map (·.length)).sum + ys.length * x.length ≤ 16777216 ∧ Q (.str (Txt.join x ys)) H2)
    (hs : starEach [e] X.env = [(false, eval e X.env)] := by rfl) (hbase : attributeBase o "join" X.env (eval o X.env) = eval o X.env := by rfl) (hline : (apos.endLine == pos.line) = true := by rfl) : wE X (.Call (.Attribute o "join" apos) [e] [] pos) σ H Q := by
  refine e_of (pe_join pe pe hs hbase hline) (e_mono q fun v H1 z => ?_)
  obtain ⟨x, rfl, z⟩ := z
  refine ⟨⟨x, rfl⟩, e_mono z fun w H2 z2 => ?_⟩
  obtain ⟨p, ys, rfl, h1, h2, z3⟩ := z2
  exact ⟨x, p, ys, rfl, rfl, .inl h1, h2, z3⟩
/-- a displayed dict of constant texts -/
abbrev IsC (e : Option Expr) (z : Str) : Prop := ∃ j p, e = some (.Constant (.str z) j p)
abbrev IsC1 (e : Expr) (z : Str) : Prop := ∃ j p, e = .Constant (.str z) j p
theorem pps_const : ∀ {ks : List (Option Expr)} {vs : List Expr} {zs ws : List Str}, Paired IsC ks zs → Paired IsC1 vs ws → ks.length = vs.length →
    ∃ trs, PPs X pos ks vs trs ∧ ∀ σ H (Q : List (V × V) → Hp → Prop), Q ((zs.zip ws).map fun z => (V.str z.1, V.str z.2)) H → tPairs trs σ H Q
  | _, _, _, _, .nil, .nil, _ => ⟨[], pps_nil, fun _ _ _ q => q⟩
  | _, _, _, _, .cons ⟨j, p, e⟩ h1, .cons ⟨j', p', e'⟩ h2, hl => by
    subst e e'
    obtain ⟨trs, h, q⟩ := pps_const h1 h2 (by simpa using hl)
    refine ⟨_, pps_cons pe pe h, fun σ H Q q0 => ?_⟩
    exact e_str (e_str (q σ H _ q0))
  | _, _, _, _, .nil, .cons _ _, hl => by cases hl
  | _, _, _, _, .cons _ _, .nil, hl => by cases hl
theorem e_dC {keys : List (Option Expr)} {vals : List Expr} {zs ws : List Str} (h1 : Paired IsC keys zs) (h2 : Paired IsC1 vals ws) (hl : keys.length = vals.length) (h0 : keys ≠ []) (h15 : keys.length ≤ 15) (h16 : (zs.zip ws).length ≤ 15)
    (q : ∀ p H2, Same H H2 → H p = none → H2 p = some (.dK (mergeK [] ((zs.zip ws).map fun z => ((Sum.inr z.1 : Key), V.str z.2)))) → Q (.ref p) H2) : wE X (.Dict keys vals pos) σ H Q := by
  obtain ⟨trs, h, hq⟩ := pps_const (X := X) (pos := pos) h1 h2 hl
  have hall : keys.all (·.isSome) = true := by
    clear hl h0 h15 h16 q h hq
    induction h1 with
    | nil => rfl
    | cons a _ ih =>
      obtain ⟨j, p, rfl⟩ := a
      simpa using ih
  refine e_of (pe_disp h hall hl h0 h15) fun p np => hq _ _ _ ?_
  refine ⟨upd_same, (zs.zip ws).map (fun z => ((Sum.inr z.1 : Key), V.str z.2)), by rw [List.map_map]; rfl, by rw [List.length_map]; exact h16, ?_⟩
  exact q p _ (fun c u eo => by rw [upd_ne (ne_of_none eo np), upd_ne (ne_of_none eo np)]; exact eo) np upd_same
theorem valV_in {κ : Type} [DecidableEq κ] {kvs : List (κ × V)} {k : κ} {v : V} (h : valV kvs k = some v) : ∃ p ∈ kvs, p.2 = v := by
  unfold valV at h
  obtain ⟨p, hp, rfl⟩ := Option.map_eq_some_iff.mp h
  exact ⟨p, List.mem_of_find?_eq_some hp, rfl⟩
theorem putK_all {κ : Type} [DecidableEq κ] {P : V → Prop} {kvs : List (κ × V)} {k : κ} {v : V} (h : ∀ p ∈ kvs, P p.2) (hv : P v) : ∀ p ∈ putK kvs k v, P p.2 := by
  intro p hp
  unfold putK at hp
  split at hp
  · obtain ⟨q, hq, rfl⟩ := List.mem_map.mp hp
    split
    · exact hv
    · exact h q hq
  · rcases List.mem_append.mp hp with hp | hp
    · exact h p hp
    · rw [List.mem_singleton.mp hp]; exact hv
theorem merge_all {P : V → Prop} : ∀ {more acc : List (Key × V)}, (∀ p ∈ acc, P p.2) → (∀ p ∈ more, P p.2) → ∀ p ∈ mergeK acc more, P p.2
  | [], _, h, _ => h
  | kv :: more, acc, h, h2 => merge_all (more := more) (acc := putK acc kv.1 kv.2) (putK_all h (h2 kv List.mem_cons_self)) fun p hp => h2 p (List.mem_cons_of_mem _ hp)
end
end Wk
namespace Wk
open PySem PySem.Spec PyProof.Rows L2
/-! ### pure values and pure tests: what is read in any heap from H on -/
@[irreducible] def PV (X : Cx) (e : Expr) (σ : L2.St) (H : Hp) (v : V) : Prop := ∀ H1 (Q : VK), Same H H1 → (∀ H2, Same H1 H2 → Q v H2) → wE X e σ H1 Q
@[irreducible] def TV (X : Cx) (e : Expr) (σ : L2.St) (H : Hp) (b : Bool) : Prop := ∀ H1 (QT : Bool → Hp → Prop), Same H H1 → (∀ H2, Same H1 H2 → QT b H2) → wT X e σ H1 QT
@[irreducible] def TWV (X : Cx) (e : Expr) (σ : L2.St) (H : Hp) (b : Bool) : Prop := ∀ H1 (QT : Bool → Hp → Prop), Same H H1 → (∀ H2, Same H1 H2 → QT b H2) → wW X e σ H1 QT
section
variable {X : Cx} {N G : List Str} {sc : Scope} {a b c e o : Expr} {es rest : List Expr} {σ : L2.St} {H : Hp} {Q : VK} {pos p0 : Pos} {QT : Bool → Hp → Prop} {u v w : V} {x y z : Bool}
theorem pv_use (h : PV X e σ H v) (q : ∀ H2, Same H H2 → Q v H2) : wE X e σ H Q := by unfold PV at h; exact h H Q (Same.refl H) q
theorem tv_use (h : TV X e σ H x) (q : ∀ H2, Same H H2 → QT x H2) : wT X e σ H QT := by unfold TV at h; exact h H QT (Same.refl H) q
theorem pv_up {H' : Hp} (h : PV X e σ H v) (s : Same H H') : PV X e σ H' v := by
  unfold PV at h ⊢
  exact fun H1 Q s1 q => h H1 Q (s.trans s1) q
theorem pv_var {i : Nat} {n : Str} (I : In X N G sc := by assumption) (hA : At N i n := by repeat (first | with_reducible apply At.z | with_reducible apply At.s)) (hσ : σ[i]? = some (some v) := by exact rfl) : PV X (.Name n pos) σ H v := by
  unfold PV
  exact fun H1 Q _ q => e_var (q H1 (Same.refl H1)) I hA hσ
theorem pv_str {n : Str} {j} : PV X (.Constant (.str n) j pos) σ H (.str n) := by
  unfold PV
  exact fun H1 Q _ q => e_str (q H1 (Same.refl H1))
theorem pv_int {n : Int} {j} : PV X (.Constant (.int n) j pos) σ H (.int n) := by
  unfold PV
  exact fun H1 Q _ q => e_int (q H1 (Same.refl H1))
theorem pv_non {j} : PV X (.Constant .none j pos) σ H .non := by
  unfold PV
  exact fun H1 Q _ q => e_non (q H1 (Same.refl H1))
theorem pv_bl {k : Bool} {j} : PV X (.Constant (.bool k) j pos) σ H (.bl k) := by
  unfold PV
  exact fun H1 Q _ q => e_bl (q H1 (Same.refl H1))
theorem pv_of (h : ∀ H1 (Q : VK), Same H H1 → (∀ H2, Same H1 H2 → Q v H2) → wE X e σ H1 Q) : PV X e σ H v := by unfold PV; exact h
theorem tv_of (h : ∀ H1 (QT : Bool → Hp → Prop), Same H H1 → (∀ H2, Same H1 H2 → QT x H2) → wT X e σ H1 QT) : TV X e σ H x := by unfold TV; exact h
theorem pv_lenS {g : Nat} {n : Str} (h : PV X e σ H (.str n)) (hn : n.length ≤ sizeLine) (hw : w = .int (n.length : Int) := by exact rfl) (hm : X.mg "len" = none := by assumption) (I : In X N G sc := by assumption) (hG : At G g ("len" : Str) := by repeat (first | with_reducible apply At.z | with_reducible apply At.s))
    (he : starEach (e :: []) X.env = (false, eval e X.env) :: starEach [] X.env := by rfl) (hpl : (backTo pos (starEach [] X.env)).any (·.1) = false := by rfl) : PV X (.Call (.Name "len" p0) [e] [] pos) σ H w := by
  subst hw
  exact pv_of fun H1 Q s q => e_callB (x := "len") hm b_len (a_cons (pv_use (pv_up h s) fun H2 s2 => a_nil (c_lenS hn (q H2 s2))) he) I hG he hpl
theorem pv_lenL {g : Nat} {l : Addr} {xs : List V} (h : PV X e σ H (.ref l)) (hl : H l = some (.lst xs)) (hw : w = .int (xs.length : Int) := by exact rfl) (hm : X.mg "len" = none := by assumption) (I : In X N G sc := by assumption) (hG : At G g ("len" : Str) := by repeat (first | with_reducible apply At.z | with_reducible apply At.s))
    (he : starEach (e :: []) X.env = (false, eval e X.env) :: starEach [] X.env := by rfl) (hpl : (backTo pos (starEach [] X.env)).any (·.1) = false := by rfl) : PV X (.Call (.Name "len" p0) [e] [] pos) σ H w := by
  subst hw
  exact pv_of fun H1 Q s q => e_callB (x := "len") hm b_len (a_cons (pv_use (pv_up h s) fun H2 s2 => a_nil (c_lenL (SqL.of (s2 _ _ (s _ _ hl))) (q H2 s2))) he) I hG he hpl
/-- x[k] of a tuple that stands -/
theorem pv_ixT {t : Addr} {xs : List V} {i : Int} (h : PV X a σ H (.ref t)) (hk : PV X b σ H (.int i)) (ht : H t = some (.tup xs)) (e : atI xs i = some v) (hs : PlainIx b := by intro _ _; rfl) : PV X (.Subscript a b pos) σ H v :=
  pv_of fun H1 Q s q => e_ix (pv_use (pv_up h s) fun H2 s2 => pv_use (pv_up hk (s.trans s2)) fun H3 s3 => ix_t (SqT.of (s3 _ _ (s2 _ _ (s _ _ ht)))) e (q H3 (s2.trans s3))) hs
theorem tv_val (h : PV X e σ H (.bl x)) (he : ∀ whole, isTrue e X.env whole = (do let v ← whole; standAt e.pos; holding [v] (truthy v)) := by intro _; rfl) : TV X e σ H x :=
  tv_of fun H1 QT s q => t_val (pv_use (pv_up h s) fun H2 s2 => ⟨x, rfl, q H2 s2⟩) he
theorem tv_var {i : Nat} {n : Str} (I : In X N G sc := by assumption) (hA : At N i n := by repeat (first | with_reducible apply At.z | with_reducible apply At.s)) (hσ : σ[i]? = some (some (.bl x)) := by exact rfl) : TV X (.Name n pos) σ H x := tv_val (pv_var I hA hσ)
theorem tv_cmp {op : CmpOp} (h1 : PV X a σ H u) (h2 : PV X b σ H w) (hr : ∀ H1 (Q : VK), Same H H1 → Q (.bl x) H1 → wK X op u w H1 Q) (hm : behindInMarks op b = false := by first | exact nomark _ | rfl) : TV X (.Compare a [op] [b] pos) σ H x :=
  tv_of fun H1 QT s q => t_cmp (pv_use (pv_up h1 s) fun H2 s2 => pv_use (pv_up h2 (s.trans s2)) fun H3 s3 => hr H3 _ ((s.trans s2).trans s3) ⟨x, rfl, q H3 (s2.trans s3)⟩) hm
theorem pv_cmp {op : CmpOp} (h1 : PV X a σ H u) (h2 : PV X b σ H w) (hr : ∀ H1 (Q : VK), Same H H1 → Q (.bl x) H1 → wK X op u w H1 Q) (hm : behindInMarks op b = false := by first | exact nomark _ | rfl) : PV X (.Compare a [op] [b] pos) σ H (.bl x) :=
  pv_of fun H1 Q s q => e_cmp (pv_use (pv_up h1 s) fun H2 s2 => pv_use (pv_up h2 (s.trans s2)) fun H3 s3 => hr H3 _ ((s.trans s2).trans s3) (q H3 (s2.trans s3))) hm
section
variable {m n : Str} {i j : Int}
theorem tv_eqS (h1 : PV X a σ H (.str m)) (h2 : PV X b σ H (.str n)) : TV X (.Compare a [.Eq] [b] pos) σ H (decide (m = n)) := tv_cmp h1 h2 fun H1 Q _ q => o_eqS q
theorem tv_neS (h1 : PV X a σ H (.str m)) (h2 : PV X b σ H (.str n)) : TV X (.Compare a [.NotEq] [b] pos) σ H (!decide (m = n)) := tv_cmp h1 h2 fun H1 Q _ q => o_neS q
theorem tv_eqI (h1 : PV X a σ H (.int i)) (h2 : PV X b σ H (.int j)) : TV X (.Compare a [.Eq] [b] pos) σ H (decide (i = j)) := tv_cmp h1 h2 fun H1 Q _ q => o_eqI q
theorem tv_neI (h1 : PV X a σ H (.int i)) (h2 : PV X b σ H (.int j)) : TV X (.Compare a [.NotEq] [b] pos) σ H (!decide (i = j)) := tv_cmp h1 h2 fun H1 Q _ q => o_neI q
theorem tv_lt (h1 : PV X a σ H (.int i)) (h2 : PV X b σ H (.int j)) : TV X (.Compare a [.Lt] [b] pos) σ H (decide (i < j)) := tv_cmp h1 h2 fun H1 Q _ q => o_lt q
theorem tv_le (h1 : PV X a σ H (.int i)) (h2 : PV X b σ H (.int j)) : TV X (.Compare a [.LtE] [b] pos) σ H (decide (i ≤ j)) := tv_cmp h1 h2 fun H1 Q _ q => o_le q
theorem tv_gt (h1 : PV X a σ H (.int i)) (h2 : PV X b σ H (.int j)) : TV X (.Compare a [.Gt] [b] pos) σ H (decide (j < i)) := tv_cmp h1 h2 fun H1 Q _ q => o_gt q
theorem tv_ge (h1 : PV X a σ H (.int i)) (h2 : PV X b σ H (.int j)) : TV X (.Compare a [.GtE] [b] pos) σ H (decide (j ≤ i)) := tv_cmp h1 h2 fun H1 Q _ q => o_ge q
theorem tv_inS {k : Nat} (h1 : PV X a σ H (.str ⟨#[k]⟩)) (h2 : PV X b σ H (.str n)) (hm : behindInMarks .In b = false := by first | exact nomark _ | rfl) : TV X (.Compare a [.In] [b] pos) σ H (decide (k ∈ n.cps.toList)) := tv_cmp h1 h2 (fun H1 Q _ q => o_inS q) hm
theorem pv_inS {k : Nat} (h1 : PV X a σ H (.str ⟨#[k]⟩)) (h2 : PV X b σ H (.str n)) (hm : behindInMarks .In b = false := by first | exact nomark _ | rfl) : PV X (.Compare a [.In] [b] pos) σ H (.bl (decide (k ∈ n.cps.toList))) := pv_cmp h1 h2 (fun H1 Q _ q => o_inS q) hm
theorem inV_str (m : Str) : ∀ zs : List Str, inV (.str m) (zs.map V.str) = decide (m ∈ zs)
  | [] => rfl
  | z :: zs => by
    have ih := inV_str m zs
    unfold inV at ih ⊢
    rw [List.map_cons, List.any_cons, ih]
    have : eqV (.str z) (.str m) = decide (m = z) := by
      show (z == m) = _
      by_cases h : m = z
      · subst h; simp
      · rw [decide_eq_false h]; simp [Ne.symm h]
    rw [this]
    by_cases h1 : m = z <;> by_cases h2 : m ∈ zs <;> simp [h1, h2]
theorem flat_strs : ∀ zs : List Str, (zs.map V.str).all flatV = true
  | [] => rfl
  | z :: zs => by rw [List.map_cons, List.all_cons, flat_strs zs]; rfl
theorem consts_a : ∀ {es : List Expr} {zs : List Str} {QA : List V → Hp → Prop}, Paired IsC1 es zs → QA (zs.map V.str) H → wA X es σ H QA
  | _, _, _, .nil, q => a_nil q
  | _, _, _, .cons ⟨j, p, e⟩ h, q => by
    subst e
    exact a_cons (e_str (consts_a h q)) (by rfl)
theorem pc1 {z : Str} {j} {p : Pos} : IsC1 (.Constant (.str z) j p) z := ⟨j, p, rfl⟩
/-- m in (.., ..), texts -/
theorem tv_inT {zs : List Str} {k : Nat} {pt : Pos} (h1 : PV X a σ H (.str m)) (h2 : Paired IsC1 es zs) (hl : es.length ≤ 1000) (hm : behindInMarks .In (.Tuple es k pt) = false := by rfl) : TV X (.Compare a [.In] [.Tuple es k pt] pos) σ H (decide (m ∈ zs)) :=
  tv_of fun H1 QT s q => t_cmp (pv_use (pv_up h1 s) fun H2 s2 => e_tup (consts_a h2 ⟨by rw [List.length_map, ← h2.length]; show _ ≤ 2 ^ 24; omega, fun p H3 e3 _ h3 => o_inT (SqT.of h3) rfl (flat_strs zs) ⟨_, rfl, by rw [inV_str]; exact q H3 (s2.trans e3)⟩⟩)) hm
theorem tv_ninT {zs : List Str} {k : Nat} {pt : Pos} (h1 : PV X a σ H (.str m)) (h2 : Paired IsC1 es zs) (hl : es.length ≤ 1000) (hm : behindInMarks .NotIn (.Tuple es k pt) = false := by rfl) : TV X (.Compare a [.NotIn] [.Tuple es k pt] pos) σ H (!decide (m ∈ zs)) :=
  tv_of fun H1 QT s q => t_cmp (pv_use (pv_up h1 s) fun H2 s2 => e_tup (consts_a h2 ⟨by rw [List.length_map, ← h2.length]; show _ ≤ 2 ^ 24; omega, fun p H3 e3 _ h3 => k_of op_notIn_seq ⟨p, zs.map V.str, rfl, .inr (SqT.of h3), rfl, flat_strs zs, ⟨_, rfl, by rw [inV_str]; exact q H3 (s2.trans e3)⟩⟩⟩)) hm
end
theorem tw_and1 (h : TV X a σ H x) : TWV X (.BoolOp .And [a] pos) σ H x := by
  unfold TWV
  exact fun H1 QT s q => w_and1 (by unfold TV at h; exact h H1 QT s q)
theorem tw_or1 (h : TV X a σ H x) : TWV X (.BoolOp .Or [a] pos) σ H x := by
  unfold TWV
  exact fun H1 QT s q => w_or1 (by unfold TV at h; exact h H1 QT s q)
theorem tw_and (h : TV X a σ H x) (h2 : TWV X (.BoolOp .And (b :: rest) pos) σ H y) : TWV X (.BoolOp .And (a :: b :: rest) pos) σ H (x && y) := by
  unfold TWV at h2 ⊢
  unfold TV at h
  refine fun H1 QT s q => w_and (h H1 _ s fun H2 s2 => ?_)
  cases x with
  | true => exact iteT (h2 H2 QT (s.trans s2) fun H3 s3 => q H3 (s2.trans s3))
  | false => exact iteF (q H2 s2)
theorem tw_or (h : TV X a σ H x) (h2 : TWV X (.BoolOp .Or (b :: rest) pos) σ H y) : TWV X (.BoolOp .Or (a :: b :: rest) pos) σ H (x || y) := by
  unfold TWV at h2 ⊢
  unfold TV at h
  refine fun H1 QT s q => w_or (h H1 _ s fun H2 s2 => ?_)
  cases x with
  | true => exact iteT (q H2 s2)
  | false => exact iteF (h2 H2 QT (s.trans s2) fun H3 s3 => q H3 (s2.trans s3))
theorem tv_w {op : BoolOp} (h : TWV X (.BoolOp op es pos) σ H x) : TV X (.BoolOp op es pos) σ H x := by
  unfold TWV at h
  exact tv_of fun H1 QT s q => t_w (h H1 QT s q)
theorem tv_not (h : TV X a σ H x) : TV X (.UnaryOp .Not a pos) σ H (!x) := by
  unfold TV at h
  exact tv_of fun H1 QT s q => t_not (h H1 _ s q)
theorem tv_isN (h1 : PV X a σ H u) (h2 : PV X b σ H .non) : TV X (.Compare a [.Is] [b] pos) σ H (decide (u = .non)) := tv_cmp h1 h2 fun H1 Q _ q => o_isN q
/-- if c: A else: B -/
theorem s_ift {nx : L2.St → Hp → Prop} {rt : VK} {bk ct : L2.St → Hp → Prop} {A B : List Stmt} (h : TV X c σ H x) (q1 : x = true → ∀ H1, Same H H1 → wL X A ⟨nx, rt, bk, ct⟩ σ H1) (q2 : x = false → ∀ H1, Same H H1 → wL X B ⟨nx, rt, bk, ct⟩ σ H1) : wS X (.If c A B pos) ⟨nx, rt, bk, ct⟩ σ H :=
  s_if (tv_use h fun H1 s => by
    cases x with
    | true => exact iteT (q1 rfl H1 s)
    | false => exact iteF (q2 rfl H1 s))
end
end Wk

set_option maxHeartbeats 4000000
namespace K13
open PySem PySem.Spec PyProof.Rows L2 Wk
def topS (i : Nat) : Stmt := PySem.Challenge.pw_heldproofs_k13_readings_settled.main.body.getD i (.Pass ⟨0, 0, 0, 0⟩)
abbrev s_NoPart___init : Stmt := inClass (topS 2) 0
abbrev N_NoPart___init : List Str := ["self", "path"]
abbrev P_NoPart___init : List Str := ["self", "path"]
abbrev G_NoPart___init : List Str := []
theorem so_NoPart___init : ScOk N_NoPart___init G_NoPart___init (defScope s_NoPart___init) := ⟨by decide +kernel, by decide +kernel, by decide +kernel⟩
theorem sc_NoPart___init : FnScope N_NoPart___init P_NoPart___init (defScope s_NoPart___init) := ⟨rfl, rfl, rfl, by decide +kernel, rfl, by decide +kernel, by decide +kernel⟩
abbrev s_NotBare___init : Stmt := inClass (topS 3) 0
abbrev N_NotBare___init : List Str := ["self", "path"]
abbrev P_NotBare___init : List Str := ["self", "path"]
abbrev G_NotBare___init : List Str := []
theorem so_NotBare___init : ScOk N_NotBare___init G_NotBare___init (defScope s_NotBare___init) := ⟨by decide +kernel, by decide +kernel, by decide +kernel⟩
theorem sc_NotBare___init : FnScope N_NotBare___init P_NotBare___init (defScope s_NotBare___init) := ⟨rfl, rfl, rfl, by decide +kernel, rfl, by decide +kernel, by decide +kernel⟩
abbrev s_field_of : Stmt := topS 7
abbrev N_field_of : List Str := ["row", "field"]
abbrev P_field_of : List Str := ["row", "field"]
abbrev G_field_of : List Str := ["FIELDS"]
theorem so_field_of : ScOk N_field_of G_field_of (defScope s_field_of) := ⟨by decide +kernel, by decide +kernel, by decide +kernel⟩
theorem sc_field_of : FnScope N_field_of P_field_of (defScope s_field_of) := ⟨rfl, rfl, rfl, by decide +kernel, rfl, by decide +kernel, by decide +kernel⟩
abbrev s_refers : Stmt := topS 8
abbrev N_refers : List Str := ["row"]
abbrev P_refers : List Str := ["row"]
abbrev G_refers : List Str := ["FIELDS"]
theorem so_refers : ScOk N_refers G_refers (defScope s_refers) := ⟨by decide +kernel, by decide +kernel, by decide +kernel⟩
theorem sc_refers : FnScope N_refers P_refers (defScope s_refers) := ⟨rfl, rfl, rfl, by decide +kernel, rfl, by decide +kernel, by decide +kernel⟩
abbrev s_premises : Stmt := topS 9
abbrev N_premises : List Str := ["derivation"]
abbrev P_premises : List Str := ["derivation"]
abbrev G_premises : List Str := ["list", "len", "FIELDS"]
theorem so_premises : ScOk N_premises G_premises (defScope s_premises) := ⟨by decide +kernel, by decide +kernel, by decide +kernel⟩
theorem sc_premises : FnScope N_premises P_premises (defScope s_premises) := ⟨rfl, rfl, rfl, by decide +kernel, rfl, by decide +kernel, by decide +kernel⟩
abbrev s_head_of : Stmt := topS 10
abbrev N_head_of : List Str := ["row"]
abbrev P_head_of : List Str := ["row"]
abbrev G_head_of : List Str := ["len", "FIELDS"]
theorem so_head_of : ScOk N_head_of G_head_of (defScope s_head_of) := ⟨by decide +kernel, by decide +kernel, by decide +kernel⟩
theorem sc_head_of : FnScope N_head_of P_head_of (defScope s_head_of) := ⟨rfl, rfl, rfl, by decide +kernel, rfl, by decide +kernel, by decide +kernel⟩
abbrev s_heads : Stmt := topS 11
abbrev N_heads : List Str := ["derivation", "found", "waiting", "row"]
abbrev P_heads : List Str := ["derivation"]
abbrev G_heads : List Str := ["head_of", "premises"]
theorem so_heads : ScOk N_heads G_heads (defScope s_heads) := ⟨by decide +kernel, by decide +kernel, by decide +kernel⟩
theorem sc_heads : FnScope N_heads P_heads (defScope s_heads) := ⟨rfl, rfl, rfl, by decide +kernel, rfl, by decide +kernel, by decide +kernel⟩
abbrev s_from_heads : Stmt := topS 12
abbrev N_from_heads : List Str := ["found", "made", "head", "row", "_"]
abbrev P_from_heads : List Str := ["found"]
abbrev G_from_heads : List Str := ["reversed", "range", "PREMISES"]
theorem so_from_heads : ScOk N_from_heads G_from_heads (defScope s_from_heads) := ⟨by decide +kernel, by decide +kernel, by decide +kernel⟩
theorem sc_from_heads : FnScope N_from_heads P_from_heads (defScope s_from_heads) := ⟨rfl, rfl, rfl, by decide +kernel, rfl, by decide +kernel, by decide +kernel⟩
abbrev s_row_count : Stmt := topS 13
abbrev N_row_count : List Str := ["derivation"]
abbrev P_row_count : List Str := ["derivation"]
abbrev G_row_count : List Str := ["len", "heads"]
theorem so_row_count : ScOk N_row_count G_row_count (defScope s_row_count) := ⟨by decide +kernel, by decide +kernel, by decide +kernel⟩
theorem sc_row_count : FnScope N_row_count P_row_count (defScope s_row_count) := ⟨rfl, rfl, rfl, by decide +kernel, rfl, by decide +kernel, by decide +kernel⟩
abbrev s_walk : Stmt := topS 14
abbrev N_walk : List Str := ["derivation", "waiting", "path", "row", "above", "index"]
abbrev P_walk : List Str := ["derivation"]
abbrev G_walk : List Str := ["premises", "reversed", "range", "len"]
theorem so_walk : ScOk N_walk G_walk (defScope s_walk) := ⟨by decide +kernel, by decide +kernel, by decide +kernel⟩
abbrev s_is_bare : Stmt := topS 15
abbrev N_is_bare : List Str := ["derivation", "head"]
abbrev P_is_bare : List Str := ["derivation"]
abbrev G_is_bare : List Str := ["heads"]
theorem so_is_bare : ScOk N_is_bare G_is_bare (defScope s_is_bare) := ⟨by decide +kernel, by decide +kernel, by decide +kernel⟩
theorem sc_is_bare : FnScope N_is_bare P_is_bare (defScope s_is_bare) := ⟨rfl, rfl, rfl, by decide +kernel, rfl, by decide +kernel, by decide +kernel⟩
abbrev s_require_bare : Stmt := topS 16
abbrev N_require_bare : List Str := ["derivation", "path", "name"]
abbrev P_require_bare : List Str := ["derivation"]
abbrev G_require_bare : List Str := ["walk", "NotBare"]
theorem so_require_bare : ScOk N_require_bare G_require_bare (defScope s_require_bare) := ⟨by decide +kernel, by decide +kernel, by decide +kernel⟩
theorem sc_require_bare : FnScope N_require_bare P_require_bare (defScope s_require_bare) := ⟨rfl, rfl, rfl, by decide +kernel, rfl, by decide +kernel, by decide +kernel⟩
abbrev s_read_bare : Stmt := topS 18
abbrev N_read_bare : List Str := ["derivation"]
abbrev P_read_bare : List Str := ["derivation"]
abbrev G_read_bare : List Str := ["reading_of", "signs_of"]
theorem so_read_bare : ScOk N_read_bare G_read_bare (defScope s_read_bare) := ⟨by decide +kernel, by decide +kernel, by decide +kernel⟩
theorem sc_read_bare : FnScope N_read_bare P_read_bare (defScope s_read_bare) := ⟨rfl, rfl, rfl, by decide +kernel, rfl, by decide +kernel, by decide +kernel⟩
abbrev s_alike : Stmt := topS 19
abbrev N_alike : List Str := ["first", "second"]
abbrev P_alike : List Str := ["first", "second"]
abbrev G_alike : List Str := ["signs_of"]
theorem so_alike : ScOk N_alike G_alike (defScope s_alike) := ⟨by decide +kernel, by decide +kernel, by decide +kernel⟩
theorem sc_alike : FnScope N_alike P_alike (defScope s_alike) := ⟨rfl, rfl, rfl, by decide +kernel, rfl, by decide +kernel, by decide +kernel⟩
abbrev s_signs_of : Stmt := topS 20
abbrev N_signs_of : List Str := ["derivation", "found", "waiting", "item"]
abbrev P_signs_of : List Str := ["derivation"]
abbrev G_signs_of : List Str := ["require_bare", "isinstance", "str", "read_row"]
theorem so_signs_of : ScOk N_signs_of G_signs_of (defScope s_signs_of) := ⟨by decide +kernel, by decide +kernel, by decide +kernel⟩
theorem sc_signs_of : FnScope N_signs_of P_signs_of (defScope s_signs_of) := ⟨rfl, rfl, rfl, by decide +kernel, rfl, by decide +kernel, by decide +kernel⟩
abbrev s_read_row : Stmt := topS 21
abbrev N_read_row : List Str := ["row", "level", "takes", "meanings", "head", "actions", "action"]
abbrev P_read_row : List Str := ["row", "level", "takes", "meanings"]
abbrev G_read_row : List Str := ["read_head", "with_meaning", "refers", "head_of", "premises", "meaning_of", "field_of"]
theorem so_read_row : ScOk N_read_row G_read_row (defScope s_read_row) := ⟨by decide +kernel, by decide +kernel, by decide +kernel⟩
abbrev C_read_row : List Str := ["premise"]
theorem sc_read_row : FnScope (N_read_row ++ C_read_row) P_read_row (defScope s_read_row) := ⟨rfl, rfl, rfl, by decide +kernel, rfl, by decide +kernel, by decide +kernel⟩
abbrev s_read_head : Stmt := topS 22
abbrev N_read_head : List Str := ["ref", "takes", "meanings", "head", "actions", "found", "action", "_", "kind", "paid", "level", "inner"]
abbrev P_read_head : List Str := ["ref", "takes", "meanings"]
abbrev G_read_head : List Str := ["meaning_of", "len"]
theorem so_read_head : ScOk N_read_head G_read_head (defScope s_read_head) := ⟨by decide +kernel, by decide +kernel, by decide +kernel⟩
theorem sc_read_head : FnScope N_read_head P_read_head (defScope s_read_head) := ⟨rfl, rfl, rfl, by decide +kernel, rfl, by decide +kernel, by decide +kernel⟩
abbrev s_meaning_of : Stmt := topS 23
abbrev N_meaning_of : List Str := ["meanings", "ref"]
abbrev P_meaning_of : List Str := ["meanings", "ref"]
abbrev G_meaning_of : List Str := []
theorem so_meaning_of : ScOk N_meaning_of G_meaning_of (defScope s_meaning_of) := ⟨by decide +kernel, by decide +kernel, by decide +kernel⟩
theorem sc_meaning_of : FnScope N_meaning_of P_meaning_of (defScope s_meaning_of) := ⟨rfl, rfl, rfl, by decide +kernel, rfl, by decide +kernel, by decide +kernel⟩
abbrev s_with_meaning : Stmt := topS 24
abbrev N_with_meaning : List Str := ["meanings", "level", "meaning", "inner"]
abbrev P_with_meaning : List Str := ["meanings", "level", "meaning"]
abbrev G_with_meaning : List Str := []
theorem so_with_meaning : ScOk N_with_meaning G_with_meaning (defScope s_with_meaning) := ⟨by decide +kernel, by decide +kernel, by decide +kernel⟩
abbrev C_with_meaning : List Str := ["ref"]
theorem sc_with_meaning : FnScope (N_with_meaning ++ C_with_meaning) P_with_meaning (defScope s_with_meaning) := ⟨rfl, rfl, rfl, by decide +kernel, rfl, by decide +kernel, by decide +kernel⟩
abbrev s_reading_of : Stmt := topS 25
abbrev N_reading_of : List Str := ["signs", "made", "sign", "left"]
abbrev P_reading_of : List Str := ["signs"]
abbrev G_reading_of : List Str := ["reversed", "tuple", "range"]
theorem so_reading_of : ScOk N_reading_of G_reading_of (defScope s_reading_of) := ⟨by decide +kernel, by decide +kernel, by decide +kernel⟩
abbrev C_reading_of : List Str := ["_"]
theorem sc_reading_of : FnScope (N_reading_of ++ C_reading_of) P_reading_of (defScope s_reading_of) := ⟨rfl, rfl, rfl, by decide +kernel, rfl, by decide +kernel, by decide +kernel⟩
abbrev s_settled_from : Stmt := topS 26
abbrev N_settled_from : List Str := ["reading", "found", "waiting", "item"]
abbrev P_settled_from : List Str := ["reading"]
abbrev G_settled_from : List Str := ["isinstance", "str", "settled_rows", "from_heads"]
theorem so_settled_from : ScOk N_settled_from G_settled_from (defScope s_settled_from) := ⟨by decide +kernel, by decide +kernel, by decide +kernel⟩
theorem sc_settled_from : FnScope N_settled_from P_settled_from (defScope s_settled_from) := ⟨rfl, rfl, rfl, by decide +kernel, rfl, by decide +kernel, by decide +kernel⟩
abbrev s_settled_rows : Stmt := topS 27
abbrev N_settled_rows : List Str := ["reading", "level", "taken"]
abbrev P_settled_rows : List Str := ["reading", "level", "taken"]
abbrev G_settled_rows : List Str := ["settled_head", "with_meaning", "len"]
theorem so_settled_rows : ScOk N_settled_rows G_settled_rows (defScope s_settled_rows) := ⟨by decide +kernel, by decide +kernel, by decide +kernel⟩
theorem sc_settled_rows : FnScope N_settled_rows P_settled_rows (defScope s_settled_rows) := ⟨rfl, rfl, rfl, by decide +kernel, rfl, by decide +kernel, by decide +kernel⟩
abbrev s_settled_head : Stmt := topS 28
abbrev N_settled_head : List Str := ["reading", "level", "taken", "_", "head", "actions", "ref", "rows", "action"]
abbrev P_settled_head : List Str := ["reading", "level", "taken"]
abbrev G_settled_head : List Str := []
theorem so_settled_head : ScOk N_settled_head G_settled_head (defScope s_settled_head) := ⟨by decide +kernel, by decide +kernel, by decide +kernel⟩
theorem sc_settled_head : FnScope N_settled_head P_settled_head (defScope s_settled_head) := ⟨rfl, rfl, rfl, by decide +kernel, rfl, by decide +kernel, by decide +kernel⟩
abbrev s_cell : Stmt := topS 30
abbrev N_cell : List Str := ["_law_script", "_law_k"]
abbrev P_cell : List Str := ["_law_script", "_law_k"]
abbrev G_cell : List Str := ["len", "abs"]
theorem so_cell : ScOk N_cell G_cell (defScope s_cell) := ⟨by decide +kernel, by decide +kernel, by decide +kernel⟩
theorem sc_cell : FnScope N_cell P_cell (defScope s_cell) := ⟨rfl, rfl, rfl, by decide +kernel, rfl, by decide +kernel, by decide +kernel⟩
abbrev s_pool : Stmt := topS 31
abbrev N_pool : List Str := ["_law_script", "_law_k", "_law_cell_here"]
abbrev P_pool : List Str := ["_law_script", "_law_k"]
abbrev G_pool : List Str := ["_law_cell", "int"]
theorem so_pool : ScOk N_pool G_pool (defScope s_pool) := ⟨by decide +kernel, by decide +kernel, by decide +kernel⟩
theorem sc_pool : FnScope N_pool P_pool (defScope s_pool) := ⟨rfl, rfl, rfl, by decide +kernel, rfl, by decide +kernel, by decide +kernel⟩
abbrev s_next : Stmt := topS 32
abbrev N_next : List Str := ["_law_pool_here", "_law_many", "_law_digit", "_law_mixed"]
abbrev P_next : List Str := ["_law_pool_here", "_law_many"]
abbrev G_next : List Str := ["int"]
theorem so_next : ScOk N_next G_next (defScope s_next) := ⟨by decide +kernel, by decide +kernel, by decide +kernel⟩
theorem sc_next : FnScope N_next P_next (defScope s_next) := ⟨rfl, rfl, rfl, by decide +kernel, rfl, by decide +kernel, by decide +kernel⟩
abbrev s_name : Stmt := topS 33
abbrev N_name : List Str := ["_law_pool_here", "_law_taken", "_law_stems", "_law_name_here", "_law_k"]
abbrev P_name : List Str := ["_law_pool_here", "_law_taken"]
abbrev G_name : List Str := ["_law_next", "range", "str", "len"]
theorem so_name : ScOk N_name G_name (defScope s_name) := ⟨by decide +kernel, by decide +kernel, by decide +kernel⟩
theorem sc_name : FnScope N_name P_name (defScope s_name) := ⟨rfl, rfl, rfl, by decide +kernel, rfl, by decide +kernel, by decide +kernel⟩
abbrev s_is_number : Stmt := topS 34
abbrev N_is_number : List Str := ["_law_value_here"]
abbrev P_is_number : List Str := ["_law_value_here"]
abbrev G_is_number : List Str := ["isinstance", "int", "bool"]
theorem so_is_number : ScOk N_is_number G_is_number (defScope s_is_number) := ⟨by decide +kernel, by decide +kernel, by decide +kernel⟩
theorem sc_is_number : FnScope N_is_number P_is_number (defScope s_is_number) := ⟨rfl, rfl, rfl, by decide +kernel, rfl, by decide +kernel, by decide +kernel⟩
abbrev s_is_mode : Stmt := topS 35
abbrev N_is_mode : List Str := ["_law_value_here"]
abbrev P_is_mode : List Str := ["_law_value_here"]
abbrev G_is_mode : List Str := ["isinstance", "str", "tuple", "len", "_law_is_number"]
theorem so_is_mode : ScOk N_is_mode G_is_mode (defScope s_is_mode) := ⟨by decide +kernel, by decide +kernel, by decide +kernel⟩
theorem sc_is_mode : FnScope N_is_mode P_is_mode (defScope s_is_mode) := ⟨rfl, rfl, rfl, by decide +kernel, rfl, by decide +kernel, by decide +kernel⟩
abbrev s_is_item : Stmt := topS 36
abbrev N_is_item : List Str := ["_law_letter", "_law_item"]
abbrev P_is_item : List Str := ["_law_letter", "_law_item"]
abbrev G_is_item : List Str := ["_law_is_tree", "_law_is_sentence", "_law_is_mode", "isinstance", "str", "_law_is_number"]
theorem so_is_item : ScOk N_is_item G_is_item (defScope s_is_item) := ⟨by decide +kernel, by decide +kernel, by decide +kernel⟩
theorem sc_is_item : FnScope N_is_item P_is_item (defScope s_is_item) := ⟨rfl, rfl, rfl, by decide +kernel, rfl, by decide +kernel, by decide +kernel⟩
abbrev s_is_like : Stmt := topS 37
abbrev N_is_like : List Str := ["_law_value_here", "_law_forms", "_law_form", "_law_k"]
abbrev P_is_like : List Str := ["_law_value_here", "_law_forms"]
abbrev G_is_like : List Str := ["isinstance", "tuple", "str", "len", "range", "_law_is_item"]
theorem so_is_like : ScOk N_is_like G_is_like (defScope s_is_like) := ⟨by decide +kernel, by decide +kernel, by decide +kernel⟩
theorem sc_is_like : FnScope N_is_like P_is_like (defScope s_is_like) := ⟨rfl, rfl, rfl, by decide +kernel, rfl, by decide +kernel, by decide +kernel⟩
abbrev s_is_sentence : Stmt := topS 38
abbrev N_is_sentence : List Str := ["_law_value_here"]
abbrev P_is_sentence : List Str := ["_law_value_here"]
abbrev G_is_sentence : List Str := ["_law_is_like"]
theorem so_is_sentence : ScOk N_is_sentence G_is_sentence (defScope s_is_sentence) := ⟨by decide +kernel, by decide +kernel, by decide +kernel⟩
theorem sc_is_sentence : FnScope N_is_sentence P_is_sentence (defScope s_is_sentence) := ⟨rfl, rfl, rfl, by decide +kernel, rfl, by decide +kernel, by decide +kernel⟩
abbrev s_is_tree : Stmt := topS 39
abbrev N_is_tree : List Str := ["_law_value_here"]
abbrev P_is_tree : List Str := ["_law_value_here"]
abbrev G_is_tree : List Str := ["_law_is_like"]
theorem so_is_tree : ScOk N_is_tree G_is_tree (defScope s_is_tree) := ⟨by decide +kernel, by decide +kernel, by decide +kernel⟩
theorem sc_is_tree : FnScope N_is_tree P_is_tree (defScope s_is_tree) := ⟨rfl, rfl, rfl, by decide +kernel, rfl, by decide +kernel, by decide +kernel⟩
abbrev s_row : Stmt := topS 40
abbrev N_row : List Str := ["_law_item", "_law_names"]
abbrev P_row : List Str := ["_law_item"]
abbrev G_row : List Str := ["isinstance", "tuple", "len"]
theorem so_row : ScOk N_row G_row (defScope s_row) := ⟨by decide +kernel, by decide +kernel, by decide +kernel⟩
theorem sc_row : FnScope N_row P_row (defScope s_row) := ⟨rfl, rfl, rfl, by decide +kernel, rfl, by decide +kernel, by decide +kernel⟩
abbrev s_parts : Stmt := topS 41
abbrev N_parts : List Str := ["_law_tree"]
abbrev P_parts : List Str := ["_law_tree"]
abbrev G_parts : List Str := []
theorem so_parts : ScOk N_parts G_parts (defScope s_parts) := ⟨by decide +kernel, by decide +kernel, by decide +kernel⟩
abbrev C_parts : List Str := ["_law_item"]
theorem sc_parts : FnScope (N_parts ++ C_parts) P_parts (defScope s_parts) := ⟨rfl, rfl, rfl, by decide +kernel, rfl, by decide +kernel, by decide +kernel⟩
abbrev s_env : Stmt := topS 42
abbrev N_env : List Str := ["_law_env_here", "_law_ref", "_law_value_here", "_law_more", "_law_other_here"]
abbrev P_env : List Str := ["_law_env_here", "_law_ref", "_law_value_here"]
abbrev G_env : List Str := []
theorem so_env : ScOk N_env G_env (defScope s_env) := ⟨by decide +kernel, by decide +kernel, by decide +kernel⟩
theorem sc_env : FnScope N_env P_env (defScope s_env) := ⟨rfl, rfl, rfl, by decide +kernel, rfl, by decide +kernel, by decide +kernel⟩
abbrev s_pay : Stmt := topS 43
abbrev N_pay : List Str := ["_law_state", "_law_value_here", "_law_mode", "_law_paid"]
abbrev P_pay : List Str := ["_law_state", "_law_value_here", "_law_mode", "_law_paid"]
abbrev G_pay : List Str := ["_law_value", "_law_env"]
theorem so_pay : ScOk N_pay G_pay (defScope s_pay) := ⟨by decide +kernel, by decide +kernel, by decide +kernel⟩
theorem sc_pay : FnScope N_pay P_pay (defScope s_pay) := ⟨rfl, rfl, rfl, by decide +kernel, rfl, by decide +kernel, by decide +kernel⟩
abbrev s_open : Stmt := topS 44
abbrev N_open : List Str := ["_law_state", "_law_value_here", "_law_name_here", "_law_index", "_law_tree"]
abbrev P_open : List Str := ["_law_state", "_law_value_here", "_law_name_here", "_law_index"]
abbrev G_open : List Str := ["str", "_law_value"]
theorem so_open : ScOk N_open G_open (defScope s_open) := ⟨by decide +kernel, by decide +kernel, by decide +kernel⟩
theorem sc_open : FnScope N_open P_open (defScope s_open) := ⟨rfl, rfl, rfl, by decide +kernel, rfl, by decide +kernel, by decide +kernel⟩
abbrev s_value : Stmt := topS 45
abbrev N_value : List Str := ["_law_state", "_law_tree", "_law_env_here", "_law_level", "_law_name_here", "_law_value_here"]
abbrev P_value : List Str := ["_law_state", "_law_tree", "_law_env_here", "_law_level"]
abbrev G_value : List Str := ["_law_value", "_law_pay", "_law_open", "int", "_law_env"]
theorem so_value : ScOk N_value G_value (defScope s_value) := ⟨by decide +kernel, by decide +kernel, by decide +kernel⟩
theorem sc_value : FnScope N_value P_value (defScope s_value) := ⟨rfl, rfl, rfl, by decide +kernel, rfl, by decide +kernel, by decide +kernel⟩
abbrev s_quote : Stmt := topS 46
abbrev N_quote : List Str := ["_law_state", "_law_value_here", "_law_depth", "_law_fresh", "_law_actions", "_law_action_here"]
abbrev P_quote : List Str := ["_law_state", "_law_value_here", "_law_depth"]
abbrev G_quote : List Str := ["_law_quote", "_law_pay", "tuple"]
theorem so_quote : ScOk N_quote G_quote (defScope s_quote) := ⟨by decide +kernel, by decide +kernel, by decide +kernel⟩
theorem sc_quote : FnScope N_quote P_quote (defScope s_quote) := ⟨rfl, rfl, rfl, by decide +kernel, rfl, by decide +kernel, by decide +kernel⟩
abbrev s_reading : Stmt := topS 47
abbrev N_reading : List Str := ["_law_state", "_law_claim", "_law_tree", "_law_env_here", "_law_row_here"]
abbrev P_reading : List Str := ["_law_state", "_law_claim", "_law_tree"]
abbrev G_reading : List Str := ["_law_quote", "_law_value"]
theorem so_reading : ScOk N_reading G_reading (defScope s_reading) := ⟨by decide +kernel, by decide +kernel, by decide +kernel⟩
theorem sc_reading : FnScope N_reading P_reading (defScope s_reading) := ⟨rfl, rfl, rfl, by decide +kernel, rfl, by decide +kernel, by decide +kernel⟩
abbrev s_drawn : Stmt := topS 48
abbrev N_drawn : List Str := ["_law_pool_here", "_law_names", "_law_room", "_law_depth", "_law_takes", "_law_times", "_law_pick", "_law_index", "_law_one", "_law_at", "_law_head", "_law_actions", "_law_k"]
abbrev P_drawn : List Str := ["_law_pool_here", "_law_names", "_law_room", "_law_depth", "_law_takes", "_law_times"]
abbrev G_drawn : List Str := ["_law_next", "_law_drawn", "_law_name", "len", "range", "_law_action", "tuple"]
theorem so_drawn : ScOk N_drawn G_drawn (defScope s_drawn) := ⟨by decide +kernel, by decide +kernel, by decide +kernel⟩
theorem sc_drawn : FnScope N_drawn P_drawn (defScope s_drawn) := ⟨rfl, rfl, rfl, by decide +kernel, rfl, by decide +kernel, by decide +kernel⟩
abbrev s_action : Stmt := topS 49
abbrev N_action : List Str := ["_law_pool_here", "_law_names", "_law_room", "_law_depth", "_law_takes", "_law_times", "_law_pick", "_law_mode"]
abbrev P_action : List Str := ["_law_pool_here", "_law_names", "_law_room", "_law_depth", "_law_takes", "_law_times"]
abbrev G_action : List Str := ["_law_next", "_law_name", "_law_drawn"]
theorem so_action : ScOk N_action G_action (defScope s_action) := ⟨by decide +kernel, by decide +kernel, by decide +kernel⟩
theorem sc_action : FnScope N_action P_action (defScope s_action) := ⟨rfl, rfl, rfl, by decide +kernel, rfl, by decide +kernel, by decide +kernel⟩
abbrev s_weight : Stmt := topS 50
abbrev N_weight : List Str := ["_law_reading_here", "_law_copied", "_law_total", "_law_action_here"]
abbrev P_weight : List Str := ["_law_reading_here", "_law_copied"]
abbrev G_weight : List Str := ["_law_weight"]
theorem so_weight : ScOk N_weight G_weight (defScope s_weight) := ⟨by decide +kernel, by decide +kernel, by decide +kernel⟩
theorem sc_weight : FnScope N_weight P_weight (defScope s_weight) := ⟨rfl, rfl, rfl, by decide +kernel, rfl, by decide +kernel, by decide +kernel⟩
abbrev s_other : Stmt := topS 51
abbrev N_other : List Str := ["_law_reading_here", "_law_names", "_law_last"]
abbrev P_other : List Str := ["_law_reading_here", "_law_names"]
abbrev G_other : List Str := ["_law_other", "isinstance", "str", "int"]
theorem so_other : ScOk N_other G_other (defScope s_other) := ⟨by decide +kernel, by decide +kernel, by decide +kernel⟩
theorem sc_other : FnScope N_other P_other (defScope s_other) := ⟨rfl, rfl, rfl, by decide +kernel, rfl, by decide +kernel, by decide +kernel⟩
abbrev s_spots : Stmt := topS 52
abbrev N_spots : List Str := ["_law_tree", "_law_path", "_law_level", "_law_found", "_law_parts_here", "_law_k", "_law_brought"]
abbrev P_spots : List Str := ["_law_tree", "_law_path", "_law_level"]
abbrev G_spots : List Str := ["_law_parts", "range", "len", "_law_spots", "int"]
theorem so_spots : ScOk N_spots G_spots (defScope s_spots) := ⟨by decide +kernel, by decide +kernel, by decide +kernel⟩
theorem sc_spots : FnScope N_spots P_spots (defScope s_spots) := ⟨rfl, rfl, rfl, by decide +kernel, rfl, by decide +kernel, by decide +kernel⟩
abbrev s_can : Stmt := topS 53
abbrev N_can : List Str := ["_law_row_here", "_law_level", "_law_above"]
abbrev P_can : List Str := ["_law_row_here", "_law_level"]
abbrev G_can : List Str := []
theorem so_can : ScOk N_can G_can (defScope s_can) := ⟨by decide +kernel, by decide +kernel, by decide +kernel⟩
theorem sc_can : FnScope N_can P_can (defScope s_can) := ⟨rfl, rfl, rfl, by decide +kernel, rfl, by decide +kernel, by decide +kernel⟩
abbrev s_same : Stmt := topS 54
abbrev N_same : List Str := ["_law_told", "_law_due"]
abbrev P_same : List Str := ["_law_told", "_law_due"]
abbrev G_same : List Str := ["isinstance", "tuple", "int", "bool", "len", "range"]
theorem so_same : ScOk N_same G_same (defScope s_same) := ⟨by decide +kernel, by decide +kernel, by decide +kernel⟩
abbrev C_same : List Str := ["_law_k"]
theorem sc_same : FnScope (N_same ++ C_same) P_same (defScope s_same) := ⟨rfl, rfl, rfl, by decide +kernel, rfl, by decide +kernel, by decide +kernel⟩
abbrev s_put : Stmt := topS 55
abbrev N_put : List Str := ["_law_tree", "_law_path", "_law_other_here", "_law_parts_here"]
abbrev P_put : List Str := ["_law_tree", "_law_path", "_law_other_here"]
abbrev G_put : List Str := ["_law_parts", "_law_put", "len", "tuple"]
theorem so_put : ScOk N_put G_put (defScope s_put) := ⟨by decide +kernel, by decide +kernel, by decide +kernel⟩
theorem sc_put : FnScope N_put P_put (defScope s_put) := ⟨rfl, rfl, rfl, by decide +kernel, rfl, by decide +kernel, by decide +kernel⟩
abbrev s_spoilt : Stmt := topS 56
abbrev N_spoilt : List Str := ["_law_pool_here", "_law_tree", "_law_k", "_law_spots_here", "_law_spot", "_law_row_here"]
abbrev P_spoilt : List Str := ["_law_pool_here", "_law_tree"]
abbrev G_spoilt : List Str := ["range", "_law_next", "_law_spots", "len", "_law_put"]
theorem so_spoilt : ScOk N_spoilt G_spoilt (defScope s_spoilt) := ⟨by decide +kernel, by decide +kernel, by decide +kernel⟩
theorem sc_spoilt : FnScope N_spoilt P_spoilt (defScope s_spoilt) := ⟨rfl, rfl, rfl, by decide +kernel, rfl, by decide +kernel, by decide +kernel⟩
abbrev s_first : Stmt := topS 57
abbrev N_first : List Str := ["_law_tree", "_law_spot"]
abbrev P_first : List Str := ["_law_tree"]
abbrev G_first : List Str := ["_law_spots"]
theorem so_first : ScOk N_first G_first (defScope s_first) := ⟨by decide +kernel, by decide +kernel, by decide +kernel⟩
theorem sc_first : FnScope N_first P_first (defScope s_first) := ⟨rfl, rfl, rfl, by decide +kernel, rfl, by decide +kernel, by decide +kernel⟩
abbrev s_settled : Stmt := topS 58
abbrev N_settled : List Str := ["_law_tree", "_law_names", "_law_spot", "_law_row_here"]
abbrev P_settled : List Str := ["_law_tree", "_law_names"]
abbrev G_settled : List Str := ["_law_spots", "_law_can", "isinstance", "str"]
theorem so_settled : ScOk N_settled G_settled (defScope s_settled) := ⟨by decide +kernel, by decide +kernel, by decide +kernel⟩
theorem sc_settled : FnScope N_settled P_settled (defScope s_settled) := ⟨rfl, rfl, rfl, by decide +kernel, rfl, by decide +kernel, by decide +kernel⟩
abbrev s_refused : Stmt := topS 59
abbrev N_refused : List Str := ["_law_first_here", "_law_second", "_law_path", "_law_found", "e"]
abbrev P_refused : List Str := ["_law_first_here", "_law_second", "_law_path"]
abbrev G_refused : List Str := ["alike", "NotBare", "isinstance", "HeldError", "ValueError", "NoPart", "len", "_law_same"]
theorem so_refused : ScOk N_refused G_refused (defScope s_refused) := ⟨by decide +kernel, by decide +kernel, by decide +kernel⟩
theorem sc_refused : FnScope N_refused P_refused (defScope s_refused) := ⟨rfl, rfl, rfl, by decide +kernel, rfl, by decide +kernel, by decide +kernel⟩
abbrev s_law : Stmt := topS 60
abbrev N_law : List Str := ["_law_script", "_law_pool_here", "_law_names", "_law_k", "_law_reading_here", "_law_tree", "_law_claim", "_law_rows", "_law_more", "_law_small", "_law_other_here", "_law_told", "_law_low", "_law_spoilt_here", "_law_path", "_law_found", "e"]
abbrev P_law : List Str := ["_law_script"]
abbrev G_law : List Str := ["_law_pool", "range", "_law_next", "_law_name", "_law_drawn", "_law_weight", "settled_from", "_law_is_tree", "_law_settled", "tuple", "_law_same", "_law_reading", "len", "_law_spots", "row_count", "is_bare", "read_bare", "alike", "_law_other", "isinstance", "bool", "_law_spoilt", "_law_first", "NotBare", "_law_refused"]
theorem so_law : ScOk N_law G_law (defScope s_law) := ⟨by decide +kernel, by decide +kernel, by decide +kernel⟩
abbrev C_law : List Str := ["_law_name_here"]
theorem sc_law : FnScope (N_law ++ C_law) P_law (defScope s_law) := ⟨rfl, rfl, rfl, by decide +kernel, rfl, by decide +kernel, by decide +kernel⟩
theorem bk_read_row0 : BkOk (N_read_row ++ C_read_row) [(7, "premise"), (1, "level"), (2, "takes"), (3, "meanings")] [] 7 "premise" (defScope s_read_row) (xSc (exA (stE (stB ((defBody s_read_row).getD 2 nS) 0 0)) 1)) := ⟨by decide +kernel, by decide +kernel, by decide +kernel, by decide +kernel⟩
theorem bk_with_meaning0 : BkOk (N_with_meaning ++ C_with_meaning) [(4, "ref"), (0, "meanings")] [] 4 "ref" (defScope s_with_meaning) (xSc (stE ((defBody s_with_meaning).getD 0 nS))) := ⟨by decide +kernel, by decide +kernel, by decide +kernel, by decide +kernel⟩
theorem bk_reading_of0 : BkOk (N_reading_of ++ C_reading_of) [(1, "made")] [] 4 "_" (defScope s_reading_of) (xSc (exA (exA (exA (stE (stB (stB ((defBody s_reading_of).getD 1 nS) 0 0) 0 0)) 1) 2) 1)) := ⟨by decide +kernel, by decide +kernel, by decide +kernel, by decide +kernel⟩
theorem bk_parts0 : BkOk (N_parts ++ C_parts) [(1, "_law_item")] ["_law_row"] 1 "_law_item" (defScope s_parts) (xSc (stE ((defBody s_parts).getD 0 nS))) := ⟨by decide +kernel, by decide +kernel, by decide +kernel, by decide +kernel⟩
theorem bk_same0 : BkOk (N_same ++ C_same) [(2, "_law_k"), (0, "_law_told"), (1, "_law_due")] ["_law_same"] 2 "_law_k" (defScope s_same) (xSc (exA (exA (stE ((defBody s_same).getD 1 nS)) 1) 0)) := ⟨by decide +kernel, by decide +kernel, by decide +kernel, by decide +kernel⟩
theorem bk_law0 : BkOk (N_law ++ C_law) [(17, "_law_name_here")] [] 17 "_law_name_here" (defScope s_law) (xSc (exA (exA (stE ((defBody s_law).getD 7 nS)) 0) 1)) := ⟨by decide +kernel, by decide +kernel, by decide +kernel, by decide +kernel⟩
local macro_rules | `(tactic| walk_at "bl") => `(tactic| first
  | refine e_callB (x := "len") (by assumption) b_len ?_
  | refine e_callB (x := "isinstance") (by assumption) b_isi ?_
  | refine e_callB (x := "abs") (by assumption) b_abs ?_
  | refine e_callB (x := "max") (by assumption) b_max ?_
  | refine e_callB (x := "min") (by assumption) b_min ?_
  | refine e_callTy (x := "str") (by assumption) b_str ?_
  | refine e_callTy (x := "int") (by assumption) b_int ?_)
local macro_rules | `(tactic| walk_at "gl") => `(tactic| first
  | refine e_bltn (x := "int") (v := .ty "int") (by assumption) b_int rfl ?_
  | refine e_bltn (x := "bool") (v := .ty "bool") (by assumption) b_bool rfl ?_
  | refine e_bltn (x := "str") (v := .ty "str") (by assumption) b_str rfl ?_
  | refine e_bltn (x := "tuple") (v := .ty "tuple") (by assumption) b_tuple rfl ?_
  | refine e_bltn (x := "list") (v := .ty "list") (by assumption) b_list rfl ?_)
local macro_rules | `(tactic| walk_at "st") => `(tactic| first
  | refine l_cons ?_
  | refine s_ret ?_
  | refine s_if ?_
  | refine s_set ?_
  | refine s_sub ?_
  | refine e_var ?_
  | refine e_int ?_
  | refine e_ix ?_
  | refine a_cons ?_
  | refine a_nil ?_
  | refine t_cmp ?_
  | refine t_not ?_
  | refine t_w (w_and ?_)
  | refine t_w (w_or ?_)
  | refine w_and ?_
  | refine w_or ?_
  | refine w_and1 ?_
  | refine w_or1 ?_
  | refine t_val ?_
  | refine e_str ?_
  | refine e_bl ?_
  | refine e_non ?_
  | refine e_bin ?_
  | refine e_cmp ?_
  | refine e_and ?_
  | refine e_or ?_
  | refine e_not ?_
  | refine e_one ?_
  | refine l_nil ?_
  | refine s_expr ?_
  | refine e_tup ?_
  | refine e_lst ?_
  | refine ⟨_, rfl, ?_⟩
  | ((with_reducible refine ite_t ?hc ?_); (case hc => exact rfl))
  | ((with_reducible refine ite_f ?hc ?_); (case hc => exact rfl))
  | refine o_add ?_
  | refine o_sub ?_
  | refine o_lt ?_
  | refine o_le ?_
  | refine o_gt ?_
  | refine o_ge ?_
  | refine o_eqI ?_
  | refine o_neI ?_
  | refine o_eqS ?_
  | refine o_neB ?_
  | refine o_isN ?_
  | refine o_nisB ?_
  | refine o_isB ?_
  | refine e_neg ?_
  | refine o_eqB ?_
  | refine c_int ?_
  | refine c_abs ?_
  | refine c_max rfl ?_
  | refine c_min rfl ?_
  | refine a_cons (e_fld ?_)
  | walk_at "bl"
  | walk_at "gl")
local macro_rules | `(tactic| walk_at "sts") => `(tactic| repeat walk_at "st")
section
variable {P : Program} {w : World} {K : PySem.W.Frag} {mg : Str → Option Value} {base : Heap}
def PoolAt (H : Hp) (a : Addr) : Prop := ∃ x y z : Int, H a = some (.lst [.int x, .int y, .int z])
def spCell (K : PySem.W.Frag) : Sp := fun vs H Q _ => ∃ (a : Addr) (ns : List Int) (k : Nat), vs = [.ref a, .int k] ∧ SqL K H a (ns.map V.int) ∧ ∀ z : Int, 0 ≤ z → Q (.int z) H
theorem ok_cell (T : Top K mg "_law_cell" s_cell) (mLen : mg "len" = none) (mAbs : mg "abs" = none) : Fn P w K mg base 1 "_law_cell" (spCell K) := by
  refine fn_ok T sc_cell so_cell (fun vs H Q E h => ?_) (fun _ _ _ _ _ _ us hl => match us, hl with | [_, _], _ => rfl) fun f cdv A outer s H vs Q E hr h nd => ?_
  · obtain ⟨a, ns, k, rfl, _⟩ := h
    rfl
  · obtain ⟨a, ns, k, rfl, hS, q⟩ := h
    walk_at "sts"
    refine c_lenL (by exact hS) ?_
    walk_at "sts"
    refine if2 (fun h => ?_) (fun h => ?_)
    · rw [List.length_map] at h
      have hk : k < ns.length := by omega
      walk_at "sts"
      refine ix_l (by exact hS) (atI_nat (v := .int ns[k]) (by simp [hk])) ?_
      walk_at "sts"
      exact q _ (by split <;> omega)
    · walk_at "sts"
      exact q _ (Int.le_refl _)
def spPool (K : PySem.W.Frag) : Sp := fun vs H Q _ => ∃ (a : Addr) (ns : List Int) (k : Nat), vs = [.ref a, .int k] ∧ SqL K H a (ns.map V.int) ∧ ∀ p H', Same H H' → H p = none → PoolAt H' p → Q (.ref p) H'
theorem ok_pool (T : Top K mg "_law_pool" s_pool) (F : Fn P w K mg base 1 "_law_cell" (spCell K)) (mInt : mg "int" = none) : Fn P w K mg base 2 "_law_pool" (spPool K) := by
  refine fn_ok T sc_pool so_pool (fun vs H Q E h => ?_) (fun _ _ _ _ _ _ us hl => match us, hl with | [_, _], _ => rfl) fun f cdv A outer s H vs Q E hr h nd => ?_
  · obtain ⟨a, ns, k, rfl, _⟩ := h
    rfl
  · obtain ⟨a, ns, k, rfl, hS, q⟩ := h
    walk_at "sts"
    refine e_call (by exact F) (by exact hr) (by decide) ?_
    walk_at "sts"
    refine ⟨a, ns, k, rfl, hS, fun z hz => ?_⟩
    walk_at "sts"
    refine o_pow ⟨by decide, by decide, by decide⟩ ?_
    walk_at "sts"
    refine if2 (fun h => ?_) (fun h => ?_)
    · walk_at "sts"
      refine o_mod (by decide) ?_
      walk_at "sts"
      refine ⟨by show 3 ≤ sizeLine; decide, fun p H2 e np hp => ?_⟩
      exact q p H2 e np ⟨_, _, _, hp⟩
    · walk_at "sts"
      refine ⟨by show 3 ≤ sizeLine; decide, fun p H2 e np hp => ?_⟩
      exact q p H2 e np ⟨_, _, _, hp⟩
def spNext : Sp := fun vs H Q _ => ∃ (a : Addr) (m : Int), vs = [.ref a, .int m] ∧ 0 < m ∧ m < 1073741824 ∧ PoolAt H a ∧ ∀ d H', 0 ≤ d → d < m → But a H H' → PoolAt H' a → Q (.int d) H'
theorem ok_next (T : Top K mg "_law_next" s_next) (mInt : mg "int" = none) : Fn P w K mg base 1 "_law_next" spNext := by
  refine fn_ok T sc_next so_next (fun vs H Q E h => ?_) (fun _ _ _ _ _ _ us hl => match us, hl with | [_, _], _ => rfl) fun f cdv A outer s H vs Q E hr h nd => ?_
  · obtain ⟨a, m, rfl, _⟩ := h
    rfl
  · obtain ⟨a, m, rfl, m0, m1, ⟨x, y, z, hp⟩, q⟩ := h
    walk_at "sts"
    refine ix_l (by exact SqL.of hp) rfl ?_
    walk_at "sts"
    refine if2 (fun h => ?_) (fun h => ?_)
    · walk_at "sts"
      refine ix_l (by exact SqL.of hp) rfl ?_
      walk_at "sts"
      refine o_mod m0 ?_
      walk_at "sts"
      refine ix_l (by exact SqL.of hp) rfl ?_
      walk_at "sts"
      refine o_fdiv ⟨m0, m1⟩ ?_
      walk_at "sts"
      refine set_l hp rfl ?_
      walk_at "sts"
      exact q _ _ (Int.emod_nonneg _ (by omega)) (Int.emod_lt_of_pos _ m0) (But.refl.upd) ⟨_, _, _, upd_same⟩
    · walk_at "sts"
      refine ix_l (by exact SqL.of hp) rfl ?_
      walk_at "sts"
      refine set_l hp rfl ?_
      walk_at "sts"
      refine ix_l (by exact SqL.of upd_same) rfl ?_
      walk_at "sts"
      refine ix_l (by exact SqL.of upd_same) rfl ?_
      walk_at "sts"
      refine o_mul (.inl (by decide)) ?_
      walk_at "sts"
      refine o_mod (by decide) ?_
      walk_at "sts"
      have b1 := Int.emod_nonneg (z + 7919 * (y + 1) + 13) (show (2147483647 : Int) ≠ 0 by decide)
      have b2 := Int.emod_lt_of_pos (z + 7919 * (y + 1) + 13) (show (0 : Int) < 2147483647 by decide)
      refine o_mul (.inl ⟨by omega, by omega⟩) ?_
      walk_at "sts"
      refine o_mod (by decide) ?_
      walk_at "sts"
      generalize (z + 7919 * (y + 1) + 13) % 2147483647 = u at *
      have c1 := Int.emod_nonneg (u * (u + 48271)) (show (2147483629 : Int) ≠ 0 by decide)
      have c2 := Int.emod_lt_of_pos (u * (u + 48271)) (show (0 : Int) < 2147483629 by decide)
      refine o_mul (.inl ⟨by omega, by omega⟩) ?_
      walk_at "sts"
      refine ix_l (by exact SqL.of upd_same) rfl ?_
      walk_at "sts"
      refine o_mul (.inl (by decide)) ?_
      walk_at "sts"
      refine o_mod (by decide) ?_
      walk_at "sts"
      refine o_fdiv (by decide) ?_
      walk_at "sts"
      refine o_mod m0 ?_
      walk_at "sts"
      exact q _ _ (Int.emod_nonneg _ (by omega)) (Int.emod_lt_of_pos _ m0) (But.refl.upd) ⟨_, _, _, upd_same⟩
end
theorem none_of {H H' : Hp} {p : Addr} (s : Same H H') (n : H' p = none) : H p = none := by
  cases hz : H p with
  | none => rfl
  | some o => exact absurd (s p o hz) (by rw [n]; intro z; cases z)
/-- all tuples stay -/
def TS (H H' : Hp) : Prop := ∀ t xs, H t = some (.tup xs) → H' t = some (.tup xs)
theorem Same.ts {H H' : Hp} (s : Same H H') : TS H H' := fun t xs h => s t _ h
theorem But.ts {a : Addr} {H H' : Hp} {l : List V} (b : But a H H') (ha : H a = some (.lst l)) : TS H H' := fun t xs h => b.tup ha h
theorem PoolAt.ts {a : Addr} {H H' : Hp} (h : PoolAt H a) (b : But a H H') : TS H H' := let ⟨_, _, _, e⟩ := h; But.ts b e
theorem TS.upd {a : Addr} {H : Hp} {l : List V} {o : HO} (ha : H a = some (.lst l)) : TS H (L2.upd H a o) := fun t xs h => by
  rw [upd_ne (ne_of h ha (by intro z; cases z))]
  exact h
theorem TS.trans {H H1 H2 : Hp} (a : TS H H1) (b : TS H1 H2) : TS H H2 := fun t xs h => b t xs (a t xs h)
/-! ### rows, as data -/
inductive Kd where
  | own | take | offer | pick | pay | make | open_ | cut | cite
  deriving DecidableEq
def Kd.nm : Kd → Str
  | .own => "own" | .take => "take" | .offer => "offer" | .pick => "pick" | .pay => "pay" | .make => "make" | .open_ => "open" | .cut => "cut" | .cite => "cite"
def Kd.fs : Kd → List Str
  | .own => ["ref"] | .take => [] | .offer => [] | .pick => ["ref", "side"] | .pay => ["ref", "kind"] | .make => ["name", "index"] | .open_ => ["ref", "name", "index"] | .cut => ["kind", "sentence"] | .cite => ["name"]
def Kd.pr : Kd → Nat
  | .own => 0 | .take => 1 | .offer => 2 | .pick => 1 | .pay => 2 | .make => 1 | .open_ => 1 | .cut => 2 | .cite => 0
def Kd.rf : Kd → Bool
  | .own => true | .pick => true | .pay => true | .open_ => true | _ => false
abbrev allKd : List Kd := [.own, .take, .offer, .pick, .pay, .make, .open_, .cut, .cite]
/-- a field that is no row and no reference: a number, a text, a kind in stock, a cut's sentence -/
inductive Fd where
  | i (n : Int) | s (z : Str) | p (a b : Int) | c (z : Str)
def FdV (H : Hp) : Fd → V → Prop
  | .i n, v => v = .int n
  | .s z, v => v = .str z
  | .p a b, v => ∃ t, v = .ref t ∧ H t = some (.tup [.int a, .int b])
  | .c z, v => ∃ t, v = .ref t ∧ H t = some (.tup [.str "word", .str z])
theorem FdV.ts {H H' : Hp} (e : TS H H') : ∀ {f : Fd} {v : V}, FdV H f v → FdV H' f v
  | .i _, _, h => h
  | .s _, _, h => h
  | .p _ _, _, ⟨t, h1, h2⟩ => ⟨t, h1, e _ _ h2⟩
  | .c _, _, ⟨t, h1, h2⟩ => ⟨t, h1, e _ _ h2⟩
def FsV (H : Hp) : List Fd → List V → Prop
  | [], vs => vs = []
  | f :: fs, vs => ∃ v us, vs = v :: us ∧ FdV H f v ∧ FsV H fs us
theorem FsV.ts {H H' : Hp} (e : TS H H') : ∀ {f : List Fd} {v : List V}, FsV H f v → FsV H' f v
  | [], _, h => h
  | _ :: _, _, ⟨v, us, h1, h2, h3⟩ => ⟨v, us, h1, h2.ts e, h3.ts e⟩
theorem FsV.len {H : Hp} : ∀ {f : List Fd} {v : List V}, FsV H f v → v.length = f.length
  | [], _, h => by rw [show _ = _ from h]; rfl
  | _ :: _, _, ⟨v, us, h1, h2, h3⟩ => by rw [h1, List.length_cons, List.length_cons, h3.len]
structure Hd where
  k : Kd
  r : Option Key
  f : List Fd
def rL (r : Option Key) : List V := (r.map kV).toList
/-- a head that is well formed -/
def Hd.Ok (h : Hd) : Prop := h.r.isSome = h.k.rf ∧ (rL h.r).length + h.f.length = h.k.fs.length
def HdL (H : Hp) (h : Hd) (xs : List V) : Prop := ∃ fs, xs = .str h.k.nm :: (rL h.r ++ fs) ∧ FsV H h.f fs
theorem HdL.ts {H H' : Hp} (e : TS H H') {h : Hd} {xs : List V} : HdL H h xs → HdL H' h xs := fun ⟨fs, h1, h2⟩ => ⟨fs, h1, h2.ts e⟩
theorem HdL.len {H : Hp} {h : Hd} {xs : List V} (o : h.Ok) : HdL H h xs → xs.length = 1 + h.k.fs.length := fun ⟨fs, h1, h2⟩ => by
  rw [h1, List.length_cons, List.length_append, h2.len, ← o.2, Nat.add_comm]
def HdV (H : Hp) (h : Hd) (v : V) : Prop := ∃ t xs, v = .ref t ∧ H t = some (.tup xs) ∧ HdL H h xs
theorem HdV.ts {H H' : Hp} (e : TS H H') {h : Hd} {v : V} : HdV H h v → HdV H' h v := fun ⟨t, xs, h1, h2, h3⟩ => ⟨t, xs, h1, e _ _ h2, h3.ts e⟩
inductive Tr where
  | le (h : Hd) | un (h : Hd) (a : Tr) | bi (h : Hd) (a b : Tr)
def Tr.hd : Tr → Hd
  | .le h => h | .un h _ => h | .bi h _ _ => h
def Tr.ks : Tr → List Tr
  | .le _ => [] | .un _ a => [a] | .bi _ a b => [a, b]
def Tr.Ok : Tr → Prop
  | .le h => h.Ok ∧ h.k.pr = 0
  | .un h a => h.Ok ∧ h.k.pr = 1 ∧ a.Ok
  | .bi h a b => h.Ok ∧ h.k.pr = 2 ∧ a.Ok ∧ b.Ok
def Tr.size : Tr → Nat
  | .le _ => 1 | .un _ a => a.size + 1 | .bi _ a b => a.size + b.size + 1
def Tr.dep : Tr → Nat
  | .le _ => 0 | .un _ a => a.dep + 1 | .bi _ a b => max a.dep b.dep + 1
def TrV (H : Hp) : Tr → V → Prop
  | .le h, v => ∃ t xs, v = .ref t ∧ H t = some (.tup (xs ++ [])) ∧ HdL H h xs
  | .un h a, v => ∃ t xs x, v = .ref t ∧ H t = some (.tup (xs ++ [x])) ∧ HdL H h xs ∧ TrV H a x
  | .bi h a b, v => ∃ t xs x y, v = .ref t ∧ H t = some (.tup (xs ++ [x, y])) ∧ HdL H h xs ∧ TrV H a x ∧ TrV H b y
theorem TrV.ts {H H' : Hp} (e : TS H H') : ∀ {t : Tr} {v : V}, TrV H t v → TrV H' t v
  | .le _, _, ⟨t, xs, h1, h2, h3⟩ => ⟨t, xs, h1, e _ _ h2, h3.ts e⟩
  | .un _ _, _, ⟨t, xs, x, h1, h2, h3, h4⟩ => ⟨t, xs, x, h1, e _ _ h2, h3.ts e, h4.ts e⟩
  | .bi _ _ _, _, ⟨t, xs, x, y, h1, h2, h3, h4, h5⟩ => ⟨t, xs, x, y, h1, e _ _ h2, h3.ts e, h4.ts e, h5.ts e⟩
def TrsV (H : Hp) : List Tr → List V → Prop
  | [], vs => vs = []
  | t :: ts, vs => ∃ v us, vs = v :: us ∧ TrV H t v ∧ TrsV H ts us
theorem TrsV.ts {H H' : Hp} (e : TS H H') : ∀ {f : List Tr} {v : List V}, TrsV H f v → TrsV H' f v
  | [], _, h => h
  | _ :: _, _, ⟨v, us, h1, h2, h3⟩ => ⟨v, us, h1, h2.ts e, h3.ts e⟩
theorem TrsV.len {H : Hp} : ∀ {f : List Tr} {v : List V}, TrsV H f v → v.length = f.length
  | [], _, h => by rw [show _ = _ from h]; rfl
  | _ :: _, _, ⟨v, us, h1, h2, h3⟩ => by rw [h1, List.length_cons, List.length_cons, h3.len]
theorem TrsV.append {H : Hp} : ∀ {f g : List Tr} {v u : List V}, TrsV H f v → TrsV H g u → TrsV H (f ++ g) (v ++ u)
  | [], _, _, _, h, k => by rw [show _ = _ from h]; exact k
  | _ :: _, _, _, _, ⟨v, us, h1, h2, h3⟩, k => by
    subst h1
    exact ⟨v, _, rfl, h2, h3.append k⟩
theorem TrsV.reverse {H : Hp} : ∀ {f : List Tr} {v : List V}, TrsV H f v → TrsV H f.reverse v.reverse
  | [], _, h => by rw [show _ = _ from h]; exact rfl
  | _ :: _, _, ⟨v, us, h1, h2, h3⟩ => by
    subst h1
    rw [List.reverse_cons, List.reverse_cons]
    exact h3.reverse.append ⟨v, [], rfl, h2, rfl⟩
/-- a tree's tuple: the head's items, then the premises -/
theorem TrV.split {H : Hp} : ∀ {t : Tr} {v : V}, TrV H t v → ∃ p xs ys, v = .ref p ∧ H p = some (.tup (xs ++ ys)) ∧ HdL H t.hd xs ∧ TrsV H t.ks ys
  | .le _, _, ⟨t, xs, h1, h2, h3⟩ => ⟨t, xs, [], h1, h2, h3, rfl⟩
  | .un _ _, _, ⟨t, xs, x, h1, h2, h3, h4⟩ => ⟨t, xs, [x], h1, h2, h3, x, [], rfl, h4, rfl⟩
  | .bi _ _ _, _, ⟨t, xs, x, y, h1, h2, h3, h4, h5⟩ => ⟨t, xs, [x, y], h1, h2, h3, x, [y], rfl, h4, y, [], rfl, h5, rfl⟩
theorem Tr.Ok.hd : ∀ {t : Tr}, t.Ok → t.hd.Ok ∧ t.hd.k.pr = t.ks.length ∧ ∀ a ∈ t.ks, a.Ok
  | .le _, ⟨h1, h2⟩ => ⟨h1, h2, by simp [Tr.ks]⟩
  | .un _ a, ⟨h1, h2, h3⟩ => ⟨h1, h2, by simpa [Tr.ks] using h3⟩
  | .bi _ a b, ⟨h1, h2, h3, h4⟩ => ⟨h1, h2, by simpa [Tr.ks] using ⟨h3, h4⟩⟩
/-- the heads in preorder -/
def hds : Tr → List Hd
  | .le h => [h] | .un h a => h :: hds a | .bi h a b => h :: (hds a ++ hds b)
def hdsL (ts : List Tr) : List Hd := ts.flatMap hds
theorem hds_eq (t : Tr) : hds t = t.hd :: hdsL t.ks := by
  cases t <;> simp [hds, hdsL, Tr.hd, Tr.ks]
/-- a stack of trees out of heads -/
def fstep (h : Hd) : Nat → List Tr → List Tr
  | 0, ts => .le h :: ts
  | 1, a :: ts => .un h a :: ts
  | 2, a :: b :: ts => .bi h a b :: ts
  | _, ts => ts
def fh : List Hd → List Tr
  | [] => []
  | h :: hs => fstep h h.k.pr (fh hs)
def Enough : List Hd → Prop
  | [] => True
  | h :: hs => Enough hs ∧ h.k.pr ≤ (fh hs).length
theorem fh_hds : ∀ {t : Tr} (_ : t.Ok) (s : List Hd), fh (hds t ++ s) = t :: fh s
  | .le h, ⟨_, h2⟩, s => by
    show fstep h h.k.pr (fh s) = _
    rw [h2]; rfl
  | .un h a, ⟨_, h2, h3⟩, s => by
    show fstep h h.k.pr (fh (hds a ++ s)) = _
    rw [h2, fh_hds h3]; rfl
  | .bi h a b, ⟨_, h2, h3, h4⟩, s => by
    show fstep h h.k.pr (fh (hds a ++ hds b ++ s)) = _
    rw [h2, List.append_assoc, fh_hds h3, fh_hds h4]; rfl
theorem enough_hds : ∀ {t : Tr} (_ : t.Ok) (s : List Hd), Enough s → Enough (hds t ++ s)
  | .le h, ⟨_, h2⟩, s, e => ⟨e, by rw [h2]; omega⟩
  | .un h a, ⟨_, h2, h3⟩, s, e => ⟨enough_hds h3 s e, by rw [h2]; show 1 ≤ (fh (hds a ++ s)).length; rw [fh_hds h3]; simp⟩
  | .bi h a b, ⟨_, h2, h3, h4⟩, s, e => by
    show Enough (h :: (hds a ++ hds b ++ s))
    rw [List.append_assoc]
    exact ⟨enough_hds h3 _ (enough_hds h4 s e), by rw [h2, fh_hds h3, fh_hds h4]; simp⟩
def Tr.map (g : Hd → Hd) : Tr → Tr
  | .le h => .le (g h) | .un h a => .un (g h) (a.map g) | .bi h a b => .bi (g h) (a.map g) (b.map g)
theorem hds_map (g : Hd → Hd) : ∀ t : Tr, hds (t.map g) = (hds t).map g
  | .le h => rfl
  | .un h a => by simp [Tr.map, hds, hds_map g a]
  | .bi h a b => by simp [Tr.map, hds, hds_map g a, hds_map g b]
/-- the tables of the module's top -/
def fsK (T : Kd → Addr) : List (Key × V) := allKd.map fun k => ((Sum.inr k.nm : Key), V.ref (T k))
def prK : List (Key × V) := allKd.map fun k => ((Sum.inr k.nm : Key), V.int (k.pr : Int))
structure Tabs (w : World) (K : PySem.W.Frag) (mg : Str → Option Value) : Prop where
  ex : ∃ (F D : Addr) (T : Kd → Addr), mg "FIELDS" = some (.ref F) ∧ mg "PREMISES" = some (.ref D) ∧ KDict w K F (fsK T) ∧ KDict w K D prK ∧ ∀ (H : Hp) k, SqT K H (T k) (k.fs.map V.str)
theorem fs_val (T : Kd → Addr) (k : Kd) : valV (fsK T) (Sum.inr k.nm) = some (V.ref (T k)) := by
  cases k <;> rfl
theorem pr_val (k : Kd) : valV prK (Sum.inr k.nm) = some (V.int (k.pr : Int)) := by
  cases k <;> rfl
theorem rf_in (k : Kd) : inV (.str "ref") (k.fs.map V.str) = k.rf := by
  cases k <;> decide +kernel
theorem fs_flat (k : Kd) : (k.fs.map V.str).all flatV = true := by
  cases k <;> rfl
theorem at0 {x : V} {l : List V} : atI (x :: l) 0 = some x := atI_nat (j := 0) rfl
theorem at1 {x y : V} {l : List V} : atI (x :: y :: l) 1 = some y := atI_nat (j := 1) rfl



section
variable {P : Program} {w : World} {K : PySem.W.Frag} {mg : Str → Option Value} {base : Heap}
def spPrem : Sp := fun vs H Q _ => ∃ p k rest xs ys, vs = [.ref p] ∧ H p = some (.tup (xs ++ ys)) ∧ xs = .str (Kd.nm k) :: rest ∧ xs.length = 1 + k.fs.length ∧ ∀ l H', Same H H' → H l = none → H' l = some (.lst ys) → Q (.ref l) H'
theorem ok_premises (T : Top K mg "premises" s_premises) (TB : Tabs w K mg) (mList : mg "list" = none) (mLen : mg "len" = none) : Fn P w K mg base 1 "premises" spPrem := by
  refine fn_ok T sc_premises so_premises (fun vs H Q E h => by obtain ⟨p, k, rest, xs, ys, rfl, _⟩ := h; rfl) (fun _ _ _ _ _ _ us hl => match us, hl with | [_], _ => rfl) fun f cdv A outer s H vs Q E hr h nd => ?_
  obtain ⟨p, k, rest, xs, ys, rfl, hp, ex, hl, q⟩ := h
  obtain ⟨FA, DA, TT, hF, hD, kF, kD, hT⟩ := TB.ex
  have hp0 : H p = some (.tup (.str (Kd.nm k) :: (rest ++ ys))) := by rw [hp, ex]; rfl
  refine l_cons (s_ret (e_callTy (x := "list") (by assumption) b_list (a_cons (e_tLo ?_))))
  walk_at "sts"
  refine e_glob (x := "FIELDS") (v := .ref FA) (u := .ref FA) (by exact hF) (by exact rfl) ?_
  walk_at "sts"
  refine ix_t (by exact SqT.of hp0) at0 ?_
  refine ix_kd (by exact kF) (by exact fs_val TT k) ?_
  walk_at "sts"
  refine c_lenT (hT _ k) ?_
  walk_at "sts"
  refine ⟨p, xs, ys, rfl, congrArg V.int ?_, hp, fun t H1 e1 h1 => ?_⟩
  · rw [List.length_map, hl]; omega
  · refine a_nil (c_listT h1 fun l H2 e2 n2 h2 => q l H2 (e1.trans e2) (none_of e1 n2) h2)
def spHead : Sp := fun vs H Q _ => ∃ p k rest xs ys, vs = [.ref p] ∧ H p = some (.tup (xs ++ ys)) ∧ xs = .str (Kd.nm k) :: rest ∧ xs.length = 1 + k.fs.length ∧ ∀ l H', Same H H' → H' l = some (.tup xs) → Q (.ref l) H'
theorem ok_head_of (T : Top K mg "head_of" s_head_of) (TB : Tabs w K mg) (mLen : mg "len" = none) : Fn P w K mg base 1 "head_of" spHead := by
  refine fn_ok T sc_head_of so_head_of (fun vs H Q E h => by obtain ⟨p, k, rest, xs, ys, rfl, _⟩ := h; rfl) (fun _ _ _ _ _ _ us hl => match us, hl with | [_], _ => rfl) fun f cdv A outer s H vs Q E hr h nd => ?_
  obtain ⟨p, k, rest, xs, ys, rfl, hp, ex, hl, q⟩ := h
  obtain ⟨FA, DA, TT, hF, hD, kF, kD, hT⟩ := TB.ex
  have hp0 : H p = some (.tup (.str (Kd.nm k) :: (rest ++ ys))) := by rw [hp, ex]; rfl
  refine l_cons (s_ret (e_tHi ?_))
  walk_at "sts"
  refine e_glob (x := "FIELDS") (v := .ref FA) (u := .ref FA) (by exact hF) (by exact rfl) ?_
  walk_at "sts"
  refine ix_t (by exact SqT.of hp0) at0 ?_
  refine ix_kd (by exact kF) (by exact fs_val TT k) ?_
  walk_at "sts"
  refine c_lenT (hT _ k) ?_
  walk_at "sts"
  refine ⟨p, xs, ys, rfl, congrArg V.int ?_, hp, fun t H1 e1 h1 => q t H1 e1 h1⟩
  rw [List.length_map, hl]; omega
def HdsV (H : Hp) : List Hd → List V → Prop
  | [], vs => vs = []
  | f :: fs, vs => ∃ v us, vs = v :: us ∧ HdV H f v ∧ HdsV H fs us
theorem HdsV.ts {H H' : Hp} (e : TS H H') : ∀ {f : List Hd} {v : List V}, HdsV H f v → HdsV H' f v
  | [], _, h => h
  | _ :: _, _, ⟨v, us, h1, h2, h3⟩ => ⟨v, us, h1, h2.ts e, h3.ts e⟩
theorem HdsV.len {H : Hp} : ∀ {f : List Hd} {v : List V}, HdsV H f v → v.length = f.length
  | [], _, h => by rw [show _ = _ from h]; rfl
  | _ :: _, _, ⟨v, us, h1, h2, h3⟩ => by rw [h1, List.length_cons, List.length_cons, h3.len]
theorem HdsV.snoc {H : Hp} {h : Hd} {x : V} (hx : HdV H h x) : ∀ {f : List Hd} {v : List V}, HdsV H f v → HdsV H (f ++ [h]) (v ++ [x])
  | [], _, e => by rw [show _ = _ from e]; exact ⟨x, [], rfl, hx, rfl⟩
  | _ :: _, _, ⟨v, us, h1, h2, h3⟩ => by
    subst h1
    exact ⟨v, _, rfl, h2, h3.snoc hx⟩
theorem HdsV.get {H : Hp} : ∀ {f : List Hd} {v : List V} {i : Nat} {x : V}, HdsV H f v → v[i]? = some x → ∃ h, f[i]? = some h ∧ HdV H h x
  | [], _, i, x, h, e => by rw [show _ = _ from h] at e; cases e
  | f :: _, _, 0, x, ⟨v, us, h1, h2, h3⟩, e => by subst h1; cases e; exact ⟨f, rfl, h2⟩
  | _ :: fs, _, i + 1, x, ⟨v, us, h1, h2, h3⟩, e => by
    subst h1
    exact h3.get (i := i) (by simpa using e)
def szL (ts : List Tr) : Nat := (ts.map Tr.size).foldr (· + ·) 0
theorem szL_cons (t : Tr) (ts : List Tr) : szL (t :: ts) = t.size + szL ts := rfl
theorem szL_app : ∀ (a b : List Tr), szL (a ++ b) = szL a + szL b
  | [], b => by simp [szL]
  | t :: a, b => by rw [List.cons_append, szL_cons, szL_cons, szL_app a b]; omega
theorem size_ks (t : Tr) : t.size = 1 + szL t.ks := by
  cases t <;> simp [Tr.size, Tr.ks, szL] <;> omega
theorem hds_size : ∀ t : Tr, (hds t).length = t.size
  | .le _ => rfl
  | .un _ a => by simp [hds, Tr.size, hds_size a]
  | .bi _ a b => by simp [hds, Tr.size, hds_size a, hds_size b]
theorem ks_le (t : Tr) : t.ks.length ≤ 2 := by cases t <;> simp [Tr.ks]
theorem size_pos (t : Tr) : 1 ≤ t.size := by rw [size_ks]; omega
theorem len_szL : ∀ ts : List Tr, ts.length ≤ szL ts
  | [] => Nat.le_refl _
  | t :: ts => by have := len_szL ts; have := size_pos t; rw [List.length_cons, szL_cons]; omega
theorem hdsL_len : ∀ ts : List Tr, (hdsL ts).length = szL ts
  | [] => rfl
  | t :: ts => by rw [show hdsL (t :: ts) = hds t ++ hdsL ts from rfl, List.length_append, hds_size, hdsL_len ts, szL_cons]
theorem hdsL_app (a b : List Tr) : hdsL (a ++ b) = hdsL a ++ hdsL b := List.flatMap_append
def spHeads : Sp := fun vs H Q _ => ∃ v t, vs = [v] ∧ TrV H t v ∧ t.Ok ∧ t.size ≤ 1000 ∧ ∀ l us H', Same H H' → H l = none → H' l = some (.lst us) → HdsV H' (hds t) us → Q (.ref l) H'
/-- two lists are the own ones, the others stay -/
def But2 (a b : Addr) (H H' : Hp) : Prop := ∀ c o, c ≠ a → c ≠ b → H c = some o → H' c = some o
theorem ok_heads (T : Top K mg "heads" s_heads) (FH : Fn P w K mg base 1 "head_of" spHead) (FP : Fn P w K mg base 1 "premises" spPrem) : Fn P w K mg base 2 "heads" spHeads := by
  refine fn_ok T sc_heads so_heads (fun vs H Q E h => by obtain ⟨v, t, rfl, _⟩ := h; rfl) (fun _ _ _ _ _ _ us hl => match us, hl with | [_], _ => rfl) fun f cdv A outer s H vs Q E hr h nd => ?_
  obtain ⟨v, t, rfl, hv, ho, hz, q⟩ := h
  refine l_cons (s_set (e_lst (a_nil ⟨by show 0 ≤ sizeLine; decide, fun fa H1 e1 n1 h1 => ?_⟩)))
  walk_at "sts"
  refine ⟨by show 1 ≤ sizeLine; decide, fun wa H2 e2 n2 h2 => ?_⟩
  have nfw : fa ≠ wa := fun z => by rw [z] at h1; rw [n2] at h1; cases h1
  refine l_cons (s_whileN (fun n σ H' => ∃ (ts : List Tr) (ws hs : List V) (em : List Hd) (x : Option V), σ = [some v, some (.ref fa), some (.ref wa), x] ∧ H' fa = some (.lst hs) ∧ H' wa = some (.lst ws.reverse) ∧ n = szL ts ∧ TrsV H' ts ws ∧ (∀ a ∈ ts, a.Ok) ∧ HdsV H' em hs ∧ em ++ hdsL ts = hds t ∧ TS H H' ∧ ∀ c o, H c = some o → H' c = some o)
    t.size ⟨[t], [v], [], [], none, rfl, e2 _ _ h1, h2, (Nat.add_zero _).symm, ⟨v, [], rfl, hv.ts (Same.ts (e1.trans e2)), rfl⟩, fun a ha => by rw [List.mem_singleton.mp ha]; exact ho, rfl, by simp [hdsL], Same.ts (e1.trans e2), e1.trans e2⟩ fun n σ H3 hI => ?_)
  obtain ⟨ts, ws, hs, em, x, rfl, hfa, hwa, rfl, hts, hok, hem, heq, tsm, keep⟩ := hI
  refine t_tru (e_var ⟨_, tru_l hwa, ?_⟩)
  cases ts with
  | nil =>
    cases (show ws = [] from hts)
    refine ite_f rfl ?_
    rw [show hdsL [] = [] from rfl, List.append_nil] at heq
    subst heq
    refine l_cons (s_ret (e_var ?_))
    exact q fa hs H3 keep n1 hfa hem
  | cons a ts =>
    obtain ⟨u, us, rfl, ha, hts⟩ := hts
    rw [List.reverse_cons] at hwa ⊢
    refine ite_t (by simp) ?_
    refine l_cons (s_set (e_pop (e_var ⟨wa, us.reverse, u, rfl, hwa, ?_⟩)))
    show wL _ _ _ [some v, some (.ref fa), some (.ref wa), some u] _
    have t1 : TS H3 (upd H3 wa (.lst us.reverse)) := TS.upd hwa
    obtain ⟨p, xs, ys, rfl, hp, hx, hy⟩ := (ha.ts t1).split
    obtain ⟨o1, o2, o3⟩ := (hok a (List.mem_cons_self ..)).hd
    have hlen := hx.len o1
    obtain ⟨fs, ex, hfs⟩ := id hx
    have hfa1 : upd H3 wa (.lst us.reverse) fa = some (.lst hs) := by rw [upd_ne nfw]; exact hfa
    have leh := congrArg List.length heq
    rw [List.length_append, hdsL_len, hds_size, szL_cons] at leh
    have lhs := hem.len
    have lts := len_szL ts
    have lus := hts.len
    have la := size_ks a
    have lk := ks_le a
    have lys := hy.len
    refine l_cons (s_expr (e_app ?_))
    refine e_var ⟨fa, hs, rfl, SqL.of hfa1, ?_⟩
    refine e_call (by exact FH) (by exact hr) (by decide) ?_
    walk_at "sts"
    refine ⟨p, a.hd.k, _, xs, ys, rfl, hp, ex, hlen, fun r H4 e4 h4 => ?_⟩
    refine ⟨hs, e4 _ _ hfa1, by show hs.length < 2 ^ 24; omega, ?_⟩
    have hfa4 := e4 _ _ hfa1
    have hwa4 : upd H4 fa (.lst (hs ++ [.ref r])) wa = some (.lst us.reverse) := by rw [upd_ne (Ne.symm nfw)]; exact e4 _ _ upd_same
    have t4 : TS (upd H3 wa (.lst us.reverse)) (upd H4 fa (.lst (hs ++ [.ref r]))) := (Same.ts e4).trans (TS.upd hfa4)
    have hp4 := t4 _ _ hp
    refine l_cons (s_expr (e_ext ?_))
    refine e_var ⟨wa, _, rfl, SqL.of hwa4, ?_⟩
    refine e_rev ?_
    refine e_call (by exact FP) (by exact hr) (by decide) ?_
    walk_at "sts"
    refine ⟨p, a.hd.k, _, xs, ys, rfl, hp4, ex, hlen, fun l5 H5 e5 n5 h5 => ?_⟩
    refine ⟨l5, ys, rfl, SqL.of h5, fun l6 H6 e6 n6 h6 => ?_⟩
    have hwa6 := e6 _ _ (e5 _ _ hwa4)
    have hfa6 := e6 _ _ (e5 _ _ (upd_same (H := H4) (a := fa) (o := .lst (hs ++ [.ref r]))))
    refine ⟨l6, us.reverse, ys.reverse, rfl, hwa6, h6, by rw [List.length_reverse, List.length_reverse]; omega, ?_⟩
    have t6 : TS (upd H4 fa (.lst (hs ++ [.ref r]))) (upd H6 wa (.lst (us.reverse ++ ys.reverse))) := ((Same.ts e5).trans (Same.ts e6)).trans (TS.upd hwa6)
    have tall := (t1.trans t4).trans t6
    refine l_nil ⟨szL (a.ks ++ ts), by rw [szL_app, szL_cons]; omega, a.ks ++ ts, ys ++ us, hs ++ [.ref r], em ++ [a.hd], some (.ref p), rfl, ?_, ?_, rfl, (hy.ts (t4.trans t6)).append (hts.ts tall), ?_, (hem.ts tall).snoc ?_, ?_, tsm.trans tall, ?_⟩
    · rw [upd_ne nfw]; exact hfa6
    · rw [List.reverse_append]; exact upd_same
    · intro b hb
      rcases List.mem_append.mp hb with hb | hb
      · exact o3 b hb
      · exact hok b (List.mem_cons_of_mem _ hb)
    · exact ⟨r, xs, rfl, t6 _ _ (TS.upd hfa4 _ _ h4), hx.ts (t4.trans t6)⟩
    · rw [← heq, show hdsL (a :: ts) = hds a ++ hdsL ts from rfl, hds_eq a, hdsL_app]
      simp
    · intro c o hc
      have h3 := keep c o hc
      have cw : c ≠ wa := fun z => by
        subst z
        have := (none_of (e1) n2)
        rw [this] at hc; cases hc
      have cf : c ≠ fa := fun z => by
        subst z
        rw [n1] at hc; cases hc
      rw [upd_ne cw]
      refine e6 _ _ (e5 _ _ ?_)
      rw [upd_ne cf]
      refine e4 _ _ ?_
      rw [upd_ne cw]
      exact h3
end



theorem TrsV.get {H : Hp} : ∀ {f : List Tr} {v : List V} {i : Nat} {x : V}, TrsV H f v → v[i]? = some x → ∃ h, f[i]? = some h ∧ TrV H h x
  | [], _, i, x, h, e => by rw [show _ = _ from h] at e; cases e
  | f :: _, _, 0, x, ⟨v, us, h1, h2, h3⟩, e => by subst h1; cases e; exact ⟨f, rfl, h2⟩
  | _ :: fs, _, i + 1, x, ⟨v, us, h1, h2, h3⟩, e => by
    subst h1
    exact h3.get (i := i) (by simpa using e)
theorem pr_le (k : Kd) : k.pr ≤ 2 := by cases k <;> decide
theorem fs_le (k : Kd) : k.fs.length ≤ 3 := by cases k <;> decide
/-- what the inner loop has made -/
theorem fstep_V {H : Hp} {h : Hd} {r : Addr} {xs : List V} (hx : HdL H h xs) : ∀ {n : Nat} {ts : List Tr} {ws : List V}, n ≤ 2 → n ≤ ts.length → TrsV H ts ws → H r = some (.tup (xs ++ ws.take n)) → TrsV H (fstep h n ts) (.ref r :: ws.drop n)
  | 0, ts, ws, _, _, ht, hr => ⟨.ref r, ws, rfl, ⟨r, xs, rfl, hr, hx⟩, ht⟩
  | 1, a :: ts, _, _, _, ⟨v, us, h1, h2, h3⟩, hr => by
    subst h1
    exact ⟨.ref r, us, rfl, ⟨r, xs, v, rfl, hr, hx, h2⟩, h3⟩
  | 2, a :: b :: ts, _, _, _, ⟨v, us, h1, h2, v2, us2, h3, h4, h5⟩, hr => by
    subst h1 h3
    exact ⟨.ref r, us2, rfl, ⟨r, xs, v, v2, rfl, hr, hx, h2, h4⟩, h5⟩
  | 1, [], _, _, hl, _, _ => absurd hl (by simp)
  | 2, [], _, _, hl, _, _ => absurd hl (by simp)
  | 2, [_], _, _, hl, _, _ => absurd hl (by simp)
  | n + 3, _, _, hl, _, _, _ => absurd hl (by omega)
theorem Enough.drop : ∀ {hs : List Hd} (n : Nat), Enough hs → Enough (hs.drop n)
  | hs, 0, h => h
  | [], n + 1, h => h
  | _ :: hs, n + 1, h => Enough.drop n h.1
section
variable {P : Program} {w : World} {K : PySem.W.Frag} {mg : Str → Option Value} {base : Heap}
def spFrom : Sp := fun vs H Q _ => ∃ l us hs t, vs = [.ref l] ∧ H l = some (.lst us) ∧ HdsV H hs us ∧ (∀ h ∈ hs, h.Ok) ∧ Enough hs ∧ fh hs = [t] ∧ hs.length ≤ 1000 ∧ ∀ v H', Same H H' → TrV H' t v → Q v H'
theorem fstep_len {h : Hd} : ∀ {n : Nat} {ts : List Tr}, (fstep h n ts).length ≤ ts.length + 1
  | 0, ts => by simp [fstep]
  | 1, [] => by simp [fstep]
  | 1, _ :: _ => by simp [fstep]
  | 2, [] => by simp [fstep]
  | 2, [_] => by simp [fstep]
  | 2, _ :: _ :: _ => by simp [fstep]
  | n + 3, ts => by simp [fstep]
theorem fh_len : ∀ hs : List Hd, (fh hs).length ≤ hs.length
  | [] => Nat.le_refl _
  | h :: hs => by
    have := fh_len hs
    have := fstep_len (h := h) (n := h.k.pr) (ts := fh hs)
    show (fstep h h.k.pr (fh hs)).length ≤ _
    rw [List.length_cons]
    omega
theorem fstep_pos {h : Hd} : ∀ {n : Nat} {ts : List Tr}, n ≤ 2 → n ≤ ts.length → (fstep h n ts).length = ts.length - n + 1
  | 0, ts, _, _ => by simp [fstep]
  | 1, _ :: _, _, _ => by simp [fstep]
  | 2, _ :: _ :: _, _, _ => by simp [fstep]
  | 1, [], _, hl => absurd hl (by simp)
  | 2, [], _, hl => absurd hl (by simp)
  | 2, [_], _, hl => absurd hl (by simp)
  | n + 3, _, hl, _ => absurd hl (by omega)
theorem ok_from_heads (T : Top K mg "from_heads" s_from_heads) (TB : Tabs w K mg) (mR : mg "range" = none) (mRv : mg "reversed" = none) : Fn P w K mg base 1 "from_heads" spFrom := by
  refine fn_ok T sc_from_heads so_from_heads (fun vs H Q E h => by obtain ⟨l, us, hs, t, rfl, _⟩ := h; rfl) (fun _ _ _ _ _ _ us hl => match us, hl with | [_], _ => rfl) fun f cdv A outer s H vs Q E hr h nd => ?_
  obtain ⟨l, us, hs, t, rfl, hl, hus, hoks, hen, hfh, hz, q⟩ := h
  obtain ⟨FA, DA, TT, hF, hD, kF, kD, hT⟩ := TB.ex
  have lus := hus.len
  refine l_cons (s_set (e_lst (a_nil ⟨by show 0 ≤ sizeLine; decide, fun ma H1 e1 n1 h1 => ?_⟩)))
  have nlm : l ≠ ma := fun z => by rw [z, n1] at hl; cases hl
  have eS : ∀ k, k ≤ us.length → Enough (hs.drop (us.length - k)) := fun k hk => hen.drop _
  refine l_cons (s_forRv (by assumption) ?_)
  refine e_var ⟨l, us, rfl, SqL.of (e1 _ _ hl), fun k σ H' => ∃ (ws : List V) (x y z : Option V), σ = [some (.ref l), some (.ref ma), x, y, z] ∧ H' ma = some (.lst ws.reverse) ∧ TrsV H' (fh (hs.drop (us.length - k))) ws ∧ Same H H', ?_, ?_, ?_, ?_⟩
  · refine ⟨[], none, none, none, rfl, h1, ?_, e1⟩
    rw [Nat.sub_zero, lus, List.drop_length]
    rfl
  · intro k σ H' hk p
    obtain ⟨ws, x, y, z, _, _, _, e⟩ := p
    exact SqL.of (e _ _ hl)
  · intro k y σ H' hy p
    obtain ⟨ws, x, x2, x3, rfl, hm, hts, e⟩ := p
    have hk : k < us.length := by
      have := (List.getElem?_eq_some_iff.mp hy).1
      rw [List.length_reverse] at this
      exact this
    rw [List.getElem?_reverse hk] at hy
    obtain ⟨h, hh, hhv⟩ := hus.get hy
    have hS : hs.drop (us.length - (k + 1)) = h :: hs.drop (us.length - k) := by
      have hi := (List.getElem?_eq_some_iff.mp hh)
      obtain ⟨hi1, hi2⟩ := hi
      have e1 : us.length - (k + 1) = us.length - 1 - k := by omega
      rw [e1, List.drop_eq_getElem_cons hi1, hi2]
      congr 2
      omega
    have hE := eS (k + 1) (by omega)
    rw [hS] at hE
    have lw := hts.len
    have lf := fh_len (hs.drop (us.length - k))
    rw [List.length_drop] at lf
    obtain ⟨r0, xs, rfl, hr0, hx⟩ := hhv
    obtain ⟨fs, ex, hfs⟩ := id hx
    have hr0' := e _ _ hr0
    rw [ex] at hr0'
    show wL _ _ _ [some (.ref l), some (.ref ma), some (.ref r0), x2, x3] _
    refine l_cons (s_set (e_var ?_))
    show wL _ _ _ [some (.ref l), some (.ref ma), some (.ref r0), some (.ref r0), x3] _
    refine l_cons (s_forR (by assumption) ?_)
    refine e_ix (e_glob (x := "PREMISES") (v := .ref DA) (u := .ref DA) (by exact hD) (by exact rfl) ?_)
    walk_at "sts"
    refine ix_t (by exact SqT.of hr0') at0 ?_
    refine ix_kd (by exact kD) (by exact pr_val h.k) ?_
    have lex := congrArg List.length ex
    have p2 := pr_le h.k
    refine ⟨h.k.pr, rfl, by omega, fun j σ H2 => ∃ (r : Addr) (z : Option V), σ = [some (.ref l), some (.ref ma), some (.ref r0), some (.ref r), z] ∧ H2 ma = some (.lst (ws.drop j).reverse) ∧ H2 r = some (.tup (xs ++ ws.take j)) ∧ TS H' H2 ∧ Same H H2, ?_, ?_, ?_⟩
    · refine ⟨r0, x3, rfl, by rw [List.drop_zero]; exact hm, ?_, fun _ _ z => z, e⟩
      rw [List.take_zero, List.append_nil]
      exact e _ _ hr0
    · intro j σ H2 hj p
      obtain ⟨r, z, rfl, hm2, hr2, t2, e2⟩ := p
      have hjw : j < ws.length := by rw [lw]; have := hE.2; omega
      have hd : (ws.drop j).reverse = (ws.drop (j + 1)).reverse ++ [ws[j]] := by rw [List.drop_eq_getElem_cons hjw, List.reverse_cons]
      rw [hd] at hm2
      show wL _ _ _ [some (.ref l), some (.ref ma), some (.ref r0), some (.ref r), _] _
      refine l_cons (s_set (e_bin (e_var (e_tup (a_cons (e_pop (e_var ⟨ma, _, ws[j], rfl, hm2, ?_⟩)))))))
      have tm : TS H2 (upd H2 ma (.lst (ws.drop (j + 1)).reverse)) := TS.upd hm2
      refine a_nil ⟨by show 1 ≤ sizeLine; decide, fun q3 H3 e3 n3 h3 => ?_⟩
      have lxs : xs.length ≤ 4 := by
        rw [hx.len (hoks h (List.mem_of_getElem? hh))]
        have := fs_le h.k
        omega
      refine o_catA (e3 _ _ (tm _ _ hr2)) h3 ?_ fun r4 H4 e4 h4 => ?_
      · rw [List.length_append, List.length_take]
        simp only [List.length_cons, List.length_nil]
        omega
      show wL _ _ _ [some (.ref l), some (.ref ma), some (.ref r0), some (.ref r4), _] _
      refine l_nil ⟨r4, _, rfl, e4 _ _ (e3 _ _ upd_same), ?_, (t2.trans tm).trans (Same.ts (e3.trans e4)), ?_⟩
      · rw [h4, List.append_assoc]
        congr 3
        rw [List.take_succ_eq_append_getElem hjw]
      · intro c o hc
        have cm : c ≠ ma := fun z => by subst z; rw [n1] at hc; cases hc
        refine e4 _ _ (e3 _ _ ?_)
        rw [upd_ne cm]
        exact e2 _ _ hc
    · intro σ H2 p
      obtain ⟨r, z, rfl, hm2, hr2, t2, e2⟩ := p
      refine l_cons (s_expr (e_app (e_var ⟨ma, _, rfl, SqL.of hm2, e_var ⟨_, hm2, ?_, ?_⟩⟩)))
      · rw [List.length_reverse, List.length_drop]
        show _ < 2 ^ 24
        omega
      · have tm : TS H2 (upd H2 ma (.lst ((ws.drop h.k.pr).reverse ++ [.ref r]))) := TS.upd hm2
        refine l_nil ⟨.ref r :: ws.drop h.k.pr, _, _, _, rfl, ?_, ?_, ?_⟩
        · rw [List.reverse_cons]
          exact upd_same
        · rw [hS]
          exact fstep_V (hx.ts ((Same.ts e2).trans tm)) p2 hE.2 (hts.ts (t2.trans tm)) (tm _ _ hr2)
        · intro c o hc
          have cm : c ≠ ma := fun z => by subst z; rw [n1] at hc; cases hc
          rw [upd_ne cm]
          exact e2 _ _ hc
  · intro σ H' p
    obtain ⟨ws, x, y, z, rfl, hm, hts, e⟩ := p
    rw [Nat.sub_self, List.drop_zero, hfh] at hts
    obtain ⟨v, us', rfl, hv, h0⟩ := hts
    cases (show us' = [] from h0)
    walk_at "sts"
    refine ix_l (by exact SqL.of hm) at0 ?_
    exact q v H' e hv
end



theorem take_snoc' {α : Type} {l : List α} {i : Nat} {x : α} (h : l[i]? = some x) : l.take (i + 1) = l.take i ++ [x] := by
  obtain ⟨hi, e⟩ := List.getElem?_eq_some_iff.mp h
  rw [List.take_succ_eq_append_getElem hi, e]
theorem fresh_keep {H1 H2 : Hp} {D : Addr} {o : HO} (n : H1 D = none) (k : ∀ c u, H1 c = some u → H2 c = some u) : ∀ c u, H1 c = some u → upd H2 D o c = some u := fun c u hc => by
  rw [upd_ne (fun z => by subst z; rw [n] at hc; cases hc)]
  exact k c u hc
theorem o_cat2 {X : Cx} {H : Hp} {Q : VK} {l b : Addr} {xs zs : List V} (h1 : H l = some (.lst xs)) (h2 : H b = some (.lst zs)) (hz : xs.length + zs.length ≤ 200000) (q : ∀ p H2, Same H H2 → H p = none → H2 p = some (.lst (xs ++ zs)) → Q (.ref p) H2) : wB X .Add (.ref l) (.ref b) H Q :=
  b_of op_cat ⟨l, b, xs, zs, rfl, rfl, h1, h2, by show _ ≤ 2 ^ 24; omega, fun p np => q p _ (fun c u eo => by rw [upd_ne (ne_of_none eo np)]; exact eo) np upd_same⟩
abbrev kdS : List V := [.str "own", .str "take", .str "offer", .str "pick", .str "pay", .str "make", .str "open", .str "cut", .str "cite"]
/-- whether a value is a row -/
def RowQ (H : Hp) (v : V) (b : Bool) : Prop := (b = false ∧ ((∃ i, v = .int i) ∨ ∃ z, v = .str z)) ∨ ∃ t x xs, v = .ref t ∧ H t = some (.tup (x :: xs)) ∧ flatV x = true ∧ inV x kdS = b
theorem RowQ.ts {H H' : Hp} (e : TS H H') {v : V} {b : Bool} : RowQ H v b → RowQ H' v b := fun h => h.elim .inl fun ⟨t, x, xs, h1, h2, h3⟩ => .inr ⟨t, x, xs, h1, e _ _ h2, h3⟩
theorem RowQ.fd {H : Hp} : ∀ {f : Fd} {v : V}, FdV H f v → RowQ H v false
  | .i n, v, h => .inl ⟨rfl, .inl ⟨n, h⟩⟩
  | .s z, v, h => .inl ⟨rfl, .inr ⟨z, h⟩⟩
  | .p a b, v, ⟨t, h1, h2⟩ => .inr ⟨t, _, _, h1, h2, rfl, by rfl⟩
  | .c z, v, ⟨t, h1, h2⟩ => .inr ⟨t, _, _, h1, h2, rfl, by decide +kernel⟩
theorem RowQ.key {H : Hp} (r : Key) : RowQ H (kV r) false := by
  cases r with
  | inl i => exact .inl ⟨rfl, .inl ⟨i, rfl⟩⟩
  | inr z => exact .inl ⟨rfl, .inr ⟨z, rfl⟩⟩
theorem nm_in (k : Kd) : inV (.str k.nm) kdS = true := by cases k <;> decide +kernel
theorem RowQ.tr {H : Hp} {t : Tr} {v : V} (h : TrV H t v) : RowQ H v true := by
  obtain ⟨p, xs, ys, rfl, hp, ⟨fs, rfl, _⟩, _⟩ := h.split
  exact .inr ⟨p, _, _, rfl, hp, rfl, nm_in _⟩
theorem FsV.get {H : Hp} : ∀ {f : List Fd} {v : List V} {i : Nat} {x : V}, FsV H f v → v[i]? = some x → ∃ h, f[i]? = some h ∧ FdV H h x
  | [], _, i, x, h, e => by rw [show _ = _ from h] at e; cases e
  | f :: _, _, 0, x, ⟨v, us, h1, h2, h3⟩, e => by subst h1; cases e; exact ⟨f, rfl, h2⟩
  | _ :: fs, _, i + 1, x, ⟨v, us, h1, h2, h3⟩, e => by
    subst h1
    exact h3.get (i := i) (by simpa using e)
theorem FsV.mem {H : Hp} {f : List Fd} {v : List V} {x : V} (h : FsV H f v) (m : x ∈ v) : RowQ H x false := by
  obtain ⟨i, hi, e⟩ := List.mem_iff_getElem.mp m
  obtain ⟨g, _, hg⟩ := h.get (show v[i]? = some x by rw [List.getElem?_eq_getElem hi, e])
  exact .fd hg
section
variable {P : Program} {w : World} {K : PySem.W.Frag} {mg : Str → Option Value} {base : Heap}
def spNum : Sp := fun vs H Q _ => ∃ i : Int, vs = [.int i] ∧ Q (.bl true) H
theorem ok_num (T : Top K mg "_law_is_number" s_is_number) (mIs : mg "isinstance" = none) (mInt : mg "int" = none) (mBool : mg "bool" = none) : Fn P w K mg base 1 "_law_is_number" spNum := by
  refine fn_ok T sc_is_number so_is_number (fun vs H Q E h => by obtain ⟨i, rfl, _⟩ := h; rfl) (fun _ _ _ _ _ _ us hl => match us, hl with | [_], _ => rfl) fun f cdv A outer s H vs Q E hr h nd => ?_
  obtain ⟨i, rfl, q⟩ := h
  walk_at "sts"
  refine c_isi ty_int (.ty _) (kit_ty kb_int_int) ?_
  walk_at "sts"
  refine c_isi ty_int (.ty _) (kit_ty kb_int_bool) ?_
  walk_at "sts"
  exact q
def spRow : Sp := fun vs H Q _ => ∃ v b, vs = [v] ∧ RowQ H v b ∧ ∀ H', Same H H' → Q (.bl b) H'
theorem ok_row (T : Top K mg "_law_row" s_row) (mIs : mg "isinstance" = none) (mTup : mg "tuple" = none) (mLen : mg "len" = none) : Fn P w K mg base 1 "_law_row" spRow := by
  refine fn_ok T sc_row so_row (fun vs H Q E h => by obtain ⟨v, b, rfl, _⟩ := h; rfl) (fun _ _ _ _ _ _ us hl => match us, hl with | [_], _ => rfl) fun f cdv A outer s H vs Q E hr h nd => ?_
  obtain ⟨v, b, rfl, hv, q⟩ := h
  walk_at "sts"
  refine ⟨by show 9 ≤ sizeLine; decide, fun p H1 e1 n1 h1 => ?_⟩
  show wL _ _ _ [some v, some (.ref p)] _
  walk_at "sts"
  rcases hv with ⟨rfl, ⟨i, rfl⟩ | ⟨z, rfl⟩⟩ | ⟨t, x, xs, rfl, ht, hx, rfl⟩
  · refine c_isi ty_int (.ty _) (kit_ty kb_int_tuple) ?_
    walk_at "sts"
    exact q H1 e1
  · refine c_isi ty_str (.ty _) (kit_ty kb_str_tuple) ?_
    walk_at "sts"
    exact q H1 e1
  · refine c_isi (ty_tup (e1 _ _ ht)) (.ty _) (kit_ty kb_tuple_tuple) ?_
    walk_at "sts"
    refine c_lenT (by exact SqT.of (e1 _ _ ht)) ?_
    walk_at "sts"
    refine ifT (by simp only [List.length_cons]; omega) ?_
    walk_at "sts"
    refine ix_t (by exact SqT.of (e1 _ _ ht)) at0 ?_
    walk_at "sts"
    refine o_inT (by exact SqT.of h1) hx rfl ?_
    exact q H1 e1
def spParts : Sp := fun vs H Q _ => ∃ v t, vs = [v] ∧ TrV H t v ∧ t.hd.Ok ∧ ∀ l us H', Same H H' → H l = none → H' l = some (.lst us) → TrsV H' t.ks us → Q (.ref l) H'
theorem ok_parts (T : Top K mg "_law_parts" s_parts) (FR : Fn P w K mg base 1 "_law_row" spRow) : Fn P w K mg base 2 "_law_parts" spParts := by
  refine fn_okC T sc_parts so_parts (fun vs H Q E h => by obtain ⟨v, t, rfl, _⟩ := h; rfl) (fun _ _ _ _ _ _ us hl => match us, hl with | [_], _ => rfl) fun f cdv A outer s H vs Q E hr h nd => ?_
  obtain ⟨v, t, rfl, hv, ho, q⟩ := h
  obtain ⟨p, xs, ys, rfl, hp, hx, hy⟩ := hv.split
  have lx := hx.len ho
  have l3 := fs_le t.hd.k
  obtain ⟨fs, rfl, hfs⟩ := hx
  have lk := ks_le t
  have ly := hy.len
  refine l_cons (s_ret (e_lcTf (by exact bk_parts0) (e_tLo ?_)))
  walk_at "sts"
  refine ⟨p, [.str t.hd.k.nm], (rL t.hd.r ++ fs) ++ ys, rfl, rfl, hp, fun a H1 e1 h1 => ⟨a, _, rfl, SqT.of h1, fun D nD => ?_⟩⟩
  generalize hn : rL t.hd.r ++ fs = zs at h1
  refine ⟨fun k H2 => H2 D = some (.lst (((zs ++ ys).take k).drop zs.length)) ∧ Same H1 H2, ⟨by rw [List.take_zero, List.drop_nil]; exact upd_same, fun c u hc => by rw [upd_ne (ne_of_none hc nD)]; exact hc⟩, fun k H2 _ p => SqT.of (p.2 _ _ h1), ?_, ?_⟩
  · intro k x H2 hk p
    obtain ⟨hD, e⟩ := p
    have hq : RowQ H2 x (decide (zs.length ≤ k)) := by
      by_cases hlt : k < zs.length
      · rw [List.getElem?_append_left hlt] at hk
        rw [decide_eq_false (by omega)]
        have hm := List.mem_of_getElem? hk
        rw [← hn] at hm
        rcases List.mem_append.mp hm with hm | hm
        · cases hr0 : t.hd.r with
          | none => rw [hr0] at hm; cases hm
          | some r => rw [hr0] at hm; rw [List.mem_singleton.mp (show x ∈ [kV r] from hm)]; exact .key r
        · exact FsV.mem (hfs.ts (Same.ts (e1.trans e))) hm
      · rw [List.getElem?_append_right (by omega)] at hk
        rw [decide_eq_true (by omega)]
        obtain ⟨s, _, hs⟩ := (hy.ts (Same.ts (e1.trans e))).get hk
        exact .tr hs
    intro s0 H0 C cl fp IB
    refine t_val (b_call (by exact FR) (by exact hr) (by decide) ?_)
    refine a_cons (b_var (a_nil ?_))
    refine ⟨x, _, rfl, hq, fun H3 e3 => ⟨_, rfl, ?_⟩⟩
    have hlt := (List.getElem?_eq_some_iff.mp hk).1
    by_cases hlt2 : zs.length ≤ k
    · refine ifT hlt2 ?_
      intro s0 H0 C cl fp IB
      refine b_var ⟨_, e3 _ _ hD, ?_, ?_, ?_⟩
      · rw [List.length_drop, List.length_take]
        rw [List.length_append] at *
        show _ < 2 ^ 24
        have : zs.length ≤ 4 := by rw [← hn]; simp only [List.length_cons] at lx; omega
        omega
      · rw [take_snoc' hk, List.drop_append_of_le_length (by rw [List.length_take]; omega)]
        exact upd_same
      · exact fresh_keep nD (Same.trans e e3)
    · refine ifF hlt2 ⟨?_, Same.trans e e3⟩
      rw [List.drop_eq_nil_of_le (by rw [List.length_take]; omega)]
      have := e3 _ _ hD
      rw [List.drop_eq_nil_of_le (by rw [List.length_take]; omega)] at this
      exact this
  · intro H2 p
    obtain ⟨hD, e⟩ := p
    rw [List.take_length, List.drop_left] at hD
    exact q D ys H2 (e1.trans e) (none_of e1 nD) hD (hy.ts (Same.ts (e1.trans e)))
/-! ### paths -/
def PthV (H : Hp) (p : List Nat) (v : V) : Prop := ∃ t, v = .ref t ∧ H t = some (.tup (p.map fun (n : Nat) => V.int (n : Int)))
theorem PthV.ts {H H' : Hp} (e : TS H H') {p : List Nat} {v : V} : PthV H p v → PthV H' p v := fun ⟨t, h1, h2⟩ => ⟨t, h1, e _ _ h2⟩
def PsV (H : Hp) : List (List Nat) → List V → Prop
  | [], vs => vs = []
  | f :: fs, vs => ∃ v us, vs = v :: us ∧ PthV H f v ∧ PsV H fs us
theorem PsV.ts {H H' : Hp} (e : TS H H') : ∀ {f : List (List Nat)} {v : List V}, PsV H f v → PsV H' f v
  | [], _, h => h
  | _ :: _, _, ⟨v, us, h1, h2, h3⟩ => ⟨v, us, h1, h2.ts e, h3.ts e⟩
theorem PsV.len {H : Hp} : ∀ {f : List (List Nat)} {v : List V}, PsV H f v → v.length = f.length
  | [], _, h => by rw [show _ = _ from h]; rfl
  | _ :: _, _, ⟨v, us, h1, h2, h3⟩ => by rw [h1, List.length_cons, List.length_cons, h3.len]
theorem PsV.append {H : Hp} : ∀ {f g : List (List Nat)} {v u : List V}, PsV H f v → PsV H g u → PsV H (f ++ g) (v ++ u)
  | [], _, _, _, h, k => by rw [show _ = _ from h]; exact k
  | _ :: _, _, _, _, ⟨v, us, h1, h2, h3⟩, k => by
    subst h1
    exact ⟨v, _, rfl, h2, h3.append k⟩
theorem PsV.get {H : Hp} : ∀ {f : List (List Nat)} {v : List V} {i : Nat} {x : V}, PsV H f v → v[i]? = some x → ∃ h, f[i]? = some h ∧ PthV H h x
  | [], _, i, x, h, e => by rw [show _ = _ from h] at e; cases e
  | f :: _, _, 0, x, ⟨v, us, h1, h2, h3⟩, e => by subst h1; cases e; exact ⟨f, rfl, h2⟩
  | _ :: fs, _, i + 1, x, ⟨v, us, h1, h2, h3⟩, e => by
    subst h1
    exact h3.get (i := i) (by simpa using e)
def pth : Tr → List Nat → List (List Nat)
  | .le _, p => [p]
  | .un _ a, p => p :: pth a (p ++ [0])
  | .bi _ a b, p => p :: (pth a (p ++ [0]) ++ pth b (p ++ [1]))
def pthL : List Tr → List Nat → Nat → List (List Nat)
  | [], _, _ => []
  | t :: ts, p, i => pth t (p ++ [i]) ++ pthL ts p (i + 1)
theorem pth_eq (t : Tr) (p : List Nat) : pth t p = p :: pthL t.ks p 0 := by
  cases t <;> simp [pth, pthL, Tr.ks]
theorem pthL_snoc (t : Tr) (p : List Nat) : ∀ (ts : List Tr) (i : Nat), pthL (ts ++ [t]) p i = pthL ts p i ++ pth t (p ++ [i + ts.length])
  | [], i => by simp [pthL]
  | s :: ts, i => by
    rw [List.cons_append, pthL, pthL, pthL_snoc t p ts (i + 1), List.length_cons, List.append_assoc, show i + 1 + ts.length = i + (ts.length + 1) by omega]
theorem pth_len : ∀ (t : Tr) (p : List Nat), (pth t p).length = t.size
  | .le _, _ => rfl
  | .un _ a, p => by simp [pth, Tr.size, pth_len a]
  | .bi _ a b, p => by simp [pth, Tr.size, pth_len a, pth_len b]
theorem pthL_len (p : List Nat) : ∀ (ts : List Tr) (i : Nat), (pthL ts p i).length = szL ts
  | [], _ => rfl
  | t :: ts, i => by rw [pthL, List.length_append, pth_len, pthL_len p ts, szL_cons]
theorem dep_ks {t : Tr} : ∀ a ∈ t.ks, a.dep + 1 ≤ t.dep := by
  cases t with
  | le h => simp [Tr.ks]
  | un h a => simp [Tr.ks, Tr.dep]
  | bi h a b =>
    intro x hx
    simp only [Tr.ks, List.mem_cons, List.not_mem_nil, or_false] at hx
    simp only [Tr.dep]
    rcases hx with rfl | rfl
    · omega
    · omega
theorem szL_take (ts : List Tr) (k : Nat) : szL (ts.take k) ≤ szL ts := by
  conv => rhs; rw [← List.take_append_drop k ts, szL_app]
  omega
theorem sz_mem {ts : List Tr} {k : Nat} {a : Tr} (h : ts[k]? = some a) : szL (ts.take k) + a.size ≤ szL ts := by
  have := szL_take ts (k + 1)
  rw [take_snoc' h, szL_app] at this
  simpa [szL] using this
end



section
variable {P : Program} {w : World} {K : PySem.W.Frag} {mg : Str → Option Value} {base : Heap} {CP : Addr}
def spRC : Sp := fun vs H Q _ => ∃ v t, vs = [v] ∧ TrV H t v ∧ t.Ok ∧ t.size ≤ 1000 ∧ ∀ H', Same H H' → Q (.int (t.size : Int)) H'
theorem ok_row_count (T : Top K mg "row_count" s_row_count) (mLen : mg "len" = none) (FH : Fn P w K mg base 2 "heads" spHeads) : Fn P w K mg base 3 "row_count" spRC := by
  refine fn_ok T sc_row_count so_row_count (fun vs H Q E h => by obtain ⟨v, t, rfl, _⟩ := h; rfl) (fun _ _ _ _ _ _ us hl => match us, hl with | [_], _ => rfl) fun f cdv A outer s H vs Q E hr h nd => ?_
  obtain ⟨v, t, rfl, hv, ho, hz, q⟩ := h
  refine l_cons (s_ret (e_callB (x := "len") (by assumption) b_len (a_cons (e_call (by exact FH) (by exact hr) (by decide) ?_))))
  walk_at "sts"
  refine ⟨v, t, rfl, hv, ho, hz, fun l us H1 e1 n1 h1 hus => a_nil (c_lenL (SqL.of h1) ?_)⟩
  rw [hus.len, hds_size]
  exact q H1 e1
def bareT (t : Tr) : Bool := (hds t).all fun h => !(decide (h.k = .cut) || decide (h.k = .cite))
abbrev cutS : List V := [.str "cut", .str "cite"]
theorem cut_nm (k : Kd) : inV (.str k.nm) cutS = (decide (k = .cut) || decide (k = .cite)) := by cases k <;> decide +kernel
def spBare : Sp := fun vs H Q _ => ∃ v t, vs = [v] ∧ TrV H t v ∧ t.Ok ∧ t.size ≤ 1000 ∧ ∀ H', Same H H' → Q (.bl (bareT t)) H'
theorem ok_is_bare (T : Top K mg "is_bare" s_is_bare) (FH : Fn P w K mg base 2 "heads" spHeads) : Fn P w K mg base 3 "is_bare" spBare := by
  refine fn_ok T sc_is_bare so_is_bare (fun vs H Q E h => by obtain ⟨v, t, rfl, _⟩ := h; rfl) (fun _ _ _ _ _ _ us hl => match us, hl with | [_], _ => rfl) fun f cdv A outer s H vs Q E hr h nd => ?_
  obtain ⟨v, t, rfl, hv, ho, hz, q⟩ := h
  refine l_cons (s_forL ?_)
  refine e_call (by exact FH) (by exact hr) (by decide) ?_
  walk_at "sts"
  refine ⟨v, t, rfl, hv, ho, hz, fun l us H1 e1 n1 h1 hus => ⟨l, us, rfl, SqL.of h1, fun k σ H2 => ∃ x, σ = [some v, x] ∧ Same H1 H2 ∧ ((hds t).take k).all (fun h => !(decide (h.k = .cut) || decide (h.k = .cite))) = true, ⟨none, rfl, Same.refl _, by simp⟩, ?_, ?_, ?_⟩⟩
  · intro k σ H2 _ pr
    obtain ⟨_, _, e, _⟩ := pr
    exact SqL.of (e _ _ h1)
  · intro k y σ H2 hy pr
    obtain ⟨x, rfl, e, hall⟩ := pr
    obtain ⟨h, hh, p, xs, rfl, hp, fs, rfl, hfs⟩ := hus.get hy
    show wL _ _ _ [some v, some (.ref p)] _
    refine l_cons (s_if (t_cmp ?_))
    walk_at "sts"
    refine ix_t (by exact SqT.of (e _ _ hp)) at0 ?_
    walk_at "sts"
    refine ⟨by show 2 ≤ sizeLine; decide, fun tp H3 e3 n3 h3 => ?_⟩
    refine o_inT (by exact SqT.of h3) rfl rfl ⟨_, rfl, ?_⟩
    rw [cut_nm]
    cases hb : (decide (h.k = Kd.cut) || decide (h.k = Kd.cite)) with
    | true =>
      refine iteT (l_cons (s_ret (e_bl ?_)))
      have hf : bareT t = false := by
        rw [bareT, List.all_eq_false]
        exact ⟨h, List.mem_of_getElem? hh, by rw [hb]; simp⟩
      rw [← hf]
      exact q H3 (e1.trans (e.trans e3))
    | false =>
      refine iteF (l_nil (l_nil ⟨_, rfl, e.trans e3, ?_⟩))
      rw [take_snoc' hh, List.all_append, hall, List.all_cons, hb]
      rfl
  · intro σ H2 pr
    obtain ⟨x, rfl, e, hall⟩ := pr
    rw [hus.len, List.take_length] at hall
    refine l_cons (s_ret (e_bl ?_))
    rw [← (show bareT t = true from hall)]
    exact q H2 (e1.trans e)
end



theorem sg_walk : GScope N_walk P_walk (defScope s_walk) := ⟨rfl, rfl, rfl, by decide +kernel, rfl, by decide +kernel, by decide +kernel⟩
/-- what the walk hands out: a row's path and its name -/
def wk : Tr → List Nat → List (List Nat × Kd)
  | .le h, p => [(p, h.k)]
  | .un h a, p => (p, h.k) :: wk a (p ++ [0])
  | .bi h a b, p => (p, h.k) :: (wk a (p ++ [0]) ++ wk b (p ++ [1]))
def wkL : List Tr → List Nat → Nat → List (List Nat × Kd)
  | [], _, _ => []
  | t :: ts, p, i => wk t (p ++ [i]) ++ wkL ts p (i + 1)
theorem wk_eq (t : Tr) (p : List Nat) : wk t p = (p, t.hd.k) :: wkL t.ks p 0 := by
  cases t <;> simp [wk, wkL, Tr.ks, Tr.hd]
theorem wk_len : ∀ (t : Tr) (p : List Nat), (wk t p).length = t.size
  | .le _, _ => rfl
  | .un _ a, p => by simp [wk, Tr.size, wk_len a]
  | .bi _ a b, p => by simp [wk, Tr.size, wk_len a, wk_len b]
def ItV (H : Hp) (x : List Nat × Kd) (v : V) : Prop := ∃ t u, v = .ref t ∧ H t = some (.tup [u, .str x.2.nm]) ∧ PthV H x.1 u
theorem ItV.ts {H H' : Hp} (e : TS H H') {x : List Nat × Kd} {v : V} : ItV H x v → ItV H' x v := fun ⟨t, u, h1, h2, h3⟩ => ⟨t, u, h1, e _ _ h2, h3.ts e⟩
def ItsV (H : Hp) : List (List Nat × Kd) → List V → Prop
  | [], vs => vs = []
  | x :: xs, vs => ∃ v us, vs = v :: us ∧ ItV H x v ∧ ItsV H xs us
theorem ItsV.ts {H H' : Hp} (e : TS H H') : ∀ {f : List (List Nat × Kd)} {v : List V}, ItsV H f v → ItsV H' f v
  | [], _, h => h
  | _ :: _, _, ⟨v, us, h1, h2, h3⟩ => ⟨v, us, h1, h2.ts e, h3.ts e⟩
theorem ItsV.snoc {H : Hp} {h : List Nat × Kd} {x : V} (hx : ItV H h x) : ∀ {f : List (List Nat × Kd)} {v : List V}, ItsV H f v → ItsV H (f ++ [h]) (v ++ [x])
  | [], _, e => by rw [show _ = _ from e]; exact ⟨x, [], rfl, hx, rfl⟩
  | _ :: _, _, ⟨v, us, h1, h2, h3⟩ => by
    subst h1
    exact ⟨v, _, rfl, h2, h3.snoc hx⟩
theorem ItsV.len {H : Hp} : ∀ {f : List (List Nat × Kd)} {v : List V}, ItsV H f v → v.length = f.length
  | [], _, h => by rw [show _ = _ from h]; rfl
  | _ :: _, _, ⟨v, us, h1, h2, h3⟩ => by rw [h1, List.length_cons, List.length_cons, h3.len]
/-- what waits: a path and a tree -/
def QV (H : Hp) (x : List Nat × Tr) (v : V) : Prop := ∃ t u y, v = .ref t ∧ H t = some (.tup [u, y]) ∧ PthV H x.1 u ∧ TrV H x.2 y
theorem QV.ts {H H' : Hp} (e : TS H H') {x : List Nat × Tr} {v : V} : QV H x v → QV H' x v := fun ⟨t, u, y, h1, h2, h3, h4⟩ => ⟨t, u, y, h1, e _ _ h2, h3.ts e, h4.ts e⟩
def QsV (H : Hp) : List (List Nat × Tr) → List V → Prop
  | [], vs => vs = []
  | x :: xs, vs => ∃ v us, vs = v :: us ∧ QV H x v ∧ QsV H xs us
theorem QsV.ts {H H' : Hp} (e : TS H H') : ∀ {f : List (List Nat × Tr)} {v : List V}, QsV H f v → QsV H' f v
  | [], _, h => h
  | _ :: _, _, ⟨v, us, h1, h2, h3⟩ => ⟨v, us, h1, h2.ts e, h3.ts e⟩
theorem QsV.len {H : Hp} : ∀ {f : List (List Nat × Tr)} {v : List V}, QsV H f v → v.length = f.length
  | [], _, h => by rw [show _ = _ from h]; rfl
  | _ :: _, _, ⟨v, us, h1, h2, h3⟩ => by rw [h1, List.length_cons, List.length_cons, h3.len]
def wkQ (q : List (List Nat × Tr)) : List (List Nat × Kd) := q.flatMap fun x => wk x.2 x.1
def szQ (q : List (List Nat × Tr)) : Nat := szL (q.map (·.2))
/-- the kids of a tree that wait, from the i-th on -/
def kq (ts : List Tr) (p : List Nat) (i : Nat) : List (List Nat × Tr) := (ts.drop i).zipIdx i |>.map fun x => (p ++ [x.2], x.1)
theorem kq_cons {ts : List Tr} {p : List Nat} {i : Nat} {a : Tr} (h : ts[i]? = some a) : kq ts p i = (p ++ [i], a) :: kq ts p (i + 1) := by
  obtain ⟨h1, h2⟩ := List.getElem?_eq_some_iff.mp h
  unfold kq
  rw [List.drop_eq_getElem_cons h1, h2]
  rfl
theorem kq_end (ts : List Tr) (p : List Nat) : kq ts p ts.length = [] := by simp [kq]
theorem wkL_zip (p : List Nat) : ∀ (ts : List Tr) (i : Nat), wkL ts p i = wkQ ((ts.zipIdx i).map fun x => (p ++ [x.2], x.1))
  | [], i => rfl
  | t :: ts, i => by
    rw [wkL, wkL_zip p ts (i + 1)]
    rfl
theorem QsV.append {H : Hp} : ∀ {f g : List (List Nat × Tr)} {v u : List V}, QsV H f v → QsV H g u → QsV H (f ++ g) (v ++ u)
  | [], _, _, _, h, k => by rw [show _ = _ from h]; exact k
  | _ :: _, _, _, _, ⟨v, us, h1, h2, h3⟩, k => by
    subst h1
    exact ⟨v, _, rfl, h2, h3.append k⟩
theorem kq_mem {ts : List Tr} {p : List Nat} : ∀ x ∈ kq ts p 0, x.2 ∈ ts ∧ x.1.length = p.length + 1 := by
  intro x hx
  unfold kq at hx
  obtain ⟨y, hy, rfl⟩ := List.mem_map.mp hx
  rw [List.drop_zero] at hy
  exact ⟨List.fst_mem_of_mem_zipIdx hy, by simp⟩
theorem szQ_app (a b : List (List Nat × Tr)) : szQ (a ++ b) = szQ a + szQ b := by unfold szQ; rw [List.map_append, szL_app]
theorem wkQ_app (a b : List (List Nat × Tr)) : wkQ (a ++ b) = wkQ a ++ wkQ b := List.flatMap_append
theorem szQ_wk : ∀ q : List (List Nat × Tr), (wkQ q).length = szQ q
  | [] => rfl
  | x :: q => by
    rw [show wkQ (x :: q) = wk x.2 x.1 ++ wkQ q from rfl, List.length_append, wk_len, szQ_wk q]
    rfl
theorem kq_wk (ts : List Tr) (p : List Nat) : wkQ (kq ts p 0) = wkL ts p 0 := by rw [wkL_zip]; rfl
theorem kq_sz (ts : List Tr) (p : List Nat) : szQ (kq ts p 0) = szL ts := by
  unfold szQ kq
  rw [List.map_map, List.drop_zero]
  congr 1
  have : ((fun x : List Nat × Tr => x.2) ∘ fun x : Tr × Nat => (p ++ [x.2], x.1)) = fun x => x.1 := rfl
  rw [this]
  simp
/-- a def that hands out, as the top has left it -/
structure GF (P : Program) (w : World) (K : PySem.W.Frag) (mg : Str → Option Value) (base : Heap) (k : Nat) (x : Str) (sp : SpG) : Prop where
  ex : ∃ (f : Addr) (fd : FuncData) (ps : List Str), GFn P w K mg base k f fd ps sp ∧ mg x = some (.ref f) ∧ PySem.W.keepIn K (.ref f) = true ∧ Binds K fd ps []



theorem dep_le : ∀ t : Tr, t.dep ≤ t.size
  | .le _ => Nat.zero_le _
  | .un _ a => by have := dep_le a; show a.dep + 1 ≤ a.size + 1; omega
  | .bi _ a b => by have := dep_le a; have := dep_le b; show max a.dep b.dep + 1 ≤ a.size + b.size + 1; omega
/-- what the walk does for a consumer that works at each item; D: the consumer's list -/
def spWk : SpH := fun vs H Wy Wr Q => ∃ v t, vs = [v] ∧ TrV H t v ∧ t.Ok ∧ t.size ≤ 1000 ∧ ∃ Iv : Nat → Prop, Iv 0 ∧
  (∀ j y x H1, (wk t [])[j]? = some y → ItV H1 y x → Iv j → Same H H1 → Wy j x H1 ∧ ∀ H2, Wr x H1 H2 → Iv (j + 1) ∧ H2 = H1) ∧
  ∀ n H1, Iv (wk t []).length → Same H H1 → Q n H1
structure GFw (P : Program) (w : World) (K : PySem.W.Frag) (mg : Str → Option Value) (base : Heap) (k : Nat) : Prop where
  ex : ∃ (f : Addr) (fd : FuncData) (ps : List Str) (cd : Value), GFh P w K mg base k f fd ps N_walk "walk" (defScope s_walk) cd spWk ∧ mg "walk" = some (.ref f) ∧ PySem.W.keepIn K (.ref f) = true ∧ Binds K fd ps []
section
variable {P : Program} {w : World} {K : PySem.W.Frag} {mg : Str → Option Value} {base : Heap}
theorem ok_walk2 (T : Top K mg "walk" s_walk) (mLen : mg "len" = none) (mR : mg "range" = none) (mRv : mg "reversed" = none) (FP : Fn P w K mg base 1 "premises" spPrem) : GFw P w K mg base 3 := by
  obtain ⟨f, fd, F, hmg⟩ := T.ex
  obtain ⟨oc, od, kV, doc, pm, an, cdv, ct, osl, rfl, lk, hcd⟩ := id F.ex
  refine ⟨f, _, P_walk, cdv, gfh_of lk hcd sg_walk (fun vs H Wy Wr Q h => by obtain ⟨v, t, rfl, _⟩ := h; rfl) (fun A outer n0 pn ι ent i0 Pp Wy Wr hr => ?_), hmg, F.kp, F.binds fun _ _ _ _ _ _ us hl => match us, hl with | [_], _ => rfl⟩
  have Fm := fam_gX (P := P) (w := w) (K := K) (mg := mg) (base := base) (N := N_walk) (qual := "walk") (scope := defScope s_walk) (f := f) (cd := cdv) (A := A) (outer := outer) (n0 := n0) (pn := pn) ent i0
  have nds : ∀ i, In (gX P w K mg base N_walk "walk" (defScope s_walk) f cdv A outer n0 pn (ent i)) N_walk G_walk (defScope s_walk) := fun i => ⟨so_walk, ⟨[], (List.append_nil _).symm⟩, sg_walk.nd, rfl, rfl, own_gX⟩
  refine ⟨_, hss_cons (hs_w Fm) (hss_cons (hs_whilew Fm (hss_cons (hs_w Fm) (hss_cons (hs_yieldw Fm) (hss_cons (hs_w Fm) (hss_cons (hs_w Fm) hss_nil))))) hss_nil), fun vs H Q h => ?_⟩
  obtain ⟨v, t, rfl, hv, ho, hz, Iv, iv0, ivY, ivE⟩ := h
  intro i
  have nd := nds i
  show wS _ _ ⟨_, _, _, _⟩ _ _
  refine s_set (e_lst (a_cons (e_tup (a_cons (e_tup (a_nil ⟨by show 0 ≤ sizeLine; decide, fun pa H1 e1 n1 h1 => ?_⟩))))))
  walk_at "sts"
  refine ⟨by show 2 ≤ sizeLine; decide, fun ta H2 e2 n2 h2 => ?_⟩
  walk_at "sts"
  refine ⟨by show 1 ≤ sizeLine; decide, fun wa H3 e3 n3 h3 => ?_⟩
  have e13 := (e1.trans e2).trans e3
  have nHw : H wa = none := none_of (e1.trans e2) n3
  have h2' := e3 _ _ h2
  refine ⟨fun m j σ H' => ∃ (qs : List (List Nat × Tr)) (ws : List V) (x y z i : Option V), σ = [some v, some (.ref wa), x, y, z, i] ∧ H' wa = some (.lst ws.reverse) ∧ QsV H' qs ws ∧ (∀ a ∈ qs, a.2.Ok ∧ a.1.length + a.2.dep ≤ 1000) ∧ m = szQ qs ∧ (wk t []).drop j = wkQ qs ∧ j + szQ qs = t.size ∧ Iv j ∧ Same H H', ⟨szQ [([], t)], [([], t)], [.ref ta], none, none, none, none, rfl, h3, ⟨.ref ta, [], rfl, ⟨ta, .ref pa, v, rfl, h2', ⟨pa, rfl, e3 _ _ (e2 _ _ h1)⟩, hv.ts (Same.ts e13)⟩, rfl⟩, fun a ha => by rw [List.mem_singleton.mp ha]; have := dep_le t; exact ⟨ho, by simp only [List.length_nil]; omega⟩, rfl, by simp [wkQ], by simp [szQ, szL], iv0, e13⟩, ?_⟩
  rintro m j σ H' ⟨qs, ws, x, y, z, ii, rfl, hwa, hqs, hok, rfl, heq, hjs, iv, keep⟩
  intro i
  have nd := nds i
  refine t_tru (e_var ⟨_, tru_l hwa, ?_⟩)
  cases qs with
  | nil =>
    cases (show ws = [] from hqs)
    refine iteF ?_
    have lj : j = (wk t []).length := by rw [wk_len]; have z0 : szQ [] = 0 := rfl; omega
    subst lj
    exact ivE _ _ iv keep
  | cons a qs =>
    obtain ⟨u, us, rfl, ⟨qt, pu, tv, rfl, hqt, hpu, htv⟩, hus⟩ := hqs
    rw [List.reverse_cons] at hwa ⊢
    rw [show (!(us.reverse ++ [V.ref qt]).isEmpty) = true by simp]
    refine iteT ⟨_, fun _ _ _ z => z, ?_⟩
    intro i
    have nd := nds i
    show wS _ _ ⟨_, _, _, _⟩ _ _
    refine s_tup2 (e_pop (e_var ⟨wa, us.reverse, .ref qt, rfl, hwa, ?_⟩))
    have t1 : TS H' (upd H' wa (.lst us.reverse)) := TS.upd hwa
    refine ⟨qt, pu, tv, rfl, SqT.of (t1 _ _ hqt), ?_⟩
    obtain ⟨oka, lda⟩ := hok a (List.mem_cons_self ..)
    obtain ⟨cp, xs, ks, rfl, hcp, ⟨fs, rfl, hfs⟩, hks⟩ := htv.split
    have hcp1 := t1 _ _ hcp
    have szc : szQ (a :: qs) = a.2.size + szQ qs := rfl
    have sza := size_ks a.2
    refine ⟨by show j < 2 ^ 24; omega, ?_⟩
    intro i
    have nd := nds i
    show wE _ _ [some v, some (.ref wa), some pu, some (.ref cp), z, ii] _ _
    refine e_tup (a_cons (e_var (a_cons (e_ix ?_))))
    walk_at "sts"
    refine ix_t (by exact SqT.of hcp1) at0 ?_
    refine a_nil ⟨by show 2 ≤ sizeLine; decide, fun yt H4 e4 n4 h4 => ?_⟩
    have hq0 : (wk t [])[j]? = some (a.1, a.2.hd.k) := by
      have q : (wk t []).drop j = (a.1, a.2.hd.k) :: (wkL a.2.ks a.1 0 ++ wkQ qs) := by
        rw [heq, show wkQ (a :: qs) = wk a.2 a.1 ++ wkQ qs from rfl, wk_eq]; rfl
      rw [← List.head?_drop, q]; rfl
    have hq1 : (wk t []).drop (j + 1) = wkQ (kq a.2.ks a.1 0 ++ qs) := by
      rw [← List.drop_drop, heq, show wkQ (a :: qs) = wk a.2 a.1 ++ wkQ qs from rfl, wk_eq, wkQ_app, kq_wk]; rfl
    have t4 : TS H' H4 := t1.trans (Same.ts e4)
    obtain ⟨put0, rfl, hput0⟩ := hpu
    have itv : ItV H4 (a.1, a.2.hd.k) (.ref yt) := ⟨yt, .ref put0, rfl, h4, ⟨put0, rfl, t4 _ _ hput0⟩⟩
    have keep4 : Same H H4 := fun b o hb => e4 _ _ (by rw [upd_ne (fun z => by rw [z, nHw] at hb; cases hb)]; exact keep b o hb)
    obtain ⟨wy, wr⟩ := ivY j _ _ H4 hq0 itv iv keep4
    refine ⟨wy, fun H5 hw5 => ?_⟩
    obtain ⟨iv5, rfl⟩ := wr H5 hw5
    have t5 : TS H' H5 := t4
    have hwa5 : H5 wa = some (.lst us.reverse) := e4 _ _ upd_same
    have keep5 := keep4
    intro i
    have nd := nds i
    show wS _ _ ⟨_, _, _, _⟩ [some v, some (.ref wa), some (.ref put0), some (.ref cp), z, ii] _
    have hcp5 := t5 _ _ hcp
    refine s_set (e_call (by exact FP) (by exact hr) (by decide) ?_)
    walk_at "sts"
    refine ⟨cp, a.2.hd.k, _, _, ks, rfl, hcp5, rfl, (HdL.len oka.hd.1 ⟨fs, rfl, hfs⟩), fun ab H6 e6 n6 h6 => ?_⟩
    intro i
    have nd := nds i
    show wS _ _ ⟨_, _, _, _⟩ [some v, some (.ref wa), some (.ref put0), some (.ref cp), some (.ref ab), ii] _
    have lks := hks.len
    have lk2 := ks_le a.2
    have lqs : us.length ≤ szQ qs := by rw [hus.len]; have := len_szL (qs.map (·.2)); rw [List.length_map] at this; exact this
    have hwa6 := e6 _ _ hwa5
    have t6 : TS H' H6 := t5.trans (Same.ts e6)
    have hput := t6 _ _ hput0
    have nwab : ab ≠ wa := fun z => by subst z; rw [hwa5] at n6; cases n6
    have keep6 : Same H H6 := keep5.trans e6
    refine s_forRR (by assumption) (by assumption) ?_
    walk_at "sts"
    refine c_lenL (by exact SqL.of h6) ⟨ks.length, rfl, by omega, fun j' σ' H7 => ∃ (wq : List V) (i : Option V), σ' = [some v, some (.ref wa), some (.ref put0), some (.ref cp), some (.ref ab), i] ∧ H7 wa = some (.lst (wq ++ us).reverse) ∧ QsV H7 (kq a.2.ks a.1 (ks.length - j')) wq ∧ wq.length = j' ∧ But wa H6 H7, ⟨[], ii, rfl, by rw [List.nil_append]; exact hwa6, by rw [Nat.sub_zero, lks, kq_end]; exact rfl, rfl, fun _ _ _ z => z⟩, ?_, ?_⟩
    · intro j' σ' H7 hj pr
      obtain ⟨wq, i', rfl, hw7, hq7, hl7, b7⟩ := pr
      have t7 : TS H6 H7 := fun c l hc => b7 _ _ (fun z => by subst z; rw [hwa6] at hc; cases hc) hc
      have hkj : ks[ks.length - 1 - j']? = some (ks[ks.length - 1 - j']'(by omega)) := List.getElem?_eq_getElem (by omega)
      obtain ⟨b, hb, hbv⟩ := hks.get hkj
      show wL _ _ _ [some v, some (.ref wa), some (.ref put0), some (.ref cp), some (.ref ab), some (.int ((ks.length - 1 - j' : Nat) : Int))] _
      refine l_cons (s_expr (e_app (e_var ⟨wa, _, rfl, SqL.of hw7, ?_⟩)))
      refine e_tup (a_cons (e_bin (e_var (e_tup (a_cons (e_var (a_nil ⟨by show 1 ≤ sizeLine; decide, fun p7 H8 e8 n8 h8 => ?_⟩)))))))
      have hput8 := e8 _ _ (t7 _ _ hput)
      refine o_catA hput8 h8 (by rw [List.length_map]; simp only [List.length_cons, List.length_nil]; omega) fun p8 H9 e9 h9 => ?_
      refine a_cons (e_ix (e_var (e_var ?_)))
      have e89 := e8.trans e9
      refine ix_l (by exact SqL.of (e89 _ _ (b7 _ _ nwab h6))) (atI_nat hkj) ?_
      refine a_nil ⟨by show 2 ≤ sizeLine; decide, fun p9 H10 e10 n10 h10 => ?_⟩
      have e8t := e89.trans e10
      have hw10 := e8t _ _ hw7
      refine ⟨_, hw10, by rw [List.length_reverse, List.length_append]; show _ < 2 ^ 24; omega, ?_⟩
      have t10 : TS H10 (upd H10 wa (.lst ((wq ++ us).reverse ++ [.ref p9]))) := TS.upd hw10
      have t610 : TS H6 (upd H10 wa (.lst ((wq ++ us).reverse ++ [.ref p9]))) := (t7.trans (Same.ts e8t)).trans t10
      refine l_nil ⟨.ref p9 :: wq, _, rfl, by rw [List.cons_append, List.reverse_cons]; exact upd_same, ?_, by rw [List.length_cons, hl7], fun c o nc hc => by rw [upd_ne nc]; exact e8t _ _ (b7 _ _ nc hc)⟩
      rw [show ks.length - (j' + 1) = ks.length - 1 - j' by omega, kq_cons hb, show ks.length - 1 - j' + 1 = ks.length - j' by omega]
      refine ⟨_, _, rfl, ⟨p9, .ref p8, _, rfl, t10 _ _ h10, ⟨p8, rfl, ?_⟩, hbv.ts (t6.trans t610)⟩, hq7.ts ((Same.ts e8t).trans t10)⟩
      rw [t10 _ _ (e10 _ _ h9), List.map_append]
      rfl
    · intro σ' H7 pr
      obtain ⟨wq, i', rfl, hw7, hq7, hl7, b7⟩ := pr
      rw [Nat.sub_self] at hq7
      have t7 : TS H6 H7 := fun c l hc => b7 _ _ (fun z => by subst z; rw [hwa6] at hc; cases hc) hc
      refine ⟨szQ (kq a.2.ks a.1 0 ++ qs), by rw [szQ_app, kq_sz]; omega, kq a.2.ks a.1 0 ++ qs, wq ++ us, _, _, _, _, rfl, hw7, hq7.append (hus.ts (t6.trans t7)), ?_, rfl, hq1, by rw [szQ_app, kq_sz]; omega, iv5, fun b o hb => b7 _ _ (fun z => by rw [z, nHw] at hb; cases hb) (keep6 b o hb)⟩
      intro b hb
      rcases List.mem_append.mp hb with hb | hb
      · obtain ⟨m1, m2⟩ := kq_mem b hb
        have := dep_ks b.2 m1
        exact ⟨oka.hd.2.2 b.2 m1, by rw [m2]; omega⟩
      · exact hok b (List.mem_cons_of_mem _ hb)
end



/-! ### a derivation that must be bare -/
def isC (k : Kd) : Bool := decide (k = .cut) || decide (k = .cite)
def firstT (t : Tr) : Option (List Nat) := ((wk t []).find? fun x => isC x.2).map (·.1)
section
variable {P : Program} {w : World} {K : PySem.W.Frag} {mg : Str → Option Value} {base : Heap} {CN : Addr}
theorem ok_nb {C : Addr} (T : TopM K C "__init__" "NotBare.__init__" s_NotBare___init) (O : OexC K C) (no : PySem.W.findIn K (.ref C) "path" = some none) (hm : mg "NotBare" = some (.ref C)) : Er P w K mg base "NotBare" C "path" := by
  obtain ⟨f, fd, F, hb, hf, hi, hk⟩ := me_ok (P := P) (w := w) (mg := mg) (base := base) (k := 0) (sp := sp1 C "path") T sc_NotBare___init so_NotBare___init (fun vs H Q E h => by obtain ⟨a, v, rfl, _⟩ := h; rfl) (fun _ _ _ _ _ _ us hl => match us, hl with | [_, _], _ => rfl) fun f cdv A outer s H vs Q E hr h nd => by
    obtain ⟨a, v, rfl, ha, q⟩ := h
    refine l_cons (s_ost ?_)
    walk_at "sts"
    refine ⟨a, C, rfl, O, no, ha, fun dx nd ne => ?_⟩
    refine l_nil ?_
    exact q dx nd ne
  exact ⟨O, hm, f, fd, _, F, hf, beq_iff_eq.mp hi, hb⟩
theorem isC_nm (k : Kd) : (k.nm = Str.ofString "cut" ∨ k.nm = Str.ofString "cite") ↔ isC k = true := by
  cases k <;> (constructor <;> intro h <;> revert h <;> decide +kernel)
theorem find_at {α : Type} {p : α → Bool} : ∀ {l : List α} {j : Nat} {y : α}, (∀ i, i < j → ∀ z, l[i]? = some z → p z = false) → l[j]? = some y → p y = true → l.find? p = some y
  | x :: l, 0, y, _, h, hp => by cases h; simp [hp]
  | x :: l, j + 1, y, hj, h, hp => by
    rw [List.find?_cons, hj 0 (by omega) x rfl]
    exact find_at (j := j) (fun i hi z hz => hj (i + 1) (by omega) z (by simpa using hz)) (by simpa using h) hp
  | [], j, _, _, h, _ => by cases j <;> cases h
theorem find_no {α : Type} {p : α → Bool} {l : List α} (h : ∀ i, i < l.length → ∀ z, l[i]? = some z → p z = false) : l.find? p = none := by
  rw [List.find?_eq_none]
  intro x hx
  obtain ⟨i, hi, e⟩ := List.getElem_of_mem hx
  rw [h i hi x (by rw [List.getElem?_eq_getElem hi, e])]
  decide
def spReq (CN : Addr) : Sp := fun vs H Q E => ∃ v t, vs = [v] ∧ TrV H t v ∧ t.Ok ∧ t.size ≤ 1000 ∧ (firstT t = none → ∀ H', Same H H' → Q .non H') ∧
  ∀ p u d H', firstT t = some p → Same H H' → PthV H' p u → H' d = some (.xd [("path", u)]) → E (.ref CN) (some d) H'
theorem ok_req (T : Top K mg "require_bare" s_require_bare) (FW : GFw P w K mg base 3) (R : Er P w K mg base "NotBare" CN "path") : FnN P w K mg base 6 "require_bare" (spReq CN) := by
  refine fn_okN T sc_require_bare so_require_bare (fun vs H Q E h => by obtain ⟨v, t, rfl, _⟩ := h; rfl) (fun _ _ _ _ _ _ us hl => match us, hl with | [_], _ => rfl) fun f cdv A outer s H vs Q E hr h nd tk => ?_
  obtain ⟨v, t, rfl, hv, ho, hz, q1, q2⟩ := h
  obtain ⟨fw, fdw, psw, cdw, FG, hmw, hkw, hbw⟩ := FW.ex
  refine l_cons (s_forG FG hmw hkw hbw (by exact hr) (by decide) (a_cons (e_var (a_nil ?_))))
  refine ⟨v, t, rfl, hv, ho, hz, fun j => ∀ i, i < j → ∀ z, (wk t [])[i]? = some z → isC z.2 = false, fun i hi => absurd hi (Nat.not_lt_zero _), fun j y x H1 hy hx hj e1 => ?_, fun n H1 hn e1 σ' hσ => ?_⟩
  · obtain ⟨T', u, rfl, hT, hp⟩ := hx
    refine ⟨⟨T', u, y.2.nm, rfl, hT, fun hc => ?_⟩, fun H2 hw => ?_⟩
    · have hcy := (isC_nm y.2).mp hc
      have hf : firstT t = some y.1 := by
        unfold firstT
        rw [find_at hj hy hcy]
        rfl
      refine l_cons (s_raiseN (by exact R) (by exact tk) (by exact hr) (by decide) (e_var fun d H3 e3 n3 h3 => ?_))
      exact q2 y.1 u d H3 hf (e1.trans e3) (hp.ts (Same.ts e3)) h3
    · obtain ⟨T2, u2, nm2, e2, hT2, hn1, hn2, rfl⟩ := hw
      cases e2
      rw [hT] at hT2
      cases hT2
      refine ⟨fun i hi z hz => ?_, rfl⟩
      rcases Nat.lt_or_ge i j with h | h
      · exact hj i h z hz
      · have hi : i < j + 1 := hi
        have : i = j := by omega
        subst this
        rw [hy] at hz
        cases hz
        cases hc : isC y.2 with
        | false => rfl
        | true => exact ((isC_nm y.2).mpr hc).elim (fun h => absurd h hn1) fun h => absurd h hn2
  · refine l_nil (q1 ?_ H1 e1)
    unfold firstT
    rw [find_no hn]
    rfl
end



/-! ### readings, as data -/
inductive Rd where
  | tk (a : Rd) | mk (n : Str) (i : Int) (a : Rd) | of (a b : Rd) | hd (h : Key) (s : Rd)
  | nil | pk (d : Str) (s : Rd) | op (n : Str) (i : Int) (s : Rd) | py (m : Option (Int × Int)) (p s : Rd)
def mF : Option (Int × Int) → Fd
  | none => .s "once"
  | some (a, b) => .p a b
/-- a reading (true), what a head's actions are (false) -/
def Wf : Bool → Rd → Prop
  | true, .tk a => Wf true a
  | true, .mk _ _ a => Wf true a
  | true, .of a b => Wf true a ∧ Wf true b
  | true, .hd _ s => Wf false s
  | false, .nil => True
  | false, .pk _ s => Wf false s
  | false, .op _ _ s => Wf false s
  | false, .py _ p s => Wf true p ∧ Wf false s
  | _, _ => False
def DV (H : Hp) : Rd → List V → Prop
  | .tk a, xs => ∃ t x, xs = [.ref t] ∧ H t = some (.tup [.str "take", x]) ∧ DV H a [x]
  | .mk n i a, xs => ∃ t x, xs = [.ref t] ∧ H t = some (.tup [.str "make", .str n, .int i, x]) ∧ DV H a [x]
  | .of a b, xs => ∃ t x y, xs = [.ref t] ∧ H t = some (.tup [.str "offer", x, y]) ∧ DV H a [x] ∧ DV H b [y]
  | .hd h s, xs => ∃ t r ys, xs = [.ref t] ∧ H t = some (.tup [.str "head", kV h, .ref r]) ∧ H r = some (.tup ys) ∧ DV H s ys
  | .nil, xs => xs = []
  | .pk d s, xs => ∃ t ys, xs = .ref t :: ys ∧ H t = some (.tup [.str "pick", .str d]) ∧ DV H s ys
  | .op n i s, xs => ∃ t ys, xs = .ref t :: ys ∧ H t = some (.tup [.str "open", .str n, .int i]) ∧ DV H s ys
  | .py m p s, xs => ∃ t mv x ys, xs = .ref t :: ys ∧ H t = some (.tup [.str "pay", mv, x]) ∧ FdV H (mF m) mv ∧ DV H p [x] ∧ DV H s ys
theorem DV.ts {H H' : Hp} (e : TS H H') : ∀ {R : Rd} {xs : List V}, DV H R xs → DV H' R xs
  | .tk _, _, ⟨t, x, h1, h2, h3⟩ => ⟨t, x, h1, e _ _ h2, h3.ts e⟩
  | .mk _ _ _, _, ⟨t, x, h1, h2, h3⟩ => ⟨t, x, h1, e _ _ h2, h3.ts e⟩
  | .of _ _, _, ⟨t, x, y, h1, h2, h3, h4⟩ => ⟨t, x, y, h1, e _ _ h2, h3.ts e, h4.ts e⟩
  | .hd _ _, _, ⟨t, r, ys, h1, h2, h3, h4⟩ => ⟨t, r, ys, h1, e _ _ h2, e _ _ h3, h4.ts e⟩
  | .nil, _, h => h
  | .pk _ _, _, ⟨t, ys, h1, h2, h3⟩ => ⟨t, ys, h1, e _ _ h2, h3.ts e⟩
  | .op _ _ _, _, ⟨t, ys, h1, h2, h3⟩ => ⟨t, ys, h1, e _ _ h2, h3.ts e⟩
  | .py _ _ _, _, ⟨t, mv, x, ys, h1, h2, h3, h4, h5⟩ => ⟨t, mv, x, ys, h1, e _ _ h2, h3.ts e, h4.ts e, h5.ts e⟩
/-- the number of actions; of rows; how deep -/
def al : Rd → Nat
  | .pk _ s => al s + 1 | .op _ _ s => al s + 1 | .py _ _ s => al s + 1 | _ => 0
def nd : Rd → Nat
  | .tk a => nd a + 1 | .mk _ _ a => nd a + 1 | .of a b => nd a + nd b + 1 | .hd _ s => nd s
  | .nil => 1 | .pk _ s => nd s + 1 | .op _ _ s => nd s + 1 | .py _ p s => nd p + nd s + 1
theorem DV.al {H : Hp} : ∀ {s : Rd} {ys : List V}, Wf false s → DV H s ys → ys.length = al s
  | .nil, ys, _, h => by rw [show ys = [] from h]; rfl
  | .pk _ s, _, w, ⟨t, ys, h1, _, h3⟩ => by rw [h1, List.length_cons, DV.al (s := s) w h3]; rfl
  | .op _ _ s, _, w, ⟨t, ys, h1, _, h3⟩ => by rw [h1, List.length_cons, DV.al (s := s) w h3]; rfl
  | .py _ _ s, _, w, ⟨t, mv, x, ys, h1, _, _, _, h5⟩ => by rw [h1, List.length_cons, DV.al (s := s) w.2 h5]; rfl
theorem al_nd : ∀ s : Rd, al s ≤ nd s
  | .pk _ s => by have := al_nd s; show al s + 1 ≤ nd s + 1; omega
  | .op _ _ s => by have := al_nd s; show al s + 1 ≤ nd s + 1; omega
  | .py _ p s => by have := al_nd s; show al s + 1 ≤ nd p + nd s + 1; omega
  | .tk _ => Nat.zero_le _ | .mk _ _ _ => Nat.zero_le _ | .of _ _ => Nat.zero_le _ | .hd _ _ => Nat.zero_le _ | .nil => Nat.zero_le _
/-! ### the derivation of a reading -/
abbrev lv (n : Nat) : Key := .inl (n : Int)
/-- a head's reference: the level of that take, or a name -/
def rfo (t : List Nat) : Key → Key
  | .inl i => match t[i.toNat]? with
    | some l => lv l
    | none => .inl i
  | .inr z => .inr z
def stl : Rd → Nat → List Nat → Key → Tr
  | .tk a, l, t, r => .un ⟨.take, none, []⟩ (stl a (l + 1) (t ++ [l]) r)
  | .mk n i a, l, t, r => .un ⟨.make, none, [.s n, .i i]⟩ (stl a l t r)
  | .of a b, l, t, r => .bi ⟨.offer, none, []⟩ (stl a l t r) (stl b l t r)
  | .hd h s, l, t, _ => stl s l t (rfo t h)
  | .nil, _, _, r => .le ⟨.own, some r, []⟩
  | .pk d s, l, t, r => .un ⟨.pick, some r, [.s d]⟩ (stl s (l + 1) t (lv l))
  | .op n i s, l, t, r => .un ⟨.open_, some r, [.s n, .i i]⟩ (stl s (l + 1) t (lv l))
  | .py m p s, l, t, r => .bi ⟨.pay, some r, [mF m]⟩ (stl p l t r) (stl s (l + 1) t (lv l))
theorem stl_size : ∀ (R : Rd) (l : Nat) (t : List Nat) (r : Key), (stl R l t r).size = nd R
  | .tk a, l, t, r => by show (stl a _ _ _).size + 1 = nd a + 1; rw [stl_size a]
  | .mk n i a, l, t, r => by show (stl a _ _ _).size + 1 = nd a + 1; rw [stl_size a]
  | .of a b, l, t, r => by show (stl a _ _ _).size + (stl b _ _ _).size + 1 = nd a + nd b + 1; rw [stl_size a, stl_size b]
  | .hd h s, l, t, r => stl_size s _ _ _
  | .nil, _, _, _ => rfl
  | .pk d s, l, t, r => by show (stl s _ _ _).size + 1 = nd s + 1; rw [stl_size s]
  | .op n i s, l, t, r => by show (stl s _ _ _).size + 1 = nd s + 1; rw [stl_size s]
  | .py m p s, l, t, r => by show (stl p _ _ _).size + (stl s _ _ _).size + 1 = nd p + nd s + 1; rw [stl_size p, stl_size s]
theorem stl_ok : ∀ (R : Rd) (l : Nat) (t : List Nat) (r : Key), (stl R l t r).Ok
  | .tk a, l, t, r => ⟨⟨rfl, rfl⟩, rfl, stl_ok a _ _ _⟩
  | .mk n i a, l, t, r => ⟨⟨rfl, rfl⟩, rfl, stl_ok a _ _ _⟩
  | .of a b, l, t, r => ⟨⟨rfl, rfl⟩, rfl, stl_ok a _ _ _, stl_ok b _ _ _⟩
  | .hd h s, l, t, r => stl_ok s _ _ _
  | .nil, _, _, _ => ⟨⟨rfl, rfl⟩, rfl⟩
  | .pk d s, l, t, r => ⟨⟨rfl, rfl⟩, rfl, stl_ok s _ _ _⟩
  | .op n i s, l, t, r => ⟨⟨rfl, rfl⟩, rfl, stl_ok s _ _ _⟩
  | .py m p s, l, t, r => ⟨⟨rfl, rfl⟩, rfl, stl_ok p _ _ _, stl_ok s _ _ _⟩
/-- a reading's reference does not matter -/
theorem stl_r : ∀ {R : Rd} (_ : Wf true R) (l : Nat) (t : List Nat) (r r' : Key), stl R l t r = stl R l t r'
  | .tk a, w, l, t, r, r' => by show Tr.un _ _ = Tr.un _ _; rw [stl_r (R := a) w]
  | .mk n i a, w, l, t, r, r' => by show Tr.un _ _ = Tr.un _ _; rw [stl_r (R := a) w]
  | .of a b, w, l, t, r, r' => by show Tr.bi _ _ _ = Tr.bi _ _ _; rw [stl_r (R := a) w.1 l t r r', stl_r (R := b) w.2 l t r r']
  | .hd h s, w, l, t, r, r' => rfl
  | .nil, w, _, _, _, _ => w.elim
  | .pk _ _, w, _, _, _, _ => w.elim
  | .op _ _ _, w, _, _, _, _ => w.elim
  | .py _ _ _, w, _, _, _, _ => w.elim
/-! ### signs -/
inductive Sg where
  | tk | of | mk (n : Str) (i : Int) | hd (h : Key) (n : Nat) | pk (d : Str) | op (n : Str) (i : Int) | py (m : Option (Int × Int))
def SgV (H : Hp) : Sg → V → Prop
  | .tk, v => ∃ t, v = .ref t ∧ H t = some (.tup [.str "take"])
  | .of, v => ∃ t, v = .ref t ∧ H t = some (.tup [.str "offer"])
  | .mk n i, v => ∃ t, v = .ref t ∧ H t = some (.tup [.str "make", .str n, .int i])
  | .hd h n, v => ∃ t, v = .ref t ∧ H t = some (.tup [.str "head", kV h, .int (n : Int)])
  | .pk d, v => ∃ t, v = .ref t ∧ H t = some (.tup [.str "pick", .str d])
  | .op n i, v => ∃ t, v = .ref t ∧ H t = some (.tup [.str "open", .str n, .int i])
  | .py m, v => ∃ t mv, v = .ref t ∧ H t = some (.tup [.str "pay", mv]) ∧ FdV H (mF m) mv
theorem SgV.ts {H H' : Hp} (e : TS H H') : ∀ {g : Sg} {v : V}, SgV H g v → SgV H' g v
  | .tk, _, ⟨t, h1, h2⟩ => ⟨t, h1, e _ _ h2⟩
  | .of, _, ⟨t, h1, h2⟩ => ⟨t, h1, e _ _ h2⟩
  | .mk _ _, _, ⟨t, h1, h2⟩ => ⟨t, h1, e _ _ h2⟩
  | .hd _ _, _, ⟨t, h1, h2⟩ => ⟨t, h1, e _ _ h2⟩
  | .pk _, _, ⟨t, h1, h2⟩ => ⟨t, h1, e _ _ h2⟩
  | .op _ _, _, ⟨t, h1, h2⟩ => ⟨t, h1, e _ _ h2⟩
  | .py _, _, ⟨t, mv, h1, h2, h3⟩ => ⟨t, mv, h1, e _ _ h2, h3.ts e⟩
theorem SgV.tup {H : Hp} : ∀ {g : Sg} {v : V}, SgV H g v → ∃ t z xs, v = .ref t ∧ H t = some (.tup (.str z :: xs))
  | .tk, _, ⟨t, h1, h2⟩ => ⟨t, _, _, h1, h2⟩
  | .of, _, ⟨t, h1, h2⟩ => ⟨t, _, _, h1, h2⟩
  | .mk _ _, _, ⟨t, h1, h2⟩ => ⟨t, _, _, h1, h2⟩
  | .hd _ _, _, ⟨t, h1, h2⟩ => ⟨t, _, _, h1, h2⟩
  | .pk _, _, ⟨t, h1, h2⟩ => ⟨t, _, _, h1, h2⟩
  | .op _ _, _, ⟨t, h1, h2⟩ => ⟨t, _, _, h1, h2⟩
  | .py _, _, ⟨t, mv, h1, h2, h3⟩ => ⟨t, _, _, h1, h2⟩
/-- lists told by lists -/
def Al {α : Type} (F : α → V → Prop) : List α → List V → Prop
  | [], vs => vs = []
  | a :: as, vs => ∃ v us, vs = v :: us ∧ F a v ∧ Al F as us
theorem Al.mono {α : Type} {F G : α → V → Prop} (e : ∀ a v, F a v → G a v) : ∀ {l : List α} {v : List V}, Al F l v → Al G l v
  | [], _, h => h
  | _ :: _, _, ⟨v, us, h1, h2, h3⟩ => ⟨v, us, h1, e _ _ h2, h3.mono e⟩
theorem Al.len {α : Type} {F : α → V → Prop} : ∀ {l : List α} {v : List V}, Al F l v → v.length = l.length
  | [], _, h => by rw [show _ = _ from h]; rfl
  | _ :: _, _, ⟨v, us, h1, _, h3⟩ => by rw [h1, List.length_cons, List.length_cons, h3.len]
theorem Al.app {α : Type} {F : α → V → Prop} : ∀ {l m : List α} {v u : List V}, Al F l v → Al F m u → Al F (l ++ m) (v ++ u)
  | [], _, _, _, h, h' => by rw [show _ = _ from h]; exact h'
  | _ :: _, _, _, _, ⟨v, us, h1, h2, h3⟩, h' => ⟨v, _, by rw [h1]; rfl, h2, h3.app h'⟩
theorem Al.rev {α : Type} {F : α → V → Prop} : ∀ {l : List α} {v : List V}, Al F l v → Al F l.reverse v.reverse
  | [], _, h => by rw [show _ = _ from h]; rfl
  | _ :: _, _, ⟨v, us, h1, h2, h3⟩ => by
    rw [h1, List.reverse_cons, List.reverse_cons]
    exact h3.rev.app ⟨v, [], rfl, h2, rfl⟩
theorem Al.get {α : Type} {F : α → V → Prop} : ∀ {l : List α} {v : List V} {i : Nat} {x : V}, Al F l v → v[i]? = some x → ∃ a, l[i]? = some a ∧ F a x
  | [], _, i, x, h, e => by rw [show _ = _ from h] at e; cases e
  | a :: _, _, 0, x, ⟨v, us, h1, h2, h3⟩, e => by subst h1; cases e; exact ⟨a, rfl, h2⟩
  | _ :: l, _, i + 1, x, ⟨v, us, h1, h2, h3⟩, e => by
    subst h1
    exact h3.get (i := i) (by simpa using e)
def sg : Rd → List Sg
  | .tk a => .tk :: sg a | .mk n i a => .mk n i :: sg a | .of a b => .of :: (sg a ++ sg b) | .hd h s => .hd h (al s) :: sg s
  | .nil => [] | .pk d s => .pk d :: sg s | .op n i s => .op n i :: sg s | .py m p s => .py m :: (sg p ++ sg s)
/-- an action -/
inductive Ac where
  | pk (d : Str) | op (n : Str) (i : Int) | py (m : Option (Int × Int)) (p : Rd)
def sga : Ac → List Sg
  | .pk d => [.pk d] | .op n i => [.op n i] | .py m p => .py m :: sg p
/-- measures: what is still to be done for a derivation, for an action -/
def ms : Rd → Nat
  | .tk a => ms a + 3 | .mk _ _ a => ms a + 3 | .of a b => ms a + ms b + 3 | .hd _ s => ms s + 3
  | .nil => 1 | .pk _ s => ms s + 3 | .op _ _ s => ms s + 3 | .py _ p s => ms p + ms s + 3
def ma : Ac → Nat
  | .py _ p => ms p + 2
  | _ => 2



structure TabsO (w : World) (K : PySem.W.Frag) (mg : Str → Option Value) : Prop where
  ex : ∃ (F D : Addr) (T : Kd → Addr), mg "FIELDS" = some (.ref F) ∧ mg "PREMISES" = some (.ref D) ∧ KDict w K F (fsK T) ∧ KDict w K D prK ∧ (∀ (H : Hp) k, SqT K H (T k) (k.fs.map V.str)) ∧ ∀ k, ∃ o, K.lookup (T k) = some o ∧ o.cls = .type "tuple" ∧ o.dict = none
theorem TabsO.tabs {w : World} {K : PySem.W.Frag} {mg : Str → Option Value} (h : TabsO w K mg) : Tabs w K mg := by
  obtain ⟨F, D, T, h1, h2, h3, h4, h5, _⟩ := h.ex
  exact ⟨F, D, T, h1, h2, h3, h4, h5⟩
section
variable {X : Cx} {e : Expr} {σ : L2.St} {H : Hp} {pos : Pos} {N G : List Str} {sc : Scope}
theorem s_tup3 {nx : L2.St → Hp → Prop} {rt : VK} {bk ct : L2.St → Hp → Prop} {i1 i2 i3 : Nat} {x1 x2 x3 : Str} {k : Nat} {p1 p2 p3 pt : Pos} (q : wE X e σ H fun v H1 => ∃ a u1 u2 u3, v = .ref a ∧ SqT X.K H1 a [u1, u2, u3] ∧ nx (((σ.set i1 (some u1)).set i2 (some u2)).set i3 (some u3)) H1)
    (I : In X N G sc := by assumption) (hc : X.calm = true := by rfl) (h1 : At N i1 x1 := by repeat (first | with_reducible apply At.z | with_reducible apply At.s)) (h2 : At N i2 x2 := by repeat (first | with_reducible apply At.z | with_reducible apply At.s)) (h3 : At N i3 x3 := by repeat (first | with_reducible apply At.z | with_reducible apply At.s))
    (hs : swapsWithSole [.Tuple [.Name x1 p1, .Name x2 p2, .Name x3 p3] k pt] e pos.line X.env = pure false := by rfl) (hw : swappedStores [.Tuple [.Name x1 p1, .Name x2 p2, .Name x3 p3] k pt] e X.env = pure none := by rfl) (hp : (assignEach [.Tuple [.Name x1 p1, .Name x2 p2, .Name x3 p3] k pt] X.env).map (·.2) = [assign (.Tuple [.Name x1 p1, .Name x2 p2, .Name x3 p3] k pt) X.env] := by rfl) :
    wS X (.Assign [.Tuple [.Name x1 p1, .Name x2 p2, .Name x3 p3] k pt] e pos) ⟨nx, rt, bk, ct⟩ σ H := by
  refine s_of (ps_asg pe (pg_tup hc (pgs_cons (pg_name I.nd (I.hi h1) (I.loc h1) I.f) (pgs_cons (pg_name I.nd (I.hi h2) (I.loc h2) I.f) (pgs_cons (pg_name I.nd (I.hi h3) (I.loc h3) I.f) pgs_nil)))) hs hw hp) (e_mono q fun v H1 q1 => ?_)
  obtain ⟨ad, u1, u2, u3, ev, hq, q2⟩ := q1
  exact ⟨ad, [u1, u2, u3], ev, hq, rfl, u1, [u2, u3], rfl, u2, [u3], rfl, u3, [], rfl, rfl, q2⟩
theorem s_tup5 {nx : L2.St → Hp → Prop} {rt : VK} {bk ct : L2.St → Hp → Prop} {i1 i2 i3 i4 i5 : Nat} {x1 x2 x3 x4 x5 : Str} {k : Nat} {p1 p2 p3 p4 p5 pt : Pos} (q : wE X e σ H fun v H1 => ∃ a u1 u2 u3 u4 u5, v = .ref a ∧ SqT X.K H1 a [u1, u2, u3, u4, u5] ∧ nx (((((σ.set i1 (some u1)).set i2 (some u2)).set i3 (some u3)).set i4 (some u4)).set i5 (some u5)) H1)
    (I : In X N G sc := by assumption) (hc : X.calm = true := by rfl) (h1 : At N i1 x1 := by repeat (first | with_reducible apply At.z | with_reducible apply At.s)) (h2 : At N i2 x2 := by repeat (first | with_reducible apply At.z | with_reducible apply At.s)) (h3 : At N i3 x3 := by repeat (first | with_reducible apply At.z | with_reducible apply At.s)) (h4 : At N i4 x4 := by repeat (first | with_reducible apply At.z | with_reducible apply At.s)) (h5 : At N i5 x5 := by repeat (first | with_reducible apply At.z | with_reducible apply At.s))
    (hs : swapsWithSole [.Tuple [.Name x1 p1, .Name x2 p2, .Name x3 p3, .Name x4 p4, .Name x5 p5] k pt] e pos.line X.env = pure false := by rfl) (hw : swappedStores [.Tuple [.Name x1 p1, .Name x2 p2, .Name x3 p3, .Name x4 p4, .Name x5 p5] k pt] e X.env = pure none := by rfl) (hp : (assignEach [.Tuple [.Name x1 p1, .Name x2 p2, .Name x3 p3, .Name x4 p4, .Name x5 p5] k pt] X.env).map (·.2) = [assign (.Tuple [.Name x1 p1, .Name x2 p2, .Name x3 p3, .Name x4 p4, .Name x5 p5] k pt) X.env] := by rfl) :
    wS X (.Assign [.Tuple [.Name x1 p1, .Name x2 p2, .Name x3 p3, .Name x4 p4, .Name x5 p5] k pt] e pos) ⟨nx, rt, bk, ct⟩ σ H := by
  refine s_of (ps_asg pe (pg_tup hc (pgs_cons (pg_name I.nd (I.hi h1) (I.loc h1) I.f) (pgs_cons (pg_name I.nd (I.hi h2) (I.loc h2) I.f) (pgs_cons (pg_name I.nd (I.hi h3) (I.loc h3) I.f) (pgs_cons (pg_name I.nd (I.hi h4) (I.loc h4) I.f) (pgs_cons (pg_name I.nd (I.hi h5) (I.loc h5) I.f) pgs_nil)))))) hs hw hp) (e_mono q fun v H1 q1 => ?_)
  obtain ⟨ad, u1, u2, u3, u4, u5, ev, hq, q2⟩ := q1
  exact ⟨ad, [u1, u2, u3, u4, u5], ev, hq, rfl, u1, [u2, u3, u4, u5], rfl, u2, [u3, u4, u5], rfl, u3, [u4, u5], rfl, u4, [u5], rfl, u5, [], rfl, rfl, q2⟩
end
/-! ### dicts -/
/-- tuples and dicts stay -/
def DS (H H' : Hp) : Prop := TS H H' ∧ ∀ d kvs, H d = some (.dK kvs) → H' d = some (.dK kvs)
theorem DS.refl {H : Hp} : DS H H := ⟨fun _ _ h => h, fun _ _ h => h⟩
theorem DS.of {H H' : Hp} (e : Same H H') : DS H H' := ⟨Same.ts e, fun _ _ h => e _ _ h⟩
theorem DS.trans {H H1 H2 : Hp} (a : DS H H1) (b : DS H1 H2) : DS H H2 := ⟨a.1.trans b.1, fun d k h => b.2 d k (a.2 d k h)⟩
theorem DS.upd {a : Addr} {H : Hp} {l : List V} {o : HO} (ha : H a = some (.lst l)) : DS H (L2.upd H a o) := ⟨TS.upd ha, fun d k h => by rw [upd_ne (ne_of h ha (by intro z; cases z))]; exact h⟩
theorem take_put {kvs : List (Key × V)} (nd : (kvs.map (·.1)).Nodup) {i : Nat} {y : Key} {v : V} (e : kvs[i]? = some (y, v)) : putK (kvs.take i) y v = kvs.take (i + 1) := by
  have hn : valV (kvs.take i) y = none := by
    unfold valV
    rw [Option.map_eq_none_iff, List.find?_eq_none]
    intro p hp hpy
    have hy : p.1 = y := of_decide_eq_true hpy
    obtain ⟨j, hj, ej⟩ := List.getElem_of_mem hp
    rw [List.length_take] at hj
    rw [List.getElem_take] at ej
    have hi := (List.getElem?_eq_some_iff.mp e).1
    have ei := (List.getElem?_eq_some_iff.mp e).2
    have h1 : (kvs.map (·.1))[j]'(by rw [List.length_map]; omega) = (kvs.map (·.1))[i]'(by rw [List.length_map]; omega) := by
      rw [List.getElem_map, List.getElem_map, ej, ei, hy]
    have := (List.getElem_inj nd).mp h1
    omega
  rw [putK_new v hn, List.take_add_one, e]
  rfl
theorem valV_at {kvs : List (Key × V)} (nd : (kvs.map (·.1)).Nodup) {i : Nat} {y : Key} {v : V} (e : kvs[i]? = some (y, v)) : valV kvs y = some v := by
  unfold valV
  have hi := (List.getElem?_eq_some_iff.mp e).1
  have ei := (List.getElem?_eq_some_iff.mp e).2
  have : kvs.find? (fun p => decide (p.1 = y)) = some (y, v) := by
    refine find_at (j := i) (fun j hj z hz => ?_) e (decide_eq_true rfl)
    refine decide_eq_false fun hzy => ?_
    have ej := (List.getElem?_eq_some_iff.mp hz).2
    have h1 : (kvs.map (·.1))[j]'(by rw [List.length_map]; omega) = (kvs.map (·.1))[i]'(by rw [List.length_map]; omega) := by
      rw [List.getElem_map, List.getElem_map, ej, ei, hzy]
    have := (List.getElem_inj nd).mp h1
    omega
  rw [this]
  rfl

/-- what the names of the takes mean -/
def MnB (H : Hp) (M : Addr) (t : List Nat) (l : Nat) : Prop := ∃ kvs, H M = some (.dK kvs) ∧ (kvs.map (·.1)).Nodup ∧ kvs.length ≤ 2 * l + 1 ∧ (∀ (j l' : Nat), t[j]? = some l' → ∃ u e, valV kvs (lv l') = some (.ref u) ∧ H u = some (.tup [.int (j : Int), .ref e]) ∧ H e = some (.tup [])) ∧
  (∀ z, valV kvs (.inr z) = none) ∧ ∀ l' ∈ t, l' < l
theorem MnB.ds {H H' : Hp} (e : DS H H') {M : Addr} {t : List Nat} {l : Nat} : MnB H M t l → MnB H' M t l := fun ⟨kvs, h1, h2, h3, h4, h5, h6⟩ =>
  ⟨kvs, e.2 _ _ h1, h2, h3, fun j l' hj => let ⟨u, x, a, b, c⟩ := h4 j l' hj; ⟨u, x, a, e.1 _ _ b, e.1 _ _ c⟩, h5, h6⟩
/-- a head's index is one of the takes -/
def OkH (n : Nat) : Key → Prop
  | .inl i => 0 ≤ i ∧ i < (n : Int)
  | .inr _ => True
def OkR : Nat → Rd → Prop
  | n, .tk a => OkR (n + 1) a
  | n, .mk _ _ a => OkR n a
  | n, .of a b => OkR n a ∧ OkR n b
  | n, .hd h s => OkH n h ∧ OkR n s
  | _, .nil => True
  | n, .pk _ s => OkR n s
  | n, .op _ _ s => OkR n s
  | n, .py _ p s => OkR n p ∧ OkR n s
/-- an action, as it is kept -/
def AcV (H : Hp) (k : Nat) (t : List Nat) : Ac → V → Prop
  | .pk d, x => ∃ a, x = .ref a ∧ H a = some (.tup [.str "pick", .str d])
  | .op n i, x => ∃ a, x = .ref a ∧ H a = some (.tup [.str "open", .str n, .int i])
  | .py m p, x => ∃ a mv y, ∃ l : Nat, ∃ M, x = .ref a ∧ H a = some (.tup [.str "pay", mv, y, .int (l : Int), .ref M]) ∧ FdV H (mF m) mv ∧ TrV H (stl p l t (lv 0)) y ∧ Wf true p ∧ OkR t.length p ∧ l + nd p ≤ k ∧ MnB H M t l
theorem AcV.ds {H H' : Hp} (e : DS H H') {k : Nat} {t : List Nat} : ∀ {c : Ac} {x : V}, AcV H k t c x → AcV H' k t c x
  | .pk _, _, ⟨a, h1, h2⟩ => ⟨a, h1, e.1 _ _ h2⟩
  | .op _ _, _, ⟨a, h1, h2⟩ => ⟨a, h1, e.1 _ _ h2⟩
  | .py _ _, _, ⟨a, mv, y, l, M, h1, h2, h3, h4, h5, h6, h7, h8⟩ => ⟨a, mv, y, l, M, h1, e.1 _ _ h2, h3.ts e.1, h4.ts e.1, h5, h6, h7, h8.ds e⟩
/-- what a reference means -/
def SpR (H : Hp) (k : Nat) (M : Addr) (t : List Nat) (r h : Key) (acc : List Ac) : Prop := ∃ kvs, H M = some (.dK kvs) ∧
  ((∃ u e xs, valV kvs r = some (.ref u) ∧ H u = some (.tup [kV h, .ref e]) ∧ H e = some (.tup xs) ∧ Al (AcV H k t) acc xs) ∨ (valV kvs r = none ∧ h = r ∧ acc = []))
theorem SpR.ds {H H' : Hp} (e : DS H H') {k : Nat} {M : Addr} {t : List Nat} {r h : Key} {acc : List Ac} : SpR H k M t r h acc → SpR H' k M t r h acc := fun ⟨kvs, h1, h2⟩ =>
  ⟨kvs, e.2 _ _ h1, h2.imp (fun ⟨u, x, xs, a, b, c, d⟩ => ⟨u, x, xs, a, e.1 _ _ b, e.1 _ _ c, d.mono fun _ _ => AcV.ds e⟩) id⟩
theorem MnB.spR {H : Hp} {kk : Nat} {M : Addr} {t : List Nat} {l : Nat} (h : MnB H M t l) : ∀ {k : Key}, OkH t.length k → SpR H kk M t (rfo t k) k []
  | .inl i, ho => by
    obtain ⟨kvs, h1, _, _, h4, _⟩ := h
    have hj : i.toNat < t.length := by have : 0 ≤ i ∧ i < (t.length : Int) := ho; omega
    have ht : t[i.toNat]? = some t[i.toNat] := List.getElem?_eq_getElem hj
    obtain ⟨u, e, a, b, c⟩ := h4 _ _ ht
    have hi : ((i.toNat : Nat) : Int) = i := Int.toNat_of_nonneg ho.1
    rw [hi] at b
    refine ⟨kvs, h1, .inl ⟨u, e, [], ?_, b, c, rfl⟩⟩
    have er : rfo t (.inl i) = lv t[i.toNat] := by
      show (match t[i.toNat]? with | some l => lv l | none => Sum.inl i) = _
      rw [ht]
    rw [er]
    exact a
  | .inr z, _ => by
    obtain ⟨kvs, h1, _, _, _, h5, _⟩ := h
    exact ⟨kvs, h1, .inr ⟨h5 z, rfl, rfl⟩⟩
theorem nd_put {kvs : List (Key × V)} (k : Key) (v : V) (h : (kvs.map (·.1)).Nodup) : ((putK kvs k v).map (·.1)).Nodup := by
  unfold putK
  split
  · rw [List.map_map]
    have e : ((fun x : Key × V => x.1) ∘ fun kv : Key × V => if kv.1 = k then (kv.1, v) else kv) = fun x => x.1 := by
      funext x
      show (if x.1 = k then (x.1, v) else x).1 = x.1
      split <;> rfl
    rw [e]
    exact h
  · rename_i hn
    rw [List.map_append]
    refine List.nodup_append.mpr ⟨h, by simp, fun a ha b hb => ?_⟩
    have eb : b = k := by simpa using hb
    subst eb
    intro e
    subst e
    apply hn
    obtain ⟨p, hp, e2⟩ := List.mem_map.mp ha
    exact List.any_eq_true.mpr ⟨p, hp, decide_eq_true e2⟩



section
variable {P : Program} {w : World} {K : PySem.W.Frag} {mg : Str → Option Value} {base : Heap} {CN : Addr}
def spRef : Sp := fun vs H Q _ => ∃ p k rest, vs = [.ref p] ∧ H p = some (.tup (.str (Kd.nm k) :: rest)) ∧ Q (.bl k.rf) H
theorem ok_refers (T : Top K mg "refers" s_refers) (TB : Tabs w K mg) : Fn P w K mg base 1 "refers" spRef := by
  refine fn_ok T sc_refers so_refers (fun vs H Q E h => by obtain ⟨p, k, rest, rfl, _⟩ := h; rfl) (fun _ _ _ _ _ _ us hl => match us, hl with | [_], _ => rfl) fun f cdv A outer s H vs Q E hr h nd => ?_
  obtain ⟨p, k, rest, rfl, hp, q⟩ := h
  obtain ⟨FA, DA, TT, hF, hD, kF, kD, hT⟩ := TB.ex
  walk_at "sts"
  refine e_glob (x := "FIELDS") (v := .ref FA) (u := .ref FA) (by exact hF) (by exact rfl) ?_
  walk_at "sts"
  refine ix_t (by exact SqT.of hp) at0 ?_
  refine ix_kd (by exact kF) (by exact fs_val TT k) ?_
  refine o_inT (hT _ k) rfl (fs_flat k) ?_
  rw [rf_in]
  exact q
/-- the kind of a row pay or cut -/
def spKF : Sp := fun vs H Q _ => ∃ p k rest i v, vs = [.ref p, .str "kind"] ∧ H p = some (.tup (.str (Kd.nm k) :: rest)) ∧ (k = .pay ∧ i = 1 ∨ k = .cut ∧ i = 0) ∧ rest[i]? = some v ∧ Q v H
theorem ok_field_of (T : Top K mg "field_of" s_field_of) (TB : TabsO w K mg) : Fn P w K mg base 1 "field_of" spKF := by
  refine fn_ok T sc_field_of so_field_of (fun vs H Q E h => by obtain ⟨p, k, rest, i, v, rfl, _⟩ := h; rfl) (fun _ _ _ _ _ _ us hl => match us, hl with | [_, _], _ => rfl) fun f cdv A outer s H vs Q E hr h nd => ?_
  obtain ⟨p, k, rest, i, v, rfl, hp, hk, hi, q⟩ := h
  obtain ⟨FA, DA, TT, hF, hD, kF, kD, hT, hO⟩ := TB.ex
  refine l_cons (s_ret (e_ix ?_))
  walk_at "sts"
  refine e_tIx (e_ix (e_glob (x := "FIELDS") (v := .ref FA) (u := .ref FA) (by exact hF) (by exact rfl) ?_))
  walk_at "sts"
  refine ix_t (by exact SqT.of hp) at0 ?_
  refine ix_kd (by exact kF) (by exact fs_val TT k) ?_
  refine ⟨_, rfl, hO k, e_var ⟨k.fs, "kind", i, rfl, hT _ k, ?_, ?_, ?_⟩⟩
  · rcases hk with ⟨rfl, rfl⟩ | ⟨rfl, rfl⟩ <;> rfl
  · rcases hk with ⟨rfl, rfl⟩ | ⟨rfl, rfl⟩
    · intro m hm
      have : m = 0 := by omega
      subst this
      decide +kernel
    · intro m hm
      omega
  · refine o_add ?_
    rw [show (1 : Int) + (i : Int) = ((i + 1 : Nat) : Int) by omega]
    exact ix_t (by exact SqT.of hp) (atI_nat (by simpa using hi)) q
def spMo : Sp := fun vs H Q _ => ∃ M r kvs, vs = [.ref M, kV r] ∧ H M = some (.dK kvs) ∧ ∀ v H', Same H H' → (valV kvs r = some v ∨ (valV kvs r = none ∧ ∃ u e, v = .ref u ∧ H' u = some (.tup [kV r, .ref e]) ∧ H' e = some (.tup []))) → Q v H'
theorem ok_mo (T : Top K mg "meaning_of" s_meaning_of) : Fn P w K mg base 1 "meaning_of" spMo := by
  refine fn_ok T sc_meaning_of so_meaning_of (fun vs H Q E h => by obtain ⟨M, r, kvs, rfl, _⟩ := h; rfl) (fun _ _ _ _ _ _ us hl => match us, hl with | [_, _], _ => rfl) fun f cdv A outer s H vs Q E hr h nd => ?_
  obtain ⟨M, r, kvs, rfl, hM, q⟩ := h
  refine l_cons (s_ret (e_dget2 (by exact hr) (e_var ⟨M, rfl, .inl ⟨_, .inl hM⟩, e_var ?_⟩)))
  refine e_tup (a_cons (e_var (a_cons (e_tup (a_nil ⟨by show 0 ≤ sizeLine; decide, fun e H1 e1 n1 h1 => a_nil ?_⟩)))))
  refine ⟨by show 2 ≤ sizeLine; decide, fun u H2 e2 n2 h2 => ⟨valV kvs r, dg_K (e2 _ _ (e1 _ _ hM)), ?_⟩⟩
  cases hv : valV kvs r with
  | some v => exact q v H2 (e1.trans e2) (.inl hv)
  | none => exact q (.ref u) H2 (e1.trans e2) (.inr ⟨hv, u, e, rfl, h2, e2 _ _ h1⟩)
def spWm : Sp := fun vs H Q _ => ∃ M r kvs v, vs = [.ref M, kV r, v] ∧ H M = some (.dK kvs) ∧ (kvs.map (·.1)).Nodup ∧ kvs.length ≤ 100000 ∧ ∀ D H', Same H H' → H D = none → H' D = some (.dK (putK kvs r v)) → Q (.ref D) H'
theorem ok_wm (T : Top K mg "with_meaning" s_with_meaning) : Fn P w K mg base 2 "with_meaning" spWm := by
  refine fn_okC T sc_with_meaning so_with_meaning (fun vs H Q E h => by obtain ⟨M, r, kvs, v, rfl, _⟩ := h; rfl) (fun _ _ _ _ _ _ us hl => match us, hl with | [_, _, _], _ => rfl) fun f cdv A outer s H vs Q E hr h nd => ?_
  obtain ⟨M, r, kvs, v, rfl, hM, hnd, hl, q⟩ := h
  refine l_cons (s_dcD (by exact bk_with_meaning0) hM fun o => e_var ⟨rfl, upd_same, fun D nD => ?_⟩)
  have nDM : D ≠ M := fun z => by subst z; rw [upd_same] at nD; cases nD
  rw [upd_ne nDM] at nD
  refine ⟨fun k H2 => H2 M = some (.frz o (.dK kvs)) ∧ H2 D = some (.dK (kvs.take k)) ∧ ∀ c u, c ≠ M → H c = some u → H2 c = some u, ⟨by rw [upd_ne (Ne.symm nDM)]; exact upd_same, by rw [List.take_zero]; exact upd_same, fun c u nc hc => by rw [upd_ne (ne_of_none hc nD), upd_ne nc]; exact hc⟩, fun k H2 _ p => p.1, ?_, ?_⟩
  · intro k y v' H2 hk p s0 H0 C0 cl fp IB
    obtain ⟨p1, p2, p3⟩ := p
    refine b_var fun s1 H1 C1 cl1 fp1 IB1 => ?_
    refine e_dg (n := 1) (by exact hr) (b_var (b_var ⟨M, v', rfl, ?_, kvs.take k, y, rfl, p2, ?_, ?_⟩))
    · rw [← valV_at hnd hk]; exact dg_F p1
    · rw [List.length_take]; show _ < 2 ^ 24; omega
    · rw [take_put hnd hk]
      exact ⟨by rw [upd_ne (Ne.symm nDM)]; exact p1, upd_same, fun c u nc hc => by rw [upd_ne (ne_of_none hc nD)]; exact p3 c u nc hc⟩
  intro H2 p
  obtain ⟨p1, p2, p3⟩ := p
  rw [List.take_length] at p2
  refine ⟨p1, ?_⟩
  generalize hH3 : upd H2 M (.dK kvs) = H3
  have e3 : Same H H3 := fun c u hc => by
    rw [← hH3]
    by_cases hca : c = M
    · subst hca; rw [upd_same]; rw [hM] at hc; exact hc
    · rw [upd_ne hca]; exact p3 c u hca hc
  have hD : H3 D = some (.dK kvs) := by rw [← hH3, upd_ne nDM]; exact p2
  refine l_cons (s_dput (hu_of hr) (e_var (e_var (e_var ?_))))
  refine ⟨D, _, rfl, DPut.k hD (by show _ < 2 ^ 24; omega), l_cons (s_ret (e_var (q D _ (fun c u hc => ?_) nD upd_same)))⟩
  rw [upd_ne (ne_of_none hc nD)]
  exact e3 c u hc
/-- what waits: a sign, a derivation, a row with what its reference means -/
inductive It where
  | g (s : Sg) | r (R : Rd) | s (h : Key) (acc : List Ac) (s : Rd)
def itD : It → List Sg
  | .g s => [s]
  | .r R => sg R
  | .s h acc s => .hd h (acc.length + al s) :: (acc.flatMap sga ++ sg s)
def itM : It → Nat
  | .g _ => 1
  | .r R => ms R
  | .s _ acc s => (acc.map ma).sum + ms s + 2
def TrI (H : Hp) (k : Nat) : It → Nat → List Nat → Addr → V → Prop
  | .g _, _, _, _, _ => False
  | .r R, l, t, M, tr => TrV H (stl R l t (lv 0)) tr ∧ Wf true R ∧ OkR t.length R ∧ MnB H M t l ∧ l + nd R ≤ k
  | .s h acc s, l, t, M, tr => ∃ r, TrV H (stl s l t r) tr ∧ Wf false s ∧ OkR t.length s ∧ MnB H M t l ∧ SpR H k M t r h acc ∧ acc.length + al s ≤ 10000 ∧ l + nd s ≤ k
theorem TrI.ds {H H' : Hp} (e : DS H H') {k : Nat} : ∀ {i : It} {l : Nat} {t : List Nat} {M : Addr} {tr : V}, TrI H k i l t M tr → TrI H' k i l t M tr
  | .g _, _, _, _, _, h => h.elim
  | .r _, _, _, _, _, ⟨a, b, o, c, d⟩ => ⟨a.ts e.1, b, o, c.ds e, d⟩
  | .s _ _ _, _, _, _, _, ⟨r, a, b, o, c, d, f⟩ => ⟨r, a.ts e.1, b, o, c.ds e, d.ds e, f⟩
def ItW (H : Hp) (k : Nat) (i : It) (v : V) : Prop := (∃ s, i = .g s ∧ SgV H s v) ∨ ∃ a tr, ∃ l : Nat, ∃ t : List Nat, ∃ M, v = .ref a ∧ H a = some (.tup [tr, .int (l : Int), .int (t.length : Int), .ref M]) ∧ TrI H k i l t M tr
theorem ItW.ds {H H' : Hp} (e : DS H H') {k : Nat} {i : It} {v : V} : ItW H k i v → ItW H' k i v := fun h => h.imp (fun ⟨s, a, b⟩ => ⟨s, a, b.ts e.1⟩) fun ⟨a, tr, l, t, M, h1, h2, h3⟩ => ⟨a, tr, l, t, M, h1, e.1 _ _ h2, h3.ds e⟩
def aI : Ac → List It
  | .pk d => [.g (.pk d)] | .op n i => [.g (.op n i)] | .py m p => [.g (.py m), .r p]
theorem aI_D (a : Ac) : (aI a).flatMap itD = sga a := by cases a <;> simp [aI, itD, sga]
theorem aI_M (a : Ac) : ((aI a).map itM).sum + 1 ≤ ma a := by cases a <;> simp [aI, itM, ma] <;> omega
theorem aIs_D (l : List Ac) : (l.flatMap aI).flatMap itD = l.flatMap sga := by
  rw [List.flatMap_assoc]
  congr 1
  funext a
  exact aI_D a
theorem aIs_M : ∀ l : List Ac, ((l.flatMap aI).map itM).sum ≤ (l.map ma).sum
  | [] => Nat.le_refl _
  | a :: l => by
    have h1 := aI_M a
    have h2 := aIs_M l
    rw [List.flatMap_cons, List.map_append, List.sum_append, List.map_cons, List.sum_cons]
    omega
def spRH : Sp := fun vs H Q _ => ∃ r, ∃ t : List Nat, ∃ M h acc, ∃ k : Nat, vs = [kV r, .int (t.length : Int), .ref M] ∧ SpR H k M t r h acc ∧ acc.length ≤ 10000 ∧
  ∀ ls us H', DS H H' → (∀ c o, H c = some o → H' c = some o) → H ls = none → H' ls = some (.lst us) → Al (ItW H' k) (.g (.hd h acc.length) :: acc.flatMap aI) us → Q (.ref ls) H'
theorem ok_rh (T : Top K mg "read_head" s_read_head) (mL : mg "len" = none) (FM : Fn P w K mg base 1 "meaning_of" spMo) : Fn P w K mg base 2 "read_head" spRH := by
  refine fn_ok T sc_read_head so_read_head (fun vs H Q E h => by obtain ⟨r, t, M, h, acc, k, rfl, _⟩ := h; rfl) (fun _ _ _ _ _ _ us hl => match us, hl with | [_, _, _], _ => rfl) fun f cdv A outer s H vs Q E hr h nd => ?_
  obtain ⟨r, t, M, h, acc, k, rfl, ⟨kvs, hM, hsp⟩, hln, q⟩ := h
  refine l_cons (s_tup2 (e_call (by exact FM) (by exact hr) (by decide) (a_cons (e_var (a_cons (e_var (a_nil ?_)))))))
  refine ⟨M, r, kvs, rfl, hM, fun v H1 e1 hv => ?_⟩
  have hv2 : ∃ u e xs, v = .ref u ∧ H1 u = some (.tup [kV h, .ref e]) ∧ H1 e = some (.tup xs) ∧ Al (AcV H1 k t) acc xs := by
    rcases hsp with ⟨u, e, xs, g1, g2, g3, g4⟩ | ⟨g1, rfl, rfl⟩
    · rcases hv with hv | ⟨hv, _⟩
      · rw [g1] at hv
        cases hv
        exact ⟨u, e, xs, rfl, e1 _ _ g2, e1 _ _ g3, g4.mono fun _ _ => AcV.ds (DS.of e1)⟩
      · rw [g1] at hv; cases hv
    · rcases hv with hv | ⟨_, u, e, rfl, g2, g3⟩
      · rw [g1] at hv; cases hv
      · exact ⟨u, e, [], rfl, g2, g3, rfl⟩
  obtain ⟨u, e, xs, rfl, hu, he, hxs⟩ := hv2
  have lxs := hxs.len
  refine ⟨u, kV h, .ref e, rfl, SqT.of hu, ?_⟩
  show wL _ _ _ [some (kV r), some (.int (t.length : Int)), some (.ref M), some (kV h), some (.ref e), none, none, none, none, none, none, none] _
  refine l_cons (s_set (e_lst (a_cons (e_tup (a_cons (e_str (a_cons (e_var (a_cons (e_callB (x := "len") (by assumption) b_len (a_cons (e_var (a_nil (c_lenT (SqT.of he) ?_))))))))))))))
  refine a_nil ⟨by show 3 ≤ sizeLine; decide, fun ht H2 e2 n2 h2 => a_nil ⟨by show 1 ≤ sizeLine; decide, fun fl H3 e3 n3 h3 => ?_⟩⟩
  rw [lxs] at h2
  have e13 := (e1.trans e2).trans e3
  have he3 := e3 _ _ (e2 _ _ he)
  have hxs3 := hxs.mono fun _ _ => AcV.ds (DS.of (e2.trans e3))
  have nfe : fl ≠ e := fun z => by rw [z, e2 _ _ he] at n3; cases n3
  show wL _ _ _ [some (kV r), some (.int (t.length : Int)), some (.ref M), some (kV h), some (.ref e), some (.ref fl), none, none, none, none, none, none] _
  refine l_cons (s_forT (e_var ⟨e, xs, rfl, SqT.of he3, fun j σ H' => ∃ (us : List V) (o6 o7 o8 o9 o10 o11 : Option V), σ = [some (kV r), some (.int (t.length : Int)), some (.ref M), some (kV h), some (.ref e), some (.ref fl), o6, o7, o8, o9, o10, o11] ∧ H' fl = some (.lst us) ∧ Al (ItW H' k) (.g (.hd h acc.length) :: (acc.take j).flatMap aI) us ∧ us.length ≤ 2 * j + 1 ∧ ∀ c o, c ≠ fl → H3 c = some o → H' c = some o, ⟨[.ref ht], none, none, none, none, none, none, rfl, h3, ⟨.ref ht, [], rfl, .inl ⟨_, rfl, ht, rfl, e3 _ _ h2⟩, rfl⟩, Nat.le_refl _, fun c o _ hc => hc⟩, ?_, ?_, ?_⟩))
  · rintro j σ H' _ ⟨us, o6, o7, o8, o9, o10, o11, rfl, hf, hus, lus, b'⟩
    exact SqT.of (b' _ _ nfe.symm he3)
  · rintro j y σ H' hy ⟨us, o6, o7, o8, o9, o10, o11, rfl, hf, hus, lus, b'⟩
    obtain ⟨ac, hac, hacv⟩ := hxs3.get hy
    have hjl := (List.getElem?_eq_some_iff.mp hac).1
    have tk1 : acc.take (j + 1) = acc.take j ++ [ac] := take_snoc' hac
    have d3 : DS H3 H' := ⟨fun p zs hp => b' _ _ (fun z => by subst z; rw [h3] at hp; cases hp) hp, fun p zs hp => b' _ _ (fun z => by subst z; rw [h3] at hp; cases hp) hp⟩
    have hacv := hacv.ds d3
    show wL _ _ _ [some (kV r), some (.int (t.length : Int)), some (.ref M), some (kV h), some (.ref e), some (.ref fl), some y, o7, o8, o9, o10, o11] _
    cases ac with
    | pk d =>
      obtain ⟨a, rfl, ha⟩ := hacv
      refine l_cons (s_if (t_cmp (e_ix (e_var (e_int (ix_t (by exact SqT.of ha) at0 (e_str (o_eqS ⟨_, rfl, ?_⟩))))))))
      rw [decide_eq_false (by decide +kernel)]
      refine iteF (l_cons (s_expr (e_app (e_var ⟨fl, _, rfl, SqL.of hf, e_var ⟨_, hf, by show _ < 2 ^ 24; omega, ?_⟩⟩))))
      have d4 : DS H' (upd H' fl (.lst (us ++ [.ref a]))) := DS.upd hf
      refine l_nil (l_nil ⟨us ++ [.ref a], _, o7, o8, o9, o10, o11, rfl, upd_same, ?_, by rw [List.length_append]; simp only [List.length_cons, List.length_nil]; omega, fun c o nc hc => by rw [upd_ne nc]; exact b' _ _ nc hc⟩)
      rw [tk1, List.flatMap_append, ← List.cons_append]
      exact (hus.mono fun _ _ => ItW.ds d4).app ⟨_, [], rfl, .inl ⟨_, rfl, a, rfl, d4.1 _ _ ha⟩, rfl⟩
    | op n i =>
      obtain ⟨a, rfl, ha⟩ := hacv
      refine l_cons (s_if (t_cmp (e_ix (e_var (e_int (ix_t (by exact SqT.of ha) at0 (e_str (o_eqS ⟨_, rfl, ?_⟩))))))))
      rw [decide_eq_false (by decide +kernel)]
      refine iteF (l_cons (s_expr (e_app (e_var ⟨fl, _, rfl, SqL.of hf, e_var ⟨_, hf, by show _ < 2 ^ 24; omega, ?_⟩⟩))))
      have d4 : DS H' (upd H' fl (.lst (us ++ [.ref a]))) := DS.upd hf
      refine l_nil (l_nil ⟨us ++ [.ref a], _, o7, o8, o9, o10, o11, rfl, upd_same, ?_, by rw [List.length_append]; simp only [List.length_cons, List.length_nil]; omega, fun c o nc hc => by rw [upd_ne nc]; exact b' _ _ nc hc⟩)
      rw [tk1, List.flatMap_append, ← List.cons_append]
      exact (hus.mono fun _ _ => ItW.ds d4).app ⟨_, [], rfl, .inl ⟨_, rfl, a, rfl, d4.1 _ _ ha⟩, rfl⟩
    | py m p =>
      obtain ⟨a, mv, y, l, M', rfl, ha, hmv, hy', hwf, hok, hlk, hmn⟩ := hacv
      refine l_cons (s_if (t_cmp (e_ix (e_var (e_int (ix_t (by exact SqT.of ha) at0 (e_str (o_eqS ⟨_, rfl, ?_⟩))))))))
      rw [decide_eq_true rfl]
      refine iteT (l_cons (s_tup5 (e_var ⟨a, _, _, _, _, _, rfl, SqT.of ha, ?_⟩)))
      show wL _ _ _ [some (kV r), some (.int (t.length : Int)), some (.ref M), some (kV h), some (.ref e), some (.ref fl), some (.ref a), some (.str "pay"), some mv, some y, some (.int (l : Int)), some (.ref M')] _
      refine l_cons (s_expr (e_app (e_var ⟨fl, _, rfl, SqL.of hf, e_tup (a_cons (e_str (a_cons (e_var (a_nil ⟨by show 2 ≤ sizeLine; decide, fun g1 H4 e4 n4 h4 => ?_⟩)))))⟩)))
      have hf4 := e4 _ _ hf
      refine ⟨_, hf4, by show _ < 2 ^ 24; omega, ?_⟩
      have d5 : DS H4 (upd H4 fl (.lst (us ++ [.ref g1]))) := DS.upd hf4
      have d45 : DS H' (upd H4 fl (.lst (us ++ [.ref g1]))) := (DS.of e4).trans d5
      have hf5 : upd H4 fl (.lst (us ++ [.ref g1])) fl = some (.lst (us ++ [.ref g1])) := upd_same
      have hg5 := d5.1 _ _ h4
      have b5 : ∀ c o, c ≠ fl → H3 c = some o → upd H4 fl (.lst (us ++ [.ref g1])) c = some o := fun c o nc hc => by rw [upd_ne nc]; exact e4 _ _ (b' _ _ nc hc)
      generalize upd H4 fl (.lst (us ++ [.ref g1])) = H5 at d5 d45 hf5 hg5 b5
      refine l_cons (s_expr (e_app (e_var ⟨fl, _, rfl, SqL.of hf5, e_tup (a_cons (e_var (a_cons (e_var (a_cons (e_var (a_cons (e_var (a_nil ⟨by show 4 ≤ sizeLine; decide, fun g2 H6 e6 n6 h6 => ?_⟩)))))))))⟩)))
      have hf6 := e6 _ _ hf5
      refine ⟨_, hf6, by rw [List.length_append]; simp only [List.length_cons, List.length_nil]; show _ < 2 ^ 24; omega, ?_⟩
      have d7 : DS H6 (upd H6 fl (.lst (us ++ [.ref g1] ++ [.ref g2]))) := DS.upd hf6
      have d67 : DS H5 (upd H6 fl (.lst (us ++ [.ref g1] ++ [.ref g2]))) := (DS.of e6).trans d7
      have d07 := d45.trans d67
      refine l_nil (l_nil ⟨us ++ [.ref g1] ++ [.ref g2], _, _, _, _, _, _, rfl, upd_same, ?_, by rw [List.length_append, List.length_append]; simp only [List.length_cons, List.length_nil]; omega, fun c o nc hc => by rw [upd_ne nc]; exact e6 _ _ (b5 _ _ nc hc)⟩)
      rw [tk1, List.flatMap_append, ← List.cons_append]
      have h2 : Al (ItW (upd H6 fl (.lst (us ++ [.ref g1] ++ [.ref g2]))) k) [.g (.py m), .r p] [.ref g1, .ref g2] := ⟨.ref g1, [.ref g2], rfl, .inl ⟨_, rfl, g1, mv, rfl, d67.1 _ _ hg5, hmv.ts d07.1⟩, .ref g2, [], rfl, .inr ⟨g2, y, l, t, M', rfl, d7.1 _ _ h6, hy'.ts d07.1, hwf, hok, hmn.ds d07, hlk⟩, rfl⟩
      have h3 := (hus.mono fun _ _ => ItW.ds d07).app h2
      rw [show us ++ [V.ref g1, V.ref g2] = us ++ [.ref g1] ++ [.ref g2] by simp] at h3
      exact h3
  · rintro σ H' ⟨us, o6, o7, o8, o9, o10, o11, rfl, hf, hus, lus, b'⟩
    rw [lxs, List.take_length] at hus
    have nfH : H fl = none := none_of (e1.trans e2) n3
    refine l_cons (s_ret (e_var (q fl us H' ⟨fun p zs hp => b' _ _ (fun z => by subst z; rw [nfH] at hp; cases hp) (e13 _ _ hp), fun p zs hp => b' _ _ (fun z => by subst z; rw [nfH] at hp; cases hp) (e13 _ _ hp)⟩ (fun c o hc => b' _ _ (fun z => by subst z; rw [nfH] at hc; cases hc) (e13 _ _ hc)) nfH hf hus)))
end



section
variable {P : Program} {w : World} {K : PySem.W.Frag} {mg : Str → Option Value} {base : Heap} {CN : Addr}
theorem last_at {l : List V} {x : V} : atI (l ++ [x]) (-1) = some x := by
  unfold atI ixN
  have h1 : ((-1 : Int) + ((l.length : Int) + 1)).toNat = l.length := by omega
  have h2 : (1 : Int) ≤ (l.length : Int) + 1 := by omega
  simp [h1, h2]
theorem MnB.put {H H' : Hp} {M D : Addr} {t : List Nat} {l : Nat} (h : MnB H M t l) (k : DS H H') {kvs : List (Key × V)} (hM : H M = some (.dK kvs)) {v : V} (hD : H' D = some (.dK (putK kvs (lv l) v))) : MnB H' D t (l + 1) := by
  obtain ⟨kvs', h1, h2, h3, h4, h5, h6⟩ := h
  rw [hM] at h1
  cases h1
  refine ⟨_, hD, nd_put _ _ h2, ?_, fun j l' hj => ?_, fun z => ?_, fun l' hl => Nat.lt_succ_of_lt (h6 l' hl)⟩
  · have := length_putK kvs (lv l) v
    omega
  · obtain ⟨a, b, c, d, f⟩ := h4 j l' hj
    have hl := h6 l' (List.mem_of_getElem? hj)
    refine ⟨a, b, ?_, k.1 _ _ d, k.1 _ _ f⟩
    rw [valV_put, if_neg (fun z => by
      have z2 : (l' : Int) = (l : Int) := Sum.inl.inj z
      omega)]
    exact c
  · rw [valV_put, if_neg (fun z => by cases z)]
    exact h5 z
theorem MnB.take {H H' : Hp} {M D u e : Addr} {t : List Nat} {l : Nat} (h : MnB H M t l) (k : DS H H') {kvs : List (Key × V)} (hM : H M = some (.dK kvs)) (hu : H' u = some (.tup [.int (t.length : Int), .ref e])) (he : H' e = some (.tup [])) (hD : H' D = some (.dK (putK kvs (lv l) (.ref u)))) : MnB H' D (t ++ [l]) (l + 1) := by
  obtain ⟨kvs', h1, h2, h3, h4, h5, h6⟩ := h.put k hM hD
  rw [hD] at h1
  cases h1
  refine ⟨_, hD, h2, h3, fun j l' hj => ?_, h5, fun l' hl => ?_⟩
  · rcases Nat.lt_or_ge j t.length with hlt | hge
    · rw [List.getElem?_append_left hlt] at hj
      exact h4 j l' hj
    · rw [List.getElem?_append_right hge] at hj
      have hj0 : j - t.length = 0 := by
        have := (List.getElem?_eq_some_iff.mp hj).1
        simpa using this
      rw [hj0] at hj
      cases hj
      have : j = t.length := by omega
      subst this
      exact ⟨u, e, by rw [valV_put, if_pos rfl], hu, he⟩
  · rcases List.mem_append.mp hl with hl | hl
    · exact h6 l' hl
    · rw [List.mem_singleton.mp hl]; exact Nat.lt_succ_self _
/-- the sum of what waits -/
def itS (l : List It) : Nat := (l.map itM).sum
def spRR : Sp := fun vs H Q _ => ∃ i, ∃ l : Nat, ∃ t : List Nat, ∃ M tr, ∃ k : Nat, vs = [tr, .int (l : Int), .int (t.length : Int), .ref M] ∧ TrI H k i l t M tr ∧ k ≤ 10000 ∧
  ∀ ls us is H', Same H H' → H ls = none → H' ls = some (.lst us) → Al (ItW H' k) is us → is.flatMap itD = itD i → itS is < itM i → us.length ≤ 40000 → Q (.ref ls) H'
theorem aIs_len : ∀ l : List Ac, (l.flatMap aI).length ≤ 2 * l.length
  | [] => Nat.le_refl _
  | a :: l => by
    have := aIs_len l
    have h2 : (aI a).length ≤ 2 := by cases a <;> simp [aI]
    rw [List.flatMap_cons, List.length_append, List.length_cons]
    omega
theorem mo_tell {H H1 : Hp} {k : Nat} {M : Addr} {t : List Nat} {r h : Key} {acc : List Ac} {kvs : List (Key × V)} {v : V} (hM : H M = some (.dK kvs)) (hsp : SpR H k M t r h acc) (e1 : Same H H1) (hv : valV kvs r = some v ∨ (valV kvs r = none ∧ ∃ u e, v = .ref u ∧ H1 u = some (.tup [kV r, .ref e]) ∧ H1 e = some (.tup []))) :
    ∃ u e xs, v = .ref u ∧ H1 u = some (.tup [kV h, .ref e]) ∧ H1 e = some (.tup xs) ∧ Al (AcV H1 k t) acc xs := by
  obtain ⟨kvs2, hM2, hsp⟩ := hsp
  rw [hM] at hM2
  cases hM2
  rcases hsp with ⟨u, e, xs, g1, g2, g3, g4⟩ | ⟨g1, rfl, rfl⟩
  · rcases hv with hv | ⟨hv, _⟩
    · rw [g1] at hv
      cases hv
      exact ⟨u, e, xs, rfl, e1 _ _ g2, e1 _ _ g3, g4.mono fun _ _ => AcV.ds (DS.of e1)⟩
    · rw [g1] at hv; cases hv
  · rcases hv with hv | ⟨_, u, e, rfl, g2, g3⟩
    · rw [g1] at hv; cases hv
    · exact ⟨u, e, [], rfl, g2, g3, rfl⟩
theorem ok_rr (T : Top K mg "read_row" s_read_row) (mL : mg "list" = none) (FH : Fn P w K mg base 2 "read_head" spRH) (FW : Fn P w K mg base 2 "with_meaning" spWm) (FR : Fn P w K mg base 1 "refers" spRef) (FHd : Fn P w K mg base 1 "head_of" spHead) (FP : Fn P w K mg base 1 "premises" spPrem) (FM : Fn P w K mg base 1 "meaning_of" spMo) (FF : Fn P w K mg base 1 "field_of" spKF) : Fn P w K mg base 3 "read_row" spRR := by
  refine fn_okC T sc_read_row so_read_row (fun vs H Q E h => by obtain ⟨i, l, t, M, tr, k, rfl, _⟩ := h; rfl) (fun _ _ _ _ _ _ us hl => match us, hl with | [_, _, _, _], _ => rfl) fun f cdv A outer s H vs Q E hr h nd => ?_
  obtain ⟨i, l, t, M, tr, k, rfl, hi, hk, q⟩ := h
  -- the last row
  have close : ∀ (p e a : Addr) (zs xs : List V) (x : V) (H1 : Hp) (na : Ac) (h r : Key) (acc : List Ac) (s1 : Rd) (o7 : Option V), Same H H1 → H1 p = some (.tup (zs ++ [x])) → H1 e = some (.tup xs) → Al (AcV H1 k t) acc xs → AcV H1 k t na (.ref a) → TrV H1 (stl s1 (l + 1) t (lv l)) x → Wf false s1 → OkR t.length s1 → MnB H M t l → acc.length + 1 + al s1 ≤ 10000 → l + 1 + K13.nd s1 ≤ k → itD (.s h (acc ++ [na]) s1) = itD i → itM (.s h (acc ++ [na]) s1) < itM i → wL (cxOf CX0 P w K mg base (N_read_row ++ C_read_row) (Str.ofString "read_row") (defScope s_read_row) f cdv A outer s H E).nox ((defBody s_read_row).drop 6) { nx := fun _ H' => Q .non H', rt := Q } [some (.ref p), some (.int (l : Int)), some (.int (t.length : Int)), some (.ref M), some (kV h), some (.ref e), some (.ref a), o7] H1 := by
    intro p e a zs xs x H1 na h r acc s1 o7 e1 hp he hxs hna hx hw hok hmn hla hlk hd hm
    have hmn' := hmn
    obtain ⟨kvs, hM, hnd, hkl, _, _, _⟩ := hmn'
    have lxs := hxs.len
    refine l_cons (s_ret (e_lst (a_cons (e_tup (a_cons (e_ix (e_var (e_neg (e_int ⟨1, rfl, ix_t (by exact SqT.of hp) last_at ?_⟩)))))))))
    refine a_cons (e_bin (e_var (e_int (o_add (a_cons (e_var (a_cons (e_call (by exact FW) (by exact hr) (by decide) ?_))))))))
    refine a_cons (e_var (a_cons (e_var (a_cons (e_tup (a_cons (e_var (a_cons (e_bin (e_var (e_tup (a_cons (e_var (a_nil ⟨by show 1 ≤ sizeLine; decide, fun t1 H2 e2 n2 h2 => ?_⟩))))))))))))))
    refine o_catA (e2 _ _ he) h2 (by simp only [List.length_cons, List.length_nil]; omega) fun t2 H3 e3 h3 => a_nil ⟨by show 2 ≤ sizeLine; decide, fun t3 H4 e4 n4 h4 => a_nil ?_⟩
    have e14 := (e2.trans e3).trans e4
    have e04 := e1.trans e14
    refine ⟨M, lv l, kvs, .ref t3, rfl, e04 _ _ hM, hnd, by omega, fun D H5 e5 n5 h5 => ?_⟩
    refine a_nil ⟨by show 4 ≤ sizeLine; decide, fun u H6 e6 n6 h6 => a_nil ⟨by show 1 ≤ sizeLine; decide, fun ls H7 e7 n7 h7 => ?_⟩⟩
    have e47 := (e5.trans e6).trans e7
    have e17 := e14.trans e47
    have e07 := e1.trans e17
    have d07 := DS.of e07
    have d17 := DS.of e17
    have hD := e7 _ _ (e6 _ _ h5)
    have h67 := e7 _ _ h6
    rw [show ((l : Int) + 1) = ((l + 1 : Nat) : Int) by omega] at h67
    have h4' := e47 _ _ h4
    have h3' := e47 _ _ (e4 _ _ h3)
    have hmn2 : MnB H7 D t (l + 1) := hmn.put d07 hM hD
    have hsp2 : SpR H7 k D t (lv l) h (acc ++ [na]) := ⟨_, hD, .inl ⟨t3, t2, _, by rw [valV_put, if_pos rfl], h4', h3', (hxs.mono fun _ _ => AcV.ds d17).app ⟨_, [], rfl, hna.ds d17, rfl⟩⟩⟩
    refine q ls [.ref u] [.s h (acc ++ [na]) s1] H7 e07 (none_of (e1.trans (e14.trans (e5.trans e6))) n7) h7 ⟨_, [], rfl, .inr ⟨u, x, l + 1, t, D, rfl, h67, lv l, hx.ts d17.1, hw, hok, hmn2, hsp2, ?_, ?_⟩, rfl⟩ ?_ ?_ ?_
    · rw [List.length_append]; simp only [List.length_cons, List.length_nil]; omega
    · omega
    · rw [← hd]; simp
    · unfold itS
      rw [List.map_cons, List.sum_cons, List.map_nil, List.sum_nil]
      omega
    · show 1 ≤ _; omega
  -- the head of a row
  have spine : ∀ (r h : Key) (acc : List Ac) (s0 : Rd), TrV H (stl s0 l t r) tr → Wf false s0 → OkR t.length s0 → MnB H M t l → SpR H k M t r h acc → acc.length + al s0 ≤ 10000 → l + K13.nd s0 ≤ k → itD (.s h acc s0) = itD i → itM (.s h acc s0) ≤ itM i → wL (cxOf CX0 P w K mg base (N_read_row ++ C_read_row) (Str.ofString "read_row") (defScope s_read_row) f cdv A outer s H E).nox (defBody s_read_row) { nx := fun _ H' => Q .non H', rt := Q } (start (N_read_row ++ C_read_row) [tr, .int (l : Int), .int (t.length : Int), .ref M]) H := by
    intro r h acc s0 htr hw hok hmn hsp hla hlk hd hm
    have hsp' := hsp
    obtain ⟨kvs, hM, _⟩ := hsp'
    cases s0 with
    | tk a => exact hw.elim
    | mk n i a => exact hw.elim
    | of a b => exact hw.elim
    | hd h s => exact hw.elim
    | nil =>
      obtain ⟨p, xs, rfl, hp, fs, rfl, hfs⟩ := htr
      cases (show fs = [] from hfs)
      have hp : H p = some (.tup [.str "own", kV r]) := hp
      refine l_cons (s_if (t_cmp (e_ix (e_var (e_int (ix_t (by exact SqT.of hp) at0 (e_str (o_eqS ⟨_, rfl, ?_⟩))))))))
      rw [decide_eq_true rfl]
      refine iteT (l_cons (s_ret (e_call (by exact FH) (by exact hr) (by decide) ?_)))
      refine a_cons (e_ix (e_var (e_int (ix_t (by exact SqT.of hp) at1 (a_cons (e_var (a_cons (e_var (a_nil ?_)))))))))
      refine ⟨r, t, M, h, acc, k, rfl, hsp, by omega, fun ls us H' d e n hl hus => ?_⟩
      have lus := hus.len
      have la := aIs_len acc
      rw [List.length_cons] at lus
      refine q ls us _ H' e n hl hus ?_ ?_ (by omega)
      · rw [← hd, List.flatMap_cons, aIs_D]
        show [Sg.hd h acc.length] ++ acc.flatMap sga = .hd h (acc.length + 0) :: (acc.flatMap sga ++ [])
        simp
      · have := aIs_M acc
        have hm : (acc.map ma).sum + 1 + 2 ≤ itM i := hm
        unfold itS
        rw [List.map_cons, List.sum_cons]
        show 1 + _ < _
        omega
    | pk d s1 =>
      obtain ⟨p, xs, x, rfl, hp, ⟨fs, rfl, f1, fs1, rfl, hf1, hfs⟩, hx⟩ := htr
      cases (show fs1 = [] from hfs)
      cases (show f1 = .str d from hf1)
      have hp : H p = some (.tup ([.str "pick", kV r, .str d] ++ [x])) := hp
      refine l_cons (s_if (t_cmp (e_ix (e_var (e_int (ix_t (by exact SqT.of hp) at0 (e_str (o_eqS ⟨_, rfl, ?_⟩))))))))
      rw [decide_eq_false (by decide +kernel)]
      refine iteF (l_nil (l_cons (s_if (t_cmp (e_ix (e_var (e_int (ix_t (by exact SqT.of hp) at0 (e_str (o_eqS ⟨_, rfl, ?_⟩))))))))))
      rw [decide_eq_false (by decide +kernel)]
      refine iteF (l_nil (l_cons (s_if (t_not (t_val (e_call (by exact FR) (by exact hr) (by decide) (a_cons (e_var (a_nil ?_)))))))))
      refine ⟨p, .pick, _, rfl, hp, ?_⟩
      refine ⟨true, rfl, ?_⟩
      refine iteF (l_nil (l_cons (s_tup2 (e_call (by exact FM) (by exact hr) (by decide) (a_cons (e_var (a_cons (e_ix (e_var (e_int (ix_t (by exact SqT.of hp) at1 (a_nil ?_))))))))))))
      refine ⟨M, r, kvs, rfl, hM, fun v H1 e1 hv => ?_⟩
      obtain ⟨u, e, xs, rfl, hu, he, hxs⟩ := mo_tell hM hsp e1 hv
      refine ⟨u, kV h, .ref e, rfl, SqT.of hu, ?_⟩
      show wL _ _ _ [some (.ref p), some (.int (l : Int)), some (.int (t.length : Int)), some (.ref M), some (kV h), some (.ref e), none, none] _
      refine l_cons (s_set (e_bin (e_tup (a_cons (e_ix (e_var (e_int (ix_t (by exact SqT.of (e1 _ _ hp)) at0 (a_nil ?_)))))))))
      refine ⟨by show 1 ≤ sizeLine; decide, fun t1 H2 e2 n2 h2 => ?_⟩
      have e12 := e1.trans e2
      refine e_tLo (e_call (by exact FHd) (by exact hr) (by decide) (a_cons (e_var (a_nil ?_))))
      refine ⟨p, .pick, _, [.str "pick", kV r, .str d], [x], rfl, e12 _ _ hp, rfl, rfl, fun l1 H3 e3 h3 => e_int ?_⟩
      refine ⟨l1, [.str "pick", kV r], [.str d], rfl, rfl, h3, fun t2 H4 e4 h4 => ?_⟩
      refine o_catA (e4 _ _ (e3 _ _ h2)) h4 (by show 2 ≤ _; omega) fun t3 H5 e5 h5 => ?_
      have e25 := ((e2.trans e3).trans e4).trans e5
      have e05 := e1.trans e25
      refine l_cons (s_if (t_cmp (e_ix (e_var (e_int (ix_t (by exact SqT.of (e05 _ _ hp)) at0 (e_str (o_eqS ⟨_, rfl, ?_⟩))))))))
      rw [decide_eq_false (by decide +kernel)]
      refine iteF (l_nil ?_)
      have hla : acc.length + (al s1 + 1) ≤ 10000 := hla
      have hlk : l + (K13.nd s1 + 1) ≤ k := hlk
      have hm : (acc.map ma).sum + (ms s1 + 3) + 2 ≤ itM i := hm
      refine close p e t3 _ xs x H5 (.pk d) h r acc s1 none e05 (e05 _ _ hp) (e25 _ _ he) (hxs.mono fun _ _ => AcV.ds (DS.of e25)) ⟨t3, rfl, h5⟩ (hx.ts (Same.ts e05)) hw hok hmn (by omega) (by omega) ?_ ?_
      · rw [← hd]
        show Sg.hd h ((acc ++ [Ac.pk d]).length + al s1) :: ((acc ++ [Ac.pk d]).flatMap sga ++ sg s1) = Sg.hd h (acc.length + (al s1 + 1)) :: (acc.flatMap sga ++ Sg.pk d :: sg s1)
        rw [List.length_append, List.flatMap_append]
        simp [sga, Nat.add_comm, Nat.add_left_comm]
      · show ((acc ++ [Ac.pk d]).map ma).sum + ms s1 + 2 < _
        rw [List.map_append, List.sum_append]
        simp [ma]
        omega
    | op n i' s1 =>
      obtain ⟨p, xs, x, rfl, hp, ⟨fs, rfl, f1, fs1, rfl, hf1, f2, fs2, rfl, hf2, hfs⟩, hx⟩ := htr
      cases (show fs2 = [] from hfs)
      cases (show f1 = .str n from hf1)
      cases (show f2 = .int i' from hf2)
      have hp : H p = some (.tup ([.str "open", kV r, .str n, .int i'] ++ [x])) := hp
      refine l_cons (s_if (t_cmp (e_ix (e_var (e_int (ix_t (by exact SqT.of hp) at0 (e_str (o_eqS ⟨_, rfl, ?_⟩))))))))
      rw [decide_eq_false (by decide +kernel)]
      refine iteF (l_nil (l_cons (s_if (t_cmp (e_ix (e_var (e_int (ix_t (by exact SqT.of hp) at0 (e_str (o_eqS ⟨_, rfl, ?_⟩))))))))))
      rw [decide_eq_false (by decide +kernel)]
      refine iteF (l_nil (l_cons (s_if (t_not (t_val (e_call (by exact FR) (by exact hr) (by decide) (a_cons (e_var (a_nil ?_)))))))))
      refine ⟨p, .open_, _, rfl, hp, ?_⟩
      refine ⟨true, rfl, ?_⟩
      refine iteF (l_nil (l_cons (s_tup2 (e_call (by exact FM) (by exact hr) (by decide) (a_cons (e_var (a_cons (e_ix (e_var (e_int (ix_t (by exact SqT.of hp) at1 (a_nil ?_))))))))))))
      refine ⟨M, r, kvs, rfl, hM, fun v H1 e1 hv => ?_⟩
      obtain ⟨u, e, xs, rfl, hu, he, hxs⟩ := mo_tell hM hsp e1 hv
      refine ⟨u, kV h, .ref e, rfl, SqT.of hu, ?_⟩
      show wL _ _ _ [some (.ref p), some (.int (l : Int)), some (.int (t.length : Int)), some (.ref M), some (kV h), some (.ref e), none, none] _
      refine l_cons (s_set (e_bin (e_tup (a_cons (e_ix (e_var (e_int (ix_t (by exact SqT.of (e1 _ _ hp)) at0 (a_nil ?_)))))))))
      refine ⟨by show 1 ≤ sizeLine; decide, fun t1 H2 e2 n2 h2 => ?_⟩
      have e12 := e1.trans e2
      refine e_tLo (e_call (by exact FHd) (by exact hr) (by decide) (a_cons (e_var (a_nil ?_))))
      refine ⟨p, .open_, _, [.str "open", kV r, .str n, .int i'], [x], rfl, e12 _ _ hp, rfl, rfl, fun l1 H3 e3 h3 => e_int ?_⟩
      refine ⟨l1, [.str "open", kV r], [.str n, .int i'], rfl, rfl, h3, fun t2 H4 e4 h4 => ?_⟩
      refine o_catA (e4 _ _ (e3 _ _ h2)) h4 (by show 3 ≤ _; omega) fun t3 H5 e5 h5 => ?_
      have e25 := ((e2.trans e3).trans e4).trans e5
      have e05 := e1.trans e25
      refine l_cons (s_if (t_cmp (e_ix (e_var (e_int (ix_t (by exact SqT.of (e05 _ _ hp)) at0 (e_str (o_eqS ⟨_, rfl, ?_⟩))))))))
      rw [decide_eq_false (by decide +kernel)]
      refine iteF (l_nil ?_)
      have hla : acc.length + (al s1 + 1) ≤ 10000 := hla
      have hlk : l + (K13.nd s1 + 1) ≤ k := hlk
      have hm : (acc.map ma).sum + (ms s1 + 3) + 2 ≤ itM i := hm
      refine close p e t3 _ xs x H5 (.op n i') h r acc s1 none e05 (e05 _ _ hp) (e25 _ _ he) (hxs.mono fun _ _ => AcV.ds (DS.of e25)) ⟨t3, rfl, h5⟩ (hx.ts (Same.ts e05)) hw hok hmn (by omega) (by omega) ?_ ?_
      · rw [← hd]
        show Sg.hd h ((acc ++ [Ac.op n i']).length + al s1) :: ((acc ++ [Ac.op n i']).flatMap sga ++ sg s1) = Sg.hd h (acc.length + (al s1 + 1)) :: (acc.flatMap sga ++ Sg.op n i' :: sg s1)
        rw [List.length_append, List.flatMap_append]
        simp [sga, Nat.add_comm, Nat.add_left_comm]
      · show ((acc ++ [Ac.op n i']).map ma).sum + ms s1 + 2 < _
        rw [List.map_append, List.sum_append]
        simp [ma]
        omega
    | py m p0 s1 =>
      obtain ⟨p, xs, y, x, rfl, hp, ⟨fs, rfl, mv, fs1, rfl, hf1, hfs⟩, hy, hx⟩ := htr
      cases (show fs1 = [] from hfs)
      have hp : H p = some (.tup ([.str "pay", kV r, mv, y] ++ [x])) := hp
      refine l_cons (s_if (t_cmp (e_ix (e_var (e_int (ix_t (by exact SqT.of hp) at0 (e_str (o_eqS ⟨_, rfl, ?_⟩))))))))
      rw [decide_eq_false (by decide +kernel)]
      refine iteF (l_nil (l_cons (s_if (t_cmp (e_ix (e_var (e_int (ix_t (by exact SqT.of hp) at0 (e_str (o_eqS ⟨_, rfl, ?_⟩))))))))))
      rw [decide_eq_false (by decide +kernel)]
      refine iteF (l_nil (l_cons (s_if (t_not (t_val (e_call (by exact FR) (by exact hr) (by decide) (a_cons (e_var (a_nil ?_)))))))))
      refine ⟨p, .pay, _, rfl, hp, ?_⟩
      refine ⟨true, rfl, ?_⟩
      refine iteF (l_nil (l_cons (s_tup2 (e_call (by exact FM) (by exact hr) (by decide) (a_cons (e_var (a_cons (e_ix (e_var (e_int (ix_t (by exact SqT.of hp) at1 (a_nil ?_))))))))))))
      refine ⟨M, r, kvs, rfl, hM, fun v H1 e1 hv => ?_⟩
      obtain ⟨u, e, xs, rfl, hu, he, hxs⟩ := mo_tell hM hsp e1 hv
      refine ⟨u, kV h, .ref e, rfl, SqT.of hu, ?_⟩
      show wL _ _ _ [some (.ref p), some (.int (l : Int)), some (.int (t.length : Int)), some (.ref M), some (kV h), some (.ref e), none, none] _
      refine l_cons (s_set (e_bin (e_tup (a_cons (e_ix (e_var (e_int (ix_t (by exact SqT.of (e1 _ _ hp)) at0 (a_nil ?_)))))))))
      refine ⟨by show 1 ≤ sizeLine; decide, fun t1 H2 e2 n2 h2 => ?_⟩
      have e12 := e1.trans e2
      refine e_tLo (e_call (by exact FHd) (by exact hr) (by decide) (a_cons (e_var (a_nil ?_))))
      refine ⟨p, .pay, _, [.str "pay", kV r, mv], [y, x], rfl, e12 _ _ hp, rfl, rfl, fun l1 H3 e3 h3 => e_int ?_⟩
      refine ⟨l1, [.str "pay", kV r], [mv], rfl, rfl, h3, fun t2 H4 e4 h4 => ?_⟩
      refine o_catA (e4 _ _ (e3 _ _ h2)) h4 (by show 2 ≤ _; omega) fun t3 H5 e5 h5 => ?_
      have e25 := ((e2.trans e3).trans e4).trans e5
      have e05 := e1.trans e25
      refine l_cons (s_if (t_cmp (e_ix (e_var (e_int (ix_t (by exact SqT.of (e05 _ _ hp)) at0 (e_str (o_eqS ⟨_, rfl, ?_⟩))))))))
      rw [decide_eq_true rfl]
      refine iteT (l_cons (s_set (e_tup (a_cons (e_str (a_cons (e_call (by exact FF) (by exact hr) (by decide) (a_cons (e_var (a_cons (e_str (a_nil ?_))))))))))))
      refine ⟨p, .pay, _, 1, mv, rfl, e05 _ _ hp, .inl ⟨rfl, rfl⟩, rfl, ?_⟩
      refine a_cons (e_ix (e_var (e_int (ix_t (by exact SqT.of (e05 _ _ hp)) (atI_nat (j := 3) rfl) (a_cons (e_var (a_cons (e_var (a_nil ?_)))))))))
      refine ⟨by show 5 ≤ sizeLine; decide, fun t6 H6 e6 n6 h6 => ?_⟩
      have e26 := e25.trans e6
      have e06 := e1.trans e26
      refine l_nil ?_
      have hla : acc.length + (al s1 + 1) ≤ 10000 := hla
      have hlk : l + (K13.nd p0 + K13.nd s1 + 1) ≤ k := hlk
      have hm : (acc.map ma).sum + (ms p0 + ms s1 + 3) + 2 ≤ itM i := hm
      refine close p e t6 _ xs x H6 (.py m p0) h r acc s1 none e06 (e06 _ _ hp) (e26 _ _ he) (hxs.mono fun _ _ => AcV.ds (DS.of e26)) ⟨t6, mv, y, l, M, rfl, h6, hf1.ts (Same.ts e06), ?_, hw.1, hok.1, by omega, hmn.ds (DS.of e06)⟩ (hx.ts (Same.ts e06)) hw.2 hok.2 hmn (by omega) (by omega) ?_ ?_
      · rw [stl_r hw.1 l t (lv 0) r]
        exact hy.ts (Same.ts e06)
      · rw [← hd]
        show Sg.hd h ((acc ++ [Ac.py m p0]).length + al s1) :: ((acc ++ [Ac.py m p0]).flatMap sga ++ sg s1) = Sg.hd h (acc.length + (al s1 + 1)) :: (acc.flatMap sga ++ Sg.py m :: (sg p0 ++ sg s1))
        rw [List.length_append, List.flatMap_append]
        simp [sga, Nat.add_comm, Nat.add_left_comm]
      · show ((acc ++ [Ac.py m p0]).map ma).sum + ms s1 + 2 < _
        rw [List.map_append, List.sum_append]
        simp [ma]
        omega
  -- rows without a reference
  have last : ∀ (p : Addr) (kd : Kd) (zs rest ys : List V), kd.rf = false → tr = .ref p → H p = some (.tup (zs ++ ys)) → zs = .str kd.nm :: rest → zs.length = 1 + kd.fs.length → kd.nm ≠ Str.ofString "own" → kd.nm ≠ Str.ofString "take" → ys.length ≤ 2 → (∀ ls g us H', Same H H' → H ls = none → H' ls = some (.lst (.ref g :: us)) → H' g = some (.tup zs) → Al (fun x v => ∃ a, v = .ref a ∧ H' a = some (.tup [x, .int (l : Int), .int (t.length : Int), .ref M])) ys us → Q (.ref ls) H') → wL (cxOf CX0 P w K mg base (N_read_row ++ C_read_row) (Str.ofString "read_row") (defScope s_read_row) f cdv A outer s H E).nox (defBody s_read_row) { nx := fun _ H' => Q .non H', rt := Q } (start (N_read_row ++ C_read_row) [tr, .int (l : Int), .int (t.length : Int), .ref M]) H := by
    intro p kd zs rest ys hrf htr hp ez hzl hn1 hn2 hyl q
    subst htr
    have hp0 : H p = some (.tup (.str kd.nm :: (rest ++ ys))) := by rw [hp, ez]; rfl
    refine l_cons (s_if (t_cmp (e_ix (e_var (e_int (ix_t (by exact SqT.of hp0) at0 (e_str (o_eqS ⟨_, rfl, ?_⟩))))))))
    rw [decide_eq_false hn1]
    refine iteF (l_nil (l_cons (s_if (t_cmp (e_ix (e_var (e_int (ix_t (by exact SqT.of hp0) at0 (e_str (o_eqS ⟨_, rfl, ?_⟩))))))))))
    rw [decide_eq_false hn2]
    refine iteF (l_nil (l_cons (s_if (t_not (t_val (e_call (by exact FR) (by exact hr) (by decide) (a_cons (e_var (a_nil ?_)))))))))
    refine ⟨p, kd, _, rfl, hp0, ?_⟩
    refine ⟨_, rfl, ?_⟩
    rw [hrf]
    refine iteT (l_cons (s_ret (e_bin (e_lst (a_cons (e_call (by exact FHd) (by exact hr) (by decide) (a_cons (e_var (a_nil ?_)))))))))
    refine ⟨p, kd, rest, zs, ys, rfl, hp, ez, hzl, fun g H1 e1 h1 => a_nil ?_⟩
    refine ⟨by show 1 ≤ sizeLine; decide, fun l1 H2 e2 n2 h2 => ?_⟩
    refine e_lcL (by exact bk_read_row0) (e_call (by exact FP) (by exact hr) (by decide) (a_cons (e_var (a_nil ?_))))
    refine ⟨p, kd, rest, zs, ys, rfl, e2 _ _ (e1 _ _ hp), ez, hzl, fun l2 H3 e3 n3 h3 => ⟨l2, ys, rfl, SqL.of h3, fun D nD => ⟨fun j H4 => ∃ acc, H4 D = some (.lst acc) ∧ Al (fun x v => ∃ a, v = .ref a ∧ H4 a = some (.tup [x, .int (l : Int), .int (t.length : Int), .ref M])) (ys.take j) acc ∧ Same H3 H4, ?_, ?_, ?_, ?_⟩⟩⟩
    · exact ⟨[], upd_same, rfl, fun c u hc => by rw [upd_ne (ne_of_none hc nD)]; exact hc⟩
    · intro k H4 _ pr
      obtain ⟨acc, _, _, e⟩ := pr
      exact SqL.of (e _ _ h3)
    · intro j x H4 hx pr
      obtain ⟨acc, hD, ha, e⟩ := pr
      intro s0 H0 C cl fp IB
      refine e_tup (a_cons (b_var (a_cons (b_var (a_cons (b_var (a_cons (b_var (a_nil ?_)))))))))
      refine ⟨by show 4 ≤ sizeLine; decide, fun a H5 e5 n5 h5 => ?_⟩
      have lx := ha.len
      rw [List.length_take] at lx
      have hD5 := e5 _ _ hD
      have t5 : TS H5 (upd H5 D (.lst (acc ++ [.ref a]))) := TS.upd hD5
      refine ⟨acc, hD5, by show _ < 2 ^ 24; omega, acc ++ [.ref a], upd_same, ?_, fresh_keep nD (Same.trans e e5)⟩
      rw [take_snoc' hx]
      exact (ha.mono fun x v ⟨a, g1, g2⟩ => ⟨a, g1, t5 _ _ (e5 _ _ g2)⟩).app ⟨_, [], rfl, ⟨a, rfl, t5 _ _ h5⟩, rfl⟩
    · intro H4 pr
      obtain ⟨acc, hD, ha, e⟩ := pr
      rw [List.take_length] at ha
      have lx := ha.len
      refine o_cat2 (e _ _ (e3 _ _ h2)) hD (by simp only [List.length_cons, List.length_nil]; omega) fun ls H5 e5 n5 h5 => ?_
      have e25 := (e3.trans e).trans e5
      have e05 := (e1.trans e2).trans e25
      exact q ls g acc H5 e05 (none_of ((e1.trans e2).trans (e3.trans e)) n5) h5 (e25 _ _ (e2 _ _ h1)) (ha.mono fun x v ⟨a, g1, g2⟩ => ⟨a, g1, e5 _ _ g2⟩)
  cases i with
  | g s => exact hi.elim
  | s h acc s0 =>
    obtain ⟨r, htr, hw, hok, hmn, hsp, hla, hlk⟩ := hi
    exact spine r h acc s0 htr hw hok hmn hsp hla hlk rfl (Nat.le_refl _)
  | r R =>
    obtain ⟨htr, hw, hok, hmn, hlk⟩ := hi
    cases R with
    | nil => exact hw.elim
    | pk d s => exact hw.elim
    | op n i s => exact hw.elim
    | py m p s => exact hw.elim
    | hd h s0 =>
      have hal := al_nd s0
      have hlk : l + K13.nd s0 ≤ k := hlk
      refine spine (rfo t h) h [] s0 htr hw hok.2 hmn (hmn.spR hok.1) (by show 0 + al s0 ≤ _; omega) hlk ?_ ?_
      · show Sg.hd h (0 + al s0) :: ([] ++ sg s0) = Sg.hd h (al s0) :: sg s0
        rw [Nat.zero_add]; rfl
      · show 0 + ms s0 + 2 ≤ ms s0 + 3
        omega
    | tk a =>
      obtain ⟨p, xs, x, rfl, hp, ⟨fs, rfl, hfs⟩, hx⟩ := htr
      cases (show fs = [] from hfs)
      have hp : H p = some (.tup [.str "take", x]) := hp
      have hmn' := hmn
      obtain ⟨kvs, hM, hnd, hkl, _, _, _⟩ := hmn'
      have hlk : l + (K13.nd a + 1) ≤ k := hlk
      refine l_cons (s_if (t_cmp (e_ix (e_var (e_int (ix_t (by exact SqT.of hp) at0 (e_str (o_eqS ⟨_, rfl, ?_⟩))))))))
      rw [decide_eq_false (by decide +kernel)]
      refine iteF (l_nil (l_cons (s_if (t_cmp (e_ix (e_var (e_int (ix_t (by exact SqT.of hp) at0 (e_str (o_eqS ⟨_, rfl, ?_⟩))))))))))
      rw [decide_eq_true rfl]
      refine iteT (l_cons (s_ret (e_lst (a_cons (e_tup (a_cons (e_str (a_nil ?_))))))))
      refine ⟨by show 1 ≤ sizeLine; decide, fun g H1 e1 n1 h1 => ?_⟩
      refine a_cons (e_tup (a_cons (e_ix (e_var (e_int (ix_t (by exact SqT.of (e1 _ _ hp)) at1 ?_))))))
      refine a_cons (e_bin (e_var (e_int (o_add (a_cons (e_bin (e_var (e_int (o_add (a_cons (e_call (by exact FW) (by exact hr) (by decide) ?_)))))))))))
      refine a_cons (e_var (a_cons (e_var (a_cons (e_tup (a_cons (e_var (a_cons (e_tup (a_nil ?_))))))))))
      refine ⟨by show 0 ≤ sizeLine; decide, fun t2 H2 e2 n2 h2 => a_nil ?_⟩
      refine ⟨by show 2 ≤ sizeLine; decide, fun t3 H3 e3 n3 h3 => a_nil ?_⟩
      have e03 := (e1.trans e2).trans e3
      refine ⟨M, lv l, kvs, .ref t3, rfl, e03 _ _ hM, hnd, by omega, fun D H4 e4 n4 h4 => ?_⟩
      refine a_nil ⟨by show 4 ≤ sizeLine; decide, fun u H5 e5 n5 h5 => a_nil ?_⟩
      refine ⟨by show 2 ≤ sizeLine; decide, fun ls H6 e6 n6 h6 => ?_⟩
      have e46 := e5.trans e6
      have e06 := (e03.trans e4).trans e46
      have d06 := DS.of e06
      have h5' := e6 _ _ h5
      rw [show ((l : Int) + 1) = ((l + 1 : Nat) : Int) by omega, show ((t.length : Int) + 1) = (((t ++ [l]).length : Nat) : Int) by rw [List.length_append]; simp] at h5'
      have hmn2 : MnB H6 D (t ++ [l]) (l + 1) := hmn.take d06 hM (e46 _ _ (e4 _ _ h3)) (e46 _ _ (e4 _ _ (e3 _ _ h2))) (e46 _ _ h4)
      refine q ls _ [.g .tk, .r a] H6 e06 (none_of ((e03.trans e4).trans e5) n6) h6 ⟨_, _, rfl, .inl ⟨_, rfl, g, rfl, e46 _ _ (e4 _ _ (e3 _ _ (e2 _ _ h1)))⟩, _, [], rfl, .inr ⟨u, x, l + 1, t ++ [l], D, rfl, h5', hx.ts d06.1, hw, ?_, hmn2, by omega⟩, rfl⟩ ?_ ?_ ?_
      · rw [List.length_append]; exact hok
      · simp [itD, sg]
      · show 1 + (ms a + 0) < ms a + 3
        omega
      · show 2 ≤ _; omega
    | mk n j a =>
      obtain ⟨p, xs, x, etr, hp, ⟨fs, rfl, f1, fs1, rfl, hf1, f2, fs2, rfl, hf2, hfs⟩, hx⟩ := htr
      cases (show fs2 = [] from hfs)
      cases (show f1 = .str n from hf1)
      cases (show f2 = .int j from hf2)
      have hlk : l + (K13.nd a + 1) ≤ k := hlk
      refine last p .make [.str "make", .str n, .int j] _ [x] rfl etr hp rfl rfl (by decide +kernel) (by decide +kernel) (by show 1 ≤ 2; omega) fun ls g us H' e n' hl hg hus => ?_
      obtain ⟨v, us, rfl, ⟨b, rfl, hb⟩, hus⟩ := hus
      cases (show us = [] from hus)
      refine q ls _ [.g (.mk n j), .r a] H' e n' hl ⟨_, _, rfl, .inl ⟨_, rfl, g, rfl, hg⟩, _, [], rfl, .inr ⟨b, x, l, t, M, rfl, hb, hx.ts (Same.ts e), hw, hok, hmn.ds (DS.of e), by omega⟩, rfl⟩ ?_ ?_ ?_
      · simp [itD, sg]
      · show 1 + (ms a + 0) < ms a + 3
        omega
      · show 2 ≤ _; omega
    | of a b =>
      obtain ⟨p, xs, x, y, etr, hp, ⟨fs, rfl, hfs⟩, hx, hy⟩ := htr
      cases (show fs = [] from hfs)
      have hlk : l + (K13.nd a + K13.nd b + 1) ≤ k := hlk
      refine last p .offer [.str "offer"] _ [x, y] rfl etr hp rfl rfl (by decide +kernel) (by decide +kernel) (by show 2 ≤ 2; omega) fun ls g us H' e n' hl hg hus => ?_
      obtain ⟨v, us, rfl, ⟨b1, rfl, hb1⟩, v2, us2, rfl, ⟨b2, rfl, hb2⟩, hus⟩ := hus
      cases (show us2 = [] from hus)
      have d := DS.of e
      refine q ls _ [.g .of, .r a, .r b] H' e n' hl ⟨_, _, rfl, .inl ⟨_, rfl, g, rfl, hg⟩, _, _, rfl, .inr ⟨b1, x, l, t, M, rfl, hb1, hx.ts d.1, hw.1, hok.1, hmn.ds d, by omega⟩, _, [], rfl, .inr ⟨b2, y, l, t, M, rfl, hb2, hy.ts d.1, hw.2, hok.2, hmn.ds d, by omega⟩, rfl⟩ ?_ ?_ ?_
      · simp [itD, sg]
      · show 1 + (ms a + (ms b + 0)) < ms a + ms b + 3
        omega
      · show 3 ≤ _; omega
end



theorem ms_pos : ∀ R : Rd, 1 ≤ ms R
  | .tk a => by show 1 ≤ ms a + 3; omega
  | .mk _ _ a => by show 1 ≤ ms a + 3; omega
  | .of a b => by show 1 ≤ ms a + ms b + 3; omega
  | .hd _ s => by show 1 ≤ ms s + 3; omega
  | .nil => Nat.le_refl _
  | .pk _ s => by show 1 ≤ ms s + 3; omega
  | .op _ _ s => by show 1 ≤ ms s + 3; omega
  | .py _ p s => by show 1 ≤ ms p + ms s + 3; omega
theorem itM_pos (i : It) : 1 ≤ itM i := by
  cases i with
  | g s => exact Nat.le_refl _
  | s h acc s => show 1 ≤ _ + _ + 2; omega
  | r R => exact ms_pos R
theorem itS_len : ∀ l : List It, l.length ≤ itS l
  | [] => Nat.le_refl _
  | i :: l => by
    have h1 := itM_pos i
    have h2 := itS_len l
    unfold itS at h2 ⊢
    rw [List.map_cons, List.sum_cons, List.length_cons]
    omega
theorem itS_app (a b : List It) : itS (a ++ b) = itS a + itS b := by
  unfold itS
  rw [List.map_append, List.sum_append]
theorem itS_cons (a : It) (b : List It) : itS (a :: b) = itM a + itS b := by
  unfold itS
  rw [List.map_cons, List.sum_cons]
theorem ms_nd : ∀ {b : Bool} {R : Rd}, Wf b R → ms R + (if b then 0 else 3) ≤ 4 * nd R
  | true, .tk a, h => by have := ms_nd (b := true) (R := a) h; simp at this; show ms a + 3 + 0 ≤ 4 * (nd a + 1); omega
  | true, .mk _ _ a, h => by have := ms_nd (b := true) (R := a) h; simp at this; show ms a + 3 + 0 ≤ 4 * (nd a + 1); omega
  | true, .of a b, h => by have h1 := ms_nd (b := true) (R := a) h.1; have h2 := ms_nd (b := true) (R := b) h.2; simp at h1 h2; show ms a + ms b + 3 + 0 ≤ 4 * (nd a + nd b + 1); omega
  | true, .hd _ s, h => by have := ms_nd (b := false) (R := s) h; simp at this; show ms s + 3 + 0 ≤ 4 * nd s; omega
  | false, .nil, _ => by show 1 + 3 ≤ 4 * 1; omega
  | false, .pk _ s, h => by have := ms_nd (b := false) (R := s) h; simp at this; show ms s + 3 + 3 ≤ 4 * (nd s + 1); omega
  | false, .op _ _ s, h => by have := ms_nd (b := false) (R := s) h; simp at this; show ms s + 3 + 3 ≤ 4 * (nd s + 1); omega
  | false, .py _ p s, h => by have h1 := ms_nd (b := true) (R := p) h.1; have h2 := ms_nd (b := false) (R := s) h.2; simp at h1 h2; show ms p + ms s + 3 + 3 ≤ 4 * (nd p + nd s + 1); omega
theorem sg_len : ∀ {b : Bool} {R : Rd}, Wf b R → (sg R).length + (if b then 0 else 1) = nd R
  | true, .tk a, h => by have := sg_len (b := true) (R := a) h; simp at this; show (sg a).length + 1 + 0 = nd a + 1; omega
  | true, .mk _ _ a, h => by have := sg_len (b := true) (R := a) h; simp at this; show (sg a).length + 1 + 0 = nd a + 1; omega
  | true, .of a b, h => by have h1 := sg_len (b := true) (R := a) h.1; have h2 := sg_len (b := true) (R := b) h.2; simp at h1 h2; show (sg a ++ sg b).length + 1 + 0 = nd a + nd b + 1; rw [List.length_append]; omega
  | true, .hd _ s, h => by have := sg_len (b := false) (R := s) h; simp at this; show (sg s).length + 1 + 0 = nd s; omega
  | false, .nil, _ => rfl
  | false, .pk _ s, h => by have := sg_len (b := false) (R := s) h; simp at this; show (sg s).length + 1 + 1 = nd s + 1; omega
  | false, .op _ _ s, h => by have := sg_len (b := false) (R := s) h; simp at this; show (sg s).length + 1 + 1 = nd s + 1; omega
  | false, .py _ p s, h => by have h1 := sg_len (b := true) (R := p) h.1; have h2 := sg_len (b := false) (R := s) h.2; simp at h1 h2; show (sg p ++ sg s).length + 1 + 1 = nd p + nd s + 1; rw [List.length_append]; omega
theorem stl_nc : ∀ (R : Rd) (l : Nat) (t : List Nat) (r : Key) (p : List Nat), ∀ x ∈ wk (stl R l t r) p, isC x.2 = false
  | .tk a, l, t, r, p, x, h => by
    rcases List.mem_cons.mp h with rfl | h
    · rfl
    · exact stl_nc a _ _ _ _ x h
  | .mk n i a, l, t, r, p, x, h => by
    rcases List.mem_cons.mp h with rfl | h
    · rfl
    · exact stl_nc a _ _ _ _ x h
  | .of a b, l, t, r, p, x, h => by
    rcases List.mem_cons.mp h with rfl | h
    · rfl
    · rcases List.mem_append.mp h with h | h
      · exact stl_nc a _ _ _ _ x h
      · exact stl_nc b _ _ _ _ x h
  | .hd _ s, l, t, r, p, x, h => stl_nc s _ _ _ _ x h
  | .nil, l, t, r, p, x, h => by rw [List.mem_singleton.mp h]; rfl
  | .pk d s, l, t, r, p, x, h => by
    rcases List.mem_cons.mp h with rfl | h
    · rfl
    · exact stl_nc s _ _ _ _ x h
  | .op n i s, l, t, r, p, x, h => by
    rcases List.mem_cons.mp h with rfl | h
    · rfl
    · exact stl_nc s _ _ _ _ x h
  | .py m q s, l, t, r, p, x, h => by
    rcases List.mem_cons.mp h with rfl | h
    · rfl
    · rcases List.mem_append.mp h with h | h
      · exact stl_nc q _ _ _ _ x h
      · exact stl_nc s _ _ _ _ x h
theorem firstT_stl (R : Rd) (l : Nat) (t : List Nat) (r : Key) : firstT (stl R l t r) = none := by
  unfold firstT
  rw [List.find?_eq_none.mpr fun x hx => by rw [stl_nc R l t r [] x hx]; decide]
  rfl
section
variable {P : Program} {w : World} {K : PySem.W.Frag} {mg : Str → Option Value} {base : Heap} {CN : Addr}
theorem TrI.is {H : Hp} {k : Nat} : ∀ {i : It} {l : Nat} {t : List Nat} {M : Addr} {tr : V}, TrI H k i l t M tr → ∃ p xs, tr = .ref p ∧ H p = some (.tup xs)
  | .g _, _, _, _, _, h => h.elim
  | .r _, _, _, _, _, ⟨a, _⟩ => let ⟨p, xs, ys, h1, h2, _⟩ := a.split; ⟨p, _, h1, h2⟩
  | .s _ _ _, _, _, _, _, ⟨_, a, _⟩ => let ⟨p, xs, ys, h1, h2, _⟩ := a.split; ⟨p, _, h1, h2⟩
def spSO (CN : Addr) : Sp := fun vs H Q E => ∃ v t, vs = [v] ∧ TrV H t v ∧ t.Ok ∧ t.size ≤ 1000 ∧ ((∃ R, t = stl R 0 [] (lv 0) ∧ Wf true R ∧ OkR 0 R ∧ ∀ l us H', Same H H' → H l = none → H' l = some (.lst us) → Al (SgV H') (sg R) us → Q (.ref l) H') ∨
  ∃ p, firstT t = some p ∧ ∀ u d H', Same H H' → PthV H' p u → H' d = some (.xd [("path", u)]) → E (.ref CN) (some d) H')
theorem ok_so (T : Top K mg "signs_of" s_signs_of) (mI : mg "isinstance" = none) (mS : mg "str" = none) (FQ : FnN P w K mg base 6 "require_bare" (spReq CN)) (FR : Fn P w K mg base 3 "read_row" spRR) : FnN P w K mg base 7 "signs_of" (spSO CN) := by
  refine fn_okN T sc_signs_of so_signs_of (fun vs H Q E h => by obtain ⟨v, t, rfl, _⟩ := h; rfl) (fun _ _ _ _ _ _ us hl => match us, hl with | [_], _ => rfl) fun f cdv A outer s H vs Q E hr h nd tk => ?_
  obtain ⟨v, t, rfl, hv, ho, hz, q⟩ := h
  refine l_cons (s_expr (e_callN (by exact FQ) (by exact tk) (by exact hr) (by decide) (a_cons (e_var (a_nil ?_)))))
  refine ⟨v, t, rfl, hv, ho, hz, fun hn H0 e0 => ?_, fun p u d H' hp e hu hd => ?_⟩
  rotate_left
  · rcases q with ⟨R, rfl, _⟩ | ⟨p', hp', q⟩
    · rw [firstT_stl] at hp; cases hp
    · rw [hp] at hp'
      cases hp'
      exact q u d H' e hu hd
  rcases q with ⟨R, rfl, hw, hok, q⟩ | ⟨p', hp', _⟩
  rotate_left
  · rw [hn] at hp'; cases hp'
  rw [stl_size] at hz
  have hms : ms R + 0 ≤ 4 * K13.nd R := ms_nd hw
  have hsl : (sg R).length + 0 = K13.nd R := sg_len hw
  refine l_cons (s_set (e_lst (a_nil ⟨by show 0 ≤ sizeLine; decide, fun fa H1 e1 n1 h1 => ?_⟩)))
  refine l_cons (s_set (e_lst (a_cons (e_tup (a_cons (e_var (a_cons (e_int (a_cons (e_int (a_cons (e_dict fun D H2 e2 n2 h2 => a_nil ?_))))))))))))
  refine ⟨by show 4 ≤ sizeLine; decide, fun u0 H3 e3 n3 h3 => a_nil ?_⟩
  refine ⟨by show 1 ≤ sizeLine; decide, fun wa H4 e4 n4 h4 => ?_⟩
  have e14 := (e2.trans e3).trans e4
  have e04 := (e0.trans e1).trans e14
  have h14 := e14 _ _ h1
  have nfw : fa ≠ wa := fun z => by rw [z] at h1; rw [none_of ((Same.trans e2 e3)) n4] at h1; cases h1
  have nf0 : H fa = none := none_of e0 n1
  have nw0 : H wa = none := none_of (((e0.trans e1).trans e2).trans e3) n4
  refine l_cons (s_whileN (fun n σ H' => ∃ (is : List It) (ws hs : List V) (em : List Sg) (x : Option V), σ = [some v, some (.ref fa), some (.ref wa), x] ∧ H' fa = some (.lst hs) ∧ H' wa = some (.lst ws.reverse) ∧ n = itS is ∧ Al (ItW H' (K13.nd R)) is ws ∧ Al (SgV H') em hs ∧ em ++ is.flatMap itD = sg R ∧ itS is ≤ ms R ∧ DS H4 H' ∧ ∀ c o, H c = some o → H' c = some o)
    (ms R) ⟨[.r R], [.ref u0], [], [], none, rfl, h14, h4, by simp [itS, itM], ⟨_, [], rfl, .inr ⟨u0, v, 0, [], D, rfl, e4 _ _ h3, hv.ts (Same.ts e04), hw, hok, ⟨[], e4 _ _ (e3 _ _ h2), List.nodup_nil, Nat.zero_le _, fun j l' hj => by (rw [List.getElem?_nil] at hj; cases hj), fun _ => rfl, fun l' hl => absurd hl List.not_mem_nil⟩, by omega⟩, rfl⟩, rfl, by simp [itD], by simp [itS, itM], DS.refl, e04⟩ fun n σ H5 hI => ?_)
  obtain ⟨is, ws, hs, em, x, rfl, hfa, hwa, rfl, his, hem, heq, hle, ds, keep⟩ := hI
  refine t_tru (e_var ⟨_, tru_l hwa, ?_⟩)
  have lem := hem.len
  have lis := itS_len is
  have lws := his.len
  have leq := congrArg List.length heq
  rw [List.length_append] at leq
  cases is with
  | nil =>
    cases (show ws = [] from his)
    refine ite_f rfl ?_
    rw [List.flatMap_nil, List.append_nil] at heq
    subst heq
    refine l_cons (s_ret (e_var ?_))
    exact q fa hs H5 keep nf0 hfa hem
  | cons i is =>
    obtain ⟨u, us, rfl, hi, his⟩ := his
    rw [List.reverse_cons] at hwa ⊢
    refine ite_t (by simp) ?_
    refine l_cons (s_set (e_pop (e_var ⟨wa, us.reverse, u, rfl, hwa, ?_⟩)))
    show wL _ _ _ [some v, some (.ref fa), some (.ref wa), some u] _
    have d6 : DS H5 (upd H5 wa (.lst us.reverse)) := DS.upd hwa
    have hfa6 : upd H5 wa (.lst us.reverse) fa = some (.lst hs) := by rw [upd_ne nfw]; exact hfa
    have hwa6 : upd H5 wa (.lst us.reverse) wa = some (.lst us.reverse) := upd_same
    have k6 : ∀ c o, H c = some o → upd H5 wa (.lst us.reverse) c = some o := fun c o hc => by rw [upd_ne (fun z => by subst z; rw [nw0] at hc; cases hc)]; exact keep c o hc
    have his6 := his.mono fun _ _ => ItW.ds d6
    have hi6 := hi.ds d6
    have hem6 := hem.mono fun _ _ => SgV.ts d6.1
    generalize upd H5 wa (.lst us.reverse) = H6 at d6 hfa6 hwa6 k6 his6 hi6 hem6 ⊢
    have dd6 := ds.trans d6
    rw [itS_cons] at hle lis
    simp only [List.length_cons] at lis lws
    rcases hi6 with ⟨g, rfl, hg⟩ | ⟨a, tr, l, t, M, rfl, ha, hi6⟩
    · obtain ⟨t0, z, xs, rfl, ht0⟩ := hg.tup
      refine l_cons (s_if (t_val (e_callB (x := "isinstance") (by assumption) b_isi ?_)))
      refine a_cons (e_ix (e_var (e_int (ix_t (by exact SqT.of ht0) at0 ?_))))
      walk_at "sts"
      refine c_isi ty_str (.ty _) (kit_ty kb_str_str) ⟨_, rfl, iteT ?_⟩
      refine l_cons (s_expr (e_app (e_var ⟨fa, _, rfl, SqL.of hfa6, e_var ⟨_, hfa6, by show _ < 2 ^ 24; omega, ?_⟩⟩)))
      have d7 : DS H6 (upd H6 fa (.lst (hs ++ [.ref t0]))) := DS.upd hfa6
      refine l_nil (l_nil ⟨itS is, by rw [itS_cons]; show _ < 1 + _; omega, is, us, hs ++ [.ref t0], em ++ [g], some (.ref t0), rfl, upd_same, by rw [upd_ne (Ne.symm nfw)]; exact hwa6, rfl, his6.mono fun _ _ => ItW.ds d7, (hem6.mono fun _ _ => SgV.ts d7.1).app ⟨_, [], rfl, hg.ts d7.1, rfl⟩, ?_, by omega, dd6.trans d7, fun c o hc => ?_⟩)
      · rw [← heq]; simp [itD]
      · rw [upd_ne (fun z => by subst z; rw [nf0] at hc; cases hc)]; exact k6 c o hc
    · obtain ⟨p, zs, rfl, hp⟩ := hi6.is
      refine l_cons (s_if (t_val (e_callB (x := "isinstance") (by assumption) b_isi ?_)))
      refine a_cons (e_ix (e_var (e_int (ix_t (by exact SqT.of ha) at0 ?_))))
      walk_at "sts"
      refine c_isi (ty_tup hp) (.ty _) (kit_ty kb_tuple_str) ⟨_, rfl, iteF ?_⟩
      refine l_cons (s_expr (e_ext (e_var ⟨wa, _, rfl, SqL.of hwa6, e_rev (e_call (by exact FR) (by exact hr) (by decide) ?_)⟩)))
      refine a_cons (e_ix (e_var (e_int (ix_t (by exact SqT.of ha) at0 ?_))))
      refine a_cons (e_ix (e_var (e_int (ix_t (by exact SqT.of ha) at1 ?_))))
      refine a_cons (e_ix (e_var (e_int (ix_t (by exact SqT.of ha) (atI_nat (j := 2) rfl) ?_))))
      refine a_cons (e_ix (e_var (e_int (ix_t (by exact SqT.of ha) (atI_nat (j := 3) rfl) (a_nil ?_)))))
      refine ⟨i, l, t, M, .ref p, K13.nd R, rfl, hi6, by omega, fun l7 ys js H7 e7 n7 h7 hjs hjd hjm hjl => ⟨l7, ys, rfl, SqL.of h7, fun l8 H8 e8 n8 h8 => ?_⟩⟩
      have lj := itS_len js
      have lys := hjs.len
      have hwa8 := e8 _ _ (e7 _ _ hwa6)
      refine ⟨l8, us.reverse, ys.reverse, rfl, hwa8, h8, by rw [List.length_reverse, List.length_reverse]; omega, ?_⟩
      have d9 : DS H8 (upd H8 wa (.lst (us.reverse ++ ys.reverse))) := DS.upd hwa8
      have d79 : DS H7 (upd H8 wa (.lst (us.reverse ++ ys.reverse))) := (DS.of e8).trans d9
      have d69 := (DS.of e7).trans d79
      refine l_nil (l_nil ⟨itS (js ++ is), by rw [itS_app, itS_cons]; omega, js ++ is, ys ++ us, hs, em, some (.ref a), rfl, ?_, ?_, rfl, (hjs.mono fun _ _ => ItW.ds d79).app (his6.mono fun _ _ => ItW.ds d69), hem6.mono fun _ _ => SgV.ts d69.1, ?_, by rw [itS_app]; omega, dd6.trans d69, fun c o hc => ?_⟩)
      · rw [upd_ne nfw]; exact e8 _ _ (e7 _ _ hfa6)
      · rw [List.reverse_append]; exact upd_same
      · rw [← heq, List.flatMap_append, List.flatMap_cons, hjd]
      · rw [upd_ne (fun z => by subst z; rw [nw0] at hc; cases hc)]; exact e8 _ _ (e7 _ _ (k6 c o hc))
end



/-! ### a reading, out of its signs -/
inductive SE where
  | R (R : Rd) | A (c : Ac)
def AcD (H : Hp) : Ac → V → Prop
  | .pk d, v => ∃ t, v = .ref t ∧ H t = some (.tup [.str "pick", .str d])
  | .op n i, v => ∃ t, v = .ref t ∧ H t = some (.tup [.str "open", .str n, .int i])
  | .py m p, v => ∃ t mv x, v = .ref t ∧ H t = some (.tup [.str "pay", mv, x]) ∧ FdV H (mF m) mv ∧ DV H p [x]
theorem AcD.ts {H H' : Hp} (e : TS H H') : ∀ {c : Ac} {v : V}, AcD H c v → AcD H' c v
  | .pk _, _, ⟨t, h1, h2⟩ => ⟨t, h1, e _ _ h2⟩
  | .op _ _, _, ⟨t, h1, h2⟩ => ⟨t, h1, e _ _ h2⟩
  | .py _ _, _, ⟨t, mv, x, h1, h2, h3, h4⟩ => ⟨t, mv, x, h1, e _ _ h2, h3.ts e, h4.ts e⟩
def SeV (H : Hp) : SE → V → Prop
  | .R R, v => DV H R [v]
  | .A c, v => AcD H c v
theorem SeV.ts {H H' : Hp} (e : TS H H') : ∀ {c : SE} {v : V}, SeV H c v → SeV H' c v
  | .R _, _, h => DV.ts e h
  | .A _, _, h => AcD.ts e h
def acs : Rd → List Ac
  | .pk d s => .pk d :: acs s | .op n i s => .op n i :: acs s | .py m p s => .py m p :: acs s | _ => []
def sp : List Ac → Rd
  | [] => .nil | .pk d :: l => .pk d (sp l) | .op n i :: l => .op n i (sp l) | .py m p :: l => .py m p (sp l)
theorem sp_acs : ∀ {s : Rd}, Wf false s → sp (acs s) = s
  | .nil, _ => rfl
  | .pk d s, h => by show Rd.pk d (sp (acs s)) = _; rw [sp_acs (s := s) h]
  | .op n i s, h => by show Rd.op n i (sp (acs s)) = _; rw [sp_acs (s := s) h]
  | .py m p s, h => by show Rd.py m p (sp (acs s)) = _; rw [sp_acs (s := s) h.2]
theorem acs_al : ∀ s : Rd, (acs s).length = al s
  | .pk d s => by show (acs s).length + 1 = al s + 1; rw [acs_al s]
  | .op n i s => by show (acs s).length + 1 = al s + 1; rw [acs_al s]
  | .py m p s => by show (acs s).length + 1 = al s + 1; rw [acs_al s]
  | .tk _ => rfl | .mk _ _ _ => rfl | .of _ _ => rfl | .hd _ _ => rfl | .nil => rfl
theorem dv_sp {H : Hp} : ∀ {cs : List Ac} {vs : List V}, Al (AcD H) cs vs → DV H (sp cs) vs
  | [], _, h => h
  | .pk _ :: _, _, ⟨v, us, h1, ⟨t, he, h2⟩, h3⟩ => ⟨t, us, by rw [h1, he], h2, dv_sp h3⟩
  | .op _ _ :: _, _, ⟨v, us, h1, ⟨t, he, h2⟩, h3⟩ => ⟨t, us, by rw [h1, he], h2, dv_sp h3⟩
  | .py _ _ :: _, _, ⟨v, us, h1, ⟨t, mv, x, he, h2, h4, h5⟩, h3⟩ => ⟨t, mv, x, us, by rw [h1, he], h2, h4, h5, dv_sp h3⟩
theorem al_sp {H : Hp} : ∀ {s : Rd} {vs : List V}, Wf false s → DV H s vs → Al (AcD H) (acs s) vs
  | .nil, _, _, h => h
  | .pk _ _, _, w, ⟨t, us, h1, h2, h3⟩ => ⟨.ref t, us, h1, ⟨t, rfl, h2⟩, al_sp w h3⟩
  | .op _ _ _, _, w, ⟨t, us, h1, h2, h3⟩ => ⟨.ref t, us, h1, ⟨t, rfl, h2⟩, al_sp w h3⟩
  | .py _ _ _, _, w, ⟨t, mv, x, us, h1, h2, h4, h5, h3⟩ => ⟨.ref t, us, h1, ⟨t, mv, x, rfl, h2, h4, h5⟩, al_sp w.2 h3⟩
def Stp : Sg → List SE → List SE → Prop
  | .tk, S, S' => ∃ a S0, S = .R a :: S0 ∧ S' = .R (.tk a) :: S0
  | .mk n i, S, S' => ∃ a S0, S = .R a :: S0 ∧ S' = .R (.mk n i a) :: S0
  | .of, S, S' => ∃ a b S0, S = .R a :: .R b :: S0 ∧ S' = .R (.of a b) :: S0
  | .hd h n, S, S' => ∃ cs S0, S = cs.map SE.A ++ S0 ∧ cs.length = n ∧ S' = .R (.hd h (sp cs)) :: S0
  | .pk d, S, S' => S' = .A (.pk d) :: S
  | .op n i, S, S' => S' = .A (.op n i) :: S
  | .py m, S, S' => ∃ p S0, S = .R p :: S0 ∧ S' = .A (.py m p) :: S0
def Go : List Sg → List SE → List SE → Prop
  | [], S, F => S = F
  | g :: gs, S, F => ∃ S1, Stp g S S1 ∧ Go gs S1 F
theorem go_sg : ∀ {b : Bool} {R : Rd} {gs : List Sg} {S F : List SE}, Wf b R → Go gs ((if b then [SE.R R] else (acs R).map SE.A) ++ S) F → Go ((sg R).reverse ++ gs) S F
  | true, .tk a, gs, S, F, w, h => by
    show Go ((Sg.tk :: sg a).reverse ++ gs) S F
    rw [List.reverse_cons, List.append_assoc]
    exact go_sg (b := true) w ⟨_, ⟨a, S, rfl, rfl⟩, h⟩
  | true, .mk n i a, gs, S, F, w, h => by
    show Go ((Sg.mk n i :: sg a).reverse ++ gs) S F
    rw [List.reverse_cons, List.append_assoc]
    exact go_sg (b := true) w ⟨_, ⟨a, S, rfl, rfl⟩, h⟩
  | true, .of a b, gs, S, F, w, h => by
    show Go ((Sg.of :: (sg a ++ sg b)).reverse ++ gs) S F
    rw [List.reverse_cons, List.reverse_append, List.append_assoc, List.append_assoc]
    exact go_sg (b := true) w.2 (go_sg (b := true) w.1 ⟨_, ⟨a, b, S, rfl, rfl⟩, h⟩)
  | true, .hd k s, gs, S, F, w, h => by
    show Go ((Sg.hd k (al s) :: sg s).reverse ++ gs) S F
    rw [List.reverse_cons, List.append_assoc]
    refine go_sg (b := false) w ⟨_, ⟨acs s, S, rfl, acs_al s, rfl⟩, ?_⟩
    rw [sp_acs w]
    exact h
  | false, .nil, gs, S, F, _, h => h
  | false, .pk d s, gs, S, F, w, h => by
    show Go ((Sg.pk d :: sg s).reverse ++ gs) S F
    rw [List.reverse_cons, List.append_assoc]
    exact go_sg (b := false) w ⟨_, rfl, h⟩
  | false, .op n i s, gs, S, F, w, h => by
    show Go ((Sg.op n i :: sg s).reverse ++ gs) S F
    rw [List.reverse_cons, List.append_assoc]
    exact go_sg (b := false) w ⟨_, rfl, h⟩
  | false, .py m p s, gs, S, F, w, h => by
    show Go ((Sg.py m :: (sg p ++ sg s)).reverse ++ gs) S F
    rw [List.reverse_cons, List.reverse_append, List.append_assoc, List.append_assoc]
    exact go_sg (b := false) w.2 (go_sg (b := true) w.1 ⟨_, ⟨p, _, rfl, rfl⟩, h⟩)
theorem Al.split {α : Type} {F : α → V → Prop} : ∀ {l m : List α} {v : List V}, Al F (l ++ m) v → ∃ a b, v = a ++ b ∧ Al F l a ∧ Al F m b
  | [], _, v, h => ⟨[], v, rfl, rfl, h⟩
  | _ :: _, _, _, ⟨v, us, h1, h2, h3⟩ => let ⟨a, b, e, ha, hb⟩ := h3.split; ⟨v :: a, b, by rw [h1, e]; rfl, ⟨v, a, rfl, h2, ha⟩, hb⟩
theorem Al.ofMap {α β : Type} {F : α → V → Prop} {f : β → α} : ∀ {l : List β} {v : List V}, Al F (l.map f) v → Al (fun b => F (f b)) l v
  | [], _, h => h
  | _ :: _, _, ⟨v, us, h1, h2, h3⟩ => ⟨v, us, h1, h2, h3.ofMap⟩
section
variable {P : Program} {w : World} {K : PySem.W.Frag} {mg : Str → Option Value} {base : Heap} {CN : Addr}
def spRo : Sp := fun vs H Q _ => ∃ a us R, vs = [.ref a] ∧ H a = some (.lst us) ∧ Al (SgV H) (sg R) us ∧ Wf true R ∧ (sg R).length ≤ 1000 ∧ ∀ x H', Same H H' → DV H' R [x] → Q x H'
def PvR (H : Hp) (a ma : Addr) (R : Rd) (j : Nat) (σ : L2.St) (H' : Hp) : Prop := ∃ (S : List SE) (ws : List V) (o2 o3 : Option V), σ = [some (.ref a), some (.ref ma), o2, o3, none] ∧ H' ma = some (.lst ws.reverse) ∧ Al (SeV H') S ws ∧ Go ((sg R).reverse.drop j) S [.R R] ∧ S.length ≤ j ∧ Same H H'
theorem PvR.fin {H H6 : Hp} {a ma : Addr} {R : Rd} {j : Nat} {S0 : List SE} {ws0 : List V} {s : SE} {v : V} {o2 o3 : Option V} (nm : H ma = none) (h6 : H6 ma = some (.lst ws0.reverse)) (hs : Al (SeV H6) S0 ws0) (hv : SeV H6 s v) (hg : Go ((sg R).reverse.drop (j + 1)) (s :: S0) [.R R]) (hl : S0.length ≤ j) (e : Same H H6) : PvR H a ma R (j + 1) [some (.ref a), some (.ref ma), o2, o3, none] (upd H6 ma (.lst (ws0.reverse ++ [v]))) := by
  have t : TS H6 (upd H6 ma (.lst (ws0.reverse ++ [v]))) := TS.upd h6
  refine ⟨s :: S0, v :: ws0, o2, o3, rfl, by rw [List.reverse_cons]; exact upd_same, ⟨v, ws0, rfl, hv.ts t, hs.mono fun _ _ => SeV.ts t⟩, hg, Nat.succ_le_succ hl, fun c o hc => ?_⟩
  rw [upd_ne (fun z => by subst z; rw [nm] at hc; cases hc)]
  exact e c o hc
theorem ok_ro (T : Top K mg "reading_of" s_reading_of) (mR : mg "reversed" = none) (mG : mg "range" = none) (mT : mg "tuple" = none) : Fn P w K mg base 1 "reading_of" spRo := by
  refine fn_okC T sc_reading_of so_reading_of (fun vs H Q E h => by obtain ⟨a, us, R, rfl, _⟩ := h; rfl) (fun _ _ _ _ _ _ us hl => match us, hl with | [_], _ => rfl) fun f cdv A outer s H vs Q E hr h nd => ?_
  obtain ⟨a, us, R, rfl, ha, hus, hw, hsz, q⟩ := h
  refine l_cons (s_set (e_lst (a_nil ⟨by show 0 ≤ sizeLine; decide, fun ma H1 e1 n1 h1 => ?_⟩)))
  have hgo : Go ((sg R).reverse ++ []) [] [.R R] := go_sg hw rfl
  rw [List.append_nil] at hgo
  have hrev := hus.rev
  have lus := hus.len
  refine l_cons (s_forRv (by assumption) (e_var ⟨a, us, rfl, SqL.of (e1 _ _ ha), PvR H a ma R, ⟨[], [], none, none, rfl, h1, rfl, hgo, Nat.le_refl _, e1⟩, ?_, ?_, ?_⟩))
  · intro k σ H' _ pr
    obtain ⟨_, _, _, _, _, _, _, _, _, e⟩ := pr
    exact SqL.of (e _ _ ha)
  · intro j y σ H' hy pr
    obtain ⟨S, ws, o2, o3, rfl, hma, hS, hg, hl, e⟩ := pr
    obtain ⟨g, hgj, hgv⟩ := hrev.get hy
    have hjl := (List.getElem?_eq_some_iff.mp hgj).1
    rw [List.length_reverse] at hjl
    have hdrop : (sg R).reverse.drop j = g :: (sg R).reverse.drop (j + 1) := by
      rw [List.drop_eq_getElem_cons (by rw [List.length_reverse]; exact hjl), (List.getElem?_eq_some_iff.mp hgj).2]
    rw [hdrop] at hg
    obtain ⟨S1, hst, hg⟩ := hg
    have hgv' := hgv.ts (Same.ts e)
    have lS := hS.len
    show wL _ _ _ [some (.ref a), some (.ref ma), some y, o3, none] _
    have one : ∀ (BK : L2.St → Hp → Prop) (t : Addr) (z : Str) (zs : List V) (x : V) (ws0 : List V) (S0 : List SE) (s0 : SE), y = .ref t → H' t = some (.tup (.str z :: zs)) → z ≠ Str.ofString "head" → z ≠ Str.ofString "offer" → inV (.str z) [.str "take", .str "make", .str "pay"] = true → H' ma = some (.lst (x :: ws0).reverse) → Al (SeV H') S0 ws0 → (∀ H6 t2, TS H' H6 → H6 t2 = some (.tup (.str z :: (zs ++ [x]))) → SeV H6 s0 (.ref t2)) → Go ((sg R).reverse.drop (j + 1)) (s0 :: S0) [.R R] → S0.length + 1 ≤ j → zs.length ≤ 10 → 
        wL (cxOf CX0 P w K mg base (N_reading_of ++ C_reading_of) (Str.ofString "reading_of") (defScope s_reading_of) f cdv A outer s H E).nox [stB ((defBody s_reading_of).getD 1 nS) 0 0] { nx := PvR H a ma R (j + 1), rt := Q, bk := BK, ct := PvR H a ma R (j + 1) } [some (.ref a), some (.ref ma), some y, o3, none] H' := by
      intro BK t z zs x ws0 S0 s0 ey ht hz1 hz2 hz3 hma hS hv hg hl hzl
      subst ey
      have lS := hS.len
      rw [List.reverse_cons] at hma
      refine l_cons (s_if (t_cmp (e_ix (e_var (e_int (ix_t (by exact SqT.of ht) at0 (e_str (o_eqS ⟨_, rfl, ?_⟩))))))))
      rw [decide_eq_false hz1]
      refine iteF (l_cons (s_if (t_cmp (e_ix (e_var (e_int (ix_t (by exact SqT.of ht) at0 (e_str (o_eqS ⟨_, rfl, ?_⟩)))))))))
      rw [decide_eq_false hz2]
      refine iteF (l_cons (s_if (t_cmp (e_ix (e_var (e_int (ix_t (by exact SqT.of ht) at0 (e_tup (a_cons (e_str (a_cons (e_str (a_cons (e_str (a_nil ?_)))))))))))))))
      refine ⟨by show 3 ≤ sizeLine; decide, fun tp H3 e3 n3 h3 => ?_⟩
      refine o_inT (by exact SqT.of h3) rfl rfl ⟨_, rfl, ?_⟩
      rw [hz3]
      have hma3 := e3 _ _ hma
      have t4 : TS H3 (upd H3 ma (.lst ws0.reverse)) := TS.upd hma3
      have hma4 : upd H3 ma (.lst ws0.reverse) ma = some (.lst ws0.reverse) := upd_same
      have e4 : Same H (upd H3 ma (.lst ws0.reverse)) := fun c o hc => by rw [upd_ne (fun z => by subst z; rw [n1] at hc; cases hc)]; exact e3 _ _ (e c o hc)
      refine iteT (l_cons (s_expr (e_app (e_var ⟨ma, _, rfl, SqL.of hma3, e_bin (e_var (e_tup (a_cons (e_pop (e_var ⟨ma, ws0.reverse, x, rfl, hma3, a_nil ?_⟩)))))⟩))))
      have t04 := (Same.ts e3).trans t4
      generalize upd H3 ma (.lst ws0.reverse) = H4 at t4 t04 hma4 e4 ⊢
      refine ⟨by show 1 ≤ sizeLine; decide, fun t5 H5 e5 n5 h5 => ?_⟩
      refine o_catA (e5 _ _ (t04 _ _ ht)) h5 (by simp only [List.length_cons, List.length_nil]; omega) fun t6 H6 e6 h6 => ?_
      have e46 := e5.trans e6
      have hma6 := e46 _ _ hma4
      have t06 := t04.trans (Same.ts e46)
      refine ⟨_, hma6, by rw [List.length_reverse]; show _ < 2 ^ 24; omega, ?_⟩
      exact l_nil (l_nil (l_nil (l_nil (PvR.fin (s := s0) n1 hma6 (hS.mono fun _ _ => SeV.ts t06) (hv H6 t6 t06 h6) hg (by omega) (e4.trans e46)))))
    cases g with
    | pk d =>
      obtain ⟨t, rfl, ht⟩ := hgv'
      refine l_cons (s_if (t_cmp (e_ix (e_var (e_int (ix_t (by exact SqT.of ht) at0 (e_str (o_eqS ⟨_, rfl, ?_⟩))))))))
      rw [decide_eq_false (by decide +kernel)]
      refine iteF (l_cons (s_if (t_cmp (e_ix (e_var (e_int (ix_t (by exact SqT.of ht) at0 (e_str (o_eqS ⟨_, rfl, ?_⟩)))))))))
      rw [decide_eq_false (by decide +kernel)]
      refine iteF (l_cons (s_if (t_cmp (e_ix (e_var (e_int (ix_t (by exact SqT.of ht) at0 (e_tup (a_cons (e_str (a_cons (e_str (a_cons (e_str (a_nil ?_)))))))))))))))
      refine ⟨by show 3 ≤ sizeLine; decide, fun tp H3 e3 n3 h3 => ?_⟩
      refine o_inT (by exact SqT.of h3) rfl rfl ⟨_, rfl, ?_⟩
      rw [show inV (V.str "pick") [.str "take", .str "make", .str "pay"] = false by decide +kernel]
      have hma3 := e3 _ _ hma
      refine iteF (l_cons (s_expr (e_app (e_var ⟨ma, _, rfl, SqL.of hma3, e_var ⟨_, hma3, by rw [List.length_reverse]; show _ < 2 ^ 24; omega, ?_⟩⟩))))
      have hst : S1 = .A (.pk d) :: S := hst
      subst hst
      exact l_nil (l_nil (l_nil (l_nil (PvR.fin (s := .A (.pk d)) n1 hma3 (hS.mono fun _ _ => SeV.ts (Same.ts e3)) ⟨t, rfl, e3 _ _ ht⟩ hg hl (e.trans e3)))))
    | op n i =>
      obtain ⟨t, rfl, ht⟩ := hgv'
      refine l_cons (s_if (t_cmp (e_ix (e_var (e_int (ix_t (by exact SqT.of ht) at0 (e_str (o_eqS ⟨_, rfl, ?_⟩))))))))
      rw [decide_eq_false (by decide +kernel)]
      refine iteF (l_cons (s_if (t_cmp (e_ix (e_var (e_int (ix_t (by exact SqT.of ht) at0 (e_str (o_eqS ⟨_, rfl, ?_⟩)))))))))
      rw [decide_eq_false (by decide +kernel)]
      refine iteF (l_cons (s_if (t_cmp (e_ix (e_var (e_int (ix_t (by exact SqT.of ht) at0 (e_tup (a_cons (e_str (a_cons (e_str (a_cons (e_str (a_nil ?_)))))))))))))))
      refine ⟨by show 3 ≤ sizeLine; decide, fun tp H3 e3 n3 h3 => ?_⟩
      refine o_inT (by exact SqT.of h3) rfl rfl ⟨_, rfl, ?_⟩
      rw [show inV (V.str "open") [.str "take", .str "make", .str "pay"] = false by decide +kernel]
      have hma3 := e3 _ _ hma
      refine iteF (l_cons (s_expr (e_app (e_var ⟨ma, _, rfl, SqL.of hma3, e_var ⟨_, hma3, by rw [List.length_reverse]; show _ < 2 ^ 24; omega, ?_⟩⟩))))
      have hst : S1 = .A (.op n i) :: S := hst
      subst hst
      exact l_nil (l_nil (l_nil (l_nil (PvR.fin (s := .A (.op n i)) n1 hma3 (hS.mono fun _ _ => SeV.ts (Same.ts e3)) ⟨t, rfl, e3 _ _ ht⟩ hg hl (e.trans e3)))))
    | py m =>
      obtain ⟨t, mv, rfl, ht, hmv⟩ := hgv'
      obtain ⟨p, S0, rfl, rfl⟩ := hst
      obtain ⟨x, ws0, rfl, hx, hS0⟩ := hS
      exact one _ t "pay" [mv] x ws0 S0 (.A (.py m p)) rfl ht (by decide +kernel) (by decide +kernel) (by decide +kernel) hma hS0 (fun H6 t2 k h2 => ⟨t2, mv, x, rfl, h2, hmv.ts k, hx.ts k⟩) hg (by simpa using hl) (by show 1 ≤ _; omega)
    | tk =>
      obtain ⟨t, rfl, ht⟩ := hgv'
      obtain ⟨p, S0, rfl, rfl⟩ := hst
      obtain ⟨x, ws0, rfl, hx, hS0⟩ := hS
      exact one _ t "take" [] x ws0 S0 (.R (.tk p)) rfl ht (by decide +kernel) (by decide +kernel) (by decide +kernel) hma hS0 (fun H6 t2 k h2 => ⟨t2, x, rfl, h2, hx.ts k⟩) hg (by simpa using hl) (by show 0 ≤ _; omega)
    | mk n i =>
      obtain ⟨t, rfl, ht⟩ := hgv'
      obtain ⟨p, S0, rfl, rfl⟩ := hst
      obtain ⟨x, ws0, rfl, hx, hS0⟩ := hS
      exact one _ t "make" [.str n, .int i] x ws0 S0 (.R (.mk n i p)) rfl ht (by decide +kernel) (by decide +kernel) (by decide +kernel) hma hS0 (fun H6 t2 k h2 => ⟨t2, x, rfl, h2, hx.ts k⟩) hg (by simpa using hl) (by show 2 ≤ _; omega)
    | of =>
      obtain ⟨t, rfl, ht⟩ := hgv'
      obtain ⟨p, p2, S0, rfl, rfl⟩ := hst
      obtain ⟨x, ws1, rfl, hx, y, ws0, rfl, hy, hS0⟩ := hS
      simp only [List.length_cons] at lS hl
      rw [List.reverse_cons] at hma
      refine l_cons (s_if (t_cmp (e_ix (e_var (e_int (ix_t (by exact SqT.of ht) at0 (e_str (o_eqS ⟨_, rfl, ?_⟩))))))))
      rw [decide_eq_false (by decide +kernel)]
      refine iteF (l_cons (s_if (t_cmp (e_ix (e_var (e_int (ix_t (by exact SqT.of ht) at0 (e_str (o_eqS ⟨_, rfl, ?_⟩)))))))))
      rw [decide_eq_true rfl]
      refine iteT (l_cons (s_set (e_pop (e_var ⟨ma, (y :: ws0).reverse, x, rfl, hma, ?_⟩))))
      show wL _ _ _ [some (.ref a), some (.ref ma), some (.ref t), some x, none] _
      have t1 : TS H' (upd H' ma (.lst (y :: ws0).reverse)) := TS.upd hma
      have e1' : Same H (upd H' ma (.lst (y :: ws0).reverse)) := fun c o hc => by rw [upd_ne (fun z => by subst z; rw [n1] at hc; cases hc)]; exact e c o hc
      have hma1 : upd H' ma (.lst (y :: ws0).reverse) ma = some (.lst (ws0.reverse ++ [y])) := by rw [upd_same, List.reverse_cons]
      have hx1 := hx.ts t1
      have hy1 := hy.ts t1
      have hS1 := hS0.mono fun _ _ => SeV.ts t1
      generalize upd H' ma (.lst (y :: ws0).reverse) = H1' at t1 e1' hma1 hx1 hy1 hS1 ⊢
      refine l_cons (s_expr (e_app (e_var ⟨ma, _, rfl, SqL.of hma1, e_tup (a_cons (e_str (a_cons (e_var (a_cons (e_pop (e_var ⟨ma, ws0.reverse, y, rfl, hma1, a_nil ⟨by show 3 ≤ sizeLine; decide, fun t3 H3 e3 n3 h3 => ?_⟩⟩)))))))⟩)))
      have t2 : TS H1' (upd H1' ma (.lst ws0.reverse)) := TS.upd hma1
      have t23 := t2.trans (Same.ts e3)
      have hma3 := e3 _ _ (upd_same (H := H1') (a := ma) (o := .lst ws0.reverse))
      have e03 : Same H H3 := fun c o hc => e3 _ _ (by rw [upd_ne (fun z => by subst z; rw [n1] at hc; cases hc)]; exact e1' c o hc)
      refine ⟨_, hma3, by rw [List.length_reverse]; show _ < 2 ^ 24; omega, ?_⟩
      exact l_nil (l_nil (l_nil (PvR.fin (s := .R (.of p p2)) n1 hma3 (hS1.mono fun _ _ => SeV.ts t23) ⟨t3, x, y, rfl, h3, hx1.ts t23, hy1.ts t23⟩ hg (by omega) e03)))
    | hd h n =>
      obtain ⟨t, rfl, ht⟩ := hgv'
      obtain ⟨cs, S0, rfl, hcs, rfl⟩ := hst
      obtain ⟨vs, ws0, rfl, hvs, hS0⟩ := hS.split
      have hvs := hvs.ofMap
      have lvs := hvs.len
      rw [List.length_append] at hl
      rw [List.length_map] at hl
      have lw0 := hS0.len
      refine l_cons (s_if (t_cmp (e_ix (e_var (e_int (ix_t (by exact SqT.of ht) at0 (e_str (o_eqS ⟨_, rfl, ?_⟩))))))))
      rw [decide_eq_true rfl]
      refine iteT (l_cons (s_expr (e_app (e_var ⟨ma, _, rfl, SqL.of hma, e_tup (a_cons (e_str (a_cons (e_ix (e_var (e_int (ix_t (by exact SqT.of ht) at1 (a_cons ?_))))))))⟩))))
      refine e_callTy (x := "tuple") (by assumption) b_tuple (a_cons (e_lcR (by exact bk_reading_of0) (by assumption) (e_ix (e_var (e_int (ix_t (by exact SqT.of ht) (atI_nat (j := 2) rfl) ?_))))))
      refine ⟨n, rfl, by omega, fun D nD => ?_⟩
      have nDm : D ≠ ma := fun z => by subst z; rw [hma] at nD; cases nD
      refine ⟨fun k H2 => H2 D = some (.lst (vs.take k)) ∧ H2 ma = some (.lst (vs.drop k ++ ws0).reverse) ∧ TS H' H2 ∧ Same H H2, ?_, ?_, ?_⟩
      · exact ⟨upd_same, by rw [upd_ne (Ne.symm nDm)]; exact hma, fun p xs hp => by rw [upd_ne (ne_of_none hp nD)]; exact hp, fun c o hc => by rw [upd_ne (ne_of_none (e c o hc) nD)]; exact e c o hc⟩
      · intro k H2 hk pr s0 H0 C cl fp IB
        obtain ⟨p1, p2, p3, p4⟩ := pr
        have hkl : k < vs.length := by omega
        have hdk : vs.drop k = vs[k] :: vs.drop (k + 1) := List.drop_eq_getElem_cons hkl
        rw [hdk, List.cons_append, List.reverse_cons] at p2
        refine e_pop (b_var ⟨ma, (vs.drop (k + 1) ++ ws0).reverse, vs[k], rfl, p2, ?_⟩)
        refine ⟨vs.take k, by rw [upd_ne nDm]; exact p1, by rw [List.length_take]; show _ < 2 ^ 24; omega, ?_, ?_, ?_, ?_⟩
        · rw [upd_same, take_snoc' (List.getElem?_eq_getElem hkl)]
        · rw [upd_ne (Ne.symm nDm), upd_same]
        · exact p3.trans ((TS.upd p2).trans (TS.upd (by rw [upd_ne nDm]; exact p1)))
        · intro c o hc
          rw [upd_ne (fun z => by subst z; rw [none_of e nD] at hc; cases hc), upd_ne (fun z => by subst z; rw [n1] at hc; cases hc)]
          exact p4 c o hc
      intro H2 pr
      obtain ⟨p1, p2, p3, p4⟩ := pr
      rw [List.take_of_length_le (by omega)] at p1
      rw [List.drop_eq_nil_of_le (by omega), List.nil_append] at p2
      refine a_nil (c_tupL (SqL.of p1) fun l3 H3 e3 n3 h3 => a_nil ?_)
      refine ⟨by show 3 ≤ sizeLine; decide, fun t4 H4 e4 n4 h4 => ?_⟩
      have e24 := e3.trans e4
      have hma4 := e24 _ _ p2
      have t4' := p3.trans (Same.ts e24)
      refine ⟨_, hma4, by rw [List.length_reverse]; show _ < 2 ^ 24; omega, ?_⟩
      have hvs' : Al (AcD H') cs vs := hvs
      exact l_nil (l_nil (PvR.fin (s := .R (.hd h (sp cs))) n1 hma4 (hS0.mono fun _ _ => SeV.ts t4') ⟨t4, l3, vs, rfl, h4, e4 _ _ h3, dv_sp (hvs'.mono fun _ _ => AcD.ts t4')⟩ hg (by omega) (p4.trans e24)))
  · intro σ H' pr
    obtain ⟨S, ws, o2, o3, rfl, hma, hS, hg, hl, e⟩ := pr
    rw [show us.length = (sg R).reverse.length by rw [List.length_reverse]; exact lus, List.drop_length] at hg
    have hg : S = [.R R] := hg
    subst hg
    obtain ⟨x, us', rfl, hx, hn⟩ := hS
    cases (show us' = [] from hn)
    refine l_cons (s_ret (e_ix (e_var (e_int (ix_l (by exact SqL.of hma) at0 (q x H' e hx))))))
end



/-! ### equality of data -/
open PySem.SeqAt in
theorem op_eqP {X : Cx} (hu : X.A.units + 64 < cLine) : OpR X (compareOp .Eq) (fun x y H Q => ∃ d e, Dp X.K H x d ∧ Dp X.K H y e ∧ d.plain = true ∧ e.plain = true ∧ d.depth ≤ 64 ∧ Q (.bl (PyData.eqv d e)) H) := by
  intro pins s σ H x y v u Q I rx ry h
  obtain ⟨d, e, hd, he, sd, se, hz, q⟩ := h
  obtain ⟨as, r1⟩ := Dp.reads I d x v hd rx
  obtain ⟨bs, r2⟩ := Dp.reads I e y u he ry
  exact PySem.SeqAt.eq_plain r1 r2 sd se (by have := Nat.min_le_left d.depth e.depth; omega) ⟨.bl _, H, I, rfl, q⟩
theorem o_eqP {X : Cx} {H : Hp} {Q : VK} {n : Nat} {x y : V} {d e : PyData} (hr : Room n X.A) (h1 : Dp X.K H x d) (h2 : Dp X.K H y e) (s1 : d.plain = true) (s2 : e.plain = true) (hz : d.depth ≤ 64) (q : Q (.bl (PyData.eqv d e)) H) : wK X .Eq x y H Q := k_of (op_eqP hr.units) ⟨d, e, h1, h2, s1, s2, hz, q⟩
def kP : Key → PyData
  | .inl i => .int i
  | .inr z => .str z
theorem kP_dp {K : PySem.W.Frag} {H : Hp} (k : Key) : Dp K H (kV k) (kP k) := by
  cases k with
  | inl i => exact .int i
  | inr z => exact .str z
def mP : Option (Int × Int) → PyData
  | none => .str "once"
  | some (a, b) => .tuple [.int a, .int b]
theorem mP_dp {K : PySem.W.Frag} {H : Hp} {m : Option (Int × Int)} {v : V} (h : FdV H (mF m) v) : Dp K H v (mP m) := by
  cases m with
  | none => rw [show v = .str "once" from h]; exact .str _
  | some p =>
    obtain ⟨a, b⟩ := p
    obtain ⟨t, rfl, ht⟩ := h
    exact .tup (SqT.of ht) (.cons (.int a) (.cons (.int b) .nil))
def sgP : Sg → PyData
  | .tk => .tuple [.str "take"] | .of => .tuple [.str "offer"] | .mk n i => .tuple [.str "make", .str n, .int i] | .hd h n => .tuple [.str "head", kP h, .int (n : Int)] | .pk d => .tuple [.str "pick", .str d] | .op n i => .tuple [.str "open", .str n, .int i] | .py m => .tuple [.str "pay", mP m]
theorem sgP_dp {K : PySem.W.Frag} {H : Hp} : ∀ {g : Sg} {v : V}, SgV H g v → Dp K H v (sgP g)
  | .tk, _, ⟨t, h1, h2⟩ => by rw [h1]; exact .tup (SqT.of h2) (.cons (.str _) .nil)
  | .of, _, ⟨t, h1, h2⟩ => by rw [h1]; exact .tup (SqT.of h2) (.cons (.str _) .nil)
  | .mk n i, _, ⟨t, h1, h2⟩ => by rw [h1]; exact .tup (SqT.of h2) (.cons (.str _) (.cons (.str _) (.cons (.int _) .nil)))
  | .hd h n, _, ⟨t, h1, h2⟩ => by rw [h1]; exact .tup (SqT.of h2) (.cons (.str _) (.cons (kP_dp h) (.cons (.int _) .nil)))
  | .pk d, _, ⟨t, h1, h2⟩ => by rw [h1]; exact .tup (SqT.of h2) (.cons (.str _) (.cons (.str _) .nil))
  | .op n i, _, ⟨t, h1, h2⟩ => by rw [h1]; exact .tup (SqT.of h2) (.cons (.str _) (.cons (.str _) (.cons (.int _) .nil)))
  | .py m, _, ⟨t, mv, h1, h2, h3⟩ => by rw [h1]; exact .tup (SqT.of h2) (.cons (.str _) (.cons (mP_dp h3) .nil))
theorem sgsP_dp {K : PySem.W.Frag} {H : Hp} : ∀ {l : List Sg} {v : List V}, Al (SgV H) l v → DpAll K H v (l.map sgP)
  | [], _, h => by rw [show _ = _ from h]; exact .nil
  | _ :: _, _, ⟨v, us, h1, h2, h3⟩ => by rw [h1]; exact .cons (sgP_dp h2) (sgsP_dp h3)
theorem kP_plain (k : Key) : (kP k).plain = true ∧ (kP k).depth = 0 := by cases k <;> exact ⟨rfl, rfl⟩
theorem mP_plain (m : Option (Int × Int)) : (mP m).plain = true ∧ (mP m).depth ≤ 1 := by
  cases m with
  | none => exact ⟨rfl, Nat.zero_le _⟩
  | some p => exact ⟨rfl, Nat.le_refl _⟩
theorem kP_inj {a b : Key} (h : PyData.eqv (kP a) (kP b) = true) : a = b := by
  cases a <;> cases b <;> simp [kP, PyData.eqv] at h <;> simp [h]
theorem mP_inj {a b : Option (Int × Int)} (h : PyData.eqv (mP a) (mP b) = true) : a = b := by
  cases a with
  | none => cases b with
    | none => rfl
    | some p => obtain ⟨x, y⟩ := p; cases h
  | some p =>
    obtain ⟨x, y⟩ := p
    cases b with
    | none => cases h
    | some q =>
      obtain ⟨z, t⟩ := q
      simp [mP, PyData.eqv, PyData.eqvAll] at h
      simp [h]
theorem sgP_plain (g : Sg) : (sgP g).plain = true ∧ (sgP g).depth ≤ 2 := by
  cases g with
  | tk => exact ⟨rfl, by decide⟩
  | of => exact ⟨rfl, by decide⟩
  | mk n i => exact ⟨rfl, by show max 0 (max 0 (max 0 0)) + 1 ≤ 2; decide⟩
  | pk d => exact ⟨rfl, by show max 0 (max 0 0) + 1 ≤ 2; decide⟩
  | op n i => exact ⟨rfl, by show max 0 (max 0 (max 0 0)) + 1 ≤ 2; decide⟩
  | hd h n =>
    have hk := kP_plain h
    refine ⟨?_, ?_⟩
    · show (true && ((kP h).plain && (true && true))) = true
      rw [hk.1]; rfl
    · show max 0 (max (kP h).depth (max 0 0)) + 1 ≤ 2
      rw [hk.2]; decide
  | py m =>
    have hk := mP_plain m
    refine ⟨?_, ?_⟩
    · show (true && ((mP m).plain && true)) = true
      rw [hk.1]; rfl
    · show max 0 (max (mP m).depth 0) + 1 ≤ 2
      omega
theorem sgsP_plain : ∀ l : List Sg, (PyData.list (l.map sgP)).plain = true ∧ PyData.depthAll (l.map sgP) ≤ 2
  | [] => ⟨rfl, Nat.zero_le _⟩
  | g :: l => by
    have h1 := sgP_plain g
    have h2 := sgsP_plain l
    refine ⟨?_, ?_⟩
    · show ((sgP g).plain && (PyData.list (l.map sgP)).plain) = true
      rw [h1.1, h2.1]; rfl
    · show max (sgP g).depth (PyData.depthAll (l.map sgP)) ≤ 2
      omega
def sgT : Sg → Str
  | .tk => "take" | .of => "offer" | .mk _ _ => "make" | .hd _ _ => "head" | .pk _ => "pick" | .op _ _ => "open" | .py _ => "pay"
theorem sgP_tag {a b : Sg} (h : PyData.eqv (sgP a) (sgP b) = true) : sgT a = sgT b := by
  have hh : ∀ g, ∃ l, sgP g = .tuple (.str (sgT g) :: l) := fun g => by cases g <;> exact ⟨_, rfl⟩
  obtain ⟨l, h1⟩ := hh a
  obtain ⟨m, h2⟩ := hh b
  rw [h1, h2] at h
  have h : (decide (sgT a = sgT b) && PyData.eqvAll l m) = true := by
    have e : PyData.eqv (.tuple (.str (sgT a) :: l)) (.tuple (.str (sgT b) :: m)) = ((sgT a == sgT b) && PyData.eqvAll l m) := by rw [PyData.eqv, PyData.eqvAll, PyData.eqv]
    rw [e] at h
    rw [← h]
    congr 1
  rw [Bool.and_eq_true] at h
  exact of_decide_eq_true h.1
theorem eqv_tup (xs ys : List PyData) : PyData.eqv (.tuple xs) (.tuple ys) = PyData.eqvAll xs ys := by rw [PyData.eqv]
theorem eqv_cons (x y : PyData) (xs ys : List PyData) : PyData.eqvAll (x :: xs) (y :: ys) = (PyData.eqv x y && PyData.eqvAll xs ys) := by rw [PyData.eqvAll]
theorem eqv_str (x y : Str) : PyData.eqv (.str x) (.str y) = (x == y) := by rw [PyData.eqv]
theorem eqv_int (x y : Int) : PyData.eqv (.int x) (.int y) = (x == y) := by rw [PyData.eqv]
theorem sgP_inj {a b : Sg} (h : PyData.eqv (sgP a) (sgP b) = true) : a = b := by
  have ht := sgP_tag h
  cases a <;> cases b <;> first
    | rfl
    | (simp only [sgT] at ht; exact absurd ht (by decide +kernel))
    | skip
  all_goals simp only [sgP, eqv_tup, eqv_cons, eqv_str, eqv_int, Bool.and_eq_true, beq_iff_eq] at h
  · rw [h.2.1, h.2.2.1]
  · rw [kP_inj h.2.1]
    congr 1
    have := h.2.2.1
    omega
  · rw [h.2.1]
  · rw [h.2.1, h.2.2.1]
  · rw [mP_inj h.2.1]
theorem sgsP_inj : ∀ {l m : List Sg}, PyData.eqvAll (l.map sgP) (m.map sgP) = true → l = m
  | [], [], _ => rfl
  | [], _ :: _, h => by cases h
  | _ :: _, [], h => by cases h
  | a :: l, b :: m, h => by
    have h : (PyData.eqv (sgP a) (sgP b) && PyData.eqvAll (l.map sgP) (m.map sgP)) = true := h
    rw [Bool.and_eq_true] at h
    rw [sgP_inj h.1, sgsP_inj h.2]

section
variable {P : Program} {w : World} {K : PySem.W.Frag} {mg : Str → Option Value} {base : Heap} {CN : Addr}
def spRb (CN : Addr) : Sp := fun vs H Q E => ∃ v t, vs = [v] ∧ TrV H t v ∧ t.Ok ∧ t.size ≤ 1000 ∧ ((∃ R, t = stl R 0 [] (lv 0) ∧ Wf true R ∧ OkR 0 R ∧ ∀ x H', Same H H' → DV H' R [x] → Q x H') ∨
  ∃ p, firstT t = some p ∧ ∀ u d H', Same H H' → PthV H' p u → H' d = some (.xd [("path", u)]) → E (.ref CN) (some d) H')
theorem ok_rb (T : Top K mg "read_bare" s_read_bare) (FS : FnN P w K mg base 7 "signs_of" (spSO CN)) (FR : Fn P w K mg base 1 "reading_of" spRo) : FnN P w K mg base 8 "read_bare" (spRb CN) := by
  refine fn_okN T sc_read_bare so_read_bare (fun vs H Q E h => by obtain ⟨v, t, rfl, _⟩ := h; rfl) (fun _ _ _ _ _ _ us hl => match us, hl with | [_], _ => rfl) fun f cdv A outer s H vs Q E hr h nd tk => ?_
  obtain ⟨v, t, rfl, hv, ho, hz, q⟩ := h
  refine l_cons (s_ret (e_call (by exact FR) (by exact hr) (by decide) (a_cons (e_callN (by exact FS) (by exact tk) (by exact hr) (by decide) (a_cons (e_var (a_nil ?_)))))))
  refine ⟨v, t, rfl, hv, ho, hz, ?_⟩
  rcases q with ⟨R, rfl, hw, hok, q⟩ | ⟨p, hp, q⟩
  · rw [stl_size] at hz
    have hsl : (sg R).length + 0 = K13.nd R := sg_len hw
    refine .inl ⟨R, rfl, hw, hok, fun l us H1 e1 n1 h1 hus => a_nil ?_⟩
    exact ⟨l, us, R, rfl, h1, hus, hw, by omega, fun x H2 e2 hx => q x H2 (e1.trans e2) hx⟩
  · exact .inr ⟨p, hp, q⟩
def spAl (CN : Addr) : Sp := fun vs H Q E => ∃ v1 v2 t1 t2, vs = [v1, v2] ∧ TrV H t1 v1 ∧ TrV H t2 v2 ∧ t1.Ok ∧ t2.Ok ∧ t1.size ≤ 1000 ∧ t2.size ≤ 1000 ∧
  ((∃ R1 R2, t1 = stl R1 0 [] (lv 0) ∧ t2 = stl R2 0 [] (lv 0) ∧ Wf true R1 ∧ Wf true R2 ∧ OkR 0 R1 ∧ OkR 0 R2 ∧ ∀ b H', Same H H' → (b = true ↔ sg R1 = sg R2) → Q (.bl b) H') ∨
  (∃ R1 p, t1 = stl R1 0 [] (lv 0) ∧ Wf true R1 ∧ OkR 0 R1 ∧ firstT t2 = some p ∧ ∀ u d H', Same H H' → PthV H' p u → H' d = some (.xd [("path", u)]) → E (.ref CN) (some d) H') ∨
  ∃ p, firstT t1 = some p ∧ ∀ u d H', Same H H' → PthV H' p u → H' d = some (.xd [("path", u)]) → E (.ref CN) (some d) H')
theorem ok_al (T : Top K mg "alike" s_alike) (FS : FnN P w K mg base 7 "signs_of" (spSO CN)) : FnN P w K mg base 8 "alike" (spAl CN) := by
  refine fn_okN T sc_alike so_alike (fun vs H Q E h => by obtain ⟨v1, v2, t1, t2, rfl, _⟩ := h; rfl) (fun _ _ _ _ _ _ us hl => match us, hl with | [_, _], _ => rfl) fun f cdv A outer s H vs Q E hr h nd tk => ?_
  obtain ⟨v1, v2, t1, t2, rfl, hv1, hv2, ho1, ho2, hz1, hz2, q⟩ := h
  refine l_cons (s_ret (e_cmp (e_callN (by exact FS) (by exact tk) (by exact hr) (by decide) (a_cons (e_var (a_nil ?_))))))
  refine ⟨v1, t1, rfl, hv1, ho1, hz1, ?_⟩
  rcases q with ⟨R1, R2, rfl, rfl, hw1, hw2, hk1, hk2, q⟩ | ⟨R1, p, rfl, hw1, hk1, hp, q⟩ | ⟨p, hp, q⟩
  · refine .inl ⟨R1, rfl, hw1, hk1, fun l us H1 e1 n1 h1 hus => ?_⟩
    refine e_callN (by exact FS) (by exact tk) (by exact hr) (by decide) (a_cons (e_var (a_nil ?_)))
    refine ⟨v2, _, rfl, hv2.ts (Same.ts e1), ho2, hz2, .inl ⟨R2, rfl, hw2, hk2, fun l2 us2 H2 e2 n2 h2 hus2 => ?_⟩⟩
    have p1 := sgsP_plain (sg R1)
    have p2 := sgsP_plain (sg R2)
    refine o_eqP (by exact hr) (.lst (SqL.of (e2 _ _ h1)) (sgsP_dp (hus.mono fun _ _ => SgV.ts (Same.ts e2)))) (.lst (SqL.of h2) (sgsP_dp hus2)) p1.1 p2.1 (by show PyData.depthAll _ + 1 ≤ 64; omega) ?_
    refine q _ H2 (e1.trans e2) ⟨fun h => ?_, fun h => ?_⟩
    · have h : PyData.eqvAll ((sg R1).map sgP) ((sg R2).map sgP) = true := by rw [PyData.eqv] at h; exact h
      exact sgsP_inj h
    · rw [h]
      exact PySem.SeqAt.eqv_refl_plain _ p2.1
  · refine .inl ⟨R1, rfl, hw1, hk1, fun l us H1 e1 n1 h1 hus => ?_⟩
    refine e_callN (by exact FS) (by exact tk) (by exact hr) (by decide) (a_cons (e_var (a_nil ?_)))
    exact ⟨v2, t2, rfl, hv2.ts (Same.ts e1), ho2, hz2, .inr ⟨p, hp, fun u d H2 e2 hu hd => q u d H2 (e1.trans e2) hu hd⟩⟩
  · exact .inr ⟨p, hp, q⟩
end



/-! ### the settled derivation -/
inductive Is where
  | g (h : Hd) | r (R : Rd) (l : Nat) (t : List Nat)
def isD : Is → List Hd
  | .g h => [h]
  | .r R l t => hds (stl R l t (lv 0))
def isM : Is → Nat
  | .g _ => 1
  | .r R _ _ => ms R
def isS (l : List Is) : Nat := (l.map isM).sum
theorem isM_pos (i : Is) : 1 ≤ isM i := by
  cases i with
  | g s => exact Nat.le_refl _
  | r R l t => exact ms_pos R
theorem isS_cons (a : Is) (b : List Is) : isS (a :: b) = isM a + isS b := by
  unfold isS
  rw [List.map_cons, List.sum_cons]
theorem isS_app (a b : List Is) : isS (a ++ b) = isS a + isS b := by
  unfold isS
  rw [List.map_append, List.sum_append]
theorem isS_len : ∀ l : List Is, l.length ≤ isS l
  | [] => Nat.le_refl _
  | i :: l => by
    have h1 := isM_pos i
    have h2 := isS_len l
    rw [isS_cons, List.length_cons]
    omega
/-- which level each take has -/
def TkB (H : Hp) (M : Addr) (t : List Nat) : Prop := ∃ kvs, H M = some (.dK kvs) ∧ (kvs.map (·.1)).Nodup ∧ kvs.length = t.length ∧ (∀ j : Nat, valV kvs (lv j) = (t[j]?).map fun (l : Nat) => V.int (l : Int)) ∧ ∀ z, valV kvs (.inr z) = none
theorem TkB.is {H H' : Hp} (e : DS H H') {M : Addr} {t : List Nat} : TkB H M t → TkB H' M t := fun ⟨kvs, h1, h2⟩ => ⟨kvs, e.2 _ _ h1, h2⟩
theorem TkB.put {H H' : Hp} {M D : Addr} {t : List Nat} {l : Nat} (h : TkB H M t) {kvs : List (Key × V)} (hM : H M = some (.dK kvs)) (hD : H' D = some (.dK (putK kvs (lv t.length) (.int (l : Int))))) : TkB H' D (t ++ [l]) := by
  obtain ⟨kvs', h1, h2, h3, h4, h5⟩ := h
  rw [hM] at h1
  cases h1
  have hn : valV kvs (lv t.length) = none := by rw [h4, List.getElem?_eq_none (Nat.le_refl _)]; rfl
  refine ⟨_, hD, nd_put _ _ h2, ?_, fun j => ?_, fun z => ?_⟩
  · rw [putK_new _ hn, List.length_append, List.length_append, h3]; rfl
  · rw [valV_put]
    by_cases hj : j = t.length
    · subst hj
      rw [if_pos rfl, List.getElem?_append_right (Nat.le_refl _), Nat.sub_self]
      rfl
    · rw [if_neg (fun z => hj (by have z2 : (j : Int) = (t.length : Int) := Sum.inl.inj z; omega)), h4]
      rcases Nat.lt_or_ge j t.length with h | h
      · rw [List.getElem?_append_left h]
      · rw [List.getElem?_eq_none h, List.getElem?_eq_none (by rw [List.length_append]; simp only [List.length_cons, List.length_nil]; omega)]
  · rw [valV_put, if_neg (fun z => by cases z)]
    exact h5 z
theorem TkB.rfo {H : Hp} {M : Addr} {t : List Nat} {kvs : List (Key × V)} (h : TkB H M t) (hM : H M = some (.dK kvs)) : ∀ {k : Key}, OkH t.length k → (valV kvs k).getD (kV k) = kV (rfo t k)
  | .inl i, ho => by
    obtain ⟨kvs', h1, _, _, h4, _⟩ := h
    rw [hM] at h1
    cases h1
    have hj : i.toNat < t.length := by have : 0 ≤ i ∧ i < (t.length : Int) := ho; omega
    have hi : ((i.toNat : Nat) : Int) = i := Int.toNat_of_nonneg ho.1
    have h := h4 i.toNat
    have e : lv i.toNat = .inl i := by show Sum.inl _ = Sum.inl _; rw [hi]
    rw [e, List.getElem?_eq_getElem hj] at h
    rw [h]
    have er : K13.rfo t (.inl i) = lv t[i.toNat] := by
      show (match t[i.toNat]? with | some l => lv l | none => Sum.inl i) = _
      rw [List.getElem?_eq_getElem hj]
    rw [er]
    rfl
  | .inr z, _ => by
    obtain ⟨kvs', h1, _, _, _, h5⟩ := h
    rw [hM] at h1
    cases h1
    rw [h5]
    rfl
def IsW (H : Hp) : Is → V → Prop
  | .g h, v => HdV H h v ∧ h.Ok
  | .r R l t, v => ∃ a x M, v = .ref a ∧ H a = some (.tup [x, .int (l : Int), .ref M]) ∧ DV H R [x] ∧ Wf true R ∧ OkR t.length R ∧ TkB H M t ∧ t.length + nd R ≤ 1000
theorem IsW.ds {H H' : Hp} (e : DS H H') : ∀ {i : Is} {v : V}, IsW H i v → IsW H' i v
  | .g _, _, ⟨h1, h2⟩ => ⟨h1.ts e.1, h2⟩
  | .r _ _ _, _, ⟨a, x, M, h1, h2, h3, h4, h5, h6, h7⟩ => ⟨a, x, M, h1, e.1 _ _ h2, h3.ts e.1, h4, h5, h6.is e, h7⟩
def acI : Ac → Key → Nat → List Nat → List Is
  | .pk d, r, _, _ => [.g ⟨.pick, some r, [.s d]⟩]
  | .op n i, r, _, _ => [.g ⟨.open_, some r, [.s n, .i i]⟩]
  | .py m p, r, l, t => [.g ⟨.pay, some r, [mF m]⟩, .r p l t]
def spI : List Ac → Nat → List Nat → Key → List Is
  | [], _, _, r => [.g ⟨.own, some r, []⟩]
  | c :: cs, l, t, r => acI c r l t ++ spI cs (l + 1) t (lv l)
theorem spI_D : ∀ {s : Rd} (_ : Wf false s) (l : Nat) (t : List Nat) (r : Key), (spI (acs s) l t r).flatMap isD = hds (stl s l t r)
  | .nil, _, _, _, _ => rfl
  | .pk d s, w, l, t, r => by
    show (acI (.pk d) r l t ++ spI (acs s) (l + 1) t (lv l)).flatMap isD = _ :: hds (stl s (l + 1) t (lv l))
    rw [List.flatMap_append, spI_D (s := s) w]; rfl
  | .op n i s, w, l, t, r => by
    show (acI (.op n i) r l t ++ spI (acs s) (l + 1) t (lv l)).flatMap isD = _ :: hds (stl s (l + 1) t (lv l))
    rw [List.flatMap_append, spI_D (s := s) w]; rfl
  | .py m p s, w, l, t, r => by
    show (acI (.py m p) r l t ++ spI (acs s) (l + 1) t (lv l)).flatMap isD = _ :: (hds (stl p l t r) ++ hds (stl s (l + 1) t (lv l)))
    rw [List.flatMap_append, spI_D (s := s) w.2, stl_r w.1 l t r (lv 0)]
    simp [acI, isD]
theorem spI_M : ∀ {s : Rd} (_ : Wf false s) (l : Nat) (t : List Nat) (r : Key), isS (spI (acs s) l t r) ≤ ms s
  | .nil, _, _, _, _ => Nat.le_refl _
  | .pk d s, w, l, t, r => by
    have := spI_M (s := s) w (l + 1) t (lv l)
    show isS (acI (.pk d) r l t ++ spI (acs s) (l + 1) t (lv l)) ≤ ms s + 3
    rw [isS_app]
    show 1 + 0 + _ ≤ _
    omega
  | .op n i s, w, l, t, r => by
    have := spI_M (s := s) w (l + 1) t (lv l)
    show isS (acI (.op n i) r l t ++ spI (acs s) (l + 1) t (lv l)) ≤ ms s + 3
    rw [isS_app]
    show 1 + 0 + _ ≤ _
    omega
  | .py m p s, w, l, t, r => by
    have := spI_M (s := s) w.2 (l + 1) t (lv l)
    show isS (acI (.py m p) r l t ++ spI (acs s) (l + 1) t (lv l)) ≤ ms p + ms s + 3
    rw [isS_app]
    show 1 + (ms p + 0) + _ ≤ _
    omega
theorem acs_wf : ∀ {s : Rd}, Wf false s → ∀ n, OkR n s → ∀ m p, Ac.py m p ∈ acs s → Wf true p ∧ OkR n p ∧ nd p ≤ nd s
  | .nil, _, _, _, _, _, h => absurd h List.not_mem_nil
  | .pk d s, w, n, o, m, p, h => by
    rcases List.mem_cons.mp h with h | h
    · cases h
    · have := acs_wf (s := s) w n o m p h
      exact ⟨this.1, this.2.1, Nat.le_succ_of_le this.2.2⟩
  | .op _ _ s, w, n, o, m, p, h => by
    rcases List.mem_cons.mp h with h | h
    · cases h
    · have := acs_wf (s := s) w n o m p h
      exact ⟨this.1, this.2.1, Nat.le_succ_of_le this.2.2⟩
  | .py _ q s, w, n, o, m, p, h => by
    rcases List.mem_cons.mp h with h | h
    · cases h
      refine ⟨w.1, o.1, ?_⟩
      show nd q ≤ nd q + nd s + 1
      omega
    · have := acs_wf (s := s) w.2 n o.2 m p h
      refine ⟨this.1, this.2.1, ?_⟩
      have := this.2.2
      show _ ≤ nd q + nd s + 1
      omega
theorem hdsok : ∀ {t : Tr}, t.Ok → ∀ h ∈ hds t, h.Ok
  | .le h, o, x, hx => by rw [List.mem_singleton.mp hx]; exact o.1
  | .un h a, o, x, hx => by
    rcases List.mem_cons.mp hx with rfl | hx
    · exact o.1
    · exact hdsok o.2.2 x hx
  | .bi h a b, o, x, hx => by
    rcases List.mem_cons.mp hx with rfl | hx
    · exact o.1
    · rcases List.mem_append.mp hx with hx | hx
      · exact hdsok o.2.2.1 x hx
      · exact hdsok o.2.2.2 x hx
theorem al_hds {H : Hp} : ∀ {l : List Hd} {v : List V}, Al (HdV H) l v → HdsV H l v
  | [], _, h => h
  | _ :: _, _, ⟨v, us, h1, h2, h3⟩ => ⟨v, us, h1, h2, al_hds h3⟩
section
variable {P : Program} {w : World} {K : PySem.W.Frag} {mg : Str → Option Value} {base : Heap} {CN : Addr}
def spSh : Sp := fun vs H Q _ => ∃ x, ∃ l : Nat, ∃ M h s, ∃ t : List Nat, vs = [x, .int (l : Int), .ref M] ∧ DV H (.hd h s) [x] ∧ Wf false s ∧ OkH t.length h ∧ OkR t.length s ∧ TkB H M t ∧ t.length + nd s ≤ 1000 ∧ ∀ ls us H', Same H H' → H ls = none → H' ls = some (.lst us) → Al (IsW H') (spI (acs s) l t (rfo t h)) us → us.length ≤ 40000 → Q (.ref ls) H'
def PvS (H H1 : Hp) (a b ra M : Addr) (l : Nat) (t : List Nat) (h : Key) (s0 : Rd) (j : Nat) (σ : L2.St) (H' : Hp) : Prop := ∃ (us : List V) (em : List Is) (ρ : Key) (o8 : Option V), σ = [some (.ref a), some (.int ((l + j : Nat) : Int)), some (.ref M), some (.str "head"), some (kV h), some (.ref b), some (kV ρ), some (.ref ra), o8] ∧ H' ra = some (.lst us) ∧ Al (IsW H') em us ∧ em ++ spI ((acs s0).drop j) (l + j) t ρ = spI (acs s0) l t (rfo t h) ∧ us.length ≤ 2 * j ∧ DS H1 H' ∧ ∀ c o, H c = some o → H' c = some o
theorem ok_sh (T : Top K mg "settled_head" s_settled_head) : Fn P w K mg base 1 "settled_head" spSh := by
  refine fn_ok T sc_settled_head so_settled_head (fun vs H Q E h => by obtain ⟨x, l, M, h, s0, t, rfl, _⟩ := h; rfl) (fun _ _ _ _ _ _ us hl => match us, hl with | [_, _, _], _ => rfl) fun f cdv A outer s H vs Q E hr h nd => ?_
  obtain ⟨x, l, M, h, s0, t, rfl, hx, hw, hoh, hor, htk, hnds, q⟩ := h
  have hal := al_nd s0
  obtain ⟨a, b, ys, ex, ha, hb, hys⟩ := hx
  cases ex
  have htk' := htk
  obtain ⟨kvs, hM, _⟩ := htk'
  have hacs := al_sp hw hys
  have lys := hacs.len
  rw [acs_al] at lys
  refine l_cons (s_tup3 (e_var ⟨a, _, _, _, rfl, SqT.of ha, ?_⟩))
  show wL _ _ _ [some (.ref a), some (.int (l : Int)), some (.ref M), some (.str "head"), some (kV h), some (.ref b), none, none, none] _
  refine l_cons (s_set (e_dget2 (by exact hr) (e_var ⟨M, rfl, .inl ⟨_, .inl hM⟩, e_var (e_var ⟨_, dg_K hM, ?_⟩)⟩)))
  rw [htk.rfo hM hoh]
  refine l_cons (s_set (e_lst (a_nil ⟨by show 0 ≤ sizeLine; decide, fun ra H1 e1 n1 h1 => ?_⟩)))
  have htk1 := htk.is (DS.of e1)
  refine l_cons (s_forT (e_var ⟨b, ys, rfl, SqT.of (e1 _ _ hb), PvS H H1 a b ra M l t h s0, ⟨[], [], rfo t h, none, rfl, h1, rfl, rfl, Nat.le_refl _, DS.refl, e1⟩, ?_, ?_, ?_⟩))
  · rintro k σ H' _ ⟨us, em, ρ, o8, rfl, hra, hem, heq, hl, ds, keep⟩
    exact SqT.of (ds.1 _ _ (e1 _ _ hb))
  · rintro j y σ H' hy ⟨us, em, ρ, o8, rfl, hra, hem, heq, hl, ds, keep⟩
    obtain ⟨c, hc, hcv⟩ := hacs.get hy
    have hjl := (List.getElem?_eq_some_iff.mp hc).1
    rw [acs_al] at hjl
    have hdrop : (acs s0).drop j = c :: (acs s0).drop (j + 1) := by
      rw [List.drop_eq_getElem_cons (by rw [acs_al]; exact hjl), (List.getElem?_eq_some_iff.mp hc).2]
    rw [hdrop] at heq
    have heq : em ++ (acI c ρ (l + j) t ++ spI ((acs s0).drop (j + 1)) (l + j + 1) t (lv (l + j))) = spI (acs s0) l t (rfo t h) := heq
    rw [← List.append_assoc] at heq
    have dH : TS H H' := (Same.ts e1).trans ds.1
    have hcv := hcv.ts dH
    have htk2 := htk1.is ds
    have nfr : H ra = none := n1
    -- the end of a turn
    have fin : ∀ (BK : L2.St → Hp → Prop) (H6 : Hp) (us6 : List V) (o8 : Option V), H6 ra = some (.lst us6) → Al (IsW H6) (em ++ acI c ρ (l + j) t) us6 → us6.length ≤ 2 * (j + 1) → DS H1 H6 → (∀ c o, H c = some o → H6 c = some o) → wL (cxOf CX0 P w K mg base N_settled_head (Str.ofString "settled_head") (defScope s_settled_head) f cdv A outer s H E).nox [stB ((defBody s_settled_head).getD 3 nS) 0 1, stB ((defBody s_settled_head).getD 3 nS) 0 2] { nx := PvS H H1 a b ra M l t h s0 (j + 1), rt := Q, bk := BK, ct := PvS H H1 a b ra M l t h s0 (j + 1) } [some (.ref a), some (.int ((l + j : Nat) : Int)), some (.ref M), some (.str "head"), some (kV h), some (.ref b), some (kV ρ), some (.ref ra), o8] H6 := by
      intro BK H6 us6 o8 h6 hus hl6 d6 k6
      refine l_cons (s_set (e_var ?_))
      refine l_cons (s_aug (i := 1) rfl (e_int ⟨1, rfl, l_nil ?_⟩))
      refine ⟨us6, em ++ acI c ρ (l + j) t, lv (l + j), o8, ?_, h6, hus, heq, hl6, d6, k6⟩
      show [_, some (V.int (((l + j : Nat) : Int) + 1)), _, _, _, _, _, _, _] = _
      rw [show (((l + j : Nat) : Int) + 1) = ((l + (j + 1) : Nat) : Int) by omega]
      rfl
    show wL _ _ _ [some (.ref a), some (.int ((l + j : Nat) : Int)), some (.ref M), some (.str "head"), some (kV h), some (.ref b), some (kV ρ), some (.ref ra), some y] _
    cases c with
    | pk d =>
      obtain ⟨g, rfl, hg⟩ := hcv
      refine l_cons (s_if (t_cmp (e_ix (e_var (e_int (ix_t (by exact SqT.of hg) at0 (e_str (o_eqS ⟨_, rfl, ?_⟩))))))))
      rw [decide_eq_false (by decide +kernel)]
      refine iteF (l_cons (s_expr (e_app (e_var ⟨ra, us, rfl, SqL.of hra, e_bin (e_tup (a_cons (e_ix (e_var (e_int (ix_t (by exact SqT.of hg) at0 (a_cons (e_var (a_nil ?_)))))))))⟩))))
      refine ⟨by show 2 ≤ sizeLine; decide, fun t1 H3 e3 n3 h3 => ?_⟩
      refine e_tLo (e_var (e_int ?_))
      refine ⟨g, [.str "pick"], [.str d], rfl, rfl, e3 _ _ hg, fun t2 H4 e4 h4 => ?_⟩
      refine o_catA (e4 _ _ h3) h4 (by simp only [List.length_cons, List.length_nil]; omega) fun t3 H5 e5 h5 => ?_
      have e25 := (e3.trans e4).trans e5
      have hra5 := e25 _ _ hra
      refine ⟨us, hra5, by show _ < 2 ^ 24; omega, ?_⟩
      have d6 : DS H5 (upd H5 ra (.lst (us ++ [.ref t3]))) := DS.upd hra5
      have d26 := (DS.of e25).trans d6
      refine l_nil (fin _ _ (us ++ [.ref t3]) _ upd_same ((hem.mono fun _ _ => IsW.ds d26).app ⟨_, [], rfl, ⟨⟨t3, _, rfl, d6.1 _ _ h5, [.str d], rfl, _, [], rfl, rfl, rfl⟩, rfl, rfl⟩, rfl⟩) (by rw [List.length_append]; simp only [List.length_cons, List.length_nil]; omega) (ds.trans d26) fun c o hc => ?_)
      rw [upd_ne (fun z => by subst z; rw [nfr] at hc; cases hc)]
      exact e25 _ _ (keep c o hc)
    | op n i =>
      obtain ⟨g, rfl, hg⟩ := hcv
      refine l_cons (s_if (t_cmp (e_ix (e_var (e_int (ix_t (by exact SqT.of hg) at0 (e_str (o_eqS ⟨_, rfl, ?_⟩))))))))
      rw [decide_eq_false (by decide +kernel)]
      refine iteF (l_cons (s_expr (e_app (e_var ⟨ra, us, rfl, SqL.of hra, e_bin (e_tup (a_cons (e_ix (e_var (e_int (ix_t (by exact SqT.of hg) at0 (a_cons (e_var (a_nil ?_)))))))))⟩))))
      refine ⟨by show 2 ≤ sizeLine; decide, fun t1 H3 e3 n3 h3 => ?_⟩
      refine e_tLo (e_var (e_int ?_))
      refine ⟨g, [.str "open"], [.str n, .int i], rfl, rfl, e3 _ _ hg, fun t2 H4 e4 h4 => ?_⟩
      refine o_catA (e4 _ _ h3) h4 (by simp only [List.length_cons, List.length_nil]; omega) fun t3 H5 e5 h5 => ?_
      have e25 := (e3.trans e4).trans e5
      have hra5 := e25 _ _ hra
      refine ⟨us, hra5, by show _ < 2 ^ 24; omega, ?_⟩
      have d6 : DS H5 (upd H5 ra (.lst (us ++ [.ref t3]))) := DS.upd hra5
      have d26 := (DS.of e25).trans d6
      refine l_nil (fin _ _ (us ++ [.ref t3]) _ upd_same ((hem.mono fun _ _ => IsW.ds d26).app ⟨_, [], rfl, ⟨⟨t3, _, rfl, d6.1 _ _ h5, [.str n, .int i], rfl, _, [.int i], rfl, rfl, _, [], rfl, rfl, rfl⟩, rfl, rfl⟩, rfl⟩) (by rw [List.length_append]; simp only [List.length_cons, List.length_nil]; omega) (ds.trans d26) fun c o hc => ?_)
      rw [upd_ne (fun z => by subst z; rw [nfr] at hc; cases hc)]
      exact e25 _ _ (keep c o hc)
    | py m p =>
      obtain ⟨g, mv, x, rfl, hg, hmv, hx⟩ := hcv
      have hwf := acs_wf hw _ hor m p (List.mem_of_getElem? hc)
      refine l_cons (s_if (t_cmp (e_ix (e_var (e_int (ix_t (by exact SqT.of hg) at0 (e_str (o_eqS ⟨_, rfl, ?_⟩))))))))
      rw [decide_eq_true rfl]
      refine iteT (l_cons (s_expr (e_app (e_var ⟨ra, us, rfl, SqL.of hra, e_tup (a_cons (e_str (a_cons (e_var (a_cons (e_ix (e_var (e_int (ix_t (by exact SqT.of hg) at1 (a_nil ?_))))))))))⟩))))
      refine ⟨by show 3 ≤ sizeLine; decide, fun t1 H3 e3 n3 h3 => ?_⟩
      have hra3 := e3 _ _ hra
      refine ⟨us, hra3, by show _ < 2 ^ 24; omega, ?_⟩
      have d4 : DS H3 (upd H3 ra (.lst (us ++ [.ref t1]))) := DS.upd hra3
      have d24 := (DS.of e3).trans d4
      have hra4 : upd H3 ra (.lst (us ++ [.ref t1])) ra = some (.lst (us ++ [.ref t1])) := upd_same
      have k4 : ∀ c o, H c = some o → upd H3 ra (.lst (us ++ [.ref t1])) c = some o := fun c o hc => by rw [upd_ne (fun z => by subst z; rw [nfr] at hc; cases hc)]; exact e3 _ _ (keep c o hc)
      have h34 := d4.1 _ _ h3
      generalize upd H3 ra (.lst (us ++ [.ref t1])) = H4 at d4 d24 hra4 k4 h34 ⊢
      refine l_cons (s_expr (e_app (e_var ⟨ra, _, rfl, SqL.of hra4, e_tup (a_cons (e_ix (e_var (e_int (ix_t (by exact SqT.of (d24.1 _ _ hg)) (atI_nat (j := 2) rfl) (a_cons (e_var (a_cons (e_var (a_nil ?_))))))))))⟩)))
      refine ⟨by show 3 ≤ sizeLine; decide, fun t5 H5 e5 n5 h5 => ?_⟩
      have hra5 := e5 _ _ hra4
      refine ⟨_, hra5, by rw [List.length_append]; simp only [List.length_cons, List.length_nil]; show _ < 2 ^ 24; omega, ?_⟩
      have d6 : DS H5 (upd H5 ra (.lst (us ++ [.ref t1] ++ [.ref t5]))) := DS.upd hra5
      have d46 := (DS.of e5).trans d6
      have d26 := d24.trans d46
      refine l_nil (fin _ _ (us ++ [.ref t1] ++ [.ref t5]) _ upd_same ?_ (by rw [List.length_append, List.length_append]; simp only [List.length_cons, List.length_nil]; omega) (ds.trans d26) fun c o hc => ?_)
      · have h2 : Al (IsW (upd H5 ra (.lst (us ++ [.ref t1] ++ [.ref t5])))) (acI (.py m p) ρ (l + j) t) [.ref t1, .ref t5] := ⟨_, _, rfl, ⟨⟨t1, _, rfl, d46.1 _ _ h34, [mv], rfl, _, [], rfl, hmv.ts d26.1, rfl⟩, rfl, rfl⟩, _, [], rfl, ⟨t5, x, M, rfl, d6.1 _ _ h5, hx.ts d26.1, hwf.1, hwf.2.1, htk2.is d26, by have := hwf.2.2; omega⟩, rfl⟩
        have h3 := (hem.mono fun _ _ => IsW.ds d26).app h2
        rw [show us ++ [V.ref t1, V.ref t5] = us ++ [.ref t1] ++ [.ref t5] by simp] at h3
        exact h3
      · rw [upd_ne (fun z => by subst z; rw [nfr] at hc; cases hc)]
        exact e5 _ _ (k4 c o hc)
  · rintro σ H' ⟨us, em, ρ, o8, rfl, hra, hem, heq, hl, ds, keep⟩
    rw [show ys.length = (acs s0).length by rw [acs_al]; exact lys, List.drop_length] at heq
    refine l_cons (s_expr (e_app (e_var ⟨ra, us, rfl, SqL.of hra, e_tup (a_cons (e_str (a_cons (e_var (a_nil ?_)))))⟩)))
    refine ⟨by show 2 ≤ sizeLine; decide, fun t1 H3 e3 n3 h3 => ?_⟩
    have hra3 := e3 _ _ hra
    refine ⟨us, hra3, by show _ < 2 ^ 24; omega, ?_⟩
    have d4 : DS H3 (upd H3 ra (.lst (us ++ [.ref t1]))) := DS.upd hra3
    have d24 := (DS.of e3).trans d4
    refine l_cons (s_ret (e_var (q ra (us ++ [.ref t1]) _ (fun c o hc => ?_) n1 upd_same ?_ (by rw [List.length_append]; simp only [List.length_cons, List.length_nil]; omega))))
    · rw [upd_ne (fun z => by subst z; rw [n1] at hc; cases hc)]
      exact e3 _ _ (keep c o hc)
    · rw [← heq]
      exact (hem.mono fun _ _ => IsW.ds d24).app ⟨_, [], rfl, ⟨⟨t1, _, rfl, d4.1 _ _ h3, [], rfl, rfl⟩, rfl, rfl⟩, rfl⟩
end



section
variable {P : Program} {w : World} {K : PySem.W.Frag} {mg : Str → Option Value} {base : Heap} {CN : Addr}
def spSr : Sp := fun vs H Q _ => ∃ x, ∃ l : Nat, ∃ M R, ∃ t : List Nat, vs = [x, .int (l : Int), .ref M] ∧ DV H R [x] ∧ Wf true R ∧ OkR t.length R ∧ TkB H M t ∧ t.length + nd R ≤ 1000 ∧ ∀ ls us is H', Same H H' → H ls = none → H' ls = some (.lst us) → Al (IsW H') is us → is.flatMap isD = hds (stl R l t (lv 0)) → isS is < ms R → us.length ≤ 40000 → Q (.ref ls) H'
theorem ok_sr (T : Top K mg "settled_rows" s_settled_rows) (mL : mg "len" = none) (FH : Fn P w K mg base 1 "settled_head" spSh) (FW : Fn P w K mg base 2 "with_meaning" spWm) : Fn P w K mg base 3 "settled_rows" spSr := by
  refine fn_ok T sc_settled_rows so_settled_rows (fun vs H Q E h => by obtain ⟨x, l, M, R, t, rfl, _⟩ := h; rfl) (fun _ _ _ _ _ _ us hl => match us, hl with | [_, _, _], _ => rfl) fun f cdv A outer s H vs Q E hr h nd => ?_
  obtain ⟨x, l, M, R, t, rfl, hx, hw, hor, htk, hz, q⟩ := h
  have htk' := htk
  obtain ⟨kvs, hM, hnd, hkl, _⟩ := htk'
  cases R with
  | nil => exact hw.elim
  | pk d s => exact hw.elim
  | op n i s => exact hw.elim
  | py m p s => exact hw.elim
  | hd h s0 =>
    have hx' := hx
    obtain ⟨a, b, ys, ex, ha, _⟩ := hx'
    cases ex
    refine l_cons (s_if (t_cmp (e_ix (e_var (e_int (ix_t (by exact SqT.of ha) at0 (e_str (o_eqS ⟨_, rfl, ?_⟩))))))))
    rw [decide_eq_true rfl]
    refine iteT (l_cons (s_ret (e_call (by exact FH) (by exact hr) (by decide) (a_cons (e_var (a_cons (e_var (a_cons (e_var (a_nil ?_))))))))))
    refine ⟨_, l, M, h, s0, t, rfl, hx, hw, hor.1, hor.2, htk, hz, fun ls us H' e n hl hus lus => ?_⟩
    refine q ls us _ H' e n hl hus ?_ ?_ lus
    · exact spI_D hw l t (rfo t h)
    · have := spI_M hw l t (rfo t h)
      show _ < ms s0 + 3
      omega
  | tk a =>
    obtain ⟨p, y, ex, hp, hy⟩ := hx
    cases ex
    have hz : t.length + (K13.nd a + 1) ≤ 1000 := hz
    refine l_cons (s_if (t_cmp (e_ix (e_var (e_int (ix_t (by exact SqT.of hp) at0 (e_str (o_eqS ⟨_, rfl, ?_⟩))))))))
    rw [decide_eq_false (by decide +kernel)]
    refine iteF (l_nil (l_cons (s_if (t_cmp (e_ix (e_var (e_int (ix_t (by exact SqT.of hp) at0 (e_str (o_eqS ⟨_, rfl, ?_⟩))))))))))
    rw [decide_eq_true rfl]
    refine iteT (l_cons (s_ret (e_lst (a_cons (e_tup (a_cons (e_str (a_nil ?_))))))))
    refine ⟨by show 1 ≤ sizeLine; decide, fun g H1 e1 n1 h1 => ?_⟩
    refine a_cons (e_tup (a_cons (e_ix (e_var (e_int (ix_t (by exact SqT.of (e1 _ _ hp)) at1 ?_))))))
    refine a_cons (e_bin (e_var (e_int (o_add (a_cons (e_call (by exact FW) (by exact hr) (by decide) ?_))))))
    refine a_cons (e_var (a_cons (e_callB (x := "len") (by assumption) b_len (a_cons (e_var (a_nil (c_lenD (e1 _ _ hM) (a_cons (e_var (a_nil ?_))))))))))
    refine ⟨M, lv kvs.length, kvs, .int (l : Int), rfl, e1 _ _ hM, hnd, by omega, fun D H4 e4 n4 h4 => ?_⟩
    refine a_nil ⟨by show 3 ≤ sizeLine; decide, fun u H5 e5 n5 h5 => a_nil ?_⟩
    refine ⟨by show 2 ≤ sizeLine; decide, fun ls H6 e6 n6 h6 => ?_⟩
    have e46 := e5.trans e6
    have e06 := (e1.trans e4).trans e46
    have d06 := DS.of e06
    have h5' := e6 _ _ h5
    rw [show ((l : Int) + 1) = ((l + 1 : Nat) : Int) by omega] at h5'
    rw [hkl] at h4
    have htk2 : TkB H6 D (t ++ [l]) := htk.put hM (e46 _ _ h4)
    refine q ls _ [.g ⟨.take, none, []⟩, .r a (l + 1) (t ++ [l])] H6 e06 (none_of ((e1.trans e4).trans e5) n6) h6 ⟨_, _, rfl, ⟨⟨g, _, rfl, e46 _ _ (e4 _ _ h1), [], rfl, rfl⟩, rfl, rfl⟩, _, [], rfl, ⟨u, y, D, rfl, h5', hy.ts d06.1, hw, ?_, htk2, ?_⟩, rfl⟩ ?_ ?_ ?_
    · rw [List.length_append]; exact hor
    · rw [List.length_append]; simp only [List.length_cons, List.length_nil]; omega
    · show _ :: (hds (stl a (l + 1) (t ++ [l]) (lv 0)) ++ []) = _ :: hds (stl a (l + 1) (t ++ [l]) (lv 0))
      rw [List.append_nil]
    · show 1 + (ms a + 0) < ms a + 3
      omega
    · show 2 ≤ _; omega
  | of a b =>
    obtain ⟨p, y1, y2, ex, hp, hy1, hy2⟩ := hx
    cases ex
    have hz : t.length + (K13.nd a + K13.nd b + 1) ≤ 1000 := hz
    refine l_cons (s_if (t_cmp (e_ix (e_var (e_int (ix_t (by exact SqT.of hp) at0 (e_str (o_eqS ⟨_, rfl, ?_⟩))))))))
    rw [decide_eq_false (by decide +kernel)]
    refine iteF (l_nil (l_cons (s_if (t_cmp (e_ix (e_var (e_int (ix_t (by exact SqT.of hp) at0 (e_str (o_eqS ⟨_, rfl, ?_⟩))))))))))
    rw [decide_eq_false (by decide +kernel)]
    refine iteF (l_nil (l_cons (s_if (t_cmp (e_ix (e_var (e_int (ix_t (by exact SqT.of hp) at0 (e_str (o_eqS ⟨_, rfl, ?_⟩))))))))))
    rw [decide_eq_true rfl]
    refine iteT (l_cons (s_ret (e_lst (a_cons (e_tup (a_cons (e_str (a_nil ?_))))))))
    refine ⟨by show 1 ≤ sizeLine; decide, fun g H1 e1 n1 h1 => ?_⟩
    refine a_cons (e_tup (a_cons (e_ix (e_var (e_int (ix_t (by exact SqT.of (e1 _ _ hp)) at1 (a_cons (e_var (a_cons (e_var (a_nil ?_)))))))))))
    refine ⟨by show 3 ≤ sizeLine; decide, fun u1 H2 e2 n2 h2 => ?_⟩
    refine a_cons (e_tup (a_cons (e_ix (e_var (e_int (ix_t (by exact SqT.of (e2 _ _ (e1 _ _ hp))) (atI_nat (j := 2) rfl) (a_cons (e_var (a_cons (e_var (a_nil ?_)))))))))))
    refine ⟨by show 3 ≤ sizeLine; decide, fun u2 H3 e3 n3 h3 => a_nil ?_⟩
    refine ⟨by show 3 ≤ sizeLine; decide, fun ls H4 e4 n4 h4 => ?_⟩
    have e04 := ((e1.trans e2).trans e3).trans e4
    have d := DS.of e04
    refine q ls _ [.g ⟨.offer, none, []⟩, .r a l t, .r b l t] H4 e04 (none_of ((e1.trans e2).trans e3) n4) h4 ⟨_, _, rfl, ⟨⟨g, _, rfl, e4 _ _ (e3 _ _ (e2 _ _ h1)), [], rfl, rfl⟩, rfl, rfl⟩, _, _, rfl, ⟨u1, y1, M, rfl, e4 _ _ (e3 _ _ h2), hy1.ts d.1, hw.1, hor.1, htk.is d, by omega⟩, _, [], rfl, ⟨u2, y2, M, rfl, e4 _ _ h3, hy2.ts d.1, hw.2, hor.2, htk.is d, by omega⟩, rfl⟩ ?_ ?_ ?_
    · show _ :: (hds (stl a l t (lv 0)) ++ (hds (stl b l t (lv 0)) ++ [])) = _ :: (hds (stl a l t (lv 0)) ++ hds (stl b l t (lv 0)))
      rw [List.append_nil]
    · show 1 + (ms a + (ms b + 0)) < ms a + ms b + 3
      omega
    · show 3 ≤ _; omega
  | mk n i a =>
    obtain ⟨p, y, ex, hp, hy⟩ := hx
    cases ex
    have hz : t.length + (K13.nd a + 1) ≤ 1000 := hz
    refine l_cons (s_if (t_cmp (e_ix (e_var (e_int (ix_t (by exact SqT.of hp) at0 (e_str (o_eqS ⟨_, rfl, ?_⟩))))))))
    rw [decide_eq_false (by decide +kernel)]
    refine iteF (l_nil (l_cons (s_if (t_cmp (e_ix (e_var (e_int (ix_t (by exact SqT.of hp) at0 (e_str (o_eqS ⟨_, rfl, ?_⟩))))))))))
    rw [decide_eq_false (by decide +kernel)]
    refine iteF (l_nil (l_cons (s_if (t_cmp (e_ix (e_var (e_int (ix_t (by exact SqT.of hp) at0 (e_str (o_eqS ⟨_, rfl, ?_⟩))))))))))
    rw [decide_eq_false (by decide +kernel)]
    refine iteF (l_nil (l_cons (s_ret (e_lst (a_cons (e_tHi (e_var (e_int ?_))))))))
    refine ⟨p, [.str "make", .str n, .int i], [y], rfl, rfl, hp, fun g H1 e1 h1 => ?_⟩
    refine a_cons (e_tup (a_cons (e_ix (e_var (e_int (ix_t (by exact SqT.of (e1 _ _ hp)) (atI_nat (j := 3) rfl) (a_cons (e_var (a_cons (e_var (a_nil ?_)))))))))))
    refine ⟨by show 3 ≤ sizeLine; decide, fun u1 H2 e2 n2 h2 => a_nil ?_⟩
    refine ⟨by show 2 ≤ sizeLine; decide, fun ls H4 e4 n4 h4 => ?_⟩
    have e04 := (e1.trans e2).trans e4
    have d := DS.of e04
    refine q ls _ [.g ⟨.make, none, [.s n, .i i]⟩, .r a l t] H4 e04 (none_of (e1.trans e2) n4) h4 ⟨_, _, rfl, ⟨⟨g, _, rfl, e4 _ _ (e2 _ _ h1), [.str n, .int i], rfl, _, _, rfl, rfl, _, [], rfl, rfl, rfl⟩, rfl, rfl⟩, _, [], rfl, ⟨u1, y, M, rfl, e4 _ _ h2, hy.ts d.1, hw, hor, htk.is d, by omega⟩, rfl⟩ ?_ ?_ ?_
    · show _ :: (hds (stl a l t (lv 0)) ++ []) = _ :: hds (stl a l t (lv 0))
      rw [List.append_nil]
    · show 1 + (ms a + 0) < ms a + 3
      omega
    · show 2 ≤ _; omega
end



section
variable {P : Program} {w : World} {K : PySem.W.Frag} {mg : Str → Option Value} {base : Heap} {CN : Addr}
theorem DV.tup {H : Hp} : ∀ {R : Rd} {x : V}, Wf true R → DV H R [x] → ∃ p xs, x = .ref p ∧ H p = some (.tup xs)
  | .tk _, _, _, ⟨t, y, h1, h2, _⟩ => ⟨t, _, (List.cons.inj h1).1, h2⟩
  | .mk _ _ _, _, _, ⟨t, y, h1, h2, _⟩ => ⟨t, _, (List.cons.inj h1).1, h2⟩
  | .of _ _, _, _, ⟨t, y, z, h1, h2, _⟩ => ⟨t, _, (List.cons.inj h1).1, h2⟩
  | .hd _ _, _, _, ⟨t, r, ys, h1, h2, _⟩ => ⟨t, _, (List.cons.inj h1).1, h2⟩
  | .nil, _, w, _ => w.elim
  | .pk _ _, _, w, _ => w.elim
  | .op _ _ _, _, w, _ => w.elim
  | .py _ _ _, _, w, _ => w.elim
def spSf : Sp := fun vs H Q _ => ∃ x R, vs = [x] ∧ DV H R [x] ∧ Wf true R ∧ OkR 0 R ∧ nd R ≤ 1000 ∧ ∀ v H', Same H H' → TrV H' (stl R 0 [] (lv 0)) v → Q v H'
theorem ok_sf (T : Top K mg "settled_from" s_settled_from) (mI : mg "isinstance" = none) (mS : mg "str" = none) (FR : Fn P w K mg base 3 "settled_rows" spSr) (FF : Fn P w K mg base 1 "from_heads" spFrom) : Fn P w K mg base 4 "settled_from" spSf := by
  refine fn_ok T sc_settled_from so_settled_from (fun vs H Q E h => by obtain ⟨v, R, rfl, _⟩ := h; rfl) (fun _ _ _ _ _ _ us hl => match us, hl with | [_], _ => rfl) fun f cdv A outer s H vs Q E hr h nd => ?_
  obtain ⟨v, R, rfl, hv, hw, hok, hz, q⟩ := h
  have hms : ms R + 0 ≤ 4 * K13.nd R := ms_nd hw
  have hsz := stl_size R 0 [] (lv 0)
  have hso := stl_ok R 0 [] (lv 0)
  have hhs := hds_size (stl R 0 [] (lv 0))
  refine l_cons (s_set (e_lst (a_nil ⟨by show 0 ≤ sizeLine; decide, fun fa H1 e1 n1 h1 => ?_⟩)))
  refine l_cons (s_set (e_lst (a_cons (e_tup (a_cons (e_var (a_cons (e_int (a_cons (e_dict fun D H2 e2 n2 h2 => a_nil ?_))))))))))
  refine ⟨by show 3 ≤ sizeLine; decide, fun u0 H3 e3 n3 h3 => a_nil ?_⟩
  refine ⟨by show 1 ≤ sizeLine; decide, fun wa H4 e4 n4 h4 => ?_⟩
  have e14 := (e2.trans e3).trans e4
  have e04 := e1.trans e14
  have h14 := e14 _ _ h1
  have nfw : fa ≠ wa := fun z => by rw [z] at h1; rw [none_of ((Same.trans e2 e3)) n4] at h1; cases h1
  have nf0 : H fa = none := n1
  have nw0 : H wa = none := none_of ((e1.trans e2).trans e3) n4
  refine l_cons (s_whileN (fun n σ H' => ∃ (is : List Is) (ws hs : List V) (em : List Hd) (x : Option V), σ = [some v, some (.ref fa), some (.ref wa), x] ∧ H' fa = some (.lst hs) ∧ H' wa = some (.lst ws.reverse) ∧ n = isS is ∧ Al (IsW H') is ws ∧ Al (HdV H') em hs ∧ em ++ is.flatMap isD = hds (stl R 0 [] (lv 0)) ∧ isS is ≤ ms R ∧ DS H4 H' ∧ ∀ c o, H c = some o → H' c = some o)
    (ms R) ⟨[.r R 0 []], [.ref u0], [], [], none, rfl, h14, h4, by simp [isS, isM], ⟨_, [], rfl, ⟨u0, v, D, rfl, e4 _ _ h3, hv.ts (Same.ts e04), hw, hok, ⟨[], e4 _ _ (e3 _ _ h2), List.nodup_nil, rfl, fun j => rfl, fun _ => rfl⟩, by show 0 + _ ≤ _; omega⟩, rfl⟩, rfl, by simp [isD], by simp [isS, isM], DS.refl, e04⟩ fun n σ H5 hI => ?_)
  obtain ⟨is, ws, hs, em, x, rfl, hfa, hwa, rfl, his, hem, heq, hle, ds, keep⟩ := hI
  refine t_tru (e_var ⟨_, tru_l hwa, ?_⟩)
  have lem := hem.len
  have lis := isS_len is
  have lws := his.len
  have leq := congrArg List.length heq
  rw [List.length_append] at leq
  cases is with
  | nil =>
    cases (show ws = [] from his)
    refine ite_f rfl ?_
    rw [List.flatMap_nil, List.append_nil] at heq
    subst heq
    refine l_cons (s_ret (e_call (by exact FF) (by exact hr) (by decide) (a_cons (e_var (a_nil ?_)))))
    refine ⟨fa, hs, _, stl R 0 [] (lv 0), rfl, hfa, al_hds hem, hdsok hso, ?_, ?_, by omega, fun v' H' e' hv' => q v' H' (Same.trans keep e') hv'⟩
    · have := enough_hds hso [] trivial
      rw [List.append_nil] at this
      exact this
    · have := fh_hds hso []
      rw [List.append_nil] at this
      exact this
  | cons i is =>
    obtain ⟨u, us, rfl, hi, his⟩ := his
    rw [List.reverse_cons] at hwa ⊢
    refine ite_t (by simp) ?_
    refine l_cons (s_set (e_pop (e_var ⟨wa, us.reverse, u, rfl, hwa, ?_⟩)))
    show wL _ _ _ [some v, some (.ref fa), some (.ref wa), some u] _
    have d6 : DS H5 (upd H5 wa (.lst us.reverse)) := DS.upd hwa
    have hfa6 : upd H5 wa (.lst us.reverse) fa = some (.lst hs) := by rw [upd_ne nfw]; exact hfa
    have hwa6 : upd H5 wa (.lst us.reverse) wa = some (.lst us.reverse) := upd_same
    have k6 : ∀ c o, H c = some o → upd H5 wa (.lst us.reverse) c = some o := fun c o hc => by rw [upd_ne (fun z => by subst z; rw [nw0] at hc; cases hc)]; exact keep c o hc
    have his6 := his.mono fun _ _ => IsW.ds d6
    have hi6 := hi.ds d6
    have hem6 := hem.mono fun _ _ => HdV.ts d6.1
    generalize upd H5 wa (.lst us.reverse) = H6 at d6 hfa6 hwa6 k6 his6 hi6 hem6 ⊢
    have dd6 := ds.trans d6
    rw [isS_cons] at hle lis
    simp only [List.length_cons] at lis lws
    cases i with
    | g h =>
      obtain ⟨⟨t0, xs, rfl, ht0, fs, rfl, hfs⟩, hho⟩ := hi6
      refine l_cons (s_if (t_val (e_callB (x := "isinstance") (by assumption) b_isi ?_)))
      refine a_cons (e_ix (e_var (e_int (ix_t (by exact SqT.of ht0) at0 ?_))))
      walk_at "sts"
      refine c_isi ty_str (.ty _) (kit_ty kb_str_str) ⟨_, rfl, iteT ?_⟩
      refine l_cons (s_expr (e_app (e_var ⟨fa, _, rfl, SqL.of hfa6, e_var ⟨_, hfa6, by show _ < 2 ^ 24; omega, ?_⟩⟩)))
      have d7 : DS H6 (upd H6 fa (.lst (hs ++ [.ref t0]))) := DS.upd hfa6
      refine l_nil (l_nil ⟨isS is, by rw [isS_cons]; show _ < 1 + _; omega, is, us, hs ++ [.ref t0], em ++ [h], some (.ref t0), rfl, upd_same, by rw [upd_ne (Ne.symm nfw)]; exact hwa6, rfl, his6.mono fun _ _ => IsW.ds d7, (hem6.mono fun _ _ => HdV.ts d7.1).app ⟨_, [], rfl, ⟨t0, _, rfl, d7.1 _ _ ht0, fs, rfl, hfs.ts d7.1⟩, rfl⟩, ?_, by omega, dd6.trans d7, fun c o hc => ?_⟩)
      · rw [← heq]; simp [isD]
      · rw [upd_ne (fun z => by subst z; rw [nf0] at hc; cases hc)]; exact k6 c o hc
    | r R' l t =>
      obtain ⟨a, y, M, rfl, ha, hy, hw', hok', htk, hz'⟩ := hi6
      obtain ⟨p, zs, rfl, hp⟩ := hy.tup hw'
      refine l_cons (s_if (t_val (e_callB (x := "isinstance") (by assumption) b_isi ?_)))
      refine a_cons (e_ix (e_var (e_int (ix_t (by exact SqT.of ha) at0 ?_))))
      walk_at "sts"
      refine c_isi (ty_tup hp) (.ty _) (kit_ty kb_tuple_str) ⟨_, rfl, iteF ?_⟩
      refine l_cons (s_expr (e_ext (e_var ⟨wa, _, rfl, SqL.of hwa6, e_rev (e_call (by exact FR) (by exact hr) (by decide) ?_)⟩)))
      refine a_cons (e_ix (e_var (e_int (ix_t (by exact SqT.of ha) at0 ?_))))
      refine a_cons (e_ix (e_var (e_int (ix_t (by exact SqT.of ha) at1 ?_))))
      refine a_cons (e_ix (e_var (e_int (ix_t (by exact SqT.of ha) (atI_nat (j := 2) rfl) (a_nil ?_)))))
      refine ⟨.ref p, l, M, R', t, rfl, hy, hw', hok', htk, hz', fun l7 ys js H7 e7 n7 h7 hjs hjd hjm hjl => ⟨l7, ys, rfl, SqL.of h7, fun l8 H8 e8 n8 h8 => ?_⟩⟩
      have lj := isS_len js
      have lys := hjs.len
      have hwa8 := e8 _ _ (e7 _ _ hwa6)
      refine ⟨l8, us.reverse, ys.reverse, rfl, hwa8, h8, by rw [List.length_reverse, List.length_reverse]; omega, ?_⟩
      have d9 : DS H8 (upd H8 wa (.lst (us.reverse ++ ys.reverse))) := DS.upd hwa8
      have d79 : DS H7 (upd H8 wa (.lst (us.reverse ++ ys.reverse))) := (DS.of e8).trans d9
      have d69 := (DS.of e7).trans d79
      have hle' : ms R' + isS is ≤ ms R := hle
      refine l_nil (l_nil ⟨isS (js ++ is), by rw [isS_app, isS_cons]; show _ < ms R' + _; omega, js ++ is, ys ++ us, hs, em, some (.ref a), rfl, ?_, ?_, rfl, (hjs.mono fun _ _ => IsW.ds d79).app (his6.mono fun _ _ => IsW.ds d69), hem6.mono fun _ _ => HdV.ts d69.1, ?_, by rw [isS_app]; omega, dd6.trans d69, fun c o hc => ?_⟩)
      · rw [upd_ne nfw]; exact e8 _ _ (e7 _ _ hfa6)
      · rw [List.reverse_append]; exact upd_same
      · rw [← heq, List.flatMap_append, List.flatMap_cons, hjd]
        rfl
      · rw [upd_ne (fun z => by subst z; rw [nw0] at hc; cases hc)]; exact e8 _ _ (e7 _ _ (k6 c o hc))
end



def sVs (l : List Str) : List V := l.map V.str
theorem sVs_get {l : List Str} {k : Nat} {v : V} (h : (sVs l)[k]? = some v) : ∃ z, l[k]? = some z ∧ v = .str z := by
  simp only [sVs, List.getElem?_map] at h
  cases hz : l[k]? with
  | none => rw [hz] at h; cases h
  | some z => rw [hz] at h; cases h; exact ⟨z, rfl, rfl⟩
/-- all but two stay -/
def Bu (p t : Addr) (H H' : Hp) : Prop := ∀ b o, b ≠ p → b ≠ t → H b = some o → H' b = some o
theorem PoolAt.up {H H' : Hp} {a : Addr} (e : Same H H') (h : PoolAt H a) : PoolAt H' a := let ⟨x, y, z, p⟩ := h; ⟨x, y, z, e _ _ p⟩
theorem PoolAt.ne {H : Hp} {a b : Addr} (h : PoolAt H a) (n : H b = none) : b ≠ a := fun e => by subst e; obtain ⟨_, _, _, q⟩ := h; rw [q] at n; cases n
theorem sVs_at {ns : List Str} {d : Int} (h0 : 0 ≤ d) (h1 : d < ns.length) : ∃ z, z ∈ ns ∧ atI (sVs ns) d = some (.str z) := by
  obtain ⟨j, rfl⟩ := Int.eq_ofNat_of_zero_le h0
  have hj : j < ns.length := by omega
  refine ⟨ns[j], List.getElem_mem hj, atI_nat ?_⟩
  simp [sVs, hj]
theorem Bu.of {p t : Addr} {H H' : Hp} (b : But p H H') : Bu p t H H' := fun x o n _ h => b x o n h
theorem Bu.s {p t : Addr} {H H' : Hp} (b : Same H H') : Bu p t H H' := fun x o _ _ h => b x o h
theorem Bu.trans {p t : Addr} {H H1 H2 : Hp} (a : Bu p t H H1) (b : Bu p t H1 H2) : Bu p t H H2 := fun x o n m h => b x o n m (a x o n m h)
abbrev hstems : List Str := ["h", "note", "q", "own", "left", "once", "b2", "zz", "from", "cut", "k7x", "pay"]
theorem sVs_flat (l : List Str) : (sVs l).all flatV = true := by
  rw [List.all_eq_true]
  intro v hv
  simp only [sVs, List.mem_map] at hv
  obtain ⟨z, _, rfl⟩ := hv
  rfl
theorem hst_len : ∀ z ∈ hstems, z.length ≤ 4 := by decide +kernel
theorem small_str {d : Int} (h0 : 0 ≤ d) (h1 : d < 100) : (toString d : Str).length ≤ 2 := by
  obtain ⟨j, rfl⟩ := Int.eq_ofNat_of_zero_le h0
  have hj : j < 100 := by omega
  have all : ((List.range 100).all fun j => decide ((toString ((j : Nat) : Int) : Str).length ≤ 2)) = true := by decide +kernel
  rw [List.all_eq_true] at all
  exact of_decide_eq_true (all j (List.mem_range.mpr hj))
theorem log_small {d : Int} (h0 : 0 ≤ d) (h1 : d < 100) : d.natAbs.log2 < 1920 := by
  have h : d.natAbs < 2 ^ 7 := by omega
  rcases Nat.eq_zero_or_pos d.natAbs with z | z
  · rw [z]; decide
  · have := (Nat.log2_lt (by omega)).mpr h
    omega
theorem o_addS {X : Cx} {H : Hp} {Q : VK} {x y : Str} (hz : x.length + y.length ≤ 1000) (q : Q (.str (x ++ y)) H) : wB X .Add (.str x) (.str y) H Q := b_of op_add_str ⟨x, y, rfl, rfl, by show _ ≤ 2 ^ 24; omega, q⟩
theorem app_len (x y : Str) : (x ++ y).length = x.length + y.length := by
  show ((x ++ y).cps).size = x.cps.size + y.cps.size
  exact Array.size_append ..
section
variable {P : Program} {w : World} {K : PySem.W.Frag} {mg : Str → Option Value} {base : Heap}
def spName : Sp := fun vs H Q _ => ∃ p t ts, vs = [.ref p, .ref t] ∧ PoolAt H p ∧ t ≠ p ∧ H t = some (.lst (sVs ts)) ∧ ts.length ≤ 50 ∧ ∀ z H', Bu p t H H' → PoolAt H' p → H' t = some (.lst (sVs (ts ++ [z]))) → Q (.str z) H'
theorem ok_name (T : Top K mg "_law_name" s_name) (mLen : mg "len" = none) (mStr : mg "str" = none) (mR : mg "range" = none) (F : Fn P w K mg base 1 "_law_next" spNext) : Fn P w K mg base 2 "_law_name" spName := by
  refine fn_ok T sc_name so_name (fun vs H Q E h => by obtain ⟨p, t, ts, rfl, _⟩ := h; rfl) (fun _ _ _ _ _ _ us hl => match us, hl with | [_, _], _ => rfl) fun f cdv A outer s H vs Q E hr h nd => ?_
  obtain ⟨p, t, ts, rfl, hp, htp, ht, hl, q⟩ := h
  walk_at "sts"
  refine ⟨by show 12 ≤ sizeLine; decide, fun l H1 e1 nl hl1 => ?_⟩
  have hlp := hp.ne nl
  have hlt : l ≠ t := fun e => by subst e; rw [ht] at nl; cases nl
  walk_at "sts"
  refine e_call (by exact F) (by exact hr) (by decide) ?_
  walk_at "sts"
  refine ⟨p, 12, rfl, by decide, by decide, hp.up e1, fun d H2 d0 d1 b2 p2 => ?_⟩
  obtain ⟨z0, hz0, hat0⟩ := sVs_at (ns := hstems) d0 d1
  refine ix_l (by exact SqL.of (b2 l _ hlp hl1)) hat0 ?_
  have ht2 := b2 t _ htp (e1 t _ ht)
  have hl2 := b2 l _ hlp hl1
  -- behind the test
  have fin2 : ∀ z y H', Bu p t H H' → PoolAt H' p → H' t = some (.lst (sVs ts)) → wL (cxOf CX0 P w K mg base N_name (Str.ofString "_law_name") (defScope s_name) f cdv A outer s H E).nox ((defBody s_name).drop 4) { nx := fun _ H' => Q .non H', rt := Q } [some (V.ref p), some (.ref t), some (.ref l), some (.str z), y] H' := by
    intro z y H' b' p' t'
    show wL _ (_ :: _) _ _ _
    walk_at "sts"
    refine e_app ?_
    walk_at "sts"
    refine ⟨t, _, rfl, SqL.of t', ?_⟩
    walk_at "sts"
    refine ⟨_, t', by simp only [sVs, List.length_map]; show ts.length < 2 ^ 24; omega, ?_⟩
    walk_at "sts"
    refine q z _ (fun x o n m h => ?_) ?_ ?_
    · rw [upd_ne m]
      exact b' x o n m h
    · obtain ⟨a1, a2, a3, h⟩ := p'
      exact ⟨a1, a2, a3, by rw [upd_ne htp.symm]; exact h⟩
    · rw [upd_same]
      simp [sVs]
  have fin1 : ∀ z y H', Bu p t H H' → PoolAt H' p → H' t = some (.lst (sVs ts)) → wL (cxOf CX0 P w K mg base N_name (Str.ofString "_law_name") (defScope s_name) f cdv A outer s H E).nox ((defBody s_name).drop 3) { nx := fun _ H' => Q .non H', rt := Q } [some (V.ref p), some (.ref t), some (.ref l), some (.str z), y] H' := by
    intro z y H' b' p' t'
    show wL _ (_ :: _) _ _ _
    walk_at "sts"
    refine o_in (by exact SqL.of t') rfl (sVs_flat ts) ?_
    refine ⟨_, rfl, ?_⟩
    cases inV (.str z) (sVs ts) with
    | true =>
      refine iteT ?_
      refine l_cons (s_set (e_bin (e_str ?_)))
      refine e_callTy (x := "str") (by assumption) b_str ?_
      walk_at "sts"
      refine c_lenL (by exact SqL.of t') ?_
      rw [show (sVs ts).length = ts.length by simp [sVs]]
      walk_at "sts"
      refine c_strI (log_small (by omega) (by omega)) ?_
      have h2 := small_str (d := (ts.length : Int)) (by omega) (by omega)
      refine o_addS (Nat.le_trans (Nat.add_le_add (show Str.length (Str.ofString "spare") ≤ 5 by decide +kernel) h2) (by decide)) ?_
      refine l_nil ?_
      exact fin2 _ _ H' b' p' t'
    | false =>
      refine iteF (l_nil ?_)
      exact fin2 _ _ H' b' p' t'
  walk_at "sts"
  refine s_forR (by assumption) ?_
  walk_at "sts"
  refine ⟨by decide, fun k σ H' => ∃ z y, σ = [some (V.ref p), some (.ref t), some (.ref l), some (.str z), y] ∧ But p H2 H' ∧ PoolAt H' p, ⟨z0, none, rfl, .refl, p2⟩, fun k σ H3 hk hW => ?_, fun σ H3 hW => ?_⟩
  · obtain ⟨z, y, rfl, b3, p3⟩ := hW
    have ht3 := b3 t _ htp ht2
    have hl3 := b3 l _ hlp hl2
    have b03 : Bu p t H H3 := (Bu.s e1).trans ((Bu.of b2).trans (Bu.of b3))
    walk_at "sts"
    refine o_nin (by exact SqL.of ht3) rfl (sVs_flat ts) ?_
    refine ⟨_, rfl, ?_⟩
    cases inV (.str z) (sVs ts) with
    | false =>
      refine ite_t rfl (l_cons (s_brk ?_))
      exact fin1 _ _ H3 b03 p3 ht3
    | true =>
      refine ite_f rfl (l_nil ?_)
      refine l_cons (s_set (e_bin ?_))
      walk_at "sts"
      refine e_call (by exact F) (by exact hr) (by decide) ?_
      walk_at "sts"
      refine ⟨p, 12, rfl, by decide, by decide, p3, fun d4 H4 f0 f1 b4 p4 => ?_⟩
      obtain ⟨z4, hz4, hat4⟩ := sVs_at (ns := hstems) f0 f1
      refine ix_l (by exact SqL.of (b4 l _ hlp hl3)) hat4 ?_
      refine e_callTy (x := "str") (by assumption) b_str ?_
      walk_at "sts"
      refine e_call (by exact F) (by exact hr) (by decide) ?_
      walk_at "sts"
      refine ⟨p, 100, rfl, by decide, by decide, p4, fun d5 H5 g0 g1 b5 p5 => ?_⟩
      refine a_nil ?_
      refine c_strI (log_small g0 g1) ?_
      have h2 := small_str g0 g1
      have h3 := hst_len z4 hz4
      refine o_addS (by omega) ?_
      refine l_nil ⟨_, _, rfl, (b3.trans b4).trans b5, p5⟩
  · obtain ⟨z, y, rfl, b3, p3⟩ := hW
    exact fin1 _ _ H3 ((Bu.s e1).trans ((Bu.of b2).trans (Bu.of b3))) p3 (b3 t _ htp ht2)
end



/-! ### drawn readings -/
def MdOk : Option (Int × Int) → Prop
  | none => True
  | some (a, b) => 1 ≤ a ∧ a ≤ 9 ∧ 0 ≤ b ∧ b ≤ 50
def OkN (ns : List Str) (k : Nat) : Key → Prop
  | .inl i => 0 ≤ i ∧ i < (k : Int)
  | .inr z => z ∈ ns
def Gd (ns : List Str) : Bool → Nat → Nat → Rd → Prop
  | true, k, d, .tk a => ∃ d', d = d' + 1 ∧ Gd ns true (k + 1) d' a
  | true, k, d, .mk _ _ a => ∃ d', d = d' + 1 ∧ Gd ns true k d' a
  | true, k, d, .of a b => ∃ d', d = d' + 1 ∧ Gd ns true k d' a ∧ Gd ns true k d' b
  | true, k, d, .hd h s => OkN ns k h ∧ al s ≤ 4 ∧ Gd ns false k d s
  | false, _, _, .nil => True
  | false, k, d, .pk z s => (z = Str.ofString "left" ∨ z = Str.ofString "right") ∧ Gd ns false k d s
  | false, k, d, .op _ _ s => Gd ns false k d s
  | false, k, d, .py m p s => MdOk m ∧ (∃ d', d = d' + 1 ∧ Gd ns true k d' p) ∧ Gd ns false k d s
  | _, _, _, _ => False
theorem Gd.wf {ns : List Str} : ∀ {b : Bool} {R : Rd} {k d : Nat}, Gd ns b k d R → Wf b R
  | true, .tk a, _, _, ⟨_, _, h⟩ => Gd.wf (R := a) h
  | true, .mk _ _ a, _, _, ⟨_, _, h⟩ => Gd.wf (R := a) h
  | true, .of a b, _, _, ⟨_, _, h, h'⟩ => ⟨Gd.wf (R := a) h, Gd.wf (R := b) h'⟩
  | true, .hd _ s, _, _, ⟨_, _, h⟩ => Gd.wf (R := s) h
  | false, .nil, _, _, _ => trivial
  | false, .pk _ s, _, _, ⟨_, h⟩ => Gd.wf (R := s) h
  | false, .op _ _ s, _, _, h => Gd.wf (R := s) h
  | false, .py _ p s, _, _, ⟨_, ⟨_, _, h⟩, h'⟩ => ⟨Gd.wf (R := p) h, Gd.wf (R := s) h'⟩
theorem Gd.ok {ns : List Str} : ∀ {b : Bool} {R : Rd} {k d : Nat}, Gd ns b k d R → OkR k R
  | true, .tk a, _, _, ⟨_, _, h⟩ => Gd.ok (R := a) h
  | true, .mk _ _ a, _, _, ⟨_, _, h⟩ => Gd.ok (R := a) h
  | true, .of a b, _, _, ⟨_, _, h, h'⟩ => ⟨Gd.ok (R := a) h, Gd.ok (R := b) h'⟩
  | true, .hd (.inl _) s, _, _, ⟨h1, _, h⟩ => ⟨h1, Gd.ok (R := s) h⟩
  | true, .hd (.inr _) s, _, _, ⟨_, _, h⟩ => ⟨trivial, Gd.ok (R := s) h⟩
  | false, .nil, _, _, _ => trivial
  | false, .pk _ s, _, _, ⟨_, h⟩ => Gd.ok (R := s) h
  | false, .op _ _ s, _, _, h => Gd.ok (R := s) h
  | false, .py _ p s, _, _, ⟨_, ⟨_, _, h⟩, h'⟩ => ⟨Gd.ok (R := p) h, Gd.ok (R := s) h'⟩
def GdA (ns : List Str) (k d : Nat) : Ac → Prop
  | .pk z => z = Str.ofString "left" ∨ z = Str.ofString "right"
  | .op _ _ => True
  | .py m p => MdOk m ∧ ∃ d', d = d' + 1 ∧ Gd ns true k d' p
def ndA : Ac → Nat
  | .py _ p => 1 + nd p
  | _ => 1
theorem gd_sp {ns : List Str} {k d : Nat} : ∀ {l : List Ac}, (∀ c ∈ l, GdA ns k d c) → Gd ns false k d (sp l)
  | [], _ => trivial
  | .pk z :: l, h => ⟨h (.pk z) (List.mem_cons_self ..), gd_sp fun c hc => h c (List.mem_cons_of_mem _ hc)⟩
  | .op n i :: l, h => show Gd ns false k d (sp l) from gd_sp fun c hc => h c (List.mem_cons_of_mem _ hc)
  | .py m p :: l, h => ⟨(h (.py m p) (List.mem_cons_self ..)).1, (h (.py m p) (List.mem_cons_self ..)).2, gd_sp fun c hc => h c (List.mem_cons_of_mem _ hc)⟩
theorem al_of_sp : ∀ l : List Ac, al (sp l) = l.length
  | [] => rfl
  | .pk z :: l => by show al (sp l) + 1 = _; rw [al_of_sp l]; rfl
  | .op n i :: l => by show al (sp l) + 1 = _; rw [al_of_sp l]; rfl
  | .py m p :: l => by show al (sp l) + 1 = _; rw [al_of_sp l]; rfl
theorem nd_sp : ∀ l : List Ac, nd (sp l) = (l.map ndA).sum + 1
  | [] => rfl
  | .pk z :: l => by show nd (sp l) + 1 = 1 + (l.map ndA).sum + 1; rw [nd_sp l]; omega
  | .op n i :: l => by show nd (sp l) + 1 = 1 + (l.map ndA).sum + 1; rw [nd_sp l]; omega
  | .py m p :: l => by show nd p + nd (sp l) + 1 = (1 + nd p) + (l.map ndA).sum + 1; rw [nd_sp l]; omega
/-- while a reading is drawn -/
structure DrS (H H' : Hp) (p room nm : Addr) (ns : List Str) (b o : Int) : Prop where
  pool : PoolAt H' p
  rm : H' room = some (.lst [.int b, .int o])
  nml : H' nm = some (.lst (sVs ns))
  bu : Bu p room H H'
  rp : room ≠ p
  np : nm ≠ p
  nr : nm ≠ room
section
variable {H H' H'' : Hp} {p room nm : Addr} {ns : List Str} {b o : Int}
theorem DrS.same (h : DrS H H' p room nm ns b o) (e : Same H' H'') : DrS H H'' p room nm ns b o := ⟨h.pool.up e, e _ _ h.rm, e _ _ h.nml, h.bu.trans (Bu.s e), h.rp, h.np, h.nr⟩
theorem DrS.next (h : DrS H H' p room nm ns b o) (e : But p H' H'') (k : PoolAt H'' p) : DrS H H'' p room nm ns b o := ⟨k, e _ _ h.rp h.rm, e _ _ h.np h.nml, h.bu.trans (Bu.of e), h.rp, h.np, h.nr⟩
theorem DrS.name {t : Addr} (h : DrS H H' p room nm ns b o) (nt : H t = none) (nt' : t ≠ room) (nt2 : t ≠ nm) (e : Bu p t H' H'') (k : PoolAt H'' p) : DrS H H'' p room nm ns b o :=
  ⟨k, e _ _ h.rp (Ne.symm nt') h.rm, e _ _ h.np (Ne.symm nt2) h.nml, fun x u n m hx => e _ _ n (fun z => by subst z; rw [nt] at hx; cases hx) (h.bu x u n m hx), h.rp, h.np, h.nr⟩
theorem DrS.put (h : DrS H H' p room nm ns b o) (b' o' : Int) : DrS H (upd H' room (.lst [.int b', .int o'])) p room nm ns b' o' :=
  ⟨by obtain ⟨x, y, z, e⟩ := h.pool; exact ⟨x, y, z, by rw [upd_ne (Ne.symm h.rp)]; exact e⟩, upd_same, by rw [upd_ne h.nr]; exact h.nml, fun x u n m hx => by rw [upd_ne m]; exact h.bu x u n m hx, h.rp, h.np, h.nr⟩
theorem DrS.sub {b' o' : Int} (h : DrS H H' p room nm ns b o) (k : DrS H' H'' p room nm ns b' o') : DrS H H'' p room nm ns b' o' := ⟨k.pool, k.rm, k.nml, h.bu.trans k.bu, h.rp, h.np, h.nr⟩
theorem DrS.ts (h : DrS H H' p room nm ns b o) {b0 o0 : Int} (k : DrS H H p room nm ns b0 o0) : TS H H' := fun t xs ht => h.bu t _ (fun z => by subst z; obtain ⟨_, _, _, q⟩ := k.pool; rw [q] at ht; cases ht) (fun z => by subst z; rw [k.rm] at ht; cases ht) ht
end
def Qb (b : Int) : Int := if b ≤ 0 then 0 else b
section
variable {P : Program} {w : World} {K : PySem.W.Frag} {mg : Str → Option Value} {base : Heap} {CN : Addr}
def spDr (n : Nat) : Sp := fun vs H Q _ => ∃ p nm room, ∃ tk : Nat, ∃ tm b o : Int, ∃ ns, vs = [.ref p, .ref nm, .ref room, .int (n : Int), .int (tk : Int), .int tm] ∧ DrS H H p room nm ns b o ∧ 0 < ns.length ∧ ns.length ≤ 50 ∧ tk + n ≤ 1000 ∧ 1 ≤ tm ∧ tm ≤ 9 ∧
  ∀ x R b' o' H', DrS H H' p room nm ns b' o' → DV H' R [x] → Gd ns true tk n R → (nd R : Int) ≤ (if b ≤ 0 then 5 else 0) + 6 * (Qb b - Qb b') + 6 * (o - o') → b' ≤ b → (o' ≤ o ∧ (0 ≤ o → 0 ≤ o')) → Q x H'
def spAc (n : Nat) : Sp := fun vs H Q _ => ∃ p nm room, ∃ tk : Nat, ∃ tm b o : Int, ∃ ns, vs = [.ref p, .ref nm, .ref room, .int (n : Int), .int (tk : Int), .int tm] ∧ DrS H H p room nm ns b o ∧ 0 < ns.length ∧ ns.length ≤ 50 ∧ tk + n ≤ 1000 ∧ 1 ≤ tm ∧ tm ≤ 9 ∧
  ∀ x c b' o' H', DrS H H' p room nm ns b' o' → AcD H' c x → GdA ns tk n c → (ndA c : Int) ≤ 1 + 6 * (Qb b - Qb b') + 6 * (o - o') → b' ≤ b → (o' ≤ o ∧ (0 ≤ o → 0 ≤ o')) → Q x H'
theorem ok_acS (n : Nat) (T : Top K mg "_law_action" s_action) (FN : Fn P w K mg base 1 "_law_next" spNext) (FM : Fn P w K mg base 2 "_law_name" spName) (F : ∀ m, n = m + 1 → Fn P w K mg base (2 * m + 4) "_law_drawn" (spDr m)) : Fn P w K mg base (2 * n + 3) "_law_action" (spAc n) := by
  refine fn_ok T sc_action so_action (fun vs H Q E h => by obtain ⟨p, nm, room, tk, tm, b, o, ns, rfl, _⟩ := h; rfl) (fun _ _ _ _ _ _ us hl => match us, hl with | [_, _, _, _, _, _], _ => rfl) fun f cdv A outer s H vs Q E hr h nd => ?_
  obtain ⟨p, nm, room, tk, tm, b, o, ns, rfl, h0, hn1, hn2, htk, ht1, ht2, q⟩ := h
  refine l_cons (s_set (e_call (by exact FN) (by exact hr) (by omega) (a_cons (e_var (a_cons (e_int (a_nil ?_)))))))
  refine ⟨p, 4, rfl, by decide, by decide, h0.pool, fun d H1 d0 d1 b1 p1 => ?_⟩
  have h1 := h0.next b1 p1
  show wL _ _ _ [some (.ref p), some (.ref nm), some (.ref room), some (.int (n : Int)), some (.int (tk : Int)), some (.int tm), some (.int d), none] _
  refine l_cons (s_if (t_cmp (e_var (e_int (o_eqI ⟨_, rfl, ?_⟩)))))
  have opn : ∀ (NX BK CT : L2.St → Hp → Prop), wL (cxOf CX0 P w K mg base N_action (Str.ofString "_law_action") (defScope s_action) f cdv A outer s H E).nox [stB ((defBody s_action).getD 2 nS) 0 0] { nx := NX, rt := Q, bk := BK, ct := CT } [some (.ref p), some (.ref nm), some (.ref room), some (.int (n : Int)), some (.int (tk : Int)), some (.int tm), some (.int d), none] H1 := by
    intro NX BK CT
    refine l_cons (s_ret (e_tup (a_cons (e_str (a_cons (e_call (by exact FM) (by exact hr) (by omega) (a_cons (e_var (a_cons (e_lst (a_nil ?_)))))))))))
    refine ⟨by show 0 ≤ sizeLine; decide, fun t2 H2 e2 n2 hl2 => a_nil ?_⟩
    have h2 := h1.same e2
    have nt0 : H t2 = none := by
      cases hx : H t2 with
      | none => rfl
      | some u => 
        exfalso
        have := h1.bu t2 u (fun z => by subst z; obtain ⟨_, _, _, q⟩ := h1.pool; rw [q] at n2; cases n2) (fun z => by subst z; rw [h1.rm] at n2; cases n2) hx
        rw [this] at n2; cases n2
    refine ⟨p, t2, [], rfl, h2.pool, (fun z => by subst z; obtain ⟨_, _, _, q⟩ := h1.pool; rw [q] at n2; cases n2), hl2, by decide, fun z H3 b3 p3 h3 => ?_⟩
    have h3' := h2.name nt0 (fun z => by subst z; rw [h1.rm] at n2; cases n2) (fun z => by subst z; rw [h1.nml] at n2; cases n2) b3 p3
    refine a_cons (e_call (by exact FN) (by exact hr) (by omega) (a_cons (e_var (a_cons (e_int (a_nil ?_))))))
    refine ⟨p, 3, rfl, by decide, by decide, h3'.pool, fun i H4 i0 i1 b4 p4 => a_nil ?_⟩
    have h4 := h3'.next b4 p4
    refine ⟨by show 3 ≤ sizeLine; decide, fun t5 H5 e5 n5 h5 => ?_⟩
    refine q _ (.op z i) b o H5 (h4.same e5) ⟨t5, rfl, h5⟩ trivial ?_ (Int.le_refl _) ⟨Int.le_refl _, id⟩
    show ((1 : Nat) : Int) ≤ _
    omega
  by_cases hd0 : d = 0
  · rw [decide_eq_true hd0]
    refine iteT (l_cons (s_ret (e_tup (a_cons (e_str (a_cons (e_ix (e_lst (a_cons (e_str (a_cons (e_str (a_nil ?_)))))))))))))
    refine ⟨by show 2 ≤ sizeLine; decide, fun t2 H2 e2 n2 hl2 => ?_⟩
    have h2 := h1.same e2
    refine e_call (by exact FN) (by exact hr) (by omega) (a_cons (e_var (a_cons (e_int (a_nil ?_)))))
    refine ⟨p, 2, rfl, by decide, by decide, h2.pool, fun i H3 i0 i1 b3 p3 => ?_⟩
    have h3 := h2.next b3 p3
    have hl3 := b3 t2 _ (fun z => by subst z; obtain ⟨_, _, _, q⟩ := h1.pool; rw [q] at n2; cases n2) hl2
    have hi : i = 0 ∨ i = 1 := by omega
    rcases hi with rfl | rfl
    · refine ix_l (by exact SqL.of hl3) at0 (a_nil ?_)
      refine ⟨by show 2 ≤ sizeLine; decide, fun t4 H4 e4 n4 h4 => ?_⟩
      exact q _ (.pk _) b o H4 (h3.same e4) ⟨t4, rfl, h4⟩ (.inl rfl) (by show ((1 : Nat) : Int) ≤ _; omega) (Int.le_refl _) ⟨Int.le_refl _, id⟩
    · refine ix_l (by exact SqL.of hl3) at1 (a_nil ?_)
      refine ⟨by show 2 ≤ sizeLine; decide, fun t4 H4 e4 n4 h4 => ?_⟩
      exact q _ (.pk _) b o H4 (h3.same e4) ⟨t4, rfl, h4⟩ (.inr rfl) (by show ((1 : Nat) : Int) ≤ _; omega) (Int.le_refl _) ⟨Int.le_refl _, id⟩
  rw [decide_eq_false hd0]
  refine iteF (l_nil (l_cons (s_if (t_w (w_or (t_cmp (e_var (e_int (o_eqI ⟨_, rfl, ?_⟩)))))))))
  by_cases hd1 : d = 1
  · rw [decide_eq_true hd1]
    exact iteT (iteT (opn _ _ _))
  rw [decide_eq_false hd1]
  refine iteF (w_or (t_cmp (e_var (e_int (o_le ⟨_, rfl, ?_⟩)))))
  by_cases hdp : (n : Int) ≤ 0
  · rw [decide_eq_true hdp]
    exact iteT (iteT (opn _ _ _))
  rw [decide_eq_false hdp]
  refine iteF (w_or1 (t_cmp (e_ix (e_var (e_int (ix_l (by exact SqL.of h1.rm) at0 (e_int (o_le ⟨_, rfl, ?_⟩))))))))
  by_cases hb : b ≤ 0
  · rw [decide_eq_true hb]
    exact iteT (opn _ _ _)
  rw [decide_eq_false hb]
  obtain ⟨m, rfl⟩ : ∃ m, n = m + 1 := ⟨n - 1, by omega⟩
  -- what is paid
  have pay : ∀ (mv : V) (mo : Option (Int × Int)) (tm2 : Int) (H2 : Hp), DrS H H2 p room nm ns b o → FdV H2 (mF mo) mv → MdOk mo → 1 ≤ tm2 → tm2 ≤ 9 → ∀ (NX BK CT : L2.St → Hp → Prop), wL (cxOf CX0 P w K mg base N_action (Str.ofString "_law_action") (defScope s_action) f cdv A outer s H E).nox ((defBody s_action).drop 5) { nx := NX, rt := Q, bk := BK, ct := CT } [some (.ref p), some (.ref nm), some (.ref room), some (.int ((m + 1 : Nat) : Int)), some (.int (tk : Int)), some (.int tm2), some (.int d), some mv] H2 := by
    intro mv mo tm2 H2 h2 hmv hmo g1 g2 NX BK CT
    refine l_cons (s_ret (e_tup (a_cons (e_str (a_cons (e_var (a_cons (e_call (by exact F m rfl) (by exact hr) (by omega) ?_))))))))
    refine a_cons (e_var (a_cons (e_var (a_cons (e_var (a_cons (e_bin (e_var (e_int (o_sub (a_cons (e_var (a_cons (e_var (a_nil ?_)))))))))))))))
    have h22 : DrS H2 H2 p room nm ns b o := ⟨h2.pool, h2.rm, h2.nml, fun _ _ _ _ h => h, h2.rp, h2.np, h2.nr⟩
    refine ⟨p, nm, room, tk, tm2, b, o, ns, by rw [show (((m + 1 : Nat) : Int) - 1) = (m : Int) by omega], h22, hn1, hn2, by omega, g1, g2, fun x R b' o' H3 h3 hR hG hN hb' ho' => a_nil ?_⟩
    refine ⟨by show 3 ≤ sizeLine; decide, fun t4 H4 e4 n4 h4 => ?_⟩
    have h3' := h2.sub h3
    have ts23 := h3.ts h22
    refine q _ (.py mo R) b' o' H4 (h3'.same e4) ⟨t4, mv, x, rfl, h4, (hmv.ts ts23).ts (Same.ts e4), hR.ts (Same.ts e4)⟩ ⟨hmo, m, rfl, hG⟩ ?_ hb' ho'
    rw [if_neg hb] at hN
    show ((1 + K13.nd R : Nat) : Int) ≤ _
    omega
  refine iteF (l_nil (l_cons (s_set (e_str ?_))))
  refine l_cons (s_if (t_cmp (e_var (e_int (o_eqI ⟨_, rfl, ?_⟩)))))
  by_cases hd2 : d = 2
  · rw [decide_eq_true hd2]
    refine iteT (l_cons (s_set (e_tup (a_cons (e_bin (e_int (e_call (by exact FN) (by exact hr) (by omega) (a_cons (e_var (a_cons (e_bin (e_int (e_var (o_fdiv ?_ (a_nil ?_)))))))))))))))
    · exact ⟨by omega, by omega⟩
    have hq1 : 1 ≤ 9 / tm := by
      have : tm = 1 ∨ tm = 2 ∨ tm = 3 ∨ tm = 4 ∨ tm = 5 ∨ tm = 6 ∨ tm = 7 ∨ tm = 8 ∨ tm = 9 := by omega
      rcases this with rfl | rfl | rfl | rfl | rfl | rfl | rfl | rfl | rfl <;> decide
    have hq2 : 9 / tm ≤ 9 := by
      have : tm = 1 ∨ tm = 2 ∨ tm = 3 ∨ tm = 4 ∨ tm = 5 ∨ tm = 6 ∨ tm = 7 ∨ tm = 8 ∨ tm = 9 := by omega
      rcases this with rfl | rfl | rfl | rfl | rfl | rfl | rfl | rfl | rfl <;> decide
    refine ⟨p, 9 / tm, rfl, by omega, by omega, h1.pool, fun i H2 i0 i1 b2 p2 => o_add (a_cons ?_)⟩
    have h2 := h1.next b2 p2
    refine e_call (by exact FN) (by exact hr) (by omega) (a_cons (e_var (a_cons (e_int (a_nil ?_)))))
    refine ⟨p, 51, rfl, by decide, by decide, h2.pool, fun j H3 j0 j1 b3 p3 => a_nil ?_⟩
    have h3 := h2.next b3 p3
    refine ⟨by show 2 ≤ sizeLine; decide, fun t4 H4 e4 n4 h4 => ?_⟩
    have hmul : tm * (1 + i) ≤ 9 := by
      have : tm = 1 ∨ tm = 2 ∨ tm = 3 ∨ tm = 4 ∨ tm = 5 ∨ tm = 6 ∨ tm = 7 ∨ tm = 8 ∨ tm = 9 := by omega
      rcases this with rfl | rfl | rfl | rfl | rfl | rfl | rfl | rfl | rfl <;> omega
    have hmul2 : 1 ≤ tm * (1 + i) := by
      have : 0 < tm * (1 + i) := Int.mul_pos (by omega) (by omega)
      omega
    refine l_cons (s_set (e_bin (e_var (e_ix (e_var (e_int (ix_t (by exact SqT.of h4) at0 (o_mul ?_ ?_))))))))
    · exact .inl ⟨by omega, by omega⟩
    exact l_nil (pay (.ref t4) (some (1 + i, j)) _ H4 (h3.same e4) ⟨t4, rfl, h4⟩ ⟨by omega, by omega, by omega, by omega⟩ hmul2 hmul _ _ _)
  · rw [decide_eq_false hd2]
    exact iteF (l_nil (pay (.str "once") none tm H1 h1 rfl trivial ht1 ht2 _ _ _))
end



theorem Qb_pos {b : Int} (h : 0 < b) : Qb b = b := by unfold Qb; rw [if_neg (by omega)]
theorem Qb_neg {b : Int} (h : b ≤ 0) : Qb b = 0 := by unfold Qb; rw [if_pos h]
theorem Qb_mono {b c : Int} (h : b ≤ c) : Qb b ≤ Qb c := by unfold Qb; split <;> split <;> omega
section
variable {P : Program} {w : World} {K : PySem.W.Frag} {mg : Str → Option Value} {base : Heap} {CN : Addr}
theorem DrS.own {H H' : Hp} {p room nm : Addr} {ns : List Str} {b o : Int} (h : DrS H H' p room nm ns b o) : DrS H' H' p room nm ns b o := ⟨h.pool, h.rm, h.nml, fun _ _ _ _ h => h, h.rp, h.np, h.nr⟩
theorem DrS.none {H H' : Hp} {p room nm t : Addr} {ns : List Str} {b o : Int} (h : DrS H H' p room nm ns b o) (n2 : H' t = none) : H t = none := by
  cases hx : H t with
  | none => rfl
  | some u =>
    exfalso
    have := h.bu t u (fun z => by subst z; obtain ⟨_, _, _, q⟩ := h.pool; rw [q] at n2; cases n2) (fun z => by subst z; rw [h.rm] at n2; cases n2) hx
    rw [this] at n2; cases n2
theorem Qb_step {b : Int} (h : 0 < b) : Qb (b - 1) = Qb b - 1 := by
  rw [Qb_pos h]
  by_cases h1 : 0 < b - 1
  · rw [Qb_pos h1]
  · rw [Qb_neg (by omega)]; omega
theorem DrS.upd {H H' : Hp} {p room nm t : Addr} {ns : List Str} {b o : Int} {u : HO} (h : DrS H H' p room nm ns b o) (n0 : H t = Option.none) (tp : t ≠ p) (tr : t ≠ room) (tn : t ≠ nm) : DrS H (L2.upd H' t u) p room nm ns b o :=
  ⟨by obtain ⟨x, y, z, e⟩ := h.pool; exact ⟨x, y, z, by rw [upd_ne (Ne.symm tp)]; exact e⟩, by rw [upd_ne (Ne.symm tr)]; exact h.rm, by rw [upd_ne (Ne.symm tn)]; exact h.nml, fun x v n m hx => by rw [upd_ne (fun z => by subst z; rw [n0] at hx; cases hx)]; exact h.bu x v n m hx, h.rp, h.np, h.nr⟩
theorem ok_drS (n : Nat) (T : Top K mg "_law_drawn" s_drawn) (mL : mg "len" = none) (mR : mg "range" = none) (mT : mg "tuple" = none) (FN : Fn P w K mg base 1 "_law_next" spNext) (FM : Fn P w K mg base 2 "_law_name" spName) (F : ∀ m, n = m + 1 → Fn P w K mg base (2 * m + 4) "_law_drawn" (spDr m)) (FA : Fn P w K mg base (2 * n + 3) "_law_action" (spAc n)) : Fn P w K mg base (2 * n + 4) "_law_drawn" (spDr n) := by
  refine fn_ok T sc_drawn so_drawn (fun vs H Q E h => by obtain ⟨p, nm, room, tk, tm, b, o, ns, rfl, _⟩ := h; rfl) (fun _ _ _ _ _ _ us hl => match us, hl with | [_, _, _, _, _, _], _ => rfl) fun f cdv A outer s H vs Q E hr h nd => ?_
  obtain ⟨p, nm, room, tk, tm, b, o, ns, rfl, h0, hn1, hn2, htk, ht1, ht2, q⟩ := h
  refine l_cons (s_sub (e_bin (e_ix (e_var (e_int (ix_l (by exact SqL.of h0.rm) at0 (e_int (o_sub (e_var (e_int ?_))))))))))
  refine set_l (k := 0) h0.rm rfl ?_
  have h1 := h0.put (b - 1) o
  show wL _ _ _ _ (upd H room (.lst [.int (b - 1), .int o]))
  generalize upd H room (.lst [.int (b - 1), .int o]) = H1 at h1 ⊢
  -- behind the choice
  have rest : ∀ (d : Int) (H2 : Hp), DrS H H2 p room nm ns (b - 1) o → 0 ≤ d → (d < 8 → 0 < n ∧ 0 < b - 1) → ∀ (NX BK CT : L2.St → Hp → Prop), wL (cxOf CX0 P w K mg base N_drawn (Str.ofString "_law_drawn") (defScope s_drawn) f cdv A outer s H E).nox ((defBody s_drawn).drop 3) { nx := NX, rt := Q, bk := BK, ct := CT } [some (.ref p), some (.ref nm), some (.ref room), some (.int (n : Int)), some (.int (tk : Int)), some (.int tm), some (.int d), none, none, none, none, none, none] H2 := by
    intro d H2 h2 hd0 hd8 NX BK CT
    refine l_cons (s_if (t_cmp (e_var (e_int (o_lt ⟨_, rfl, ?_⟩)))))
    by_cases hd2 : d < 2
    · rw [decide_eq_true hd2]
      obtain ⟨hn, hb⟩ := hd8 (by omega)
      obtain ⟨m, rfl⟩ : ∃ m, n = m + 1 := ⟨n - 1, by omega⟩
      refine iteT (l_cons (s_ret (e_tup (a_cons (e_str (a_cons (e_call (by exact F m rfl) (by exact hr) (by omega) ?_)))))))
      refine a_cons (e_var (a_cons (e_var (a_cons (e_var (a_cons (e_bin (e_var (e_int (o_sub (a_cons (e_bin (e_var (e_int (o_add (a_cons (e_var (a_nil ?_))))))))))))))))))
      refine ⟨p, nm, room, tk + 1, tm, b - 1, o, ns, by rw [show (((m + 1 : Nat) : Int) - 1) = (m : Int) by omega, show ((tk : Int) + 1) = ((tk + 1 : Nat) : Int) by omega], h2.own, hn1, hn2, by omega, ht1, ht2, fun x R b' o' H3 h3 hR hG hN hb' ho' => a_nil ?_⟩
      refine ⟨by show 2 ≤ sizeLine; decide, fun t4 H4 e4 n4 h4 => ?_⟩
      refine q _ (.tk R) b' o' H4 ((h2.sub h3).same e4) ⟨t4, x, rfl, h4, hR.ts (Same.ts e4)⟩ ⟨m, rfl, hG⟩ ?_ (by omega) ho'
      rw [if_neg (by omega), Qb_pos hb] at hN
      rw [if_neg (by omega), Qb_pos (show 0 < b by omega)]
      show ((K13.nd R + 1 : Nat) : Int) ≤ _
      omega
    rw [decide_eq_false hd2]
    refine iteF (l_nil (l_cons (s_if (t_cmp (e_var (e_int (o_eqI ⟨_, rfl, ?_⟩)))))))
    by_cases hd3 : d = 2
    · rw [decide_eq_true hd3]
      obtain ⟨hn, hb⟩ := hd8 (by omega)
      obtain ⟨m, rfl⟩ : ∃ m, n = m + 1 := ⟨n - 1, by omega⟩
      refine iteT (l_cons (s_set (e_call (by exact FN) (by exact hr) (by omega) (a_cons (e_var (a_cons (e_int (a_nil ?_))))))))
      refine ⟨p, 3, rfl, by decide, by decide, h2.pool, fun i H3 i0 i1 b3 p3 => ?_⟩
      have h3 := h2.next b3 p3
      refine l_cons (s_ret (e_tup (a_cons (e_str (a_cons (e_call (by exact FM) (by exact hr) (by omega) (a_cons (e_var (a_cons (e_lst (a_nil ?_)))))))))))
      refine ⟨by show 0 ≤ sizeLine; decide, fun t2 H4 e4 n4 hl4 => a_nil ?_⟩
      have h4 := h3.same e4
      refine ⟨p, t2, [], rfl, h4.pool, (fun z => by subst z; obtain ⟨_, _, _, q⟩ := h3.pool; rw [q] at n4; cases n4), hl4, by decide, fun z H5 b5 p5 h5 => ?_⟩
      have h5' := h4.name (h3.none n4) (fun z => by subst z; rw [h3.rm] at n4; cases n4) (fun z => by subst z; rw [h3.nml] at n4; cases n4) b5 p5
      refine a_cons (e_var (a_cons (e_call (by exact F m rfl) (by exact hr) (by omega) ?_)))
      refine a_cons (e_var (a_cons (e_var (a_cons (e_var (a_cons (e_bin (e_var (e_int (o_sub (a_cons (e_var (a_cons (e_var (a_nil ?_)))))))))))))))
      refine ⟨p, nm, room, tk, tm, b - 1, o, ns, by rw [show (((m + 1 : Nat) : Int) - 1) = (m : Int) by omega], h5'.own, hn1, hn2, by omega, ht1, ht2, fun x R b' o' H6 h6 hR hG hN hb' ho' => a_nil ?_⟩
      refine ⟨by show 4 ≤ sizeLine; decide, fun t7 H7 e7 n7 h7 => ?_⟩
      refine q _ (.mk z i R) b' o' H7 ((h5'.sub h6).same e7) ⟨t7, x, rfl, h7, hR.ts (Same.ts e7)⟩ ⟨m, rfl, hG⟩ ?_ (by omega) ho'
      rw [if_neg (by omega), Qb_pos hb] at hN
      rw [if_neg (by omega), Qb_pos (show 0 < b by omega)]
      show ((K13.nd R + 1 : Nat) : Int) ≤ _
      omega
    rw [decide_eq_false hd3]
    refine iteF (l_nil ?_)
    -- a head
    have head : ∀ (NX BK CT : L2.St → Hp → Prop), wL (cxOf CX0 P w K mg base N_drawn (Str.ofString "_law_drawn") (defScope s_drawn) f cdv A outer s H E).nox ((defBody s_drawn).drop 6) { nx := NX, rt := Q, bk := BK, ct := CT } [some (.ref p), some (.ref nm), some (.ref room), some (.int (n : Int)), some (.int (tk : Int)), some (.int tm), some (.int d), none, none, none, none, none, none] H2 := by
      intro NX BK CT
      refine l_cons (s_set (e_call (by exact FN) (by exact hr) (by omega) (a_cons (e_var (a_cons (e_bin (e_callB (x := "len") (by assumption) b_len (a_cons (e_var (a_nil (c_lenL (SqL.of h2.nml) (e_var (o_add (a_nil ?_))))))))))))))
      rw [show (sVs ns).length = ns.length by simp [sVs]]
      refine ⟨p, _, rfl, by omega, by omega, h2.pool, fun at_ H3 i0 i1 b3 p3 => ?_⟩
      have h3 := h2.next b3 p3
      refine l_cons (s_set (e_bin (e_var (e_callB (x := "len") (by assumption) b_len (a_cons (e_var (a_nil (c_lenL (SqL.of h3.nml) (o_sub ?_)))))))))
      rw [show (sVs ns).length = ns.length by simp [sVs]]
      -- the actions
      have acts : ∀ (k : Key), OkN ns tk k → ∀ (NX BK CT : L2.St → Hp → Prop), wL (cxOf CX0 P w K mg base N_drawn (Str.ofString "_law_drawn") (defScope s_drawn) f cdv A outer s H E).nox ((defBody s_drawn).drop 9) { nx := NX, rt := Q, bk := BK, ct := CT } [some (.ref p), some (.ref nm), some (.ref room), some (.int (n : Int)), some (.int (tk : Int)), some (.int tm), some (.int d), none, none, some (.int at_), some (kV k), none, none] H3 := by
        intro k hk NX BK CT
        refine l_cons (s_set (e_lst (a_nil ⟨by show 0 ≤ sizeLine; decide, fun aa H4 e4 n4 hl4 => ?_⟩)))
        have h4 := h3.same e4
        have na0 := h3.none n4
        have nap : aa ≠ p := fun z => by subst z; obtain ⟨_, _, _, q⟩ := h3.pool; rw [q] at n4; cases n4
        have nar : aa ≠ room := fun z => by subst z; rw [h3.rm] at n4; cases n4
        have nan : aa ≠ nm := fun z => by subst z; rw [h3.nml] at n4; cases n4
        refine l_cons (s_forR (by assumption) (e_call (by exact FN) (by exact hr) (by omega) (a_cons (e_var (a_cons (e_int (a_nil ?_)))))))
        refine ⟨p, 5, rfl, by decide, by decide, h4.pool, fun c H5 c0 c1 b5 p5 => ?_⟩
        have h5 := h4.next b5 p5
        have hl5 := b5 aa _ nap hl4
        obtain ⟨N, rfl⟩ := Int.eq_ofNat_of_zero_le c0
        refine ⟨N, rfl, by omega, fun j σ H' => ∃ (cs : List Ac) (us : List V) (b' o' : Int) (x : Option V), σ = [some (.ref p), some (.ref nm), some (.ref room), some (.int (n : Int)), some (.int (tk : Int)), some (.int tm), some (.int d), none, none, some (.int at_), some (kV k), some (.ref aa), x] ∧ DrS H H' p room nm ns b' o' ∧ H' aa = some (.lst us) ∧ Al (AcD H') cs us ∧ cs.length = j ∧ (∀ c ∈ cs, GdA ns tk n c) ∧ (((cs.map ndA).sum : Nat) : Int) ≤ (j : Int) + 6 * (Qb (b - 1) - Qb b') + 6 * (o - o') ∧ b' ≤ b - 1 ∧ (o' ≤ o ∧ (0 ≤ o → 0 ≤ o')), ⟨[], [], b - 1, o, none, rfl, h5, hl5, rfl, rfl, fun _ h => absurd h List.not_mem_nil, by simp, Int.le_refl _, Int.le_refl _, id⟩, ?_, ?_⟩
        · rintro j σ H6 hj ⟨cs, us, b', o', x, rfl, h6, hl6, hcs, hcl, hG, hN, hb', ho'⟩
          have lus := hcs.len
          refine l_cons (s_expr (e_app (e_var ⟨aa, us, rfl, SqL.of hl6, e_call (by exact FA) (by exact hr) (by omega) ?_⟩)))
          refine a_cons (e_var (a_cons (e_var (a_cons (e_var (a_cons (e_var (a_cons (e_var (a_cons (e_var (a_nil ?_))))))))))))
          refine ⟨p, nm, room, tk, tm, b', o', ns, rfl, h6.own, hn1, hn2, htk, ht1, ht2, fun y c b2 o2 H7 h7 hc hGc hNc hb2 ho2 => ?_⟩
          have hl7 := h7.bu aa _ nap nar hl6
          have ts67 := h7.ts h6.own
          refine ⟨us, hl7, by show _ < 2 ^ 24; omega, ?_⟩
          have ts8 : TS H7 (L2.upd H7 aa (.lst (us ++ [y]))) := TS.upd hl7
          refine l_nil ⟨cs ++ [c], us ++ [y], b2, o2, _, rfl, (h6.sub h7).upd na0 nap nar nan, upd_same, (hcs.mono fun _ _ => AcD.ts (ts67.trans ts8)).app ⟨_, [], rfl, hc.ts ts8, rfl⟩, by rw [List.length_append]; simp [hcl], fun e he => ?_, ?_, by omega, by omega⟩
          · rcases List.mem_append.mp he with he | he
            · exact hG e he
            · rw [List.mem_singleton.mp he]; exact hGc
          · rw [List.map_append, List.sum_append]
            simp only [List.map_cons, List.map_nil, List.sum_cons, List.sum_nil]
            omega
        · rintro σ H6 ⟨cs, us, b', o', x, rfl, h6, hl6, hcs, hcl, hG, hN, hb', ho'⟩
          refine l_cons (s_ret (e_tup (a_cons (e_str (a_cons (e_var (a_cons (e_callTy (x := "tuple") (by assumption) b_tuple (a_cons (e_var (a_nil ?_)))))))))))
          refine c_tupL (SqL.of hl6) fun l7 H7 e7 n7 h7 => a_nil ?_
          refine ⟨by show 3 ≤ sizeLine; decide, fun t8 H8 e8 n8 h8 => ?_⟩
          have e68 := e7.trans e8
          refine q _ (.hd k (sp cs)) b' o' H8 (h6.same e68) ⟨t8, l7, us, rfl, h8, e8 _ _ h7, dv_sp (hcs.mono fun _ _ => AcD.ts (Same.ts e68))⟩ ⟨hk, by rw [al_of_sp]; omega, gd_sp hG⟩ ?_ (by omega) ho'
          show ((K13.nd (sp cs) : Nat) : Int) ≤ _
          rw [nd_sp]
          by_cases hb : b ≤ 0
          · rw [if_pos hb, Qb_neg hb]
            rw [Qb_neg (show b - 1 ≤ 0 by omega)] at hN
            omega
          · rw [if_neg hb]
            rw [Qb_step (show 0 < b by omega)] at hN
            omega
      refine l_cons (s_if (t_cmp (e_var (e_callB (x := "len") (by assumption) b_len (a_cons (e_var (a_nil (c_lenL (SqL.of h3.nml) (o_lt ⟨_, rfl, ?_⟩)))))))))
      rw [show (sVs ns).length = ns.length by simp [sVs]]
      by_cases hat : at_ < (ns.length : Int)
      · rw [decide_eq_true hat]
        obtain ⟨z, hz, hza⟩ := sVs_at i0 hat
        refine iteT (l_cons (s_set (e_ix (e_var (e_var (ix_l (by exact SqL.of h3.nml) hza ?_))))))
        exact l_nil (acts (.inr z) hz _ _ _)
      · rw [decide_eq_false hat]
        exact iteF (l_nil (acts (.inl (at_ - (ns.length : Int))) ⟨by omega, by omega⟩ _ _ _))
    refine l_cons (s_if (t_w (w_and (t_cmp (e_var (e_int (o_eqI ⟨_, rfl, ?_⟩)))))))
    by_cases he3 : d = 3
    rotate_left
    · rw [decide_eq_false he3]
      exact iteF (iteF (l_nil (head _ _ _)))
    rw [decide_eq_true he3]
    refine iteT (w_and (t_cmp (e_var (e_int (o_eqI ⟨_, rfl, ?_⟩)))))
    by_cases het : tm = 1
    rotate_left
    · rw [decide_eq_false het]
      exact iteF (iteF (l_nil (head _ _ _)))
    rw [decide_eq_true het]
    refine iteT (w_and1 (t_cmp (e_ix (e_var (e_int (ix_l (by exact SqL.of h2.rm) at1 (e_int (o_gt ⟨_, rfl, ?_⟩))))))))
    by_cases heo : 0 < o
    rotate_left
    · rw [decide_eq_false heo]
      exact iteF (l_nil (head _ _ _))
    rw [decide_eq_true heo]
    obtain ⟨hn, hb⟩ := hd8 (by omega)
    obtain ⟨m, rfl⟩ : ∃ m, n = m + 1 := ⟨n - 1, by omega⟩
    refine iteT (l_cons (s_sub (e_bin (e_ix (e_var (e_int (ix_l (by exact SqL.of h2.rm) at1 (e_int (o_sub (e_var (e_int ?_)))))))))))
    refine set_l (k := 1) h2.rm rfl ?_
    have h3 := h2.put (b - 1) (o - 1)
    show wL _ _ _ _ (L2.upd H2 room (.lst [.int (b - 1), .int (o - 1)]))
    generalize L2.upd H2 room (.lst [.int (b - 1), .int (o - 1)]) = H3 at h3 ⊢
    refine l_cons (s_set (e_call (by exact F m rfl) (by exact hr) (by omega) ?_))
    refine a_cons (e_var (a_cons (e_var (a_cons (e_var (a_cons (e_bin (e_var (e_int (o_sub (a_cons (e_var (a_cons (e_var (a_nil ?_)))))))))))))))
    refine ⟨p, nm, room, tk, tm, b - 1, o - 1, ns, by rw [show (((m + 1 : Nat) : Int) - 1) = (m : Int) by omega], h3.own, hn1, hn2, by omega, ht1, ht2, fun x R1 b1 o1 H4 h4 hR1 hG1 hN1 hb1 ho1 => ?_⟩
    have h4' := h3.sub h4
    refine l_cons (s_ret (e_tup (a_cons (e_str (a_cons (e_var (a_cons (e_call (by exact F m rfl) (by exact hr) (by omega) ?_))))))))
    refine a_cons (e_var (a_cons (e_var (a_cons (e_var (a_cons (e_bin (e_var (e_int (o_sub (a_cons (e_var (a_cons (e_var (a_nil ?_)))))))))))))))
    refine ⟨p, nm, room, tk, tm, b1, o1, ns, by rw [show (((m + 1 : Nat) : Int) - 1) = (m : Int) by omega], h4'.own, hn1, hn2, by omega, ht1, ht2, fun y R2 b2 o2 H5 h5 hR2 hG2 hN2 hb2 ho2 => a_nil ?_⟩
    refine ⟨by show 3 ≤ sizeLine; decide, fun t6 H6 e6 n6 h6 => ?_⟩
    have ts45 := h5.ts h4'.own
    refine q _ (.of R1 R2) b2 o2 H6 ((h4'.sub h5).same e6) ⟨t6, x, y, rfl, h6, (hR1.ts ts45).ts (Same.ts e6), hR2.ts (Same.ts e6)⟩ ⟨m, rfl, hG1, hG2⟩ ?_ (by omega) (by omega)
    rw [if_neg (by omega), Qb_pos hb] at hN1
    rw [if_neg (by omega), Qb_pos (show 0 < b by omega)]
    show ((K13.nd R1 + K13.nd R2 + 1 : Nat) : Int) ≤ _
    have h5' : (if b1 ≤ 0 then (5 : Int) else 0) ≤ 5 := by split <;> omega
    omega
  refine l_cons (s_set (e_int ?_))
  refine l_cons (s_if (t_w (w_and (t_cmp (e_var (e_int (o_gt ⟨_, rfl, ?_⟩)))))))
  by_cases hn : 0 < (n : Int)
  rotate_left
  · rw [decide_eq_false hn]
    exact iteF (iteF (l_nil (rest 9 H1 h1 (by decide) (fun h => by omega) _ _ _)))
  rw [decide_eq_true hn]
  refine iteT (w_and1 (t_cmp (e_ix (e_var (e_int (ix_l (by exact SqL.of h1.rm) at0 (e_int (o_gt ⟨_, rfl, ?_⟩))))))))
  by_cases hb : 0 < b - 1
  rotate_left
  · rw [decide_eq_false hb]
    exact iteF (l_nil (rest 9 H1 h1 (by decide) (fun h => by omega) _ _ _))
  rw [decide_eq_true hb]
  refine iteT (l_cons (s_set (e_call (by exact FN) (by exact hr) (by omega) (a_cons (e_var (a_cons (e_int (a_nil ?_))))))))
  refine ⟨p, 8, rfl, by decide, by decide, h1.pool, fun d H2 d0 d1 b2 p2 => ?_⟩
  exact l_nil (rest d H2 (h1.next b2 p2) d0 (fun _ => ⟨by omega, hb⟩) _ _ _)
theorem ok_draw (TA : Top K mg "_law_action" s_action) (TD : Top K mg "_law_drawn" s_drawn) (mL : mg "len" = none) (mR : mg "range" = none) (mT : mg "tuple" = none) (FN : Fn P w K mg base 1 "_law_next" spNext) (FM : Fn P w K mg base 2 "_law_name" spName) : ∀ n, Fn P w K mg base (2 * n + 4) "_law_drawn" (spDr n)
  | 0 => ok_drS 0 TD mL mR mT FN FM (fun _ h => by omega) (ok_acS 0 TA FN FM (fun _ h => by omega))
  | n + 1 => ok_drS (n + 1) TD mL mR mT FN FM (fun m h => by cases h; exact ok_draw TA TD mL mR mT FN FM n) (ok_acS (n + 1) TA FN FM (fun m h => by cases h; exact ok_draw TA TD mL mR mT FN FM n))
end



/-! ### the same data -/
def Eqd (H : Hp) : Nat → V → V → Prop
  | 0, v, u => (∃ i, v = .int i ∧ u = .int i) ∨ ∃ z, v = .str z ∧ u = .str z
  | n + 1, v, u => (∃ i, v = .int i ∧ u = .int i) ∨ (∃ z, v = .str z ∧ u = .str z) ∨ ∃ a b xs ys, v = .ref a ∧ u = .ref b ∧ (H a = some (.tup xs) ∧ H b = some (.tup ys)) ∧ xs.length = ys.length ∧ xs.length ≤ 2000 ∧ ∀ (i : Nat) x y, xs[i]? = some x → ys[i]? = some y → Eqd H n x y
theorem Eqd.int (H : Hp) (n : Nat) (i : Int) : Eqd H n (.int i) (.int i) := by
  cases n with
  | zero => exact .inl ⟨i, rfl, rfl⟩
  | succ n => exact .inl ⟨i, rfl, rfl⟩
theorem Eqd.str (H : Hp) (n : Nat) (z : Str) : Eqd H n (.str z) (.str z) := by
  cases n with
  | zero => exact .inr ⟨z, rfl, rfl⟩
  | succ n => exact .inr (.inl ⟨z, rfl, rfl⟩)
theorem Eqd.key (H : Hp) (n : Nat) (r : Key) : Eqd H n (kV r) (kV r) := by
  cases r with
  | inl i => exact .int H n i
  | inr z => exact .str H n z
theorem Eqd.up {H H' : Hp} (e : Same H H') : ∀ {n : Nat} {v u : V}, Eqd H n v u → Eqd H' n v u
  | 0, _, _, h => h
  | n + 1, v, u, h => by
    rcases h with h | h | ⟨a, b, xs, ys, h1, h2, h3, h4, h5, h6⟩
    · exact .inl h
    · exact .inr (.inl h)
    · refine .inr (.inr ⟨a, b, xs, ys, h1, h2, ?_, h4, h5, fun i x y hx hy => (h6 i x y hx hy).up e⟩)
      exact ⟨e _ _ h3.1, e _ _ h3.2⟩
theorem Eqd.more {H : Hp} : ∀ {n m : Nat} {v u : V}, n ≤ m → Eqd H n v u → Eqd H m v u
  | 0, m, _, _, _, h => by
    rcases h with ⟨i, rfl, rfl⟩ | ⟨z, rfl, rfl⟩
    · exact .int H m i
    · exact .str H m z
  | n + 1, 0, _, _, hl, _ => absurd hl (by omega)
  | n + 1, m + 1, _, _, hl, h => by
    rcases h with h | h | ⟨a, b, xs, ys, h1, h2, h3, h4, h5, h6⟩
    · exact .inl h
    · exact .inr (.inl h)
    · exact .inr (.inr ⟨a, b, xs, ys, h1, h2, h3, h4, h5, fun i x y hx hy => (h6 i x y hx hy).more (by omega)⟩)
/-- two lists of values, the same item by item -/
def EqL (H : Hp) (n : Nat) : List V → List V → Prop
  | [], [] => True
  | x :: xs, y :: ys => Eqd H n x y ∧ EqL H n xs ys
  | _, _ => False
theorem EqL.len {H : Hp} {n : Nat} : ∀ {xs ys : List V}, EqL H n xs ys → xs.length = ys.length
  | [], [], _ => rfl
  | _ :: _, _ :: _, h => by rw [List.length_cons, List.length_cons, h.2.len]
theorem EqL.get {H : Hp} {n : Nat} : ∀ {xs ys : List V}, EqL H n xs ys → ∀ (i : Nat) x y, xs[i]? = some x → ys[i]? = some y → Eqd H n x y
  | [], [], _, i, x, y, hx, _ => by cases hx
  | a :: xs, b :: ys, h, 0, x, y, hx, hy => by cases hx; cases hy; exact h.1
  | a :: xs, b :: ys, h, i + 1, x, y, hx, hy => h.2.get i x y (by simpa using hx) (by simpa using hy)
theorem EqL.app {H : Hp} {n : Nat} : ∀ {xs ys xs' ys' : List V}, EqL H n xs ys → EqL H n xs' ys' → EqL H n (xs ++ xs') (ys ++ ys')
  | [], [], _, _, _, h => h
  | _ :: _, _ :: _, _, _, h, k => ⟨h.1, h.2.app k⟩
theorem EqL.more {H : Hp} {n m : Nat} (hl : n ≤ m) : ∀ {xs ys : List V}, EqL H n xs ys → EqL H m xs ys
  | [], [], h => h
  | _ :: _, _ :: _, h => ⟨h.1.more hl, h.2.more hl⟩
theorem EqL.tup {H : Hp} {n : Nat} {a b : Addr} {xs ys : List V} (h : EqL H n xs ys) (ha : H a = some (.tup xs)) (hb : H b = some (.tup ys)) (hl : xs.length ≤ 2000) : Eqd H (n + 1) (.ref a) (.ref b) :=
  .inr (.inr ⟨a, b, xs, ys, rfl, rfl, ⟨ha, hb⟩, h.len, hl, h.get⟩)
theorem EqL.tp {H : Hp} {n : Nat} {a b : Addr} {xs ys : List V} (ha : H a = some (.tup xs)) (hb : H b = some (.tup ys)) (hl : xs.length ≤ 2000) (h : EqL H n xs ys) : Eqd H (n + 1) (.ref a) (.ref b) := h.tup ha hb hl
theorem FdV.eq {H : Hp} : ∀ {f : Fd} {v u : V}, FdV H f v → FdV H f u → Eqd H 2 v u
  | .i n, v, u, h, k => by rw [show v = _ from h, show u = _ from k]; exact .int H 2 n
  | .s z, v, u, h, k => by rw [show v = _ from h, show u = _ from k]; exact .str H 2 z
  | .p a b, _, _, ⟨t, rfl, h⟩, ⟨t', rfl, k⟩ => EqL.tup (xs := [.int a, .int b]) (ys := [.int a, .int b]) ⟨.int H 1 a, .int H 1 b, trivial⟩ h k (by simp)
  | .c z, _, _, ⟨t, rfl, h⟩, ⟨t', rfl, k⟩ => EqL.tup (xs := [.str "word", .str z]) (ys := [.str "word", .str z]) ⟨.str H 1 _, .str H 1 _, trivial⟩ h k (by simp)
theorem FsV.eq {H : Hp} : ∀ {f : List Fd} {v u : List V}, FsV H f v → FsV H f u → EqL H 2 v u
  | [], _, _, h, k => by rw [show _ = _ from h, show _ = _ from k]; trivial
  | _ :: _, _, _, ⟨v, us, rfl, h2, h3⟩, ⟨v', us', rfl, k2, k3⟩ => ⟨h2.eq k2, h3.eq k3⟩
theorem rL_eq (H : Hp) (n : Nat) (r : Option Key) : EqL H n (rL r) (rL r) := by
  cases r with
  | none => trivial
  | some r => exact ⟨.key H n r, trivial⟩
theorem HdL.eq {H : Hp} {h : Hd} {xs ys : List V} : HdL H h xs → HdL H h ys → EqL H 2 xs ys := fun ⟨fs, e1, h1⟩ ⟨gs, e2, h2⟩ => by
  subst e1 e2
  exact ⟨.str H 2 _, (rL_eq H 2 _).app (h1.eq h2)⟩
theorem TrV.eq {H : Hp} : ∀ {t : Tr} {v u : V}, t.Ok → TrV H t v → TrV H t u → Eqd H (t.dep + 3) v u
  | .le h, _, _, o, ⟨t, xs, rfl, h2, h3⟩, ⟨t', xs', rfl, k2, k3⟩ => EqL.tup ((h3.eq k3).app (xs' := []) (ys' := []) trivial) h2 k2 (by have := h3.len o.1; have := fs_le h.k; simp only [List.length_append, List.length_nil]; omega)
  | .un h a, _, _, o, ⟨t, xs, x, rfl, h2, h3, h4⟩, ⟨t', xs', x', rfl, k2, k3, k4⟩ =>
    EqL.tup (n := a.dep + 3) (((h3.eq k3).more (by omega)).app (xs' := [x]) (ys' := [x']) ⟨TrV.eq o.2.2 h4 k4, trivial⟩) h2 k2 (by have := h3.len o.1; have := fs_le h.k; simp only [List.length_append, List.length_cons, List.length_nil]; omega)
  | .bi h a b, _, _, o, ⟨t, xs, x, y, rfl, h2, h3, h4, h5⟩, ⟨t', xs', x', y', rfl, k2, k3, k4, k5⟩ => by
    have e1 := TrV.eq o.2.2.1 h4 k4
    have e2 := TrV.eq o.2.2.2 h5 k5
    exact EqL.tup (n := max a.dep b.dep + 3) (((h3.eq k3).more (by omega)).app (xs' := [x, y]) (ys' := [x', y']) ⟨e1.more (by omega), e2.more (by omega), trivial⟩) h2 k2 (by have := h3.len o.1; have := fs_le h.k; simp only [List.length_append, List.length_cons, List.length_nil]; omega)
/-- how deep the data of a reading are -/
def dD : Rd → Nat
  | .tk a => dD a + 1 | .mk _ _ a => dD a + 1 | .of a b => max (dD a) (dD b) + 1 | .hd _ s => dD s + 2
  | .nil => 0 | .pk _ s => max 1 (dD s) | .op _ _ s => max 1 (dD s) | .py _ p s => max (max 2 (dD p) + 1) (dD s)
/-- no head has many actions -/
def Fw : Rd → Prop
  | .tk a => Fw a | .mk _ _ a => Fw a | .of a b => Fw a ∧ Fw b | .hd _ s => al s ≤ 1000 ∧ Fw s
  | .nil => True | .pk _ s => Fw s | .op _ _ s => Fw s | .py _ p s => Fw p ∧ Fw s
theorem DV.eq {H : Hp} : ∀ {b : Bool} {R : Rd} {xs ys : List V}, Wf b R → Fw R → DV H R xs → DV H R ys → EqL H (dD R) xs ys
  | true, .tk a, _, _, w, f, ⟨t, x, rfl, h1, h2⟩, ⟨t', x', rfl, k1, k2⟩ => ⟨EqL.tp h1 k1 (by show 2 ≤ _; omega) ⟨.str H _ _, DV.eq (R := a) w f h2 k2⟩, trivial⟩
  | true, .mk n i a, _, _, w, f, ⟨t, x, rfl, h1, h2⟩, ⟨t', x', rfl, k1, k2⟩ => ⟨EqL.tp h1 k1 (by show 4 ≤ _; omega) ⟨.str H _ _, .str H _ _, .int H _ _, DV.eq (R := a) w f h2 k2⟩, trivial⟩
  | true, .of a b, _, _, w, f, ⟨t, x, y, rfl, h1, h2, h3⟩, ⟨t', x', y', rfl, k1, k2, k3⟩ =>
    ⟨EqL.tp (n := max (dD a) (dD b)) h1 k1 (by show 3 ≤ _; omega) ⟨.str H _ _, (DV.eq (R := a) w.1 f.1 h2 k2).1.more (Nat.le_max_left _ _), (DV.eq (R := b) w.2 f.2 h3 k3).1.more (Nat.le_max_right _ _), trivial⟩, trivial⟩
  | true, .hd h s, _, _, w, f, ⟨t, r, zs, rfl, h1, h2, h3⟩, ⟨t', r', zs', rfl, k1, k2, k3⟩ =>
    ⟨EqL.tp (n := dD s + 1) h1 k1 (by show 3 ≤ _; omega) ⟨.str H _ _, .key H _ _, EqL.tup (DV.eq (R := s) w f.2 h3 k3) h2 k2 (by rw [DV.al w h3]; have := f.1; omega), trivial⟩, trivial⟩
  | false, .nil, _, _, _, _, h, k => by rw [show _ = _ from h, show _ = _ from k]; trivial
  | false, .pk d s, _, _, w, f, ⟨t, zs, rfl, h1, h2⟩, ⟨t', zs', rfl, k1, k2⟩ =>
    ⟨(EqL.tp (n := 0) h1 k1 (by show 2 ≤ _; omega) ⟨.str H _ _, .str H _ _, trivial⟩).more (Nat.le_max_left _ _), (DV.eq (R := s) w f h2 k2).more (Nat.le_max_right _ _)⟩
  | false, .op n i s, _, _, w, f, ⟨t, zs, rfl, h1, h2⟩, ⟨t', zs', rfl, k1, k2⟩ =>
    ⟨(EqL.tp (n := 0) h1 k1 (by show 3 ≤ _; omega) ⟨.str H _ _, .str H _ _, .int H _ _, trivial⟩).more (Nat.le_max_left _ _), (DV.eq (R := s) w f h2 k2).more (Nat.le_max_right _ _)⟩
  | false, .py m p s, _, _, w, f, ⟨t, mv, x, zs, rfl, h1, hm, h2, h3⟩, ⟨t', mv', x', zs', rfl, k1, km, k2, k3⟩ =>
    ⟨(EqL.tp (n := max 2 (dD p)) h1 k1 (by show 3 ≤ _; omega) ⟨.str H _ _, (hm.eq km).more (Nat.le_max_left _ _), (DV.eq (R := p) w.1 f.1 h2 k2).1.more (Nat.le_max_right _ _), trivial⟩).more (Nat.le_max_left _ _), (DV.eq (R := s) w.2 f.2 h3 k3).more (Nat.le_max_right _ _)⟩
theorem PthV.eq {H : Hp} {p : List Nat} {v u : V} (hl : p.length ≤ 1000) : PthV H p v → PthV H p u → Eqd H 1 v u := fun ⟨t, h1, h2⟩ ⟨t', k1, k2⟩ => by
  subst h1 k1
  have : ∀ l : List Nat, EqL H 0 (l.map fun (n : Nat) => V.int (n : Int)) (l.map fun (n : Nat) => V.int (n : Int)) := fun l => by
    induction l with
    | nil => trivial
    | cons a l ih => exact ⟨.int H 0 _, ih⟩
  exact EqL.tup (this p) h2 k2 (by rw [List.length_map]; omega)
section
variable {P : Program} {w : World} {K : PySem.W.Frag} {mg : Str → Option Value} {base : Heap}
def spSm (n : Nat) : Sp := fun vs H Q _ => ∃ v u, vs = [v, u] ∧ Eqd H n v u ∧ ∀ H', Same H H' → Q (.bl true) H'
end



section
variable {P : Program} {w : World} {K : PySem.W.Frag} {mg : Str → Option Value} {base : Heap}
theorem ok_smS (n : Nat) (T : Top K mg "_law_same" s_same) (mIs : mg "isinstance" = none) (mInt : mg "int" = none) (mBool : mg "bool" = none) (mTup : mg "tuple" = none) (mLen : mg "len" = none) (mR : mg "range" = none)
    (F : ∀ m, n = m + 1 → Fn P w K mg base (m + 2) "_law_same" (spSm m)) : Fn P w K mg base (n + 2) "_law_same" (spSm n) := by
  refine fn_okC T sc_same so_same (fun vs H Q E h => by obtain ⟨v, u, rfl, _⟩ := h; rfl) (fun _ _ _ _ _ _ us hl => match us, hl with | [_, _], _ => rfl) fun f cdv A outer s H vs Q E hr h nd => ?_
  obtain ⟨v, u, rfl, hv, q⟩ := h
  have hsh : (∃ i, v = .int i ∧ u = .int i) ∨ (∃ z, v = .str z ∧ u = .str z) ∨ ∃ m a b xs ys, n = m + 1 ∧ v = .ref a ∧ u = .ref b ∧ (H a = some (.tup xs) ∧ H b = some (.tup ys)) ∧ xs.length = ys.length ∧ xs.length ≤ 2000 ∧ ∀ (i : Nat) x y, xs[i]? = some x → ys[i]? = some y → Eqd H m x y := by
    cases n with
    | zero => rcases hv with h | h
              · exact .inl h
              · exact .inr (.inl h)
    | succ m => rcases hv with h | h | ⟨a, b, xs, ys, h⟩
                · exact .inl h
                · exact .inr (.inl h)
                · exact .inr (.inr ⟨m, a, b, xs, ys, rfl, h⟩)
  rcases hsh with ⟨i, rfl, rfl⟩ | ⟨z, rfl, rfl⟩ | ⟨m, a, b, xs, ys, rfl, rfl, rfl, ⟨ha, hb⟩, hl, hz, hi⟩
  · walk_at "sts"
    refine c_isi ty_int (.ty _) (kit_ty kb_int_tuple) ?_
    walk_at "sts"
    refine c_isi ty_int (.ty _) (kit_ty kb_int_int) ?_
    walk_at "sts"
    refine c_isi ty_int (.ty _) (kit_ty kb_int_int) ?_
    walk_at "sts"
    refine c_isi ty_int (.ty _) (kit_ty kb_int_bool) ?_
    walk_at "sts"
    rw [decide_eq_true rfl]
    exact q H (Same.refl H)
  · walk_at "sts"
    refine c_isi ty_str (.ty _) (kit_ty kb_str_tuple) ?_
    walk_at "sts"
    refine c_isi ty_str (.ty _) (kit_ty kb_str_int) ?_
    walk_at "sts"
    refine c_isi ty_str (.ty _) (kit_ty kb_str_int) ?_
    walk_at "sts"
    refine c_isi ty_str (.ty _) (kit_ty kb_str_bool) ?_
    walk_at "sts"
    rw [decide_eq_true rfl]
    exact q H (Same.refl H)
  · have F0 := F m rfl
    walk_at "sts"
    refine c_isi (ty_tup ha) (.ty _) (kit_ty kb_tuple_tuple) ?_
    walk_at "sts"
    refine c_isi (ty_tup hb) (.ty _) (kit_ty kb_tuple_tuple) ?_
    walk_at "sts"
    refine c_lenT (by exact SqT.of ha) ?_
    walk_at "sts"
    refine c_lenT (by exact SqT.of hb) ?_
    walk_at "sts"
    rw [decide_eq_true (show (xs.length : Int) = (ys.length : Int) by omega)]
    refine ite_t rfl (e_one (e_notT (e_lcRf (by exact bk_same0) (by assumption) ?_)))
    walk_at "sts"
    refine c_lenT (by exact SqT.of hb) ⟨ys.length, rfl, by omega, fun D nD => ⟨fun k H' => H' D = some (.lst []) ∧ Same H H', ⟨upd_same, fun c o hc => by rw [upd_ne (ne_of_none hc nD)]; exact hc⟩, ?_, ?_⟩⟩
    · intro k H3 hk pr
      obtain ⟨hD, e3⟩ := pr
      have hx : xs[k]? = some xs[k] := List.getElem?_eq_getElem (by omega)
      have hy : ys[k]? = some ys[k] := List.getElem?_eq_getElem hk
      intro s0 H0 C cl fp IB
      refine t_not (t_val (b_call (by exact F0) (by exact hr) (by omega) ?_))
      refine a_cons (e_ix (b_var (b_var (ix_t (by exact SqT.of (e3 _ _ ha)) (atI_nat hx) ?_))))
      refine a_cons (e_ix (b_var (b_var (ix_t (by exact SqT.of (e3 _ _ hb)) (atI_nat hy) (a_nil ?_)))))
      refine ⟨xs[k], ys[k], rfl, (hi k _ _ hx hy).up e3, fun H4 e4 => ⟨_, rfl, ?_⟩⟩
      exact iteF ⟨e4 _ _ hD, e3.trans e4⟩
    · intro H3 pr
      obtain ⟨hD, e3⟩ := pr
      exact ⟨_, tru_l hD, q H3 e3⟩
theorem ok_sm (T : Top K mg "_law_same" s_same) (mIs : mg "isinstance" = none) (mInt : mg "int" = none) (mBool : mg "bool" = none) (mTup : mg "tuple" = none) (mLen : mg "len" = none) (mR : mg "range" = none) : ∀ n, Fn P w K mg base (n + 2) "_law_same" (spSm n)
  | 0 => ok_smS 0 T mIs mInt mBool mTup mLen mR (fun _ h => by omega)
  | n + 1 => ok_smS (n + 1) T mIs mInt mBool mTup mLen mR (fun m h => by cases h; exact ok_sm T mIs mInt mBool mTup mLen mR n)
end



section
variable {P : Program} {w : World} {K : PySem.W.Frag} {mg : Str → Option Value} {base : Heap}
def spEnv : Sp := fun vs H Q _ => ∃ M r kvs v, vs = [.ref M, kV r, v] ∧ H M = some (.dK kvs) ∧ (kvs.map (·.1)).Nodup ∧ kvs.length ≤ 100000 ∧ ∀ D H', Same H H' → H D = none → H' D = some (.dK (putK kvs r v)) → Q (.ref D) H'
theorem ok_env (T : Top K mg "_law_env" s_env) : Fn P w K mg base 1 "_law_env" spEnv := by
  refine fn_ok T sc_env so_env (fun vs H Q E h => by obtain ⟨M, r, kvs, v, rfl, _⟩ := h; rfl) (fun _ _ _ _ _ _ us hl => match us, hl with | [_, _, _], _ => rfl) fun f cdv A outer s H vs Q E hr h nd => ?_
  obtain ⟨M, r, kvs, v, rfl, hM, hnd, hl, q⟩ := h
  refine l_cons (s_set (e_dict fun D H1 e1 nD h1 => ?_))
  have nDM : D ≠ M := fun z => by subst z; rw [hM] at nD; cases nD
  show wL _ _ _ [some (.ref M), some (kV r), some v, some (.ref D), none] _
  refine l_cons (s_forD (e1 _ _ hM) fun o => e_var ⟨rfl, upd_same, fun k σ H2 => ∃ x, σ = [some (.ref M), some (kV r), some v, some (.ref D), x] ∧ H2 M = some (.frz o (.dK kvs)) ∧ H2 D = some (.dK (kvs.take k)) ∧ ∀ c u, c ≠ M → H c = some u → H2 c = some u, ?_, ?_, ?_, ?_⟩)
  · exact ⟨none, rfl, upd_same, by rw [upd_ne nDM, List.take_zero]; exact h1, fun c u nc hc => by rw [upd_ne nc]; exact e1 _ _ hc⟩
  · rintro k σ H2 _ ⟨x, rfl, p1, p2, p3⟩
    exact p1
  · rintro k y v' σ H2 hk ⟨x, rfl, p1, p2, p3⟩
    show wL _ _ _ [some (.ref M), some (kV r), some v, some (.ref D), some (kV y)] _
    refine l_cons (s_dput (hu_of hr) (e_dg (by exact hr) (e_var (e_var ⟨M, v', rfl, ?_, e_var (e_var ?_)⟩))))
    · rw [← valV_at hnd hk]; exact dg_F p1
    · refine ⟨D, _, rfl, DPut.k p2 (by rw [List.length_take]; show _ < 2 ^ 24; omega), l_nil ⟨_, rfl, by rw [upd_ne (Ne.symm nDM)]; exact p1, ?_, fun c u nc hc => ?_⟩⟩
      · rw [take_put hnd hk]; exact upd_same
      · rw [upd_ne (ne_of_none hc nD)]; exact p3 c u nc hc
  · rintro σ H2 ⟨x, rfl, p1, p2, p3⟩
    rw [List.take_length] at p2
    generalize hH3 : upd H2 M (.dK kvs) = H3
    have e3 : Same H H3 := fun c u hc => by
      rw [← hH3]
      by_cases hca : c = M
      · subst hca; rw [upd_same]; rw [hM] at hc; exact hc
      · rw [upd_ne hca]; exact p3 c u hca hc
    have hD : H3 D = some (.dK kvs) := by rw [← hH3, upd_ne nDM]; exact p2
    refine l_cons (s_dput (hu_of hr) (e_var (e_var (e_var ?_))))
    refine ⟨D, _, rfl, DPut.k hD (by show _ < 2 ^ 24; omega), l_cons (s_ret (e_var (q D _ (fun c u hc => ?_) nD upd_same)))⟩
    rw [upd_ne (ne_of_none hc nD)]
    exact e3 c u hc
theorem o_nePS {X : Cx} {H : Hp} {Q : VK} {n : Nat} {a : Addr} {u v : Int} {z : Str} (hr : Room n X.A) (h : H a = some (.tup [.int u, .int v])) (hz : SeqAt.shaped (.str z) = true) (q : Q (.bl true) H) : wK X .NotEq (.ref a) (.str z) H Q :=
  k_of (op_neD hr.units) ⟨.tuple [.int u, .int v], .str z, .tup (SqT.of h) (.cons (.int u) (.cons (.int v) .nil)), .str z, rfl, hz, q⟩
theorem gd_acs {ns : List Str} {k d : Nat} : ∀ {s : Rd}, Gd ns false k d s → ∀ m p, Ac.py m p ∈ acs s → MdOk m ∧ ∃ d', d = d' + 1 ∧ Gd ns true k d' p
  | .nil, _, _, _, h => absurd h List.not_mem_nil
  | .pk d s, w, m, p, h => by
    rcases List.mem_cons.mp h with h | h
    · cases h
    · exact gd_acs (s := s) w.2 m p h
  | .op _ _ s, w, m, p, h => by
    rcases List.mem_cons.mp h with h | h
    · cases h
    · exact gd_acs (s := s) w m p h
  | .py _ q s, w, m, p, h => by
    rcases List.mem_cons.mp h with h | h
    · cases h; exact ⟨w.1, w.2.1⟩
    · exact gd_acs (s := s) w.2.2 m p h
  | .tk _, w, _, _, _ => w.elim
  | .mk _ _ _, w, _, _, _ => w.elim
  | .of _ _, w, _, _, _ => w.elim
  | .hd _ _, w, _, _, _ => w.elim
def spWt (n : Nat) : Sp := fun vs H Q _ => ∃ x R c ns k, vs = [x, .bl c] ∧ DV H R [x] ∧ Gd ns true k n R ∧ ∀ i : Int, (c = false → i = (nd R : Int)) → Q (.int i) H
theorem ok_wtS (n : Nat) (T : Top K mg "_law_weight" s_weight) (F : ∀ m, n = m + 1 → Fn P w K mg base (m + 1) "_law_weight" (spWt m)) : Fn P w K mg base (n + 1) "_law_weight" (spWt n) := by
  refine fn_ok T sc_weight so_weight (fun vs H Q E h => by obtain ⟨x, R, c, ns, k, rfl, _⟩ := h; rfl) (fun _ _ _ _ _ _ us hl => match us, hl with | [_, _], _ => rfl) fun f cdv A outer s H vs Q E hr h nd => ?_
  obtain ⟨x, R, c, ns, k, rfl, hx, hG, q⟩ := h
  refine l_cons (s_set (e_int ?_))
  show wL _ _ _ [some x, some (.bl c), some (.int 1), none] _
  cases R with
  | nil => exact hG.elim
  | pk d s => exact hG.elim
  | op n i s => exact hG.elim
  | py m p s => exact hG.elim
  | tk a =>
    obtain ⟨p, y, ex, hp, hy⟩ := hx
    cases ex
    obtain ⟨d', rfl, hG⟩ := hG
    refine l_cons (s_if (t_cmp (e_ix (e_var (e_int (ix_t (by exact SqT.of hp) at0 (e_str (o_eqS ⟨_, rfl, ?_⟩))))))))
    rw [decide_eq_false (by decide +kernel)]
    refine iteF (l_nil (l_cons (s_if (t_cmp (e_ix (e_var (e_int (ix_t (by exact SqT.of hp) at0 (e_str (o_neS ⟨_, rfl, ?_⟩))))))))))
    rw [decide_eq_false (by decide +kernel)]
    refine iteT (l_cons (s_ret (e_bin (e_var (e_call (by exact F d' rfl) (by exact hr) (by omega) (a_cons (e_ix (e_var (e_neg (e_int ⟨1, rfl, ix_t (by exact SqT.of hp) (last_at (l := [.str "take"])) (a_cons (e_var (a_nil ?_)))⟩))))))))))
    refine ⟨y, a, c, ns, k + 1, rfl, hy, hG, fun i hi => o_add (q _ fun hc => ?_)⟩
    rw [hi hc]
    show _ = ((K13.nd a + 1 : Nat) : Int)
    omega
  | mk n' j a =>
    obtain ⟨p, y, ex, hp, hy⟩ := hx
    cases ex
    obtain ⟨d', rfl, hG⟩ := hG
    refine l_cons (s_if (t_cmp (e_ix (e_var (e_int (ix_t (by exact SqT.of hp) at0 (e_str (o_eqS ⟨_, rfl, ?_⟩))))))))
    rw [decide_eq_false (by decide +kernel)]
    refine iteF (l_nil (l_cons (s_if (t_cmp (e_ix (e_var (e_int (ix_t (by exact SqT.of hp) at0 (e_str (o_neS ⟨_, rfl, ?_⟩))))))))))
    rw [decide_eq_false (by decide +kernel)]
    refine iteT (l_cons (s_ret (e_bin (e_var (e_call (by exact F d' rfl) (by exact hr) (by omega) (a_cons (e_ix (e_var (e_neg (e_int ⟨1, rfl, ix_t (by exact SqT.of hp) (last_at (l := [.str "make", .str n', .int j])) (a_cons (e_var (a_nil ?_)))⟩))))))))))
    refine ⟨y, a, c, ns, k, rfl, hy, hG, fun i hi => o_add (q _ fun hc => ?_)⟩
    rw [hi hc]
    show _ = ((K13.nd a + 1 : Nat) : Int)
    omega
  | of a b =>
    obtain ⟨p, y1, y2, ex, hp, hy1, hy2⟩ := hx
    cases ex
    obtain ⟨d', rfl, hG1, hG2⟩ := hG
    refine l_cons (s_if (t_cmp (e_ix (e_var (e_int (ix_t (by exact SqT.of hp) at0 (e_str (o_eqS ⟨_, rfl, ?_⟩))))))))
    rw [decide_eq_true rfl]
    refine iteT (l_cons (s_set (e_bin (e_int (e_call (by exact F d' rfl) (by exact hr) (by omega) (a_cons (e_ix (e_var (e_int (ix_t (by exact SqT.of hp) at1 (a_cons (e_var (a_nil ?_)))))))))))))
    refine ⟨y1, a, c, ns, k, rfl, hy1, hG1, fun i1 hi1 => o_add ?_⟩
    refine l_nil (l_cons (s_if (t_cmp (e_ix (e_var (e_int (ix_t (by exact SqT.of hp) at0 (e_str (o_neS ⟨_, rfl, ?_⟩)))))))))
    rw [decide_eq_false (by decide +kernel)]
    refine iteT (l_cons (s_ret (e_bin (e_var (e_call (by exact F d' rfl) (by exact hr) (by omega) (a_cons (e_ix (e_var (e_neg (e_int ⟨1, rfl, ix_t (by exact SqT.of hp) (last_at (l := [.str "offer", y1])) (a_cons (e_var (a_nil ?_)))⟩))))))))))
    refine ⟨y2, b, c, ns, k, rfl, hy2, hG2, fun i hi => o_add (q _ fun hc => ?_)⟩
    rw [hi hc, hi1 hc]
    show _ = ((K13.nd a + K13.nd b + 1 : Nat) : Int)
    omega
  | hd h s0 =>
    obtain ⟨p, r, ys, ex, hp, hrr, hys⟩ := hx
    cases ex
    obtain ⟨_, hal, hG⟩ := hG
    have hw := hG.wf
    have hacs := al_sp hw hys
    refine l_cons (s_if (t_cmp (e_ix (e_var (e_int (ix_t (by exact SqT.of hp) at0 (e_str (o_eqS ⟨_, rfl, ?_⟩))))))))
    rw [decide_eq_false (by decide +kernel)]
    refine iteF (l_nil (l_cons (s_if (t_cmp (e_ix (e_var (e_int (ix_t (by exact SqT.of hp) at0 (e_str (o_neS ⟨_, rfl, ?_⟩))))))))))
    rw [decide_eq_true rfl]
    refine iteF (l_nil (l_cons (s_forT (e_ix (e_var (e_int (ix_t (by exact SqT.of hp) (atI_nat (j := 2) rfl) ?_)))))))
    refine ⟨r, ys, rfl, SqT.of hrr, fun j σ H' => ∃ (i : Int) (y : Option V), σ = [some (.ref p), some (.bl c), some (.int i), y] ∧ H = H' ∧ (c = false → i = 1 + ((((acs s0).take j).map ndA).sum : Nat)), ⟨1, none, rfl, rfl, fun _ => by simp⟩, ?_, ?_, ?_⟩
    · rintro j σ H' _ ⟨i, y, rfl, rfl, hi⟩
      exact SqT.of hrr
    · rintro j y σ H' hy ⟨i, y', rfl, rfl, hi⟩
      obtain ⟨a, ha, hav⟩ := hacs.get hy
      have htk : (acs s0).take (j + 1) = (acs s0).take j ++ [a] := take_snoc' ha
      cases a with
      | pk d =>
        obtain ⟨g, rfl, hg⟩ := hav
        refine l_cons (s_set (e_bin (e_var (e_int (o_add ?_)))))
        refine l_cons (s_if (t_w (w_and (t_cmp (e_ix (e_var (e_int (ix_t (by exact SqT.of hg) at0 (e_str (o_eqS ⟨_, rfl, ?_⟩))))))))))
        rw [decide_eq_false (by decide +kernel)]
        refine iteF (iteF (l_cons (s_if (t_cmp (e_ix (e_var (e_int (ix_t (by exact SqT.of hg) at0 (e_str (o_eqS ⟨_, rfl, ?_⟩))))))))))
        rw [decide_eq_false (by decide +kernel)]
        refine iteF (l_nil (l_nil (l_nil ⟨i + 1, _, rfl, rfl, fun hc => ?_⟩)))
        rw [hi hc, htk, List.map_append, List.sum_append]
        show _ = 1 + (((_ + (1 + 0) : Nat)) : Int)
        omega
      | op n' i' =>
        obtain ⟨g, rfl, hg⟩ := hav
        refine l_cons (s_set (e_bin (e_var (e_int (o_add ?_)))))
        refine l_cons (s_if (t_w (w_and (t_cmp (e_ix (e_var (e_int (ix_t (by exact SqT.of hg) at0 (e_str (o_eqS ⟨_, rfl, ?_⟩))))))))))
        rw [decide_eq_false (by decide +kernel)]
        refine iteF (iteF (l_cons (s_if (t_cmp (e_ix (e_var (e_int (ix_t (by exact SqT.of hg) at0 (e_str (o_eqS ⟨_, rfl, ?_⟩))))))))))
        rw [decide_eq_false (by decide +kernel)]
        refine iteF (l_nil (l_nil (l_nil ⟨i + 1, _, rfl, rfl, fun hc => ?_⟩)))
        rw [hi hc, htk, List.map_append, List.sum_append]
        show _ = 1 + (((_ + (1 + 0) : Nat)) : Int)
        omega
      | py m p' =>
        obtain ⟨g, mv, y2, rfl, hg, hmv, hy2⟩ := hav
        obtain ⟨hmo, d', rfl, hGp⟩ := gd_acs hG m p' (List.mem_of_getElem? ha)
        have hin : ∀ (i2 : Int), (c = false → i2 = i + 1 + (K13.nd p' : Int)) → (∃ (i : Int) (y : Option V), [some (V.ref p), some (.bl c), some (.int i2), some (.ref g)] = [some (.ref p), some (.bl c), some (.int i), y] ∧ H = H ∧ (c = false → i = 1 + ((((acs s0).take (j + 1)).map ndA).sum : Nat))) := fun i2 hi2 => ⟨i2, _, rfl, rfl, fun hc => by
          rw [hi2 hc, hi hc, htk, List.map_append, List.sum_append]
          show _ = 1 + (((_ + (1 + K13.nd p' + 0) : Nat)) : Int)
          omega⟩
        refine l_cons (s_set (e_bin (e_var (e_int (o_add ?_)))))
        have elif : ∀ (NX BK CT : L2.St → Hp → Prop), (∀ i2 : Int, (c = false → i2 = i + 1 + (K13.nd p' : Int)) → NX [some (V.ref p), some (.bl c), some (.int i2), some (.ref g)] H) → wL (cxOf CX0 P w K mg base N_weight (Str.ofString "_law_weight") (defScope s_weight) f cdv A outer s H E).nox [stB (stB ((defBody s_weight).getD 3 nS) 0 1) 1 0] { nx := NX, rt := Q, bk := BK, ct := CT } [some (V.ref p), some (.bl c), some (.int (i + 1)), some (.ref g)] H := by
          intro NX BK CT hnx
          refine l_cons (s_if (t_cmp (e_ix (e_var (e_int (ix_t (by exact SqT.of hg) at0 (e_str (o_eqS ⟨_, rfl, ?_⟩))))))))
          rw [decide_eq_true rfl]
          refine iteT (l_cons (s_set (e_bin (e_var (e_call (by exact F d' rfl) (by exact hr) (by omega) (a_cons (e_ix (e_var (e_int (ix_t (by exact SqT.of hg) (atI_nat (j := 2) rfl) (a_cons (e_var (a_nil ?_)))))))))))))
          exact ⟨y2, p', c, ns, k, rfl, hy2, hGp, fun i2 hi2 => o_add (l_nil (l_nil (hnx _ fun hc => by rw [hi2 hc])))⟩
        refine l_cons (s_if (t_w (w_and (t_cmp (e_ix (e_var (e_int (ix_t (by exact SqT.of hg) at0 (e_str (o_eqS ⟨_, rfl, ?_⟩))))))))))
        rw [decide_eq_true rfl]
        refine iteT (w_and (t_val (e_var ⟨c, rfl, ?_⟩)))
        cases c with
        | false => exact iteF (iteF (elif _ _ _ fun i2 hi2 => l_nil (hin i2 hi2)))
        | true =>
          refine iteT (w_and1 (t_cmp (e_ix (e_var (e_int (ix_t (by exact SqT.of hg) at1 (e_str ?_)))))))
          cases m with
          | none =>
            cases (show mv = .str "once" from hmv)
            refine o_neS ⟨_, rfl, ?_⟩
            rw [decide_eq_true rfl]
            exact iteF (elif _ _ _ fun i2 hi2 => l_nil (hin i2 hi2))
          | some ab =>
            obtain ⟨a1, b1⟩ := ab
            obtain ⟨tm, rfl, htm⟩ := hmv
            obtain ⟨g1, g2, _, _⟩ := hmo
            refine o_nePS (by exact hr) htm (by decide +kernel) ⟨_, rfl, iteT ?_⟩
            refine l_cons (s_set (e_bin (e_var (e_bin (e_ix (e_ix (e_var (e_int (ix_t (by exact SqT.of hg) at1 (e_int (ix_t (by exact SqT.of htm) at0 ?_)))))))))))
            refine e_bin (e_int (e_call (by exact F d' rfl) (by exact hr) (by omega) (a_cons (e_ix (e_var (e_int (ix_t (by exact SqT.of hg) (atI_nat (j := 2) rfl) (a_cons (e_var (a_nil ?_))))))))))
            refine ⟨y2, p', true, ns, k, rfl, hy2, hGp, fun i2 hi2 => o_add (o_mul ?_ (o_add ?_))⟩
            · exact .inl ⟨by omega, by omega⟩
            · exact l_nil (l_nil (hin _ fun h => by cases h))
    · rintro σ H' ⟨i, y, rfl, rfl, hi⟩
      refine l_cons (s_ret (e_var (q i fun hc => ?_)))
      rw [hi hc, hacs.len, List.take_length]
      have := nd_sp (acs s0)
      rw [sp_acs hw] at this
      show _ = ((K13.nd s0 : Nat) : Int)
      omega
end



section
variable {P : Program} {w : World} {K : PySem.W.Frag} {mg : Str → Option Value} {base : Heap}
theorem ok_wt (T : Top K mg "_law_weight" s_weight) : ∀ n, Fn P w K mg base (n + 1) "_law_weight" (spWt n)
  | 0 => ok_wtS 0 T (fun _ h => by omega)
  | n + 1 => ok_wtS (n + 1) T (fun m h => by cases h; exact ok_wt T n)
end
/-! ### what the law's own reader makes -/
/-- an environment: the takes, the names -/
def EnB (ns : List Str) (H : Hp) (E : Addr) (t : List Nat) (l : Nat) : Prop := ∃ kvs, H E = some (.dK kvs) ∧ (kvs.map (·.1)).Nodup ∧ kvs.length ≤ 50 + l ∧ (∀ (j l' : Nat), t[j]? = some l' → ∃ u e, valV kvs (lv l') = some (.ref u) ∧ H u = some (.tup [.str "head", .int (j : Int), .ref e]) ∧ H e = some (.tup [])) ∧
  (∀ z ∈ ns, ∃ u e, valV kvs (.inr z) = some (.ref u) ∧ H u = some (.tup [.str "head", .str z, .ref e]) ∧ H e = some (.tup [])) ∧ ∀ l' ∈ t, l' < l
theorem EnB.ds {ns : List Str} {H H' : Hp} (e : DS H H') {E : Addr} {t : List Nat} {l : Nat} : EnB ns H E t l → EnB ns H' E t l := fun ⟨kvs, h1, h2, h3, h4, h5, h6⟩ =>
  ⟨kvs, e.2 _ _ h1, h2, h3, fun j l' hj => let ⟨u, x, a, b, c⟩ := h4 j l' hj; ⟨u, x, a, e.1 _ _ b, e.1 _ _ c⟩, fun z hz => let ⟨u, x, a, b, c⟩ := h5 z hz; ⟨u, x, a, e.1 _ _ b, e.1 _ _ c⟩, h6⟩
theorem EnB.put {ns : List Str} {H H' : Hp} {E D : Addr} {t : List Nat} {l : Nat} (h : EnB ns H E t l) (k : DS H H') {kvs : List (Key × V)} (hE : H E = some (.dK kvs)) {v : V} (hD : H' D = some (.dK (putK kvs (lv l) v))) : EnB ns H' D t (l + 1) := by
  obtain ⟨kvs', h1, h2, h3, h4, h5, h6⟩ := h
  rw [hE] at h1
  cases h1
  refine ⟨_, hD, nd_put _ _ h2, ?_, fun j l' hj => ?_, fun z hz => ?_, fun l' hl => Nat.lt_succ_of_lt (h6 l' hl)⟩
  · have := length_putK kvs (lv l) v
    omega
  · obtain ⟨a, b, c, d, f⟩ := h4 j l' hj
    have hl := h6 l' (List.mem_of_getElem? hj)
    refine ⟨a, b, ?_, k.1 _ _ d, k.1 _ _ f⟩
    rw [valV_put, if_neg (fun z => by
      have z2 : (l' : Int) = (l : Int) := Sum.inl.inj z
      omega)]
    exact c
  · obtain ⟨a, b, c, d, f⟩ := h5 z hz
    refine ⟨a, b, ?_, k.1 _ _ d, k.1 _ _ f⟩
    rw [valV_put, if_neg (fun z => by cases z)]
    exact c
theorem EnB.take {ns : List Str} {H H' : Hp} {E D u e : Addr} {t : List Nat} {l : Nat} (h : EnB ns H E t l) (k : DS H H') {kvs : List (Key × V)} (hE : H E = some (.dK kvs)) (hu : H' u = some (.tup [.str "head", .int (t.length : Int), .ref e])) (he : H' e = some (.tup [])) (hD : H' D = some (.dK (putK kvs (lv l) (.ref u)))) : EnB ns H' D (t ++ [l]) (l + 1) := by
  obtain ⟨kvs', h1, h2, h3, h4, h5, h6⟩ := h.put k hE hD
  rw [hD] at h1
  cases h1
  refine ⟨_, hD, h2, h3, fun j l' hj => ?_, h5, fun l' hl => ?_⟩
  · rcases Nat.lt_or_ge j t.length with hlt | hge
    · rw [List.getElem?_append_left hlt] at hj
      exact h4 j l' hj
    · rw [List.getElem?_append_right hge] at hj
      have hj0 : j - t.length = 0 := by
        have := (List.getElem?_eq_some_iff.mp hj).1
        simpa using this
      rw [hj0] at hj
      cases hj
      have : j = t.length := by omega
      subst this
      exact ⟨u, e, by rw [valV_put, if_pos rfl], hu, he⟩
  · rcases List.mem_append.mp hl with hl | hl
    · exact h6 l' hl
    · rw [List.mem_singleton.mp hl]; exact Nat.lt_succ_self _
def VlV (ns : List Str) (H : Hp) : Nat → Nat → Rd → List V → Prop
  | k, d, .tk a, xs => ∃ p x E, ∃ l : Nat, ∃ t : List Nat, xs = [.ref p] ∧ H p = some (.tup [.str "fun", x, .ref E, .int (l : Int)]) ∧ TrV H (stl a (l + 1) (t ++ [l]) (lv 0)) x ∧ EnB ns H E t l ∧ t.length = k ∧ l + 5 * (d + 1) ≤ 1000
  | k, d, .mk n i a, xs => ∃ p x, xs = [.ref p] ∧ H p = some (.tup [.str "made", .str n, .int i, x]) ∧ VlV ns H k (d - 1) a [x]
  | k, d, .of a b, xs => ∃ p x y, xs = [.ref p] ∧ H p = some (.tup [.str "pair", x, y]) ∧ VlV ns H k (d - 1) a [x] ∧ VlV ns H k (d - 1) b [y]
  | k, d, .hd h s, xs => ∃ p r ys, xs = [.ref p] ∧ H p = some (.tup [.str "head", kV h, .ref r]) ∧ H r = some (.tup ys) ∧ VlV ns H k d s ys
  | _, _, .nil, xs => xs = []
  | k, d, .pk z s, xs => ∃ t ys, xs = .ref t :: ys ∧ H t = some (.tup [.str "pick", .str z]) ∧ VlV ns H k d s ys
  | k, d, .op n i s, xs => ∃ t ys, xs = .ref t :: ys ∧ H t = some (.tup [.str "open", .str n, .int i]) ∧ VlV ns H k d s ys
  | k, d, .py m p s, xs => ∃ t mv x ys, xs = .ref t :: ys ∧ H t = some (.tup [.str "pay", mv, x]) ∧ FdV H (mF m) mv ∧ VlV ns H k (d - 1) p [x] ∧ VlV ns H k d s ys
theorem VlV.ds {ns : List Str} {H H' : Hp} (e : DS H H') : ∀ {R : Rd} {k d : Nat} {xs : List V}, VlV ns H k d R xs → VlV ns H' k d R xs
  | .tk _, _, _, _, ⟨p, x, E, l, t, h1, h2, h3, h4, h5, h6⟩ => ⟨p, x, E, l, t, h1, e.1 _ _ h2, h3.ts e.1, h4.ds e, h5, h6⟩
  | .mk _ _ _, _, _, _, ⟨t, x, h1, h2, h3⟩ => ⟨t, x, h1, e.1 _ _ h2, h3.ds e⟩
  | .of _ _, _, _, _, ⟨t, x, y, h1, h2, h3, h4⟩ => ⟨t, x, y, h1, e.1 _ _ h2, h3.ds e, h4.ds e⟩
  | .hd _ _, _, _, _, ⟨t, r, ys, h1, h2, h3, h4⟩ => ⟨t, r, ys, h1, e.1 _ _ h2, e.1 _ _ h3, h4.ds e⟩
  | .nil, _, _, _, h => h
  | .pk _ _, _, _, _, ⟨t, ys, h1, h2, h3⟩ => ⟨t, ys, h1, e.1 _ _ h2, h3.ds e⟩
  | .op _ _ _, _, _, _, ⟨t, ys, h1, h2, h3⟩ => ⟨t, ys, h1, e.1 _ _ h2, h3.ds e⟩
  | .py _ _ _, _, _, _, ⟨t, mv, x, ys, h1, h2, h3, h4, h5⟩ => ⟨t, mv, x, ys, h1, e.1 _ _ h2, h3.ts e.1, h4.ds e, h5.ds e⟩
/-- an action's value -/
def VlA (ns : List Str) (H : Hp) (k d : Nat) : Ac → V → Prop
  | .pk z, v => ∃ t, v = .ref t ∧ H t = some (.tup [.str "pick", .str z])
  | .op n i, v => ∃ t, v = .ref t ∧ H t = some (.tup [.str "open", .str n, .int i])
  | .py m p, v => ∃ t mv x, v = .ref t ∧ H t = some (.tup [.str "pay", mv, x]) ∧ FdV H (mF m) mv ∧ VlV ns H k (d - 1) p [x]
theorem VlA.ds {ns : List Str} {H H' : Hp} (e : DS H H') {k d : Nat} : ∀ {c : Ac} {v : V}, VlA ns H k d c v → VlA ns H' k d c v
  | .pk _, _, ⟨t, h1, h2⟩ => ⟨t, h1, e.1 _ _ h2⟩
  | .op _ _, _, ⟨t, h1, h2⟩ => ⟨t, h1, e.1 _ _ h2⟩
  | .py _ _, _, ⟨t, mv, x, h1, h2, h3, h4⟩ => ⟨t, mv, x, h1, e.1 _ _ h2, h3.ts e.1, h4.ds e⟩
theorem vl_sp {ns : List Str} {H : Hp} {k d : Nat} : ∀ {s : Rd} {vs : List V}, Wf false s → Al (VlA ns H k d) (acs s) vs → VlV ns H k d s vs
  | .nil, _, _, h => h
  | .pk _ _, _, w, ⟨v, us, h1, ⟨t, he, h2⟩, h3⟩ => ⟨t, us, by rw [h1, he], h2, vl_sp w h3⟩
  | .op _ _ _, _, w, ⟨v, us, h1, ⟨t, he, h2⟩, h3⟩ => ⟨t, us, by rw [h1, he], h2, vl_sp w h3⟩
  | .py _ _ _, _, w, ⟨v, us, h1, ⟨t, mv, x, he, h2, h4, h5⟩, h3⟩ => ⟨t, mv, x, us, by rw [h1, he], h2, h4, h5, vl_sp w.2 h3⟩
theorem sp_vl {ns : List Str} {H : Hp} {k d : Nat} : ∀ {s : Rd} {vs : List V}, Wf false s → VlV ns H k d s vs → Al (VlA ns H k d) (acs s) vs
  | .nil, _, _, h => h
  | .pk _ _, _, w, ⟨t, us, h1, h2, h3⟩ => ⟨.ref t, us, h1, ⟨t, rfl, h2⟩, sp_vl w h3⟩
  | .op _ _ _, _, w, ⟨t, us, h1, h2, h3⟩ => ⟨.ref t, us, h1, ⟨t, rfl, h2⟩, sp_vl w h3⟩
  | .py _ _ _, _, w, ⟨t, mv, x, us, h1, h2, h4, h5, h3⟩ => ⟨.ref t, us, h1, ⟨t, mv, x, rfl, h2, h4, h5⟩, sp_vl w.2 h3⟩
/-- what a reference means there -/
def EnR (ns : List Str) (H : Hp) (k d : Nat) (E : Addr) (r h : Key) (acc : List Ac) : Prop := ∃ kvs u e xs, H E = some (.dK kvs) ∧ valV kvs r = some (.ref u) ∧ H u = some (.tup [.str "head", kV h, .ref e]) ∧ H e = some (.tup xs) ∧ Al (VlA ns H k d) acc xs
theorem EnR.ds {ns : List Str} {H H' : Hp} (e : DS H H') {k d : Nat} {E : Addr} {r h : Key} {acc : List Ac} : EnR ns H k d E r h acc → EnR ns H' k d E r h acc := fun ⟨kvs, u, x, xs, h1, h2, h3, h4, h5⟩ => ⟨kvs, u, x, xs, e.2 _ _ h1, h2, e.1 _ _ h3, e.1 _ _ h4, h5.mono fun _ _ => VlA.ds e⟩
theorem EnB.enR {ns : List Str} {H : Hp} {d : Nat} {E : Addr} {t : List Nat} {l : Nat} (h : EnB ns H E t l) : ∀ {k : Key}, OkN ns t.length k → EnR ns H t.length d E (rfo t k) k []
  | .inl i, ho => by
    obtain ⟨kvs, h1, _, _, h4, _⟩ := h
    have hj : i.toNat < t.length := by have : 0 ≤ i ∧ i < (t.length : Int) := ho; omega
    obtain ⟨u, e, a, b, c⟩ := h4 _ _ (List.getElem?_eq_getElem hj)
    have hi : ((i.toNat : Nat) : Int) = i := Int.toNat_of_nonneg ho.1
    rw [hi] at b
    have er : rfo t (.inl i) = lv t[i.toNat] := by
      show (match t[i.toNat]? with | some l => lv l | none => Sum.inl i) = _
      rw [List.getElem?_eq_getElem hj]
    exact ⟨kvs, u, e, [], h1, by rw [er]; exact a, b, c, rfl⟩
  | .inr z, ho => by
    obtain ⟨kvs, h1, _, _, _, h5, _⟩ := h
    obtain ⟨u, e, a, b, c⟩ := h5 z ho
    exact ⟨kvs, u, e, [], h1, a, b, c, rfl⟩
section
variable {P : Program} {w : World} {K : PySem.W.Frag} {mg : Str → Option Value} {base : Heap}
def spPayH : Sp := fun vs H Q _ => ∃ S u h e xs mv x, vs = [S, .ref u, mv, x] ∧ H u = some (.tup [.str "head", kV h, .ref e]) ∧ H e = some (.tup xs) ∧ xs.length ≤ 1000 ∧ ∀ w f g H', Same H H' → H' w = some (.tup [.str "head", kV h, .ref f]) → H' f = some (.tup (xs ++ [.ref g])) → H' g = some (.tup [.str "pay", mv, x]) → Q (.ref w) H'
theorem ok_payH (T : Top K mg "_law_pay" s_pay) : Fn P w K mg base 1 "_law_pay" spPayH := by
  refine fn_ok T sc_pay so_pay (fun vs H Q E h => by obtain ⟨S, u, h, e, xs, mv, x, rfl, _⟩ := h; rfl) (fun _ _ _ _ _ _ us hl => match us, hl with | [_, _, _, _], _ => rfl) fun f cdv A outer s H vs Q E hr h nd => ?_
  obtain ⟨S, u, h, e, xs, mv, x, rfl, hu, he, hl, q⟩ := h
  refine l_cons (s_if (t_cmp (e_ix (e_var (e_int (ix_t (by exact SqT.of hu) at0 (e_str (o_eqS ⟨_, rfl, ?_⟩))))))))
  rw [decide_eq_false (by decide +kernel)]
  refine iteF (l_nil (l_cons (s_ret (e_tup (a_cons (e_str (a_cons (e_ix (e_var (e_int (ix_t (by exact SqT.of hu) at1 ?_)))))))))))
  refine a_cons (e_bin (e_ix (e_var (e_int (ix_t (by exact SqT.of hu) (atI_nat (j := 2) rfl) (e_tup (a_cons (e_tup (a_cons (e_str (a_cons (e_var (a_cons (e_var (a_nil ?_)))))))))))))))
  refine ⟨by show 3 ≤ sizeLine; decide, fun g H1 e1 n1 h1 => a_nil ?_⟩
  refine ⟨by show 1 ≤ sizeLine; decide, fun t2 H2 e2 n2 h2 => ?_⟩
  refine o_catA ((e1.trans e2) _ _ he) h2 (by simp only [List.length_cons, List.length_nil]; omega) fun f H3 e3 h3 => a_nil ?_
  refine ⟨by show 3 ≤ sizeLine; decide, fun w' H4 e4 n4 h4 => ?_⟩
  exact q w' f g H4 ((e1.trans e2).trans (e3.trans e4)) h4 (e4 _ _ h3) (e4 _ _ (e3 _ _ (e2 _ _ h1)))
def spOpH : Sp := fun vs H Q _ => ∃ S u h e xs n i, vs = [S, .ref u, .str n, .int i] ∧ H u = some (.tup [.str "head", kV h, .ref e]) ∧ H e = some (.tup xs) ∧ xs.length ≤ 1000 ∧ ∀ w f g H', Same H H' → H' w = some (.tup [.str "head", kV h, .ref f]) → H' f = some (.tup (xs ++ [.ref g])) → H' g = some (.tup [.str "open", .str n, .int i]) → Q (.ref w) H'
theorem ok_opH (T : Top K mg "_law_open" s_open) : Fn P w K mg base 1 "_law_open" spOpH := by
  refine fn_ok T sc_open so_open (fun vs H Q E h => by obtain ⟨S, u, h, e, xs, n, i, rfl, _⟩ := h; rfl) (fun _ _ _ _ _ _ us hl => match us, hl with | [_, _, _, _], _ => rfl) fun f cdv A outer s H vs Q E hr h nd => ?_
  obtain ⟨S, u, h, e, xs, n, i, rfl, hu, he, hl, q⟩ := h
  refine l_cons (s_if (t_cmp (e_ix (e_var (e_int (ix_t (by exact SqT.of hu) at0 (e_str (o_eqS ⟨_, rfl, ?_⟩))))))))
  rw [decide_eq_false (by decide +kernel)]
  refine iteF (l_nil (l_cons (s_ret (e_tup (a_cons (e_str (a_cons (e_ix (e_var (e_int (ix_t (by exact SqT.of hu) at1 ?_)))))))))))
  refine a_cons (e_bin (e_ix (e_var (e_int (ix_t (by exact SqT.of hu) (atI_nat (j := 2) rfl) (e_tup (a_cons (e_tup (a_cons (e_str (a_cons (e_var (a_cons (e_var (a_nil ?_)))))))))))))))
  refine ⟨by show 3 ≤ sizeLine; decide, fun g H1 e1 n1 h1 => a_nil ?_⟩
  refine ⟨by show 1 ≤ sizeLine; decide, fun t2 H2 e2 n2 h2 => ?_⟩
  refine o_catA ((e1.trans e2) _ _ he) h2 (by simp only [List.length_cons, List.length_nil]; omega) fun f H3 e3 h3 => a_nil ?_
  refine ⟨by show 3 ≤ sizeLine; decide, fun w' H4 e4 n4 h4 => ?_⟩
  exact q w' f g H4 ((e1.trans e2).trans (e3.trans e4)) h4 (e4 _ _ h3) (e4 _ _ (e3 _ _ (e2 _ _ h1)))
end



section
variable {P : Program} {w : World} {K : PySem.W.Frag} {mg : Str → Option Value} {base : Heap}
def spVal (n : Nat) : Sp := fun vs H Q _ => ∃ S v E, ∃ l : Nat, ∃ t : List Nat, ∃ ns d, vs = [S, v, .ref E, .int (l : Int)] ∧ EnB ns H E t l ∧
  ((∃ R, TrV H (stl R l t (lv 0)) v ∧ Gd ns true t.length d R ∧ (stl R l t (lv 0)).dep ≤ n ∧ l + 5 * (d + 1) ≤ 1000 ∧ ∀ x H', Same H H' → VlV ns H' t.length d R [x] → Q x H') ∨
  (∃ r h acc s, TrV H (stl s l t r) v ∧ Gd ns false t.length d s ∧ (stl s l t r).dep ≤ n ∧ EnR ns H t.length d E r h acc ∧ acc.length + al s ≤ 500 ∧ l + al s + 5 * d ≤ 1000 ∧ ∀ u e ys H', Same H H' → H' u = some (.tup [.str "head", kV h, .ref e]) → H' e = some (.tup ys) → Al (VlA ns H' t.length d) (acc ++ acs s) ys → Q (.ref u) H'))
theorem ok_valS (n : Nat) (T : Top K mg "_law_value" s_value) (FE : Fn P w K mg base 1 "_law_env" spEnv) (FP : Fn P w K mg base 1 "_law_pay" spPayH) (FO : Fn P w K mg base 1 "_law_open" spOpH) (F : ∀ m, n = m + 1 → Fn P w K mg base (m + 3) "_law_value" (spVal m)) : Fn P w K mg base (n + 3) "_law_value" (spVal n) := by
  refine fn_ok T sc_value so_value (fun vs H Q E h => by obtain ⟨S, v, E, l, t, ns, d, rfl, _⟩ := h; rfl) (fun _ _ _ _ _ _ us hl => match us, hl with | [_, _, _, _], _ => rfl) fun f cdv A outer s H vs Q E0 hr h nd => ?_
  obtain ⟨S, v, E, l, t, ns, d, rfl, hen, q⟩ := h
  have hen' := hen
  obtain ⟨kvs, hE, hnd, hkl, _⟩ := hen'
  -- the last row
  have close : ∀ (nm : Str) (p u e : Addr) (zs ys : List V) (x : V) (H1 : Hp) (h : Key) (acc : List Ac) (s1 : Rd) (m : Nat), n = m + 1 → Same H H1 → H1 p = some (.tup (zs ++ [x])) → H1 u = some (.tup [.str "head", kV h, .ref e]) → H1 e = some (.tup ys) → Al (VlA ns H1 t.length d) acc ys → TrV H1 (stl s1 (l + 1) t (lv l)) x → Gd ns false t.length d s1 → (stl s1 (l + 1) t (lv l)).dep ≤ m → acc.length + al s1 ≤ 500 → l + 1 + al s1 + 5 * d ≤ 1000 → (∀ u e ys H', Same H1 H' → H' u = some (.tup [.str "head", kV h, .ref e]) → H' e = some (.tup ys) → Al (VlA ns H' t.length d) (acc ++ acs s1) ys → Q (.ref u) H') → ∀ (NX BK CT : L2.St → Hp → Prop), wL (cxOf CX0 P w K mg base N_value (Str.ofString "_law_value") (defScope s_value) f cdv A outer s H E0).nox ((defBody s_value).drop 7) { nx := NX, rt := Q, bk := BK, ct := CT } [some S, some (.ref p), some (.ref E), some (.int (l : Int)), some (.str nm), some (.ref u)] H1 := by
    intro nm p u e zs ys x H1 h acc s1 m hnm e1 hp hu he hys hx hG hdep hla hll q NX BK CT
    refine l_cons (s_ret (e_call (by exact F m hnm) (by exact hr) (by omega) ?_))
    refine a_cons (e_var (a_cons (e_ix (e_var (e_neg (e_int ⟨1, rfl, ix_t (by exact SqT.of hp) last_at ?_⟩))))))
    refine a_cons (e_call (by exact FE) (by exact hr) (by omega) (a_cons (e_var (a_cons (e_var (a_cons (e_var (a_nil ?_))))))))
    refine ⟨E, lv l, kvs, .ref u, rfl, e1 _ _ hE, hnd, by omega, fun D H2 e2 n2 h2 => a_cons (e_bin (e_var (e_int (o_add (a_nil ?_)))))⟩
    have e12 := e1.trans e2
    have d12 := DS.of e12
    refine ⟨S, x, D, l + 1, t, ns, d, by rw [show ((l : Int) + 1) = ((l + 1 : Nat) : Int) by omega], hen.put d12 hE h2, .inr ⟨lv l, h, acc, s1, hx.ts (Same.ts e2), hG, hdep, ⟨_, u, e, ys, h2, by rw [valV_put, if_pos rfl], e2 _ _ hu, e2 _ _ he, hys.mono fun _ _ => VlA.ds (DS.of e2)⟩, hla, hll, fun u' e' ys' H3 e3 g1 g2 g3 => q u' e' ys' H3 (e2.trans e3) g1 g2 g3⟩⟩
  have spine : ∀ (r h : Key) (acc : List Ac) (s0 : Rd), TrV H (stl s0 l t r) v → Gd ns false t.length d s0 → (stl s0 l t r).dep ≤ n → EnR ns H t.length d E r h acc → acc.length + al s0 ≤ 500 → l + al s0 + 5 * d ≤ 1000 → (∀ u e ys H', Same H H' → H' u = some (.tup [.str "head", kV h, .ref e]) → H' e = some (.tup ys) → Al (VlA ns H' t.length d) (acc ++ acs s0) ys → Q (.ref u) H') → wL (cxOf CX0 P w K mg base N_value (Str.ofString "_law_value") (defScope s_value) f cdv A outer s H E0).nox (defBody s_value) { nx := fun _ H' => Q .non H', rt := Q } (start N_value [S, v, .ref E, .int (l : Int)]) H := by
    intro r h acc s0 hv hG hdep her hla hll qs
    obtain ⟨kvs', u, e, xs, hE', hval, hu, he, hxs⟩ := her
    rw [hE] at hE'
    cases hE'
    have lxs := hxs.len
    have hdg : DGet H E (kV r) (some (.ref u)) := by rw [← hval]; exact dg_K hE
    cases s0 with
    | tk a => exact hG.elim
    | mk n i a => exact hG.elim
    | of a b => exact hG.elim
    | hd h s => exact hG.elim
    | nil =>
      obtain ⟨p, zs, rfl, hp, fs, rfl, hfs⟩ := hv
      cases (show fs = [] from hfs)
      have hp : H p = some (.tup [.str "own", kV r]) := hp
      refine l_cons (s_set (e_ix (e_var (e_int (ix_t (by exact SqT.of hp) at0 ?_)))))
      show wL _ _ _ [some S, some (.ref p), some (.ref E), some (.int (l : Int)), some (.str "own"), none] _
      refine l_cons (s_if (t_cmp (e_var (e_str (o_eqS ⟨_, rfl, ?_⟩)))))
      rw [decide_eq_true rfl]
      refine iteT (l_cons (s_ret (e_dg (by exact hr) (e_var (e_ix (e_var (e_int (ix_t (by exact SqT.of hp) at1 ?_))))))))
      refine ⟨E, .ref u, rfl, hdg, qs u e xs H (Same.refl H) hu he ?_⟩
      rw [show acs Rd.nil = [] from rfl, List.append_nil]
      exact hxs
    | pk z s1 =>
      obtain ⟨p, zs, x, rfl, hp, ⟨fs, rfl, f1, fs1, rfl, hf1, hfs⟩, hx⟩ := hv
      cases (show fs1 = [] from hfs)
      cases (show f1 = .str z from hf1)
      have hp : H p = some (.tup ([.str "pick", kV r, .str z] ++ [x])) := hp
      obtain ⟨m, rfl⟩ : ∃ m, n = m + 1 := ⟨n - 1, by have : (stl s1 (l + 1) t (lv l)).dep + 1 ≤ n := hdep; omega⟩
      refine l_cons (s_set (e_ix (e_var (e_int (ix_t (by exact SqT.of hp) at0 ?_)))))
      show wL _ _ _ [some S, some (.ref p), some (.ref E), some (.int (l : Int)), some (.str "pick"), none] _
      refine l_cons (s_if (t_cmp (e_var (e_str (o_eqS ⟨_, rfl, ?_⟩)))))
      rw [decide_eq_false (by decide +kernel)]
      refine iteF (l_nil ?_)
      refine l_cons (s_if (t_cmp (e_var (e_str (o_eqS ⟨_, rfl, ?_⟩)))))
      rw [decide_eq_false (by decide +kernel)]
      refine iteF (l_nil ?_)
      refine l_cons (s_if (t_cmp (e_var (e_str (o_eqS ⟨_, rfl, ?_⟩)))))
      rw [decide_eq_false (by decide +kernel)]
      refine iteF (l_nil ?_)
      refine l_cons (s_if (t_cmp (e_var (e_str (o_eqS ⟨_, rfl, ?_⟩)))))
      rw [decide_eq_false (by decide +kernel)]
      refine iteF (l_nil ?_)
      refine l_cons (s_if (t_cmp (e_var (e_str (o_eqS ⟨_, rfl, ?_⟩)))))
      rw [decide_eq_false (by decide +kernel)]
      refine iteF (l_nil ?_)
      refine l_cons (s_if (t_cmp (e_var (e_str (o_eqS ⟨_, rfl, ?_⟩)))))
      rw [decide_eq_false (by decide +kernel)]
      refine iteF (l_cons (s_if (t_cmp (e_var (e_str (o_eqS ⟨_, rfl, ?_⟩))))))
      rw [decide_eq_false (by decide +kernel)]
      refine iteF (l_cons (s_if (t_cmp (e_var (e_str (o_eqS ⟨_, rfl, ?_⟩))))))
      rw [decide_eq_false (by decide +kernel)]
      refine iteF (l_cons (s_if (t_cmp (e_ix (e_dg (by exact hr) (e_var (e_ix (e_var (e_int (ix_t (by exact SqT.of hp) at1 ?_))))))))))
      refine ⟨E, .ref u, rfl, hdg, e_int (ix_t (by exact SqT.of hu) at0 (e_str (o_eqS ⟨_, rfl, ?_⟩)))⟩
      rw [decide_eq_false (by decide +kernel)]
      refine iteF (l_cons (s_set (e_tup (a_cons (e_str (a_cons (e_ix (e_dg (by exact hr) (e_var (e_ix (e_var (e_int (ix_t (by exact SqT.of hp) at1 ?_)))))))))))))
      refine ⟨E, .ref u, rfl, hdg, e_int (ix_t (by exact SqT.of hu) at1 (a_cons (e_bin (e_ix (e_dg (by exact hr) (e_var (e_ix (e_var (e_int (ix_t (by exact SqT.of hp) at1 ?_))))))))))⟩
      refine ⟨E, .ref u, rfl, hdg, e_int (ix_t (by exact SqT.of hu) (atI_nat (j := 2) rfl) (e_tup (a_cons (e_tup (a_cons (e_str (a_cons (e_ix (e_var (e_int (ix_t (by exact SqT.of hp) (atI_nat (j := 2) rfl) (a_nil ?_))))))))))))⟩
      refine ⟨by show 2 ≤ sizeLine; decide, fun g H1 e1 n1 h1 => a_nil ?_⟩
      refine ⟨by show 1 ≤ sizeLine; decide, fun t2 H2 e2 n2 h2 => ?_⟩
      refine o_catA ((e1.trans e2) _ _ he) h2 (by simp only [List.length_cons, List.length_nil]; omega) fun f2 H3 e3 h3 => a_nil ?_
      refine ⟨by show 3 ≤ sizeLine; decide, fun w' H4 e4 n4 h4 => ?_⟩
      have e04 := (e1.trans e2).trans (e3.trans e4)
      have hla : acc.length + (al s1 + 1) ≤ 500 := hla
      have hll : l + (al s1 + 1) + 5 * d ≤ 1000 := hll
      have hA : Al (VlA ns H4 t.length d) (acc ++ [.pk z]) (xs ++ [.ref g]) := (hxs.mono fun _ _ => VlA.ds (DS.of e04)).app ⟨_, [], rfl, ⟨g, rfl, e4 _ _ (e3 _ _ (e2 _ _ h1))⟩, rfl⟩
      refine l_nil (l_nil (l_nil (l_nil (close "pick" p w' f2 _ _ x H4 h (acc ++ [.pk z]) s1 m rfl e04 (e04 _ _ hp) h4 (e4 _ _ h3) hA (hx.ts (Same.ts e04)) hG.2 (Nat.le_of_succ_le_succ hdep) (by rw [List.length_append]; simp only [List.length_cons, List.length_nil]; omega) (by omega) (fun u' e' ys' H' e5 g1 g2 g3 => qs u' e' ys' H' (e04.trans e5) g1 g2 ?_) _ _ _))))
      rw [List.append_assoc] at g3
      exact g3
    | op z i s1 =>
      obtain ⟨p, zs, x, rfl, hp, ⟨fs, rfl, f1, fs1, rfl, hf1, f2, fs2, rfl, hf2, hfs⟩, hx⟩ := hv
      cases (show fs2 = [] from hfs)
      cases (show f1 = .str z from hf1)
      cases (show f2 = .int i from hf2)
      have hp : H p = some (.tup ([.str "open", kV r, .str z, .int i] ++ [x])) := hp
      obtain ⟨m, rfl⟩ : ∃ m, n = m + 1 := ⟨n - 1, by have : (stl s1 (l + 1) t (lv l)).dep + 1 ≤ n := hdep; omega⟩
      refine l_cons (s_set (e_ix (e_var (e_int (ix_t (by exact SqT.of hp) at0 ?_)))))
      show wL _ _ _ [some S, some (.ref p), some (.ref E), some (.int (l : Int)), some (.str "open"), none] _
      refine l_cons (s_if (t_cmp (e_var (e_str (o_eqS ⟨_, rfl, ?_⟩)))))
      rw [decide_eq_false (by decide +kernel)]
      refine iteF (l_nil ?_)
      refine l_cons (s_if (t_cmp (e_var (e_str (o_eqS ⟨_, rfl, ?_⟩)))))
      rw [decide_eq_false (by decide +kernel)]
      refine iteF (l_nil ?_)
      refine l_cons (s_if (t_cmp (e_var (e_str (o_eqS ⟨_, rfl, ?_⟩)))))
      rw [decide_eq_false (by decide +kernel)]
      refine iteF (l_nil ?_)
      refine l_cons (s_if (t_cmp (e_var (e_str (o_eqS ⟨_, rfl, ?_⟩)))))
      rw [decide_eq_false (by decide +kernel)]
      refine iteF (l_nil ?_)
      refine l_cons (s_if (t_cmp (e_var (e_str (o_eqS ⟨_, rfl, ?_⟩)))))
      rw [decide_eq_false (by decide +kernel)]
      refine iteF (l_nil ?_)
      refine l_cons (s_if (t_cmp (e_var (e_str (o_eqS ⟨_, rfl, ?_⟩)))))
      rw [decide_eq_false (by decide +kernel)]
      refine iteF (l_cons (s_if (t_cmp (e_var (e_str (o_eqS ⟨_, rfl, ?_⟩))))))
      rw [decide_eq_false (by decide +kernel)]
      refine iteF (l_cons (s_if (t_cmp (e_var (e_str (o_eqS ⟨_, rfl, ?_⟩))))))
      rw [decide_eq_true rfl]
      refine iteT (l_cons (s_set (e_call (by exact FO) (by exact hr) (by omega) (a_cons (e_var (a_cons (e_dg (by exact hr) (e_var (e_ix (e_var (e_int (ix_t (by exact SqT.of hp) at1 ?_))))))))))))
      refine ⟨E, .ref u, rfl, hdg, a_cons (e_ix (e_var (e_int (ix_t (by exact SqT.of hp) (atI_nat (j := 2) rfl) (a_cons (e_ix (e_var (e_int (ix_t (by exact SqT.of hp) (atI_nat (j := 3) rfl) (a_nil ?_))))))))))⟩
      refine ⟨S, u, h, e, xs, z, i, rfl, hu, he, by omega, fun w' f2 g H4 e04 h4 h3 h1 => ?_⟩
      have hla : acc.length + (al s1 + 1) ≤ 500 := hla
      have hll : l + (al s1 + 1) + 5 * d ≤ 1000 := hll
      have hA : Al (VlA ns H4 t.length d) (acc ++ [.op z i]) (xs ++ [.ref g]) := (hxs.mono fun _ _ => VlA.ds (DS.of e04)).app ⟨_, [], rfl, ⟨g, rfl, h1⟩, rfl⟩
      refine l_nil (l_nil (l_nil (close "open" p w' f2 _ _ x H4 h (acc ++ [.op z i]) s1 m rfl e04 (e04 _ _ hp) h4 h3 hA (hx.ts (Same.ts e04)) hG (Nat.le_of_succ_le_succ hdep) (by rw [List.length_append]; simp only [List.length_cons, List.length_nil]; omega) (by omega) (fun u' e' ys' H' e5 g1 g2 g3 => qs u' e' ys' H' (e04.trans e5) g1 g2 ?_) _ _ _)))
      rw [List.append_assoc] at g3
      exact g3
    | py mo p0 s1 =>
      obtain ⟨p, zs, y, x, rfl, hp, ⟨fs, rfl, mv, fs1, rfl, hf1, hfs⟩, hy, hx⟩ := hv
      cases (show fs1 = [] from hfs)
      have hp : H p = some (.tup ([.str "pay", kV r, mv, y] ++ [x])) := hp
      obtain ⟨hmo, ⟨d', rfl, hGp⟩, hGs⟩ := hG
      have hdep' : max (stl p0 l t r).dep (stl s1 (l + 1) t (lv l)).dep + 1 ≤ n := hdep
      obtain ⟨m, rfl⟩ : ∃ m, n = m + 1 := ⟨n - 1, by omega⟩
      refine l_cons (s_set (e_ix (e_var (e_int (ix_t (by exact SqT.of hp) at0 ?_)))))
      show wL _ _ _ [some S, some (.ref p), some (.ref E), some (.int (l : Int)), some (.str "pay"), none] _
      refine l_cons (s_if (t_cmp (e_var (e_str (o_eqS ⟨_, rfl, ?_⟩)))))
      rw [decide_eq_false (by decide +kernel)]
      refine iteF (l_nil ?_)
      refine l_cons (s_if (t_cmp (e_var (e_str (o_eqS ⟨_, rfl, ?_⟩)))))
      rw [decide_eq_false (by decide +kernel)]
      refine iteF (l_nil ?_)
      refine l_cons (s_if (t_cmp (e_var (e_str (o_eqS ⟨_, rfl, ?_⟩)))))
      rw [decide_eq_false (by decide +kernel)]
      refine iteF (l_nil ?_)
      refine l_cons (s_if (t_cmp (e_var (e_str (o_eqS ⟨_, rfl, ?_⟩)))))
      rw [decide_eq_false (by decide +kernel)]
      refine iteF (l_nil ?_)
      refine l_cons (s_if (t_cmp (e_var (e_str (o_eqS ⟨_, rfl, ?_⟩)))))
      rw [decide_eq_false (by decide +kernel)]
      refine iteF (l_nil ?_)
      refine l_cons (s_if (t_cmp (e_var (e_str (o_eqS ⟨_, rfl, ?_⟩)))))
      rw [decide_eq_false (by decide +kernel)]
      refine iteF (l_cons (s_if (t_cmp (e_var (e_str (o_eqS ⟨_, rfl, ?_⟩))))))
      rw [decide_eq_true rfl]
      refine iteT (l_cons (s_set (e_call (by exact FP) (by exact hr) (by omega) (a_cons (e_var (a_cons (e_dg (by exact hr) (e_var (e_ix (e_var (e_int (ix_t (by exact SqT.of hp) at1 ?_))))))))))))
      refine ⟨E, .ref u, rfl, hdg, a_cons (e_ix (e_var (e_int (ix_t (by exact SqT.of hp) (atI_nat (j := 2) rfl) (a_cons (e_call (by exact F m rfl) (by exact hr) (by omega) ?_))))))⟩
      refine a_cons (e_var (a_cons (e_ix (e_var (e_int (ix_t (by exact SqT.of hp) (atI_nat (j := 3) rfl) (a_cons (e_var (a_cons (e_var (a_nil ?_)))))))))))
      rw [stl_r hGp.wf l t r (lv 0)] at hy hdep'
      refine ⟨S, y, E, l, t, ns, d', rfl, hen, .inl ⟨p0, hy, hGp, by omega, by omega, fun x' H1 e1 hx' => a_nil ?_⟩⟩
      refine ⟨S, u, h, e, xs, mv, x', rfl, e1 _ _ hu, e1 _ _ he, by omega, fun w' f2 g H4 e4 h4 h3 h1 => ?_⟩
      have e04 := e1.trans e4
      have hla : acc.length + (al s1 + 1) ≤ 500 := hla
      have hll : l + (al s1 + 1) + 5 * (d' + 1) ≤ 1000 := hll
      have hA : Al (VlA ns H4 t.length (d' + 1)) (acc ++ [.py mo p0]) (xs ++ [.ref g]) := (hxs.mono fun _ _ => VlA.ds (DS.of e04)).app ⟨_, [], rfl, ⟨g, mv, x', rfl, h1, hf1.ts (Same.ts e04), hx'.ds (DS.of e4)⟩, rfl⟩
      refine l_nil (l_nil (close "pay" p w' f2 _ _ x H4 h (acc ++ [.py mo p0]) s1 m rfl e04 (e04 _ _ hp) h4 h3 hA (hx.ts (Same.ts e04)) hGs (by omega) (by rw [List.length_append]; simp only [List.length_cons, List.length_nil]; omega) (by omega) (fun u' e' ys' H' e5 g1 g2 g3 => qs u' e' ys' H' (e04.trans e5) g1 g2 ?_) _ _ _))
      rw [List.append_assoc] at g3
      exact g3
  rcases q with ⟨R, hv, hG, hdep, hll, q⟩ | ⟨r, h, acc, s0, hv, hG, hdep, her, hla, hll, q⟩
  rotate_left
  · exact spine r h acc s0 hv hG hdep her hla hll q
  cases R with
  | nil => exact hG.elim
  | pk d s => exact hG.elim
  | op n i s => exact hG.elim
  | py m p s => exact hG.elim
  | hd h s0 =>
    obtain ⟨ho, hal, hG⟩ := hG
    refine spine (rfo t h) h [] s0 hv hG hdep (hen.enR ho) (by simp only [List.length_nil]; omega) (by omega) fun u e ys H' e1 g1 g2 g3 => ?_
    exact q (.ref u) H' e1 ⟨u, e, ys, rfl, g1, g2, vl_sp hG.wf g3⟩
  | tk a =>
    obtain ⟨p, zs, x, rfl, hp, ⟨fs, rfl, hfs⟩, hx⟩ := hv
    cases (show fs = [] from hfs)
    have hp : H p = some (.tup [.str "take", x]) := hp
    refine l_cons (s_set (e_ix (e_var (e_int (ix_t (by exact SqT.of hp) at0 ?_)))))
    show wL _ _ _ [some S, some (.ref p), some (.ref E), some (.int (l : Int)), some (.str "take"), none] _
    refine l_cons (s_if (t_cmp (e_var (e_str (o_eqS ⟨_, rfl, ?_⟩)))))
    rw [decide_eq_false (by decide +kernel)]
    refine iteF (l_nil ?_)
    refine l_cons (s_if (t_cmp (e_var (e_str (o_eqS ⟨_, rfl, ?_⟩)))))
    rw [decide_eq_true rfl]
    refine iteT (l_cons (s_ret (e_tup (a_cons (e_str (a_cons (e_ix (e_var (e_int (ix_t (by exact SqT.of hp) at1 (a_cons (e_var (a_cons (e_var (a_nil ?_)))))))))))))))
    refine ⟨by show 4 ≤ sizeLine; decide, fun g H1 e1 n1 h1 => ?_⟩
    exact q _ H1 e1 ⟨g, x, E, l, t, rfl, h1, hx.ts (Same.ts e1), hen.ds (DS.of e1), rfl, hll⟩
  | of a b =>
    obtain ⟨p, zs, x, y, rfl, hp, ⟨fs, rfl, hfs⟩, hx, hy⟩ := hv
    cases (show fs = [] from hfs)
    obtain ⟨d', rfl, hGa, hGb⟩ := hG
    have hp : H p = some (.tup [.str "offer", x, y]) := hp
    have hdep' : max (stl a l t (lv 0)).dep (stl b l t (lv 0)).dep + 1 ≤ n := hdep
    obtain ⟨m, rfl⟩ : ∃ m, n = m + 1 := ⟨n - 1, by omega⟩
    refine l_cons (s_set (e_ix (e_var (e_int (ix_t (by exact SqT.of hp) at0 ?_)))))
    show wL _ _ _ [some S, some (.ref p), some (.ref E), some (.int (l : Int)), some (.str "offer"), none] _
    refine l_cons (s_if (t_cmp (e_var (e_str (o_eqS ⟨_, rfl, ?_⟩)))))
    rw [decide_eq_false (by decide +kernel)]
    refine iteF (l_nil ?_)
    refine l_cons (s_if (t_cmp (e_var (e_str (o_eqS ⟨_, rfl, ?_⟩)))))
    rw [decide_eq_false (by decide +kernel)]
    refine iteF (l_nil ?_)
    refine l_cons (s_if (t_cmp (e_var (e_str (o_eqS ⟨_, rfl, ?_⟩)))))
    rw [decide_eq_true rfl]
    refine iteT (l_cons (s_ret (e_tup (a_cons (e_str (a_cons (e_call (by exact F m rfl) (by exact hr) (by omega) ?_)))))))
    refine a_cons (e_var (a_cons (e_ix (e_var (e_int (ix_t (by exact SqT.of hp) at1 (a_cons (e_var (a_cons (e_var (a_nil ?_)))))))))))
    refine ⟨S, x, E, l, t, ns, d', rfl, hen, .inl ⟨a, hx, hGa, by omega, by omega, fun x' H1 e1 hx' => a_cons (e_call (by exact F m rfl) (by exact hr) (by omega) ?_)⟩⟩
    refine a_cons (e_var (a_cons (e_ix (e_var (e_int (ix_t (by exact SqT.of (e1 _ _ hp)) (atI_nat (j := 2) rfl) (a_cons (e_var (a_cons (e_var (a_nil ?_)))))))))))
    refine ⟨S, y, E, l, t, ns, d', rfl, hen.ds (DS.of e1), .inl ⟨b, hy.ts (Same.ts e1), hGb, by omega, by omega, fun y' H2 e2 hy' => a_nil ?_⟩⟩
    refine ⟨by show 3 ≤ sizeLine; decide, fun g H3 e3 n3 h3 => ?_⟩
    exact q _ H3 ((e1.trans e2).trans e3) ⟨g, x', y', rfl, h3, hx'.ds (DS.of (e2.trans e3)), hy'.ds (DS.of e3)⟩
  | mk z i a =>
    obtain ⟨p, zs, x, rfl, hp, ⟨fs, rfl, f1, fs1, rfl, hf1, f2, fs2, rfl, hf2, hfs⟩, hx⟩ := hv
    cases (show fs2 = [] from hfs)
    cases (show f1 = .str z from hf1)
    cases (show f2 = .int i from hf2)
    obtain ⟨d', rfl, hGa⟩ := hG
    have hp : H p = some (.tup [.str "make", .str z, .int i, x]) := hp
    have hdep' : (stl a l t (lv 0)).dep + 1 ≤ n := hdep
    obtain ⟨m, rfl⟩ : ∃ m, n = m + 1 := ⟨n - 1, by omega⟩
    refine l_cons (s_set (e_ix (e_var (e_int (ix_t (by exact SqT.of hp) at0 ?_)))))
    show wL _ _ _ [some S, some (.ref p), some (.ref E), some (.int (l : Int)), some (.str "make"), none] _
    refine l_cons (s_if (t_cmp (e_var (e_str (o_eqS ⟨_, rfl, ?_⟩)))))
    rw [decide_eq_false (by decide +kernel)]
    refine iteF (l_nil ?_)
    refine l_cons (s_if (t_cmp (e_var (e_str (o_eqS ⟨_, rfl, ?_⟩)))))
    rw [decide_eq_false (by decide +kernel)]
    refine iteF (l_nil ?_)
    refine l_cons (s_if (t_cmp (e_var (e_str (o_eqS ⟨_, rfl, ?_⟩)))))
    rw [decide_eq_false (by decide +kernel)]
    refine iteF (l_nil ?_)
    refine l_cons (s_if (t_cmp (e_var (e_str (o_eqS ⟨_, rfl, ?_⟩)))))
    rw [decide_eq_true rfl]
    refine iteT (l_cons (s_ret (e_tup (a_cons (e_str (a_cons (e_ix (e_var (e_int (ix_t (by exact SqT.of hp) at1 (a_cons (e_ix (e_var (e_int (ix_t (by exact SqT.of hp) (atI_nat (j := 2) rfl) (a_cons (e_call (by exact F m rfl) (by exact hr) (by omega) ?_)))))))))))))))))
    refine a_cons (e_var (a_cons (e_ix (e_var (e_int (ix_t (by exact SqT.of hp) (atI_nat (j := 3) rfl) (a_cons (e_var (a_cons (e_var (a_nil ?_)))))))))))
    refine ⟨S, x, E, l, t, ns, d', rfl, hen, .inl ⟨a, hx, hGa, by omega, by omega, fun x' H1 e1 hx' => a_nil ?_⟩⟩
    refine ⟨by show 4 ≤ sizeLine; decide, fun g H3 e3 n3 h3 => ?_⟩
    exact q _ H3 (e1.trans e3) ⟨g, x', rfl, h3, hx'.ds (DS.of e3)⟩
theorem ok_val (T : Top K mg "_law_value" s_value) (FE : Fn P w K mg base 1 "_law_env" spEnv) (FP : Fn P w K mg base 1 "_law_pay" spPayH) (FO : Fn P w K mg base 1 "_law_open" spOpH) : ∀ n, Fn P w K mg base (n + 3) "_law_value" (spVal n)
  | 0 => ok_valS 0 T FE FP FO (fun _ h => by omega)
  | n + 1 => ok_valS (n + 1) T FE FP FO (fun m h => by cases h; exact ok_val T FE FP FO n)
end



theorem stl_dep {ns : List Str} : ∀ {b : Bool} {R : Rd} {k d : Nat}, Gd ns b k d R → ∀ l t r, (stl R l t r).dep ≤ (if b then 5 * (d + 1) else al R + 5 * d)
  | true, .tk a, _, _, ⟨d', rfl, h⟩, l, t, r => by
    have := stl_dep (R := a) h (l + 1) (t ++ [l]) r
    simp at this
    show (stl a (l + 1) (t ++ [l]) r).dep + 1 ≤ 5 * (d' + 1 + 1)
    omega
  | true, .mk _ _ a, _, _, ⟨d', rfl, h⟩, l, t, r => by
    have := stl_dep (R := a) h l t r
    simp at this
    show (stl a l t r).dep + 1 ≤ 5 * (d' + 1 + 1)
    omega
  | true, .of a b, _, _, ⟨d', rfl, h, h'⟩, l, t, r => by
    have h1 := stl_dep (R := a) h l t r
    have h2 := stl_dep (R := b) h' l t r
    simp at h1 h2
    show max (stl a l t r).dep (stl b l t r).dep + 1 ≤ 5 * (d' + 1 + 1)
    omega
  | true, .hd k s, _, d, ⟨_, h4, h⟩, l, t, r => by
    have := stl_dep (R := s) h l t (rfo t k)
    simp at this
    show (stl s l t (rfo t k)).dep ≤ 5 * (d + 1)
    omega
  | false, .nil, _, _, _, _, _, _ => Nat.zero_le _
  | false, .pk _ s, _, d, ⟨_, h⟩, l, t, r => by
    have := stl_dep (R := s) h (l + 1) t (lv l)
    simp at this
    show (stl s (l + 1) t (lv l)).dep + 1 ≤ al s + 1 + 5 * d
    omega
  | false, .op _ _ s, _, d, h, l, t, r => by
    have := stl_dep (R := s) h (l + 1) t (lv l)
    simp at this
    show (stl s (l + 1) t (lv l)).dep + 1 ≤ al s + 1 + 5 * d
    omega
  | false, .py _ p s, _, _, ⟨_, ⟨d', rfl, h⟩, h'⟩, l, t, r => by
    have h1 := stl_dep (R := p) h l t r
    have h2 := stl_dep (R := s) h' (l + 1) t (lv l)
    simp at h1 h2
    show max (stl p l t r).dep (stl s (l + 1) t (lv l)).dep + 1 ≤ al s + 1 + 5 * (d' + 1)
    omega
section
variable {P : Program} {w : World} {K : PySem.W.Frag} {mg : Str → Option Value} {base : Heap}
def spPayF : Sp := fun vs H Q _ => ∃ S p x E, ∃ l : Nat, ∃ t : List Nat, ∃ a d ns u e mv, vs = [S, .ref p, mv, .ref u] ∧ H p = some (.tup [.str "fun", x, .ref E, .int (l : Int)]) ∧ TrV H (stl a (l + 1) (t ++ [l]) (lv 0)) x ∧ EnB ns H E t l ∧ H u = some (.tup [.str "head", .int (t.length : Int), .ref e]) ∧ H e = some (.tup []) ∧ Gd ns true (t.length + 1) d a ∧ d ≤ 5 ∧ l + 1 + 5 * (d + 1) ≤ 1000 ∧
  ∀ x' H', Same H H' → VlV ns H' (t.length + 1) d a [x'] → Q x' H'
theorem ok_payF (T : Top K mg "_law_pay" s_pay) (FV : Fn P w K mg base 33 "_law_value" (spVal 30)) (FE : Fn P w K mg base 1 "_law_env" spEnv) : Fn P w K mg base 34 "_law_pay" spPayF := by
  refine fn_ok T sc_pay so_pay (fun vs H Q E h => by obtain ⟨S, p, x, E, l, t, a, d, ns, u, e, mv, rfl, _⟩ := h; rfl) (fun _ _ _ _ _ _ us hl => match us, hl with | [_, _, _, _], _ => rfl) fun f cdv A outer s H vs Q E hr h nd => ?_
  obtain ⟨S, p, x, E, l, t, a, d, ns, u, e, mv, rfl, hp, hx, hen, hu, he, hG, hd, hl, q⟩ := h
  have hen' := hen
  obtain ⟨kvs, hE, hnd, hkl, _⟩ := hen'
  refine l_cons (s_if (t_cmp (e_ix (e_var (e_int (ix_t (by exact SqT.of hp) at0 (e_str (o_eqS ⟨_, rfl, ?_⟩))))))))
  rw [decide_eq_true rfl]
  refine iteT (l_cons (s_ret (e_call (by exact FV) (by exact hr) (by decide) ?_)))
  refine a_cons (e_var (a_cons (e_ix (e_var (e_int (ix_t (by exact SqT.of hp) at1 (a_cons (e_call (by exact FE) (by exact hr) (by decide) ?_))))))))
  refine a_cons (e_ix (e_var (e_int (ix_t (by exact SqT.of hp) (atI_nat (j := 2) rfl) (a_cons (e_ix (e_var (e_int (ix_t (by exact SqT.of hp) (atI_nat (j := 3) rfl) (a_cons (e_var (a_nil ?_))))))))))))
  refine ⟨E, lv l, kvs, .ref u, rfl, hE, hnd, by omega, fun D H2 e2 n2 h2 => ?_⟩
  refine a_cons (e_bin (e_ix (e_var (e_int (ix_t (by exact SqT.of (e2 _ _ hp)) (atI_nat (j := 3) rfl) (e_int (o_add (a_nil ?_))))))))
  have hd' := stl_dep hG (l + 1) (t ++ [l]) (lv 0)
  simp at hd'
  have hlen : (t ++ [l]).length = t.length + 1 := by simp
  rw [← hlen] at hG q
  exact ⟨S, x, D, l + 1, t ++ [l], ns, d, by rw [show ((l : Int) + 1) = ((l + 1 : Nat) : Int) by omega], hen.take (DS.of e2) hE (e2 _ _ hu) (e2 _ _ he) h2, .inl ⟨a, hx.ts (Same.ts e2), hG, by omega, hl, fun x' H3 e3 hx' => q x' H3 (e2.trans e3) hx'⟩⟩
def spQu (n : Nat) : Sp := fun vs H Q _ => ∃ S R, ∃ k : Nat, ∃ x ns, vs = [S, x, .int (k : Int)] ∧ VlV ns H k n R [x] ∧ Gd ns true k n R ∧ n ≤ 5 ∧ ∀ y H', Same H H' → DV H' R [y] → Q y H'
theorem ok_quS (n : Nat) (T : Top K mg "_law_quote" s_quote) (mT : mg "tuple" = none) (FP : Fn P w K mg base 34 "_law_pay" spPayF) (F : ∀ m, n = m + 1 → Fn P w K mg base (m + 35) "_law_quote" (spQu m)) : Fn P w K mg base (n + 35) "_law_quote" (spQu n) := by
  refine fn_ok T sc_quote so_quote (fun vs H Q E h => by obtain ⟨S, R, k, x, ns, rfl, _⟩ := h; rfl) (fun _ _ _ _ _ _ us hl => match us, hl with | [_, _, _], _ => rfl) fun f cdv A outer s H vs Q E hr h nd => ?_
  obtain ⟨S, R, k, x, ns, rfl, hx, hG, hn, q⟩ := h
  cases R with
  | nil => exact hG.elim
  | pk d s => exact hG.elim
  | op n i s => exact hG.elim
  | py m p s => exact hG.elim
  | tk a =>
    obtain ⟨p, y, E, l, t, ex, hp, hy, hen, ht, hl⟩ := hx
    cases ex
    obtain ⟨m, rfl, hG⟩ := hG
    subst ht
    refine l_cons (s_if (t_cmp (e_ix (e_var (e_int (ix_t (by exact SqT.of hp) at0 (e_str (o_eqS ⟨_, rfl, ?_⟩))))))))
    rw [decide_eq_true rfl]
    refine iteT (l_cons (s_set (e_tup (a_cons (e_str (a_cons (e_var (a_cons (e_tup (a_nil ?_))))))))))
    refine ⟨by show 0 ≤ sizeLine; decide, fun e H1 e1 n1 h1 => a_nil ?_⟩
    refine ⟨by show 3 ≤ sizeLine; decide, fun u H2 e2 n2 h2 => ?_⟩
    have e12 := e1.trans e2
    refine l_cons (s_ret (e_tup (a_cons (e_str (a_cons (e_call (by exact F m rfl) (by exact hr) (by omega) (a_cons (e_var (a_cons (e_call (by exact FP) (by exact hr) (by omega) ?_))))))))))
    refine a_cons (e_var (a_cons (e_var (a_cons (e_str (a_cons (e_var (a_nil ?_))))))))
    refine ⟨S, p, y, E, l, t, a, m, ns, u, e, _, rfl, e12 _ _ hp, hy.ts (Same.ts e12), hen.ds (DS.of e12), h2, e2 _ _ h1, hG, by omega, by omega, fun x' H3 e3 hx' => a_cons (e_bin (e_var (e_int (o_add (a_nil ?_)))))⟩
    refine ⟨S, a, t.length + 1, x', ns, by rw [show ((t.length : Int) + 1) = ((t.length + 1 : Nat) : Int) by omega], hx', hG, by omega, fun y' H4 e4 hy' => a_nil ?_⟩
    refine ⟨by show 2 ≤ sizeLine; decide, fun g H5 e5 n5 h5 => ?_⟩
    exact q _ H5 ((e12.trans e3).trans (e4.trans e5)) ⟨g, y', rfl, h5, hy'.ts (Same.ts e5)⟩
  | of a b =>
    obtain ⟨p, y1, y2, ex, hp, hy1, hy2⟩ := hx
    cases ex
    obtain ⟨m, rfl, hG1, hG2⟩ := hG
    refine l_cons (s_if (t_cmp (e_ix (e_var (e_int (ix_t (by exact SqT.of hp) at0 (e_str (o_eqS ⟨_, rfl, ?_⟩))))))))
    rw [decide_eq_false (by decide +kernel)]
    refine iteF (l_nil (l_cons (s_if (t_cmp (e_ix (e_var (e_int (ix_t (by exact SqT.of hp) at0 (e_str (o_eqS ⟨_, rfl, ?_⟩))))))))))
    rw [decide_eq_true rfl]
    refine iteT (l_cons (s_ret (e_tup (a_cons (e_str (a_cons (e_call (by exact F m rfl) (by exact hr) (by omega) ?_)))))))
    refine a_cons (e_var (a_cons (e_ix (e_var (e_int (ix_t (by exact SqT.of hp) at1 (a_cons (e_var (a_nil ?_)))))))))
    refine ⟨S, a, k, y1, ns, rfl, hy1, hG1, by omega, fun x1 H1 e1 hx1 => a_cons (e_call (by exact F m rfl) (by exact hr) (by omega) ?_)⟩
    refine a_cons (e_var (a_cons (e_ix (e_var (e_int (ix_t (by exact SqT.of (e1 _ _ hp)) (atI_nat (j := 2) rfl) (a_cons (e_var (a_nil ?_)))))))))
    refine ⟨S, b, k, y2, ns, rfl, VlV.ds (DS.of e1) hy2, hG2, by omega, fun x2 H2 e2 hx2 => a_nil ?_⟩
    refine ⟨by show 3 ≤ sizeLine; decide, fun g H3 e3 n3 h3 => ?_⟩
    exact q _ H3 ((e1.trans e2).trans e3) ⟨g, x1, x2, rfl, h3, hx1.ts (Same.ts (e2.trans e3)), hx2.ts (Same.ts e3)⟩
  | mk z i a =>
    obtain ⟨p, y, ex, hp, hy⟩ := hx
    cases ex
    obtain ⟨m, rfl, hG⟩ := hG
    refine l_cons (s_if (t_cmp (e_ix (e_var (e_int (ix_t (by exact SqT.of hp) at0 (e_str (o_eqS ⟨_, rfl, ?_⟩))))))))
    rw [decide_eq_false (by decide +kernel)]
    refine iteF (l_nil (l_cons (s_if (t_cmp (e_ix (e_var (e_int (ix_t (by exact SqT.of hp) at0 (e_str (o_eqS ⟨_, rfl, ?_⟩))))))))))
    rw [decide_eq_false (by decide +kernel)]
    refine iteF (l_nil (l_cons (s_if (t_cmp (e_ix (e_var (e_int (ix_t (by exact SqT.of hp) at0 (e_str (o_eqS ⟨_, rfl, ?_⟩))))))))))
    rw [decide_eq_true rfl]
    refine iteT (l_cons (s_ret (e_tup (a_cons (e_str (a_cons (e_ix (e_var (e_int (ix_t (by exact SqT.of hp) at1 (a_cons (e_ix (e_var (e_int (ix_t (by exact SqT.of hp) (atI_nat (j := 2) rfl) (a_cons (e_call (by exact F m rfl) (by exact hr) (by omega) ?_)))))))))))))))))
    refine a_cons (e_var (a_cons (e_ix (e_var (e_int (ix_t (by exact SqT.of hp) (atI_nat (j := 3) rfl) (a_cons (e_var (a_nil ?_)))))))))
    refine ⟨S, a, k, y, ns, rfl, hy, hG, by omega, fun x1 H1 e1 hx1 => a_nil ?_⟩
    refine ⟨by show 4 ≤ sizeLine; decide, fun g H3 e3 n3 h3 => ?_⟩
    exact q _ H3 (e1.trans e3) ⟨g, x1, rfl, h3, hx1.ts (Same.ts e3)⟩
  | hd h s0 =>
    obtain ⟨p, r, ys, ex, hp, hrr, hys⟩ := hx
    cases ex
    obtain ⟨_, hal, hG⟩ := hG
    have hw := hG.wf
    have hacs := sp_vl hw hys
    have lys := hacs.len
    rw [acs_al] at lys
    refine l_cons (s_if (t_cmp (e_ix (e_var (e_int (ix_t (by exact SqT.of hp) at0 (e_str (o_eqS ⟨_, rfl, ?_⟩))))))))
    rw [decide_eq_false (by decide +kernel)]
    refine iteF (l_nil (l_cons (s_if (t_cmp (e_ix (e_var (e_int (ix_t (by exact SqT.of hp) at0 (e_str (o_eqS ⟨_, rfl, ?_⟩))))))))))
    rw [decide_eq_false (by decide +kernel)]
    refine iteF (l_nil (l_cons (s_if (t_cmp (e_ix (e_var (e_int (ix_t (by exact SqT.of hp) at0 (e_str (o_eqS ⟨_, rfl, ?_⟩))))))))))
    rw [decide_eq_false (by decide +kernel)]
    refine iteF (l_nil (l_cons (s_set (e_lst (a_nil ⟨by show 0 ≤ sizeLine; decide, fun aa H1 e1 n1 h1 => ?_⟩)))))
    have na0 : H aa = none := n1
    refine l_cons (s_forT (e_ix (e_var (e_int (ix_t (by exact SqT.of (e1 _ _ hp)) (atI_nat (j := 2) rfl) ?_)))))
    refine ⟨r, ys, rfl, SqT.of (e1 _ _ hrr), fun j σ H' => ∃ (us : List V) (o3 o5 : Option V), σ = [some S, some (.ref p), some (.int (k : Int)), o3, some (.ref aa), o5] ∧ H' aa = some (.lst us) ∧ Al (AcD H') ((acs s0).take j) us ∧ DS H1 H' ∧ ∀ c o, H c = some o → H' c = some o, ⟨[], none, none, rfl, h1, rfl, DS.refl, e1⟩, ?_, ?_, ?_⟩
    · rintro j σ H' _ ⟨us, o3, o5, rfl, haa, hus, ds, keep⟩
      exact SqT.of (keep _ _ hrr)
    · rintro j y σ H' hy ⟨us, o3, o5, rfl, haa, hus, ds, keep⟩
      obtain ⟨c, hc, hcv⟩ := hacs.get hy
      have htk : (acs s0).take (j + 1) = (acs s0).take j ++ [c] := take_snoc' hc
      have hjl := (List.getElem?_eq_some_iff.mp hc).1
      rw [acs_al] at hjl
      have lus := hus.len
      rw [List.length_take] at lus
      have hcv := hcv.ds (show DS H H' from (DS.of e1).trans ds)
      have k' : ∀ (H6 : Hp) (u : HO), (∀ c o, H c = some o → H6 c = some o) → ∀ c o, H c = some o → (L2.upd H6 aa u) c = some o := fun H6 u k c o hc => by rw [upd_ne (fun z => by subst z; rw [na0] at hc; cases hc)]; exact k c o hc
      show wL _ _ _ [some S, some (.ref p), some (.int (k : Int)), o3, some (.ref aa), some y] _
      cases c with
      | pk z =>
        obtain ⟨g, rfl, hg⟩ := hcv
        refine l_cons (s_if (t_cmp (e_ix (e_var (e_int (ix_t (by exact SqT.of hg) at0 (e_str (o_eqS ⟨_, rfl, ?_⟩))))))))
        rw [decide_eq_false (by decide +kernel)]
        refine iteF (l_cons (s_expr (e_app (e_var ⟨aa, us, rfl, SqL.of haa, e_var ⟨us, haa, by show _ < 2 ^ 24; omega, ?_⟩⟩))))
        have d6 : DS H' (L2.upd H' aa (.lst (us ++ [.ref g]))) := DS.upd haa
        refine l_nil (l_nil ⟨us ++ [.ref g], o3, _, rfl, upd_same, ?_, ds.trans d6, k' _ _ keep⟩)
        rw [htk]
        exact (hus.mono fun _ _ => AcD.ts d6.1).app ⟨_, [], rfl, ⟨g, rfl, d6.1 _ _ hg⟩, rfl⟩
      | op z i =>
        obtain ⟨g, rfl, hg⟩ := hcv
        refine l_cons (s_if (t_cmp (e_ix (e_var (e_int (ix_t (by exact SqT.of hg) at0 (e_str (o_eqS ⟨_, rfl, ?_⟩))))))))
        rw [decide_eq_false (by decide +kernel)]
        refine iteF (l_cons (s_expr (e_app (e_var ⟨aa, us, rfl, SqL.of haa, e_var ⟨us, haa, by show _ < 2 ^ 24; omega, ?_⟩⟩))))
        have d6 : DS H' (L2.upd H' aa (.lst (us ++ [.ref g]))) := DS.upd haa
        refine l_nil (l_nil ⟨us ++ [.ref g], o3, _, rfl, upd_same, ?_, ds.trans d6, k' _ _ keep⟩)
        rw [htk]
        exact (hus.mono fun _ _ => AcD.ts d6.1).app ⟨_, [], rfl, ⟨g, rfl, d6.1 _ _ hg⟩, rfl⟩
      | py mo p0 =>
        obtain ⟨g, mv, y0, rfl, hg, hmv, hy0⟩ := hcv
        obtain ⟨_, m, rfl, hGp⟩ := gd_acs hG mo p0 (List.mem_of_getElem? hc)
        refine l_cons (s_if (t_cmp (e_ix (e_var (e_int (ix_t (by exact SqT.of hg) at0 (e_str (o_eqS ⟨_, rfl, ?_⟩))))))))
        rw [decide_eq_true rfl]
        refine iteT (l_cons (s_expr (e_app (e_var ⟨aa, us, rfl, SqL.of haa, e_tup (a_cons (e_str (a_cons (e_ix (e_var (e_int (ix_t (by exact SqT.of hg) at1 (a_cons (e_call (by exact F m rfl) (by exact hr) (by omega) ?_)))))))))⟩))))
        refine a_cons (e_var (a_cons (e_ix (e_var (e_int (ix_t (by exact SqT.of hg) (atI_nat (j := 2) rfl) (a_cons (e_var (a_nil ?_)))))))))
        refine ⟨S, p0, k, y0, ns, rfl, hy0, hGp, by omega, fun x1 H4 e4 hx1 => a_nil ?_⟩
        refine ⟨by show 3 ≤ sizeLine; decide, fun t5 H5 e5 n5 h5 => ?_⟩
        have e45 := e4.trans e5
        have haa5 := e45 _ _ haa
        refine ⟨us, haa5, by show _ < 2 ^ 24; omega, ?_⟩
        have d6 : DS H5 (L2.upd H5 aa (.lst (us ++ [.ref t5]))) := DS.upd haa5
        have d46 := (DS.of e45).trans d6
        refine l_nil (l_nil ⟨us ++ [.ref t5], o3, _, rfl, upd_same, ?_, ds.trans d46, k' _ _ fun c o hc => e45 _ _ (keep c o hc)⟩)
        rw [htk]
        exact (hus.mono fun _ _ => AcD.ts d46.1).app ⟨_, [], rfl, ⟨t5, mv, x1, rfl, d6.1 _ _ h5, hmv.ts d46.1, (hx1.ts (Same.ts e5)).ts d6.1⟩, rfl⟩
    · rintro σ H' ⟨us, o3, o5, rfl, haa, hus, ds, keep⟩
      rw [List.take_of_length_le (by rw [acs_al]; omega)] at hus
      refine l_cons (s_ret (e_tup (a_cons (e_str (a_cons (e_ix (e_var (e_int (ix_t (by exact SqT.of (keep _ _ hp)) at1 (a_cons (e_callTy (x := "tuple") (by assumption) b_tuple (a_cons (e_var (a_nil ?_))))))))))))))
      refine c_tupL (SqL.of haa) fun l7 H7 e7 n7 h7 => a_nil ?_
      refine ⟨by show 3 ≤ sizeLine; decide, fun t8 H8 e8 n8 h8 => ?_⟩
      have e78 := e7.trans e8
      refine q _ H8 (fun c o hc => e78 _ _ (keep c o hc)) ⟨t8, l7, us, rfl, h8, e8 _ _ h7, ?_⟩
      have := dv_sp (hus.mono fun _ _ => AcD.ts (Same.ts e78))
      rw [sp_acs hw] at this
      exact this
theorem ok_qu (T : Top K mg "_law_quote" s_quote) (mT : mg "tuple" = none) (FP : Fn P w K mg base 34 "_law_pay" spPayF) : ∀ n, Fn P w K mg base (n + 35) "_law_quote" (spQu n)
  | 0 => ok_quS 0 T mT FP (fun _ h => by omega)
  | n + 1 => ok_quS (n + 1) T mT FP (fun m h => by cases h; exact ok_qu T mT FP n)
end



section
variable {P : Program} {w : World} {K : PySem.W.Frag} {mg : Str → Option Value} {base : Heap}
def spRdg : Sp := fun vs H Q _ => ∃ S c ct rows v R ns n, vs = [S, .ref c, v] ∧ H c = some (.tup [.ref ct, .non]) ∧ H ct = some (.tup rows) ∧ Al (fun z x => ∃ a, x = .ref a ∧ H a = some (.tup [.str z])) ns rows ∧ ns.length ≤ 50 ∧ TrV H (stl R 0 [] (lv 0)) v ∧ Gd ns true 0 n R ∧ n ≤ 5 ∧ ∀ y H', Same H H' → DV H' R [y] → Q y H'
theorem ok_rdg (T : Top K mg "_law_reading" s_reading) (FV : Fn P w K mg base 33 "_law_value" (spVal 30)) (FQ : ∀ n, Fn P w K mg base (n + 35) "_law_quote" (spQu n)) : Fn P w K mg base 41 "_law_reading" spRdg := by
  refine fn_ok T sc_reading so_reading (fun vs H Q E h => by obtain ⟨S, c, ct, rows, v, R, ns, n, rfl, _⟩ := h; rfl) (fun _ _ _ _ _ _ us hl => match us, hl with | [_, _, _], _ => rfl) fun f cdv A outer s H vs Q E hr h nd => ?_
  obtain ⟨S, c, ct, rows, v, R, ns, n, rfl, hc, hct, hrows, hns, hv, hG, hn, q⟩ := h
  have lrows := hrows.len
  refine l_cons (s_set (e_dict fun D H1 e1 nD h1 => ?_))
  refine l_cons (s_forT (e_ix (e_var (e_int (ix_t (by exact SqT.of (e1 _ _ hc)) at0 ?_)))))
  refine ⟨ct, rows, rfl, SqT.of (e1 _ _ hct), fun j σ H' => ∃ (kvs : List (Key × V)) (x : Option V), σ = [some S, some (.ref c), some v, some (.ref D), x] ∧ H' D = some (.dK kvs) ∧ (kvs.map (·.1)).Nodup ∧ kvs.length ≤ j ∧ (∀ z ∈ ns.take j, ∃ u e, valV kvs (.inr z) = some (.ref u) ∧ H' u = some (.tup [.str "head", .str z, .ref e]) ∧ H' e = some (.tup [])) ∧ ∀ c o, H c = some o → H' c = some o, ⟨[], none, rfl, h1, List.nodup_nil, Nat.le_refl _, fun z hz => by simp at hz, e1⟩, ?_, ?_, ?_⟩
  · rintro j σ H' _ ⟨kvs, x, rfl, hD, hnd, hl, hz, keep⟩
    exact SqT.of (keep _ _ hct)
  · rintro j y σ H' hy ⟨kvs, x, rfl, hD, hnd, hl, hz, keep⟩
    obtain ⟨z, hzj, a, rfl, ha⟩ := hrows.get hy
    have hjl := (List.getElem?_eq_some_iff.mp hzj).1
    have ha' := keep _ _ ha
    refine l_cons (s_dput (hu_of hr) (e_tup (a_cons (e_str (a_cons (e_ix (e_var (e_int (ix_t (by exact SqT.of ha') at0 (a_cons (e_tup (a_nil ?_))))))))))))
    refine ⟨by show 0 ≤ sizeLine; decide, fun e H2 e2 n2 h2 => a_nil ?_⟩
    refine ⟨by show 3 ≤ sizeLine; decide, fun u H3 e3 n3 h3 => e_var (e_ix (e_var (e_int (ix_t (by exact SqT.of ((e2.trans e3) _ _ ha')) at0 ?_))))⟩
    have e23 := e2.trans e3
    have hD3 := e23 _ _ hD
    have ts : TS H3 (upd H3 D (.dK (putK kvs (.inr z) (.ref u)))) := fun t xs ht => by rw [upd_ne (fun w => by subst w; rw [hD3] at ht; cases ht)]; exact ht
    refine ⟨D, _, rfl, DPut.k (k := (.inr z : Key)) hD3 (by show _ < 2 ^ 24; omega), l_nil ⟨_, _, rfl, upd_same, nd_put _ _ hnd, ?_, fun z' hz' => ?_, fun c o hc' => ?_⟩⟩
    · have := length_putK kvs (.inr z) (V.ref u)
      omega
    · rw [valV_put]
      by_cases hzz : z' = z
      · subst hzz
        rw [if_pos rfl]
        exact ⟨u, e, rfl, ts _ _ h3, ts _ _ (e3 _ _ h2)⟩
      · rw [if_neg (fun w => hzz (Sum.inr.inj w))]
        rw [take_snoc' hzj, List.mem_append, List.mem_singleton] at hz'
        rcases hz' with hz' | hz'
        · obtain ⟨u', e', g1, g2, g3⟩ := hz z' hz'
          exact ⟨u', e', g1, ts _ _ (e23 _ _ g2), ts _ _ (e23 _ _ g3)⟩
        · exact absurd hz' hzz
    · rw [upd_ne (ne_of_none hc' nD)]
      exact e23 _ _ (keep c o hc')
  · rintro σ H' ⟨kvs, x, rfl, hD, hnd, hl, hz, keep⟩
    rw [List.take_of_length_le (by omega)] at hz
    have hd := stl_dep hG 0 [] (lv 0)
    simp at hd
    refine l_cons (s_ret (e_call (by exact FQ n) (by exact hr) (by omega) (a_cons (e_var (a_cons (e_call (by exact FV) (by exact hr) (by decide) ?_))))))
    refine a_cons (e_var (a_cons (e_var (a_cons (e_var (a_cons (e_int (a_nil ?_))))))))
    refine ⟨S, v, D, 0, [], ns, n, rfl, ⟨kvs, hD, hnd, by omega, fun j l' hj => by (rw [List.getElem?_nil] at hj; cases hj), hz, fun l' hl => absurd hl List.not_mem_nil⟩, .inl ⟨R, hv.ts (Same.ts keep), hG, by omega, by omega, fun x' H2 e2 hx' => a_cons (e_int (a_nil ?_))⟩⟩
    exact ⟨S, R, 0, x', ns, rfl, hx', hG, hn, fun y H3 e3 hy => q y H3 (fun c o hc' => e3 _ _ (e2 _ _ (keep c o hc'))) hy⟩
end



/-! ### spots -/
def br1 (k : Kd) : Bool := decide (k = .take) || decide (k = .pick) || decide (k = .open_)
def br2 (k : Kd) : Bool := decide (k = .pay) || decide (k = .cut)
def brB (k : Kd) (i : Nat) : Bool := br1 k || (br2 k && decide (i = 1))
def br (k : Kd) (i : Nat) : Nat := if brB k i then 1 else 0
theorem br1_nm (k : Kd) : inV (.str k.nm) [.str "take", .str "pick", .str "open"] = br1 k := by cases k <;> decide +kernel
theorem br2_nm (k : Kd) : inV (.str k.nm) [.str "pay", .str "cut"] = br2 k := by cases k <;> decide +kernel
abbrev Spo := List Nat × Nat × Tr
def spT : Tr → List Nat → Nat → List Spo
  | .le h, p, l => [(p, l, .le h)]
  | .un h a, p, l => (p, l, .un h a) :: spT a (p ++ [0]) (l + br h.k 0)
  | .bi h a b, p, l => (p, l, .bi h a b) :: (spT a (p ++ [0]) (l + br h.k 0) ++ spT b (p ++ [1]) (l + br h.k 1))
def spL (k : Kd) : List Tr → List Nat → Nat → Nat → List Spo
  | [], _, _, _ => []
  | a :: as, p, l, i => spT a (p ++ [i]) (l + br k i) ++ spL k as p l (i + 1)
theorem spT_eq (t : Tr) (p : List Nat) (l : Nat) : spT t p l = (p, l, t) :: spL t.hd.k t.ks p l 0 := by
  cases t <;> simp [spT, spL, Tr.hd, Tr.ks]
theorem spL_snoc (k : Kd) (a : Tr) (p : List Nat) (l : Nat) : ∀ (ts : List Tr) (i : Nat), spL k (ts ++ [a]) p l i = spL k ts p l i ++ spT a (p ++ [i + ts.length]) (l + br k (i + ts.length))
  | [], i => by simp [spL]
  | t :: ts, i => by
    rw [List.cons_append, show spL k (t :: (ts ++ [a])) p l i = spT t (p ++ [i]) (l + br k i) ++ spL k (ts ++ [a]) p l (i + 1) from rfl, spL_snoc k a p l ts (i + 1), ← List.append_assoc]
    rw [show i + 1 + ts.length = i + (t :: ts).length by simp only [List.length_cons]; omega]
    rfl
theorem spT_len : ∀ (t : Tr) (p : List Nat) (l : Nat), (spT t p l).length = t.size
  | .le _, _, _ => rfl
  | .un _ a, p, l => by show (spT a _ _).length + 1 = a.size + 1; rw [spT_len a]
  | .bi _ a b, p, l => by show (spT a _ _ ++ spT b _ _).length + 1 = a.size + b.size + 1; rw [List.length_append, spT_len a, spT_len b]
theorem spT_wk : ∀ (t : Tr) (p : List Nat) (l : Nat), (spT t p l).map (fun x => (x.1, x.2.2.hd.k)) = wk t p
  | .le _, _, _ => rfl
  | .un _ a, p, l => by show _ :: (spT a _ _).map _ = _ :: wk a _; rw [spT_wk a]; rfl
  | .bi _ a b, p, l => by show _ :: (spT a _ _ ++ spT b _ _).map _ = _ :: (wk a _ ++ wk b _); rw [List.map_append, spT_wk a, spT_wk b]; rfl
theorem spL_le (k : Kd) (p : List Nat) (l : Nat) : ∀ (a b : List Tr) (i : Nat), (spL k a p l i).length ≤ (spL k (a ++ b) p l i).length
  | [], _, _ => Nat.zero_le _
  | t :: a, b, i => by
    have := spL_le k p l a b (i + 1)
    show (spT t (p ++ [i]) (l + br k i) ++ spL k a p l (i + 1)).length ≤ (spT t (p ++ [i]) (l + br k i) ++ spL k (a ++ b) p l (i + 1)).length
    rw [List.length_append, List.length_append]
    omega
theorem dep_kst {t a : Tr} {j : Nat} (h : t.ks[j]? = some a) : a.dep + 1 ≤ t.dep := by
  cases t with
  | le h' => cases j <;> cases h
  | un h' b =>
    have : j = 0 := by
      have := (List.getElem?_eq_some_iff.mp h).1
      simp [Tr.ks] at this; exact this
    subst this
    cases h
    exact Nat.le_refl _
  | bi h' b c =>
    have hj := (List.getElem?_eq_some_iff.mp h).1
    simp [Tr.ks] at hj
    have : j = 0 ∨ j = 1 := by omega
    rcases this with rfl | rfl
    · cases h
      show a.dep + 1 ≤ max a.dep c.dep + 1
      omega
    · cases h
      show a.dep + 1 ≤ max b.dep a.dep + 1
      omega
theorem size_kst {t a : Tr} {j : Nat} (h : t.ks[j]? = some a) : a.size + 1 ≤ t.size := by
  cases t with
  | le h' => cases j <;> cases h
  | un h' b =>
    have : j = 0 := by
      have := (List.getElem?_eq_some_iff.mp h).1
      simp [Tr.ks] at this; exact this
    subst this
    cases h
    exact Nat.le_refl _
  | bi h' b c =>
    have hj := (List.getElem?_eq_some_iff.mp h).1
    simp [Tr.ks] at hj
    have : j = 0 ∨ j = 1 := by omega
    rcases this with rfl | rfl
    · cases h
      show a.size + 1 ≤ a.size + c.size + 1
      omega
    · cases h
      show a.size + 1 ≤ b.size + a.size + 1
      omega
def SptV (H : Hp) (x : Spo) (v : V) : Prop := ∃ a u y, v = .ref a ∧ H a = some (.tup [u, .int (x.2.1 : Int), y]) ∧ PthV H x.1 u ∧ TrV H x.2.2 y
theorem SptV.ts {H H' : Hp} (e : TS H H') {x : Spo} {v : V} : SptV H x v → SptV H' x v := fun ⟨a, u, y, h1, h2, h3, h4⟩ => ⟨a, u, y, h1, e _ _ h2, h3.ts e, h4.ts e⟩
section
variable {P : Program} {w : World} {K : PySem.W.Frag} {mg : Str → Option Value} {base : Heap}
def spSpt (n : Nat) : Sp := fun vs H Q _ => ∃ v u t p, ∃ l : Nat, vs = [v, u, .int (l : Int)] ∧ TrV H t v ∧ t.Ok ∧ PthV H p u ∧ t.dep ≤ n ∧ t.size ≤ 1000 ∧ p.length + n ≤ 2000 ∧ ∀ ls us H', Same H H' → H ls = none → H' ls = some (.lst us) → Al (SptV H') (spT t p l) us → Q (.ref ls) H'
theorem ok_sptS (n : Nat) (T : Top K mg "_law_spots" s_spots) (mL : mg "len" = none) (mR : mg "range" = none) (mI : mg "int" = none) (FP : Fn P w K mg base 2 "_law_parts" spParts) (F : ∀ m, n = m + 1 → Fn P w K mg base (m + 3) "_law_spots" (spSpt m)) : Fn P w K mg base (n + 3) "_law_spots" (spSpt n) := by
  refine fn_ok T sc_spots so_spots (fun vs H Q E h => by obtain ⟨v, u, t, p, l, rfl, _⟩ := h; rfl) (fun _ _ _ _ _ _ us hl => match us, hl with | [_, _, _], _ => rfl) fun f cdv A outer s H vs Q E hr h nd => ?_
  obtain ⟨v, u, t, p, l, rfl, hv, ho, hu, hd, hz, hpl, q⟩ := h
  refine l_cons (s_set (e_lst (a_cons (e_tup (a_cons (e_var (a_cons (e_var (a_cons (e_var (a_nil ?_)))))))))))
  refine ⟨by show 3 ≤ sizeLine; decide, fun s1 H1 e1 n1 h1 => a_nil ?_⟩
  refine ⟨by show 1 ≤ sizeLine; decide, fun fa H2 e2 n2 h2 => ?_⟩
  refine l_cons (s_set (e_call (by exact FP) (by exact hr) (by omega) (a_cons (e_var (a_nil ?_)))))
  refine ⟨v, t, rfl, hv.ts (Same.ts (e1.trans e2)), ho.hd.1, fun pl ks H3 e3 n3 h3 hks => ?_⟩
  have e13 := e2.trans e3
  have e03 := e1.trans e13
  have lks := hks.len
  have lk := ks_le t
  have nfa : H fa = none := none_of e1 n2
  obtain ⟨tp, xs, ys, rfl, htp, hxs, _⟩ := hv.split
  obtain ⟨fs, rfl, _⟩ := hxs
  have htp : H tp = some (.tup (.str t.hd.k.nm :: ((rL t.hd.r ++ fs) ++ ys))) := htp
  refine l_cons (s_forR (by assumption) (e_callB (x := "len") (by assumption) b_len (a_cons (e_var (a_nil (c_lenL (SqL.of h3) ?_))))))
  refine ⟨ks.length, rfl, by omega, fun j σ H' => ∃ (f : Addr) (us : List V) (o5 o6 : Option V), σ = [some (.ref tp), some u, some (.int (l : Int)), some (.ref f), some (.ref pl), o5, o6] ∧ H' f = some (.lst us) ∧ H f = none ∧ Al (SptV H') ((p, l, t) :: spL t.hd.k (t.ks.take j) p l 0) us ∧ Same H3 H', ⟨fa, _, none, none, rfl, e3 _ _ h2, nfa, ⟨.ref s1, [], rfl, ⟨s1, u, _, rfl, e3 _ _ (e2 _ _ h1), hu.ts (Same.ts e03), hv.ts (Same.ts e03)⟩, rfl⟩, Same.refl _⟩, ?_, ?_⟩
  · rintro j σ H4 hj ⟨f4, us, o5, o6, rfl, hf, nf, hus, e4⟩
    have hkj : ks[j]? = some ks[j] := List.getElem?_eq_getElem hj
    obtain ⟨a, haj, hav⟩ := hks.get hkj
    have hjl := (List.getElem?_eq_some_iff.mp haj).1
    obtain ⟨m, rfl⟩ : ∃ m, n = m + 1 := by
      cases n with
      | zero => 
        exfalso
        cases t with
        | le h => simp [Tr.ks] at hjl
        | un h a => simp [Tr.dep] at hd
        | bi h a b => simp [Tr.dep] at hd
      | succ m => exact ⟨m, rfl⟩
    have hda : a.dep ≤ m := by
      have := dep_kst haj
      omega
    have hza : a.size ≤ t.size := by
      have := size_kst haj
      omega
    have hst : (t.ks.take (j + 1)) = t.ks.take j ++ [a] := take_snoc' haj
    have e04 := e03.trans e4
    have htp4 := e04 _ _ htp
    refine l_cons (s_set (e_or (e_cmp (e_ix (e_var (e_int (ix_t (by exact SqT.of htp4) at0 (e_tup (a_cons (e_str (a_cons (e_str (a_cons (e_str (a_nil ?_)))))))))))))))
    refine ⟨by show 3 ≤ sizeLine; decide, fun q1 H5 e5 n5 h5 => ?_⟩
    refine o_inT (by exact SqT.of h5) rfl rfl ?_
    refine ⟨_, rfl, ?_⟩
    rw [br1_nm]
    -- behind it
    have go : ∀ (H6 : Hp), Same H4 H6 → ∀ (NX BK CT : L2.St → Hp → Prop), (∀ f' us' H', H' f' = some (.lst us') → H f' = none → Al (SptV H') ((p, l, t) :: spL t.hd.k (t.ks.take (j + 1)) p l 0) us' → Same H3 H' → NX [some (.ref tp), some u, some (.int (l : Int)), some (.ref f'), some (.ref pl), some (.int (j : Int)), some (.bl (brB t.hd.k j))] H') → wL (cxOf CX0 P w K mg base N_spots (Str.ofString "_law_spots") (defScope s_spots) f cdv A outer s H E).nox [stB ((defBody s_spots).getD 2 nS) 0 1] { nx := NX, rt := Q, bk := BK, ct := CT } [some (.ref tp), some u, some (.int (l : Int)), some (.ref f4), some (.ref pl), some (.int (j : Int)), some (.bl (brB t.hd.k j))] H6 := by
      intro H6 e6 NX BK CT hnx
      refine l_cons (s_set (e_bin (e_var (e_call (by exact F m rfl) (by exact hr) (by omega) ?_))))
      refine a_cons (e_ix (e_var (e_var (ix_l (by exact SqL.of (e6 _ _ (e4 _ _ h3))) (atI_nat hkj) ?_))))
      obtain ⟨pu, rfl, hpu⟩ := hu
      refine a_cons (e_bin (e_var (e_tup (a_cons (e_var (a_nil ?_))))))
      refine ⟨by show 1 ≤ sizeLine; decide, fun q2 H7 e7 n7 h7 => ?_⟩
      have e47 := e6.trans e7
      refine o_catA (e47 _ _ (e04 _ _ hpu)) h7 (by rw [List.length_map]; simp only [List.length_cons, List.length_nil]; omega) fun q3 H8 e8 h8 => ?_
      refine a_cons (e_bin (e_var (e_callTy (x := "int") (by assumption) b_int (a_cons (e_var (a_nil (c_intB (o_add (a_nil ?_)))))))))
      have e48 := e47.trans e8
      have e38 := e4.trans e48
      refine ⟨ks[j], .ref q3, a, p ++ [j], l + br t.hd.k j, ?_, hav.ts (Same.ts e38), ho.hd.2.2 a (List.mem_of_getElem? haj), ⟨q3, rfl, ?_⟩, hda, by omega, by rw [List.length_append]; simp only [List.length_cons, List.length_nil]; omega, fun l9 us9 H9 e9 n9 h9 hus9 => ?_⟩
      · have : ((l : Int) + (if brB t.hd.k j = true then 1 else 0)) = ((l + br t.hd.k j : Nat) : Int) := by
          unfold br
          split <;> omega
        rw [this]
      · rw [h8, List.map_append]; rfl
      have e49 := e48.trans e9
      have hl1 := hus.len
      have hl2 := hus9.len
      rw [spT_len] at hl2
      have hl3 := spT_len t p l
      rw [spT_eq] at hl3
      have hsub : ((p, l, t) :: spL t.hd.k (t.ks.take j) p l 0).length ≤ t.size := by
        rw [← hl3]
        have := spL_le t.hd.k p l (t.ks.take j) (t.ks.drop j) 0
        rw [List.take_append_drop] at this
        simp only [List.length_cons]
        omega
      refine o_cat2 (e49 _ _ hf) h9 (by omega) fun f10 H10 e10 n10 h10 => ?_
      have e410 := e49.trans e10
      refine l_nil (hnx f10 _ H10 h10 (none_of (e04.trans e49) n10) ?_ (e4.trans e410))
      rw [hst, spL_snoc]
      have hlen : (t.ks.take j).length = j := by rw [List.length_take]; omega
      rw [hlen, Nat.zero_add, ← List.cons_append]
      exact (hus.mono fun _ _ => SptV.ts (Same.ts e410)).app (hus9.mono fun _ _ => SptV.ts (Same.ts e10))
    have hbr1 : ∀ b, br1 t.hd.k = b → brB t.hd.k j = (b || (br2 t.hd.k && decide (j = 1))) := fun b h => by unfold brB; rw [h]
    cases hb1 : br1 t.hd.k with
    | true =>
      rw [show brB t.hd.k j = true by rw [hbr1 _ hb1]; rfl] at go
      exact iteT (go H5 e5 _ _ _ (fun f' us' H' g1 g2 g3 g4 => ⟨f', us', _, _, rfl, g1, g2, g3, g4⟩))
    | false =>
      refine iteF (e_one (e_and (e_cmp (e_ix (e_var (e_int (ix_t (by exact SqT.of (e5 _ _ htp4)) at0 (e_tup (a_cons (e_str (a_cons (e_str (a_nil ?_)))))))))))))
      refine ⟨by show 2 ≤ sizeLine; decide, fun q2 H6 e6 n6 h6 => ?_⟩
      refine o_inT (by exact SqT.of h6) rfl rfl ?_
      refine ⟨_, rfl, ?_⟩
      rw [br2_nm]
      rw [hbr1 _ hb1, Bool.false_or] at go
      cases hb2 : br2 t.hd.k with
      | false =>
        rw [hb2, Bool.false_and] at go
        exact iteF (go H6 (e5.trans e6) _ _ _ (fun f' us' H' g1 g2 g3 g4 => ⟨f', us', _, _, rfl, g1, g2, g3, g4⟩))
      | true =>
        rw [hb2, Bool.true_and] at go
        refine iteT (e_one (e_cmp (e_var (e_int (o_eqI ?_)))))
        rw [show decide ((j : Int) = 1) = decide (j = 1) by
          by_cases h : j = 1
          · rw [decide_eq_true h, decide_eq_true (by omega)]
          · rw [decide_eq_false h, decide_eq_false (by omega)]]
        exact go H6 (e5.trans e6) _ _ _ (fun f' us' H' g1 g2 g3 g4 => ⟨f', us', _, _, rfl, g1, g2, g3, g4⟩)
  · rintro σ H4 ⟨f4, us, o5, o6, rfl, hf, nf, hus, e4⟩
    rw [List.take_of_length_le (by omega), ← spT_eq] at hus
    exact l_cons (s_ret (e_var (q f4 us H4 (e03.trans e4) nf hf hus)))
theorem ok_spt (T : Top K mg "_law_spots" s_spots) (mL : mg "len" = none) (mR : mg "range" = none) (mI : mg "int" = none) (FP : Fn P w K mg base 2 "_law_parts" spParts) : ∀ n, Fn P w K mg base (n + 3) "_law_spots" (spSpt n)
  | 0 => ok_sptS 0 T mL mR mI FP (fun _ h => by omega)
  | n + 1 => ok_sptS (n + 1) T mL mR mI FP (fun m h => by cases h; exact ok_spt T mL mR mI FP n)
end



theorem isC_in (k : Kd) : inV (.str k.nm) [.str "cut", .str "cite"] = isC k := by cases k <;> decide +kernel
theorem Al.at {α : Type} {F : α → V → Prop} : ∀ {l : List α} {v : List V} {i : Nat} {a : α}, Al F l v → l[i]? = some a → ∃ x, v[i]? = some x ∧ F a x
  | [], _, i, a, _, e => by cases i <;> cases e
  | b :: _, _, 0, a, ⟨v, us, h1, h2, h3⟩, e => by subst h1; cases e; exact ⟨v, rfl, h2⟩
  | _ :: l, _, i + 1, a, ⟨v, us, h1, h2, h3⟩, e => by
    subst h1
    obtain ⟨x, hx, hf⟩ := h3.at (i := i) (by simpa using e)
    exact ⟨x, by simpa using hx, hf⟩
def isPk (k : Kd) : Bool := decide (k = .pick) || decide (k = .pay) || decide (k = .open_)
def isTk (k : Kd) : Bool := decide (k = .take) || decide (k = .offer) || decide (k = .make)
theorem isPk_in (k : Kd) : inV (.str k.nm) [.str "pick", .str "pay", .str "open"] = isPk k := by cases k <;> decide +kernel
theorem isTk_in (k : Kd) : inV (.str k.nm) [.str "take", .str "offer", .str "make"] = isTk k := by cases k <;> decide +kernel
theorem rf_inn (k : Kd) : inV (.str k.nm) [.str "own", .str "pick", .str "pay", .str "open"] = k.rf := by cases k <;> decide +kernel
/-- nothing to be settled at a row -/
def CanNo (t : Tr) (l : Nat) : Prop := isPk t.hd.k = false ∨ ∃ a, t.ks.getLast? = some a ∧ isTk a.hd.k = false ∧ (isPk a.hd.k = true → a.hd.r = some (lv l))
def RefOk (ns : List Str) (l : Nat) : Key → Prop
  | .inl i => 0 ≤ i ∧ i < (l : Int)
  | .inr z => z ∈ ns
def StO (ns : List Str) (x : Spo) : Prop := isC x.2.2.hd.k = false ∧ CanNo x.2.2 x.2.1 ∧ ∀ r, x.2.2.hd.r = some r → RefOk ns x.2.1 r
theorem rfo_ok {ns : List Str} {t : List Nat} {l : Nat} (ht : ∀ l' ∈ t, l' < l) : ∀ {k : Key}, OkN ns t.length k → RefOk ns l (rfo t k)
  | .inl i, ho => by
    have hj : i.toNat < t.length := by have : 0 ≤ i ∧ i < (t.length : Int) := ho; omega
    have er : rfo t (.inl i) = lv t[i.toNat] := by
      show (match t[i.toNat]? with | some l => lv l | none => Sum.inl i) = _
      rw [List.getElem?_eq_getElem hj]
    rw [er]
    have := ht _ (List.getElem_mem hj)
    exact ⟨by omega, by omega⟩
  | .inr z, ho => ho
theorem RefOk.more {ns : List Str} {l : Nat} : ∀ {r : Key}, RefOk ns l r → RefOk ns (l + 1) r
  | .inl i, h => ⟨h.1, by have := h.2; omega⟩
  | .inr _, h => h
theorem lv_ok (ns : List Str) (l : Nat) : RefOk ns (l + 1) (lv l) := ⟨by omega, by omega⟩
/-- what stands on a row that brings a hold -/
theorem above_ok {ns : List Str} : ∀ {s : Rd} {k d : Nat}, Gd ns false k d s → ∀ l t, isTk (stl s (l + 1) t (lv l)).hd.k = false ∧ (isPk (stl s (l + 1) t (lv l)).hd.k = true → (stl s (l + 1) t (lv l)).hd.r = some (lv l))
  | .nil, _, _, _, _, _ => ⟨rfl, fun _ => rfl⟩
  | .pk _ _, _, _, _, _, _ => ⟨rfl, fun _ => rfl⟩
  | .op _ _ _, _, _, _, _, _ => ⟨rfl, fun _ => rfl⟩
  | .py _ _ _, _, _, _, _, _ => ⟨rfl, fun _ => rfl⟩
  | .tk _, _, _, h, _, _ => h.elim
  | .mk _ _ _, _, _, h, _, _ => h.elim
  | .of _ _, _, _, h, _, _ => h.elim
  | .hd _ _, _, _, h, _, _ => h.elim
theorem stl_sto {ns : List Str} : ∀ {b : Bool} {R : Rd} {d : Nat} {l : Nat} {t : List Nat} {r : Key} {p : List Nat}, Gd ns b t.length d R → (∀ l' ∈ t, l' < l) → (b = false → RefOk ns l r) → ∀ x ∈ spT (stl R l t r) p l, StO ns x
  | true, .tk a, _, l, t, r, p, ⟨d', _, h⟩, ht, _, x, hx => by
    rcases List.mem_cons.mp hx with rfl | hx
    · exact ⟨rfl, .inl rfl, fun r hr => by cases hr⟩
    · have hl : (t ++ [l]).length = t.length + 1 := by simp
      rw [← hl] at h
      refine stl_sto (b := true) (R := a) h (fun l' hl' => ?_) (fun h => by cases h) x hx
      rcases List.mem_append.mp hl' with h1 | h1
      · exact Nat.lt_succ_of_lt (ht l' h1)
      · rw [List.mem_singleton.mp h1]; exact Nat.lt_succ_self _
  | true, .mk _ _ a, _, l, t, r, p, ⟨d', _, h⟩, ht, _, x, hx => by
    rcases List.mem_cons.mp hx with rfl | hx
    · exact ⟨rfl, .inl rfl, fun r hr => by cases hr⟩
    · exact stl_sto (b := true) (R := a) h ht (fun h => by cases h) x hx
  | true, .of a b, _, l, t, r, p, ⟨d', _, h, h'⟩, ht, _, x, hx => by
    rcases List.mem_cons.mp hx with rfl | hx
    · exact ⟨rfl, .inl rfl, fun r hr => by cases hr⟩
    · rcases List.mem_append.mp hx with hx | hx
      · exact stl_sto (b := true) (R := a) h ht (fun h => by cases h) x hx
      · exact stl_sto (b := true) (R := b) h' ht (fun h => by cases h) x hx
  | true, .hd k s, _, l, t, r, p, ⟨ho, _, h⟩, ht, _, x, hx => stl_sto (b := false) (R := s) h ht (fun _ => rfo_ok ht ho) x hx
  | false, .nil, _, l, t, r, p, _, ht, hr, x, hx => by
    rw [List.mem_singleton.mp hx]
    exact ⟨rfl, .inl rfl, fun r' h => by cases h; exact hr rfl⟩
  | false, .pk _ s, _, l, t, r, p, ⟨_, h⟩, ht, hr, x, hx => by
    rcases List.mem_cons.mp hx with rfl | hx
    · exact ⟨rfl, .inr ⟨_, rfl, above_ok h l t⟩, fun r' h => by cases h; exact hr rfl⟩
    · exact stl_sto (b := false) (R := s) h (fun l' hl' => Nat.lt_succ_of_lt (ht l' hl')) (fun _ => lv_ok ns l) x hx
  | false, .op _ _ s, _, l, t, r, p, h, ht, hr, x, hx => by
    have h : Gd ns false t.length _ s := h
    rcases List.mem_cons.mp hx with rfl | hx
    · exact ⟨rfl, .inr ⟨_, rfl, above_ok h l t⟩, fun r' h => by cases h; exact hr rfl⟩
    · exact stl_sto (b := false) (R := s) h (fun l' hl' => Nat.lt_succ_of_lt (ht l' hl')) (fun _ => lv_ok ns l) x hx
  | false, .py _ q s, _, l, t, r, p, ⟨_, ⟨d', _, h⟩, h'⟩, ht, hr, x, hx => by
    rcases List.mem_cons.mp hx with rfl | hx
    · exact ⟨rfl, .inr ⟨_, rfl, above_ok h' l t⟩, fun r' h => by cases h; exact hr rfl⟩
    · rcases List.mem_append.mp hx with hx | hx
      · exact stl_sto (b := true) (R := q) h ht (fun h => by cases h) x hx
      · exact stl_sto (b := false) (R := s) h' (fun l' hl' => Nat.lt_succ_of_lt (ht l' hl')) (fun _ => lv_ok ns l) x hx
theorem spT_ok : ∀ {t : Tr} {p : List Nat} {l : Nat}, t.Ok → ∀ x ∈ spT t p l, x.2.2.Ok ∧ x.2.2.dep ≤ t.dep ∧ x.2.2.size ≤ t.size
  | .le h, _, _, o, x, hx => by rw [List.mem_singleton.mp hx]; exact ⟨o, Nat.le_refl _, Nat.le_refl _⟩
  | .un h a, _, _, o, x, hx => by
    rcases List.mem_cons.mp hx with rfl | hx
    · exact ⟨o, Nat.le_refl _, Nat.le_refl _⟩
    · have := spT_ok o.2.2 x hx
      exact ⟨this.1, Nat.le_succ_of_le this.2.1, Nat.le_succ_of_le this.2.2⟩
  | .bi h a b, _, _, o, x, hx => by
    rcases List.mem_cons.mp hx with rfl | hx
    · exact ⟨o, Nat.le_refl _, Nat.le_refl _⟩
    · have e1 : (Tr.bi h a b).dep = max a.dep b.dep + 1 := rfl
      have e2 : (Tr.bi h a b).size = a.size + b.size + 1 := rfl
      rcases List.mem_append.mp hx with hx | hx
      · have := spT_ok o.2.2.1 x hx
        exact ⟨this.1, by omega, by omega⟩
      · have := spT_ok o.2.2.2 x hx
        exact ⟨this.1, by omega, by omega⟩
section
variable {P : Program} {w : World} {K : PySem.W.Frag} {mg : Str → Option Value} {base : Heap}
theorem TrsV.snocL {H : Hp} {a : Tr} : ∀ {l : List Tr} {ys : List V}, TrsV H (l ++ [a]) ys → ∃ ys0 y, ys = ys0 ++ [y] ∧ TrV H a y
  | [], _, ⟨v, us, h1, h2, h3⟩ => ⟨[], v, by rw [h1, show us = [] from h3]; rfl, h2⟩
  | _ :: _, _, ⟨v, us, h1, h2, h3⟩ => let ⟨ys0, y, e, h⟩ := h3.snocL; ⟨v :: ys0, y, by rw [h1, e]; rfl, h⟩
theorem o_ninT {X : Cx} {H : Hp} {Q : VK} {x : L2.V} {p : Addr} {xs : List L2.V} (h : SqT X.K H p xs) (hx : flatV x = true) (hs : xs.all flatV = true) (q : Q (.bl (!inV x xs)) H) : wK X .NotIn x (.ref p) H Q := k_of op_notIn_seq ⟨p, xs, rfl, .inr h, hx, hs, q⟩
def spFst : Sp := fun vs H Q _ => ∃ v t, vs = [v] ∧ TrV H t v ∧ t.Ok ∧ t.dep ≤ 40 ∧ t.size ≤ 1000 ∧ firstT t ≠ none ∧ ∀ p, firstT t = some p → ∀ u H', Same H H' → PthV H' p u → Q u H'
theorem spT_first {t : Tr} {p : List Nat} (h : firstT t = some p) : ∃ (j : Nat) (x : Spo), (spT t [] 0)[j]? = some x ∧ x.1 = p ∧ isC x.2.2.hd.k = true ∧ ∀ i, i < j → ∀ y, (spT t [] 0)[i]? = some y → isC y.2.2.hd.k = false := by
  unfold firstT at h
  rw [← spT_wk t [] 0] at h
  rw [Option.map_eq_some_iff] at h
  obtain ⟨y, hy, rfl⟩ := h
  rw [List.find?_map, Option.map_eq_some_iff] at hy
  obtain ⟨x, hx, rfl⟩ := hy
  rw [List.find?_eq_some_iff_getElem] at hx
  obtain ⟨hc, j, hj, hjx, hlt⟩ := hx
  refine ⟨j, x, by rw [List.getElem?_eq_getElem hj, hjx], rfl, hc, fun i hi y hy => ?_⟩
  have := hlt i hi
  rw [(List.getElem?_eq_some_iff.mp hy).2] at this
  simpa using this
theorem ok_fst (T : Top K mg "_law_first" s_first) (FS : Fn P w K mg base 43 "_law_spots" (spSpt 40)) : Fn P w K mg base 44 "_law_first" spFst := by
  refine fn_ok T sc_first so_first (fun vs H Q E h => by obtain ⟨v, t, rfl, _⟩ := h; rfl) (fun _ _ _ _ _ _ us hl => match us, hl with | [_], _ => rfl) fun f cdv A outer s H vs Q E hr h nd => ?_
  obtain ⟨v, t, rfl, hv, ho, hd, hz, hnone, q⟩ := h
  refine l_cons (s_forL (e_call (by exact FS) (by exact hr) (by decide) (a_cons (e_var (a_cons (e_tup (a_nil ⟨by show 0 ≤ sizeLine; decide, fun e H1 e1 n1 h1 => a_cons (e_int (a_nil ?_))⟩)))))))
  refine ⟨v, .ref e, t, [], 0, rfl, hv.ts (Same.ts e1), ho, ⟨e, rfl, h1⟩, hd, hz, by show 0 + 40 ≤ 2000; decide, fun ls us H2 e2 n2 h2 hus => ?_⟩
  have e12 := e1.trans e2
  refine ⟨ls, us, rfl, SqL.of h2, fun j σ H' => ∃ x, σ = [some v, x] ∧ Same H2 H' ∧ ∀ i, i < j → ∀ y, (spT t [] 0)[i]? = some y → isC y.2.2.hd.k = false, ⟨none, rfl, Same.refl _, fun i hi => absurd hi (Nat.not_lt_zero _)⟩, ?_, ?_, ?_⟩
  · rintro j σ H' _ ⟨x, rfl, e3, hj⟩
    exact SqL.of (e3 _ _ h2)
  · rintro j y σ H' hy ⟨x, rfl, e3, hj⟩
    obtain ⟨sp, hsp, a, u, y2, rfl, ha, hpu, hty⟩ := hus.get hy
    have hspo := spT_ok ho sp (List.mem_of_getElem? hsp)
    obtain ⟨tp, xs, ys, rfl, htp, hxs, _⟩ := hty.split
    obtain ⟨fs, rfl, _⟩ := hxs
    refine l_cons (s_if (t_cmp (e_ix (e_ix (e_var (e_int (ix_t (by exact SqT.of (e3 _ _ ha)) (atI_nat (j := 2) rfl) (e_int (ix_t (by exact SqT.of (e3 _ _ htp)) at0 (e_tup (a_cons (e_str (a_cons (e_str (a_nil ?_)))))))))))))))
    refine ⟨by show 2 ≤ sizeLine; decide, fun q1 H4 e4 n4 h4 => ?_⟩
    refine o_inT (by exact SqT.of h4) rfl rfl ⟨_, rfl, ?_⟩
    rw [isC_in]
    cases hb : isC sp.2.2.hd.k with
    | true =>
      refine iteT (l_cons (s_ret (e_ix (e_var (e_int (ix_t (by exact SqT.of (e4 _ _ (e3 _ _ ha))) at0 ?_))))))
      refine q sp.1 ?_ u H4 (e12.trans (e3.trans e4)) (hpu.ts (Same.ts (e3.trans e4)))
      unfold firstT
      rw [← spT_wk t [] 0, List.find?_map, Option.map_map]
      have hf := find_at (p := (fun (x : List Nat × Kd) => isC x.2) ∘ fun (x : Spo) => (x.1, x.2.2.hd.k)) (j := j) (fun i hi z hz => hj i hi z hz) hsp hb
      rw [hf]
      rfl
    | false =>
      refine iteF (l_nil (l_nil ⟨_, rfl, e3.trans e4, fun i hi z hz => ?_⟩))
      rcases Nat.lt_or_ge i j with h | h
      · exact hj i h z hz
      · have : i = j := by omega
        subst this
        rw [hsp] at hz
        cases hz
        exact hb
  · rintro σ H' ⟨x, rfl, e3, hj⟩
    exfalso
    rw [hus.len] at hj
    cases hf : firstT t with
    | none => exact hnone hf
    | some p =>
      obtain ⟨j, x, hx, _, hc, _⟩ := spT_first hf
      have := hj j (List.getElem?_eq_some_iff.mp hx).1 x hx
      rw [hc] at this
      cases this
def spCan : Sp := fun vs H Q _ => ∃ v t, ∃ l : Nat, vs = [v, .int (l : Int)] ∧ TrV H t v ∧ t.Ok ∧ CanNo t l ∧ ∀ H', Same H H' → Q (.bl false) H'
theorem ok_can (T : Top K mg "_law_can" s_can) : Fn P w K mg base 1 "_law_can" spCan := by
  refine fn_ok T sc_can so_can (fun vs H Q E h => by obtain ⟨v, t, l, rfl, _⟩ := h; rfl) (fun _ _ _ _ _ _ us hl => match us, hl with | [_, _], _ => rfl) fun f cdv A outer s H vs Q E hr h nd => ?_
  obtain ⟨v, t, l, rfl, hv, ho, hc, q⟩ := h
  obtain ⟨tp, xs, ys, rfl, htp, ⟨fs, rfl, hfs⟩, hys⟩ := hv.split
  refine l_cons (s_if (t_cmp (e_ix (e_var (e_int (ix_t (by exact SqT.of htp) at0 (e_tup (a_cons (e_str (a_cons (e_str (a_cons (e_str (a_nil ?_))))))))))))))
  refine ⟨by show 3 ≤ sizeLine; decide, fun q1 H1 e1 n1 h1 => ?_⟩
  refine o_ninT (by exact SqT.of h1) rfl rfl ⟨_, rfl, ?_⟩
  rw [isPk_in]
  cases hb : isPk t.hd.k with
  | false => exact iteT (l_cons (s_ret (e_bl (q H1 e1))))
  | true =>
    refine iteF (l_nil ?_)
    rcases hc with hc | ⟨a, hla, htk, hpk⟩
    · rw [hb] at hc; cases hc
    obtain ⟨ks0, hks⟩ : ∃ ks0, t.ks = ks0 ++ [a] := by
      rw [List.getLast?_eq_some_iff] at hla
      exact hla
    rw [hks] at hys
    obtain ⟨ys0, y1, rfl, hy1⟩ := hys.snocL
    obtain ⟨ap, axs, ays, rfl, hap, ⟨afs, rfl, hafs⟩, _⟩ := hy1.split
    rw [← List.append_assoc] at htp
    refine l_cons (s_set (e_ix (e_var (e_neg (e_int ⟨1, rfl, ix_t (by exact SqT.of (e1 _ _ htp)) last_at ?_⟩)))))
    refine l_cons (s_ret (e_or (e_cmp (e_ix (e_var (e_int (ix_t (by exact SqT.of (e1 _ _ hap)) at0 (e_tup (a_cons (e_str (a_cons (e_str (a_cons (e_str (a_nil ?_)))))))))))))))
    refine ⟨by show 3 ≤ sizeLine; decide, fun q2 H2 e2 n2 h2 => ?_⟩
    refine o_inT (by exact SqT.of h2) rfl rfl ?_
    refine ⟨_, rfl, ?_⟩
    rw [isTk_in, htk]
    refine iteF (e_one (e_and (e_cmp (e_ix (e_var (e_int (ix_t (by exact SqT.of (e2 _ _ (e1 _ _ hap))) at0 (e_tup (a_cons (e_str (a_cons (e_str (a_cons (e_str (a_nil ?_)))))))))))))))
    refine ⟨by show 3 ≤ sizeLine; decide, fun q3 H3 e3 n3 h3 => ?_⟩
    refine o_inT (by exact SqT.of h3) rfl rfl ?_
    refine ⟨_, rfl, ?_⟩
    rw [isPk_in]
    have e13 := (e1.trans e2).trans e3
    cases hab : isPk a.hd.k with
    | false => exact iteF (q H3 e13)
    | true =>
      have hr' := hpk hab
      rw [hr'] at hap
      refine iteT (e_one (e_cmp (e_ix (e_var (e_int (ix_t (by exact SqT.of (e13 _ _ hap)) at1 (e_var (o_neI ?_))))))))
      rw [decide_eq_true rfl]
      exact q H3 e13
theorem inV_mem {z : Str} {ns : List Str} (h : z ∈ ns) : inV (V.str z) (sVs ns) = true := by
  unfold inV
  rw [List.any_eq_true]
  exact ⟨.str z, List.mem_map.mpr ⟨z, h, rfl⟩, by show (z == z) = true; exact beq_self_eq_true z⟩
def spStl : Sp := fun vs H Q _ => ∃ v t nm ns, vs = [v, .ref nm] ∧ TrV H t v ∧ t.Ok ∧ t.dep ≤ 40 ∧ t.size ≤ 1000 ∧ H nm = some (.lst (sVs ns)) ∧ (∀ x ∈ spT t [] 0, StO ns x) ∧ ∀ H', Same H H' → Q (.bl true) H'
theorem ok_stl (T : Top K mg "_law_settled" s_settled) (mI : mg "isinstance" = none) (mS : mg "str" = none) (FS : Fn P w K mg base 43 "_law_spots" (spSpt 40)) (FC : Fn P w K mg base 1 "_law_can" spCan) : Fn P w K mg base 44 "_law_settled" spStl := by
  refine fn_ok T sc_settled so_settled (fun vs H Q E h => by obtain ⟨v, t, nm, ns, rfl, _⟩ := h; rfl) (fun _ _ _ _ _ _ us hl => match us, hl with | [_, _], _ => rfl) fun f cdv A outer s H vs Q E hr h nd => ?_
  obtain ⟨v, t, nm, ns, rfl, hv, ho, hd, hz, hnm, hst, q⟩ := h
  refine l_cons (s_forL (e_call (by exact FS) (by exact hr) (by decide) (a_cons (e_var (a_cons (e_tup (a_nil ⟨by show 0 ≤ sizeLine; decide, fun e H1 e1 n1 h1 => a_cons (e_int (a_nil ?_))⟩)))))))
  refine ⟨v, .ref e, t, [], 0, rfl, hv.ts (Same.ts e1), ho, ⟨e, rfl, h1⟩, hd, hz, by show 0 + 40 ≤ 2000; decide, fun ls us H2 e2 n2 h2 hus => ?_⟩
  have e12 := e1.trans e2
  refine ⟨ls, us, rfl, SqL.of h2, fun j σ H' => ∃ x y, σ = [some v, some (.ref nm), x, y] ∧ Same H2 H', ⟨none, none, rfl, Same.refl _⟩, ?_, ?_, ?_⟩
  · rintro j σ H' _ ⟨x, y, rfl, e3⟩
    exact SqL.of (e3 _ _ h2)
  · rintro j y σ H' hy ⟨x, y', rfl, e3⟩
    obtain ⟨sp, hsp, a, u, y2, rfl, ha, hpu, hty⟩ := hus.get hy
    have hm := List.mem_of_getElem? hsp
    have hspo := spT_ok ho sp hm
    obtain ⟨hnc, hcan, href⟩ := hst sp hm
    have hty3 := hty.ts (Same.ts e3)
    obtain ⟨tp, xs, ys, rfl, htp, hxs, _⟩ := hty3.split
    obtain ⟨fs, rfl, _⟩ := hxs
    refine l_cons (s_set (e_ix (e_var (e_int (ix_t (by exact SqT.of (e3 _ _ ha)) (atI_nat (j := 2) rfl) ?_)))))
    show wL _ _ _ [some v, some (.ref nm), some (.ref a), some (.ref tp)] _
    refine l_cons (s_if (t_w (w_or (t_cmp (e_ix (e_var (e_int (ix_t (by exact SqT.of htp) at0 (e_tup (a_cons (e_str (a_cons (e_str (a_nil ?_))))))))))))))
    refine ⟨by show 2 ≤ sizeLine; decide, fun q1 H4 e4 n4 h4 => ?_⟩
    refine o_inT (by exact SqT.of h4) rfl rfl ⟨_, rfl, ?_⟩
    rw [isC_in, hnc]
    refine iteF (w_or1 (t_val (e_call (by exact FC) (by exact hr) (by decide) (a_cons (e_var (a_cons (e_ix (e_var (e_int (ix_t (by exact SqT.of (e4 _ _ (e3 _ _ ha))) at1 (a_nil ?_)))))))))))
    refine ⟨.ref tp, sp.2.2, sp.2.1, rfl, hty3.ts (Same.ts e4), hspo.1, hcan, fun H5 e5 => ?_⟩
    refine ⟨false, rfl, iteF (l_nil ?_)⟩
    have e45 := e4.trans e5
    refine l_cons (s_if (t_cmp (e_ix (e_var (e_int (ix_t (by exact SqT.of (e45 _ _ htp)) at0 (e_tup (a_cons (e_str (a_cons (e_str (a_cons (e_str (a_cons (e_str (a_nil ?_))))))))))))))))
    refine ⟨by show 4 ≤ sizeLine; decide, fun q2 H6 e6 n6 h6 => ?_⟩
    refine o_inT (by exact SqT.of h6) rfl rfl ⟨_, rfl, ?_⟩
    rw [rf_inn]
    have e36 := (e3.trans e45).trans e6
    have e46 := e45.trans e6
    have o1 := hspo.1.hd.1.1
    have nm6 := e36 _ _ (e12 _ _ hnm)
    cases hr0 : sp.2.2.hd.r with
    | none =>
      rw [show sp.2.2.hd.k.rf = false by rw [← o1, hr0]; rfl]
      exact iteF (l_nil (l_nil ⟨_, _, rfl, e36⟩))
    | some r =>
      rw [show sp.2.2.hd.k.rf = true by rw [← o1, hr0]; rfl]
      have hro := href r hr0
      rw [hr0] at htp
      have htp6 := e46 _ _ htp
      cases r with
      | inr z =>
        refine iteT (l_cons (s_if (t_w (w_and (t_val (e_callB (x := "isinstance") (by assumption) b_isi ?_))))))
        refine a_cons (e_ix (e_var (e_int (ix_t (by exact SqT.of htp6) at1 ?_))))
        walk_at "sts"
        refine c_isi ty_str (.ty _) (kit_ty kb_str_str) ⟨_, rfl, iteT (w_and1 (t_cmp (e_ix (e_var (e_int (ix_t (by exact SqT.of htp6) at1 (e_var ?_)))))))⟩
        refine o_nin (by exact SqL.of nm6) rfl (sVs_flat ns) ⟨_, rfl, ?_⟩
        rw [show inV (kV (Sum.inr z)) (sVs ns) = true from inV_mem hro]
        refine iteF (l_nil (l_cons (s_if (t_w (w_and (t_not (t_val (e_callB (x := "isinstance") (by assumption) b_isi ?_))))))))
        refine a_cons (e_ix (e_var (e_int (ix_t (by exact SqT.of htp6) at1 ?_))))
        walk_at "sts"
        refine c_isi ty_str (.ty _) (kit_ty kb_str_str) ⟨_, rfl, iteF (iteF (l_nil (l_nil (l_nil ⟨_, _, rfl, e36⟩))))⟩
      | inl i =>
        refine iteT (l_cons (s_if (t_w (w_and (t_val (e_callB (x := "isinstance") (by assumption) b_isi ?_))))))
        refine a_cons (e_ix (e_var (e_int (ix_t (by exact SqT.of htp6) at1 ?_))))
        walk_at "sts"
        refine c_isi ty_int (.ty _) (kit_ty kb_int_str) ⟨_, rfl, iteF (iteF (l_nil ?_))⟩
        refine l_cons (s_if (t_w (w_and (t_not (t_val (e_callB (x := "isinstance") (by assumption) b_isi ?_))))))
        refine a_cons (e_ix (e_var (e_int (ix_t (by exact SqT.of htp6) at1 ?_))))
        walk_at "sts"
        refine c_isi ty_int (.ty _) (kit_ty kb_int_str) ⟨_, rfl, iteT (w_and1 (t_not (t_chain (e_int (e_ix (e_var (e_int (ix_t (by exact SqT.of htp6) at1 (o_le ⟨_, rfl, ?_⟩)))))))))⟩
        rw [decide_eq_true hro.1]
        refine iteT (e_ix (e_var (e_int (ix_t (by exact SqT.of (e36 _ _ ha)) at1 (o_lt ⟨_, rfl, ?_⟩)))))
        rw [decide_eq_true hro.2]
        exact iteF (l_nil (l_nil (l_nil ⟨_, _, rfl, e36⟩)))
  · rintro σ H' ⟨x, y, rfl, e3⟩
    exact l_cons (s_ret (e_bl (q H' (e12.trans e3))))
end



/-! ### trees that are spoilt -/
def putP : Tr → List Nat → Tr → Tr
  | _, [], o => o
  | .le h, _ :: _, _ => .le h
  | .un h a, _ :: p, o => .un h (putP a p o)
  | .bi h a b, 0 :: p, o => .bi h (putP a p o) b
  | .bi h a b, _ :: p, o => .bi h a (putP b p o)
def atP : Tr → List Nat → Option Tr
  | t, [] => some t
  | .un _ a, 0 :: p => atP a p
  | .bi _ a _, 0 :: p => atP a p
  | .bi _ _ b, 1 :: p => atP b p
  | _, _ => none
def cT : Tr → Bool
  | .le h => isC h.k
  | .un h a => isC h.k || cT a
  | .bi h a b => isC h.k || (cT a || cT b)
theorem atP_cons {t c : Tr} {i : Nat} {p : List Nat} (h : atP t (i :: p) = some c) : ∃ a, t.ks[i]? = some a ∧ atP a p = some c := by
  cases t with
  | le h' => simp [atP] at h
  | un h' a =>
    cases i with
    | zero => exact ⟨a, rfl, h⟩
    | succ i => simp [atP] at h
  | bi h' a b =>
    match i, h with
    | 0, h => exact ⟨a, rfl, h⟩
    | 1, h => exact ⟨b, rfl, h⟩
    | _ + 2, h => simp [atP] at h
theorem putP_cons {t a : Tr} {i : Nat} {p : List Nat} {o : Tr} (h : t.ks[i]? = some a) : (putP t (i :: p) o).hd = t.hd ∧ (putP t (i :: p) o).ks = t.ks.set i (putP a p o) := by
  cases t with
  | le h' => cases i <;> cases h
  | un h' b =>
    have : i = 0 := by
      have := (List.getElem?_eq_some_iff.mp h).1
      simp [Tr.ks] at this; exact this
    subst this
    cases h
    exact ⟨rfl, rfl⟩
  | bi h' b c =>
    have hj := (List.getElem?_eq_some_iff.mp h).1
    simp [Tr.ks] at hj
    have : i = 0 ∨ i = 1 := by omega
    rcases this with rfl | rfl
    · cases h; exact ⟨rfl, rfl⟩
    · cases h; exact ⟨rfl, rfl⟩
theorem TrsV.set {H : Hp} {x : Tr} {v : V} (hv : TrV H x v) : ∀ {l : List Tr} {ys : List V} (i : Nat), TrsV H l ys → TrsV H (l.set i x) (ys.set i v)
  | [], _, i, h => by rw [show _ = _ from h]; cases i <;> rfl
  | _ :: _, _, 0, ⟨u, us, h1, h2, h3⟩ => by subst h1; exact ⟨v, us, rfl, hv, h3⟩
  | _ :: _, _, i + 1, ⟨u, us, h1, h2, h3⟩ => by subst h1; exact ⟨u, _, rfl, h2, h3.set hv i⟩
theorem TrV.mk {H : Hp} {t : Tr} {p : Addr} {xs ys : List V} (hp : H p = some (.tup (xs ++ ys))) (hx : HdL H t.hd xs) (hy : TrsV H t.ks ys) : TrV H t (.ref p) := by
  cases t with
  | le h =>
    cases (show ys = [] from hy)
    exact ⟨p, xs, rfl, hp, hx⟩
  | un h a =>
    obtain ⟨y, us, rfl, h1, h2⟩ := hy
    cases (show us = [] from h2)
    exact ⟨p, xs, y, rfl, hp, hx, h1⟩
  | bi h a b =>
    obtain ⟨y, us, rfl, h1, y2, us2, rfl, h2, h3⟩ := hy
    cases (show us2 = [] from h3)
    exact ⟨p, xs, y, y2, rfl, hp, hx, h1, h2⟩
theorem putP_size : ∀ (t : Tr) (p : List Nat) (o : Tr), (putP t p o).size ≤ t.size + o.size
  | .le h, [], o => by show o.size ≤ 1 + o.size; omega
  | .un h a, [], o => by show o.size ≤ _ + o.size; omega
  | .bi h a b, [], o => by show o.size ≤ _ + o.size; omega
  | .le h, _ :: _, o => by show 1 ≤ 1 + o.size; omega
  | .un h a, _ :: p, o => by have := putP_size a p o; show (putP a p o).size + 1 ≤ a.size + 1 + o.size; omega
  | .bi h a b, 0 :: p, o => by have := putP_size a p o; show (putP a p o).size + b.size + 1 ≤ a.size + b.size + 1 + o.size; omega
  | .bi h a b, (_ + 1) :: p, o => by have := putP_size b p o; show a.size + (putP b p o).size + 1 ≤ a.size + b.size + 1 + o.size; omega
theorem putP_dep : ∀ (t : Tr) (p : List Nat) (o : Tr), (putP t p o).dep ≤ max t.dep (p.length + o.dep)
  | .le h, [], o => by show o.dep ≤ max 0 (0 + o.dep); omega
  | .un h a, [], o => by show o.dep ≤ max _ (0 + o.dep); omega
  | .bi h a b, [], o => by show o.dep ≤ max _ (0 + o.dep); omega
  | .le h, _ :: _, o => Nat.zero_le _
  | .un h a, _ :: p, o => by have := putP_dep a p o; show (putP a p o).dep + 1 ≤ max (a.dep + 1) (p.length + 1 + o.dep); omega
  | .bi h a b, 0 :: p, o => by have := putP_dep a p o; show max (putP a p o).dep b.dep + 1 ≤ max (max a.dep b.dep + 1) (p.length + 1 + o.dep); omega
  | .bi h a b, (_ + 1) :: p, o => by have := putP_dep b p o; show max a.dep (putP b p o).dep + 1 ≤ max (max a.dep b.dep + 1) (p.length + 1 + o.dep); omega
theorem putP_ok : ∀ {t : Tr} {p : List Nat} {o : Tr}, t.Ok → o.Ok → (putP t p o).Ok
  | .le h, [], o, _, k => k
  | .un h a, [], o, _, k => k
  | .bi h a b, [], o, _, k => k
  | .le h, _ :: _, o, g, _ => g
  | .un h a, _ :: p, o, g, k => ⟨g.1, g.2.1, putP_ok g.2.2 k⟩
  | .bi h a b, 0 :: p, o, g, k => ⟨g.1, g.2.1, putP_ok g.2.2.1 k, g.2.2.2⟩
  | .bi h a b, (_ + 1) :: p, o, g, k => ⟨g.1, g.2.1, g.2.2.1, putP_ok g.2.2.2 k⟩
theorem putP_c : ∀ {t : Tr} {p : List Nat} {o c : Tr}, atP t p = some c → cT o = true → cT (putP t p o) = true
  | .le h, [], o, _, _, k => k
  | .un h a, [], o, _, _, k => k
  | .bi h a b, [], o, _, _, k => k
  | .le h, _ :: _, o, _, g, _ => by simp [atP] at g
  | .un h a, 0 :: p, o, _, g, k => by show (isC h.k || cT (putP a p o)) = true; rw [putP_c (t := a) g k, Bool.or_true]
  | .un h a, (_ + 1) :: p, o, _, g, _ => by simp [atP] at g
  | .bi h a b, 0 :: p, o, _, g, k => by show (isC h.k || (cT (putP a p o) || cT b)) = true; rw [putP_c (t := a) g k, Bool.true_or, Bool.or_true]
  | .bi h a b, 1 :: p, o, _, g, k => by show (isC h.k || (cT a || cT (putP b p o))) = true; rw [putP_c (t := b) g k, Bool.or_true, Bool.or_true]
  | .bi h a b, (_ + 2) :: p, o, _, g, _ => by simp [atP] at g
theorem at_len : ∀ {t : Tr} {p : List Nat} {c : Tr}, atP t p = some c → p.length + c.dep ≤ t.dep
  | .le h, [], _, g => by cases g; show 0 + 0 ≤ 0; omega
  | .un h a, [], _, g => by cases g; rw [List.length_nil, Nat.zero_add]; exact Nat.le_refl _
  | .bi h a b, [], _, g => by cases g; rw [List.length_nil, Nat.zero_add]; exact Nat.le_refl _
  | .le h, _ :: _, _, g => by simp [atP] at g
  | .un h a, 0 :: p, c, g => by have := at_len (t := a) g; show p.length + 1 + c.dep ≤ a.dep + 1; omega
  | .un h a, (_ + 1) :: p, _, g => by simp [atP] at g
  | .bi h a b, 0 :: p, c, g => by have := at_len (t := a) g; show p.length + 1 + c.dep ≤ max a.dep b.dep + 1; omega
  | .bi h a b, 1 :: p, c, g => by have := at_len (t := b) g; show p.length + 1 + c.dep ≤ max a.dep b.dep + 1; omega
  | .bi h a b, (_ + 2) :: p, _, g => by simp [atP] at g
theorem cT_wk : ∀ {t : Tr} (p : List Nat), cT t = true → ∃ x ∈ wk t p, isC x.2 = true
  | .le h, p, k => ⟨_, List.mem_singleton.mpr rfl, k⟩
  | .un h a, p, k => by
    have k : (isC h.k || cT a) = true := k
    rw [Bool.or_eq_true] at k
    rcases k with k | k
    · exact ⟨_, List.mem_cons_self .., k⟩
    · obtain ⟨x, hx, hc⟩ := cT_wk (t := a) (p ++ [0]) k
      exact ⟨x, List.mem_cons_of_mem _ hx, hc⟩
  | .bi h a b, p, k => by
    have k : (isC h.k || (cT a || cT b)) = true := k
    rw [Bool.or_eq_true, Bool.or_eq_true] at k
    rcases k with k | k | k
    · exact ⟨_, List.mem_cons_self .., k⟩
    · obtain ⟨x, hx, hc⟩ := cT_wk (t := a) (p ++ [0]) k
      exact ⟨x, List.mem_cons_of_mem _ (List.mem_append_left _ hx), hc⟩
    · obtain ⟨x, hx, hc⟩ := cT_wk (t := b) (p ++ [1]) k
      exact ⟨x, List.mem_cons_of_mem _ (List.mem_append_right _ hx), hc⟩
theorem cT_first {t : Tr} (h : cT t = true) : firstT t ≠ none := by
  obtain ⟨x, hx, hc⟩ := cT_wk [] h
  intro hn
  unfold firstT at hn
  rw [Option.map_eq_none_iff, List.find?_eq_none] at hn
  exact hn x hx hc
theorem spT_at : ∀ {t : Tr} {p : List Nat} {l : Nat}, ∀ x ∈ spT t p l, ∃ q, x.1 = p ++ q ∧ atP t q = some x.2.2
  | .le h, p, l, x, hx => by rw [List.mem_singleton.mp hx]; exact ⟨[], (List.append_nil _).symm, rfl⟩
  | .un h a, p, l, x, hx => by
    rcases List.mem_cons.mp hx with rfl | hx
    · exact ⟨[], (List.append_nil _).symm, rfl⟩
    · obtain ⟨q, h1, h2⟩ := spT_at x hx
      exact ⟨0 :: q, by rw [h1, List.append_assoc]; rfl, h2⟩
  | .bi h a b, p, l, x, hx => by
    rcases List.mem_cons.mp hx with rfl | hx
    · exact ⟨[], (List.append_nil _).symm, rfl⟩
    · rcases List.mem_append.mp hx with hx | hx
      · obtain ⟨q, h1, h2⟩ := spT_at x hx
        exact ⟨0 :: q, by rw [h1, List.append_assoc]; rfl, h2⟩
      · obtain ⟨q, h1, h2⟩ := spT_at x hx
        exact ⟨1 :: q, by rw [h1, List.append_assoc]; rfl, h2⟩
section
variable {P : Program} {w : World} {K : PySem.W.Frag} {mg : Str → Option Value} {base : Heap}
theorem tru_t {K : PySem.W.Frag} {H : Hp} {l : Addr} {xs : List V} (h : H l = some (.tup xs)) : TruV K (.ref l) H (!xs.isEmpty) := .inr (.inl ⟨xs, SqT.of h, rfl⟩)
def spPutP (n : Nat) : Sp := fun vs H Q _ => ∃ v u x t p o c, vs = [v, u, x] ∧ TrV H t v ∧ t.Ok ∧ PthV H p u ∧ TrV H o x ∧ atP t p = some c ∧ p.length ≤ n ∧ ∀ r H', Same H H' → TrV H' (putP t p o) r → Q r H'
theorem ok_putS (n : Nat) (T : Top K mg "_law_put" s_put) (mL : mg "len" = none) (mT : mg "tuple" = none) (FP : Fn P w K mg base 2 "_law_parts" spParts) (F : ∀ m, n = m + 1 → Fn P w K mg base (m + 3) "_law_put" (spPutP m)) : Fn P w K mg base (n + 3) "_law_put" (spPutP n) := by
  refine fn_ok T sc_put so_put (fun vs H Q E h => by obtain ⟨v, u, x, t, p, o, c, rfl, _⟩ := h; rfl) (fun _ _ _ _ _ _ us hl => match us, hl with | [_, _, _], _ => rfl) fun f cdv A outer s H vs Q E hr h nd => ?_
  obtain ⟨v, u, x, t, p, o, c, rfl, hv, ho, ⟨ut, rfl, hut⟩, hx, hat, hn, q⟩ := h
  refine l_cons (s_if (t_not (t_tru (e_var ⟨_, tru_t hut, ?_⟩))))
  cases p with
  | nil =>
    refine iteT (l_cons (s_ret (e_var ?_)))
    refine q x H (Same.refl H) ?_
    cases t <;> exact hx
  | cons i p =>
    refine iteF (l_nil ?_)
    obtain ⟨m, rfl⟩ : ∃ m, n = m + 1 := ⟨n - 1, by simp only [List.length_cons] at hn; omega⟩
    obtain ⟨a, hka, haa⟩ := atP_cons hat
    have hi := (List.getElem?_eq_some_iff.mp hka).1
    have hut : H ut = some (.tup (.int (i : Int) :: p.map fun (n : Nat) => V.int (n : Int))) := hut
    refine l_cons (s_set (e_call (by exact FP) (by exact hr) (by omega) (a_cons (e_var (a_nil ?_)))))
    refine ⟨v, t, rfl, hv, ho.hd.1, fun pl ks H1 e1 n1 h1 hks => ?_⟩
    obtain ⟨tp, xs, ys, rfl, htp, hxs, hys⟩ := hv.split
    have lks := hks.len
    have lys := hys.len
    have lxs := hxs.len ho.hd.1
    have l3 := fs_le t.hd.k
    have lkk := ks_le t
    have hki : ks[i]? = some (ks[i]'(by omega)) := List.getElem?_eq_getElem (by omega)
    obtain ⟨a', hka', hav⟩ := hks.get hki
    rw [hka] at hka'
    cases hka'
    have npt : pl ≠ tp := fun z => by subst z; rw [htp] at n1; cases n1
    refine l_cons (s_sub (e_call (by exact F m rfl) (by exact hr) (by omega) ?_))
    refine a_cons (e_ix (e_var (e_ix (e_var (e_int (ix_t (by exact SqT.of (e1 _ _ hut)) at0 (ix_l (by exact SqL.of h1) (atI_nat hki) ?_)))))))
    refine a_cons (e_tLo (e_var (e_int ?_)))
    refine ⟨ut, [.int (i : Int)], _, rfl, rfl, e1 _ _ hut, fun u2 H2 e2 h2 => a_cons (e_var (a_nil ?_))⟩
    have e12 := e1.trans e2
    refine ⟨_, .ref u2, x, a, p, o, c, rfl, hav.ts (Same.ts e2), ho.hd.2.2 a (List.mem_of_getElem? hka), ⟨u2, rfl, h2⟩, hx.ts (Same.ts e12), haa, by simp only [List.length_cons] at hn; omega, fun r H3 e3 hr3 => ?_⟩
    have e13 := e12.trans e3
    have h13 := e3 _ _ (e2 _ _ h1)
    refine e_var (e_ix (e_var (e_int (ix_t (by exact SqT.of (e13 _ _ hut)) at0 ?_))))
    refine set_l (k := i) h13 (by unfold ixN; rw [if_pos (by omega), if_pos (by omega)]; simp) ?_
    have ts4 : TS H3 (upd H3 pl (.lst (ks.set i r))) := TS.upd h13
    have htp4 : upd H3 pl (.lst (ks.set i r)) tp = some (.tup (xs ++ ys)) := by rw [upd_ne (Ne.symm npt)]; exact e13 _ _ htp
    have hpl4 : upd H3 pl (.lst (ks.set i r)) pl = some (.lst (ks.set i r)) := upd_same
    have e04 : Same H (upd H3 pl (.lst (ks.set i r))) := fun c o hc => by rw [upd_ne (fun z => by subst z; rw [n1] at hc; cases hc)]; exact e13 _ _ hc
    have hks4 : TrsV (upd H3 pl (.lst (ks.set i r))) (t.ks.set i (putP a p o)) (ks.set i r) := TrsV.set (hr3.ts ts4) i (((hks.ts (Same.ts e2)).ts (Same.ts e3)).ts ts4)
    generalize upd H3 pl (.lst (ks.set i r)) = H4 at ts4 htp4 hpl4 e04 hks4 ⊢
    refine l_cons (s_ret (e_bin (e_tHi (e_var (e_bin (e_callB (x := "len") (by assumption) b_len (a_cons (e_var (a_nil (c_lenT (SqT.of htp4) (e_callB (x := "len") (by assumption) b_len (a_cons (e_var (a_nil (c_lenL (SqL.of hpl4) (o_sub ?_))))))))))))))))
    refine ⟨tp, xs, ys, rfl, ?_, htp4, fun t5 H5 e5 h5 => ?_⟩
    · rw [List.length_append, List.length_set]
      congr 1
      omega
    refine e_callTy (x := "tuple") (by assumption) b_tuple (a_cons (e_var (a_nil (c_tupL (SqL.of (e5 _ _ hpl4)) fun t6 H6 e6 n6 h6 => ?_))))
    refine o_catA (e6 _ _ h5) h6 (by rw [List.length_set]; omega) fun t7 H7 e7 h7 => ?_
    have e47 := (e5.trans e6).trans e7
    have e07 := e04.trans e47
    obtain ⟨g1, g2⟩ := putP_cons (p := p) (o := o) hka
    refine q (.ref t7) H7 e07 (TrV.mk h7 ?_ ?_)
    · rw [g1]; exact hxs.ts (Same.ts e07)
    · rw [g2]; exact hks4.ts (Same.ts e47)
theorem ok_put (T : Top K mg "_law_put" s_put) (mL : mg "len" = none) (mT : mg "tuple" = none) (FP : Fn P w K mg base 2 "_law_parts" spParts) : ∀ n, Fn P w K mg base (n + 3) "_law_put" (spPutP n)
  | 0 => ok_putS 0 T mL mT FP (fun _ h => by omega)
  | n + 1 => ok_putS (n + 1) T mL mT FP (fun m h => by cases h; exact ok_put T mL mT FP n)
end



section
variable {P : Program} {w : World} {K : PySem.W.Frag} {mg : Str → Option Value} {base : Heap}
def spSpo : Sp := fun vs H Q _ => ∃ p v t, vs = [.ref p, v] ∧ PoolAt H p ∧ TrV H t v ∧ t.Ok ∧ t.dep ≤ 20 ∧ t.size ≤ 100 ∧ ∀ v' t' H', But p H H' → PoolAt H' p → TrV H' t' v' → t'.Ok → t'.dep ≤ 22 → t'.size ≤ 406 → cT t' = true → Q v' H'
theorem ok_spo (T : Top K mg "_law_spoilt" s_spoilt) (mR : mg "range" = none) (mL : mg "len" = none) (FN : Fn P w K mg base 1 "_law_next" spNext) (FS : Fn P w K mg base 43 "_law_spots" (spSpt 40)) (FP : Fn P w K mg base 43 "_law_put" (spPutP 40)) : Fn P w K mg base 44 "_law_spoilt" spSpo := by
  refine fn_ok T sc_spoilt so_spoilt (fun vs H Q E h => by obtain ⟨p, v, t, rfl, _⟩ := h; rfl) (fun _ _ _ _ _ _ us hl => match us, hl with | [_, _], _ => rfl) fun f cdv A outer s H vs Q E hr h nd => ?_
  obtain ⟨p, v, t, rfl, hp, hv, ho, hd, hz, q⟩ := h
  refine l_cons (s_forR (by assumption) (e_bin (e_int (e_call (by exact FN) (by exact hr) (by decide) (a_cons (e_var (a_cons (e_int (a_nil ?_)))))))))
  refine ⟨p, 2, rfl, by decide, by decide, hp, fun c H1 c0 c1 b1 p1 => o_add ?_⟩
  obtain ⟨N, rfl⟩ := Int.eq_ofNat_of_zero_le c0
  refine ⟨1 + N, congrArg V.int (by omega), by omega, fun j σ H' => ∃ (v' : V) (t' : Tr) (o2 o3 o4 o5 : Option V), σ = [some (.ref p), some v', o2, o3, o4, o5] ∧ But p H H' ∧ PoolAt H' p ∧ TrV H' t' v' ∧ t'.Ok ∧ t'.dep ≤ 20 + j ∧ t'.size + 2 ≤ 2 ^ j * 102 ∧ (0 < j → cT t' = true), ⟨v, t, none, none, none, none, rfl, b1, p1, hv.ts (hp.ts b1), ho, hd, by omega, fun h => absurd h (Nat.lt_irrefl _)⟩, ?_, ?_⟩
  · rintro j σ H2 hj ⟨v', t', o2, o3, o4, o5, rfl, b2, p2, hv', ho', hd', hz', _⟩
    have hj1 : j ≤ 1 := by omega
    have hzz : t'.size ≤ 202 := by
      have : j = 0 ∨ j = 1 := by omega
      rcases this with rfl | rfl <;> omega
    refine l_cons (s_set (e_call (by exact FS) (by exact hr) (by decide) (a_cons (e_var (a_cons (e_tup (a_nil ⟨by show 0 ≤ sizeLine; decide, fun e H3 e3 n3 h3 => a_cons (e_int (a_nil ?_))⟩)))))))
    refine ⟨v', .ref e, t', [], 0, rfl, hv'.ts (Same.ts e3), ho', ⟨e, rfl, h3⟩, by omega, by omega, by show 0 + 40 ≤ 2000; decide, fun ls us H4 e4 n4 h4 hus => ?_⟩
    have e24 := e3.trans e4
    have lus := hus.len
    rw [spT_len] at lus
    have hsp : 0 < t'.size := by cases t' <;> simp [Tr.size]
    have nlp : ls ≠ p := fun z => by subst z; obtain ⟨_, _, _, q⟩ := (p2.up e3); rw [q] at n4; cases n4
    refine l_cons (s_set (e_ix (e_var (e_call (by exact FN) (by exact hr) (by decide) (a_cons (e_var (a_cons (e_callB (x := "len") (by assumption) b_len (a_cons (e_var (a_nil (c_lenL (SqL.of h4) (a_nil ?_)))))))))))))
    refine ⟨p, _, rfl, by omega, by omega, p2.up e24, fun d H5 d0 d1 b5 p5 => ?_⟩
    obtain ⟨i, rfl⟩ := Int.eq_ofNat_of_zero_le d0
    have hi : i < us.length := by omega
    have hui : us[i]? = some us[i] := List.getElem?_eq_getElem hi
    obtain ⟨sp, hspi, a, u, y, hua, ha, hpu, hty⟩ := hus.get hui
    have hm := List.mem_of_getElem? hspi
    obtain ⟨qq, hq1, hq2⟩ := spT_at sp hm
    rw [List.nil_append] at hq1
    rw [hq1] at hpu
    obtain ⟨hso, hsd, hsz⟩ := spT_ok ho' sp hm
    have hql := at_len hq2
    have h5l := b5 ls _ nlp h4
    have ts45 := (p2.up e24).ts b5
    refine ix_l (by exact SqL.of h5l) (atI_nat hui) ?_
    rw [hua]
    show wL _ _ _ [some (.ref p), some v', some (.int (j : Int)), some (.ref ls), some (.ref a), o5] _
    refine l_cons (s_set (e_tup (a_cons (e_str (a_cons (e_str (a_nil ?_)))))))
    refine ⟨by show 2 ≤ sizeLine; decide, fun ct H6 e6 n6 h6 => ?_⟩
    show wL _ _ _ [some (.ref p), some v', some (.int (j : Int)), some (.ref ls), some (.ref a), some (.ref ct)] _
    have b26 : But p H H6 := ((b2.trans (But.of e24)).trans b5).trans (But.of e6)
    have ts46 := ts45.trans (Same.ts e6)
    -- the row is put
    have fin : ∀ (r : Addr) (o : Tr) (H7 : Hp), But p H6 H7 → PoolAt H7 p → TrV H7 o (.ref r) → o.Ok → cT o = true → o.dep ≤ sp.2.2.dep + 1 → o.size ≤ t'.size + 2 → ∀ (NX BK CT : L2.St → Hp → Prop), (∀ x t2 H', But p H H' → PoolAt H' p → TrV H' t2 x → t2.Ok → t2.dep ≤ 20 + (j + 1) → t2.size + 2 ≤ 2 ^ (j + 1) * 102 → cT t2 = true → NX [some (.ref p), some x, some (.int (j : Int)), some (.ref ls), some (.ref a), some (.ref r)] H') → wL (cxOf CX0 P w K mg base N_spoilt (Str.ofString "_law_spoilt") (defScope s_spoilt) f cdv A outer s H E).nox [stB ((defBody s_spoilt).getD 0 nS) 0 4] { nx := NX, rt := Q, bk := BK, ct := CT } [some (.ref p), some v', some (.int (j : Int)), some (.ref ls), some (.ref a), some (.ref r)] H7 := by
      intro r o H7 b7 p7 hro hoo hco hdo hzo NX BK CT hnx
      have ts67 : TS H6 H7 := (p5.up e6).ts b7
      have ts47 := ts46.trans ts67
      refine l_cons (s_set (e_call (by exact FP) (by exact hr) (by decide) (a_cons (e_var (a_cons (e_ix (e_var (e_int (ix_t (by exact SqT.of (ts47 _ _ ha)) at0 (a_cons (e_var (a_nil ?_))))))))))))
      refine ⟨v', u, .ref r, t', qq, o, sp.2.2, rfl, ((hv'.ts (Same.ts e24)).ts ts47), ho', hpu.ts ts47, hro, hq2, by omega, fun x H8 e8 hx => ?_⟩
      have hd2 := putP_dep t' qq o
      have hz2 := putP_size t' qq o
      refine l_nil (hnx x (putP t' qq o) H8 ((b26.trans b7).trans (But.of e8)) (p7.up e8) hx (putP_ok ho' hoo) (by omega) ?_ (putP_c hq2 hco))
      rw [Nat.pow_succ]
      omega
    refine l_cons (s_if (t_cmp (e_call (by exact FN) (by exact hr) (by decide) (a_cons (e_var (a_cons (e_int (a_nil ?_))))))))
    refine ⟨p, 2, rfl, by decide, by decide, p5.up e6, fun d2 H7 _ _ b7 p7 => e_int (o_eqI ⟨_, rfl, ?_⟩)⟩
    have ts67 : TS H6 H7 := (p5.up e6).ts b7
    have ts47 := ts46.trans ts67
    by_cases hd2 : d2 = 0
    · rw [decide_eq_true hd2]
      refine iteT (l_cons (s_set (e_tup (a_cons (e_str (a_cons (e_str (a_cons (e_tup (a_cons (e_str (a_cons (e_str (a_nil ?_))))))))))))))
      refine ⟨by show 2 ≤ sizeLine; decide, fun w1 H8 e8 n8 h8 => a_cons (e_ix (e_var (e_int (ix_t (by exact SqT.of (e8 _ _ (ts47 _ _ ha))) (atI_nat (j := 2) rfl) ?_))))⟩
      refine a_cons (e_tup (a_cons (e_str (a_cons (e_ix (e_var (e_int (ix_t (by exact SqT.of (e8 _ _ (ts47 _ _ ha))) at1 (a_nil ?_)))))))))
      refine ⟨by show 2 ≤ sizeLine; decide, fun o1 H9 e9 n9 h9 => a_nil ?_⟩
      refine ⟨by show 5 ≤ sizeLine; decide, fun ct2 H10 e10 n10 h10 => ?_⟩
      have e810 := (e8.trans e9).trans e10
      refine l_nil (fin ct2 (.bi ⟨.cut, none, [.s "once", .c "a"]⟩ sp.2.2 (.le ⟨.own, some (lv sp.2.1), []⟩)) H10 (b7.trans (But.of e810)) (p7.up e810) ?_ ⟨⟨rfl, rfl⟩, rfl, hso, ⟨rfl, rfl⟩, rfl⟩ rfl ?_ ?_ _ _ _ fun x t2 H' g1 g2 g3 g4 g5 g6 g7 => ⟨x, t2, _, _, _, _, rfl, g1, g2, g3, g4, g5, g6, fun _ => g7⟩)
      · exact ⟨ct2, [.str "cut", .str "once", .ref w1], y, .ref o1, rfl, h10, ⟨[.str "once", .ref w1], rfl, _, _, rfl, rfl, _, [], rfl, ⟨w1, rfl, e10 _ _ (e9 _ _ h8)⟩, rfl⟩, (hty.ts ts47).ts (Same.ts e810), ⟨o1, [.str "own", .int (sp.2.1 : Int)], rfl, e10 _ _ h9, [], rfl, rfl⟩⟩
      · show max sp.2.2.dep 0 + 1 ≤ _; omega
      · show sp.2.2.size + 1 + 1 ≤ _; omega
    · rw [decide_eq_false hd2]
      refine iteF (l_nil (fin ct (.le ⟨.cite, none, [.s "left"]⟩) H7 b7 p7 ⟨ct, [.str "cite", .str "left"], rfl, ts67 _ _ h6, [.str "left"], rfl, _, [], rfl, rfl, rfl⟩ ⟨⟨rfl, rfl⟩, rfl⟩ rfl (Nat.zero_le _) ?_ _ _ _ fun x t2 H' g1 g2 g3 g4 g5 g6 g7 => ⟨x, t2, _, _, _, _, rfl, g1, g2, g3, g4, g5, g6, fun _ => g7⟩))
      show 1 ≤ _; omega
  · rintro σ H2 ⟨v', t', o2, o3, o4, o5, rfl, b2, p2, hv', ho', hd', hz', hc⟩
    have hN : N = 0 ∨ N = 1 := by omega
    refine l_cons (s_ret (e_var (q v' t' H2 b2 p2 hv' ho' (by omega) ?_ (hc (by omega)))))
    rcases hN with rfl | rfl
    · have : t'.size + 2 ≤ 2 ^ 1 * 102 := hz'
      omega
    · have : t'.size + 2 ≤ 2 ^ 2 * 102 := hz'
      omega
end



section
variable {X : Cx} {o e b : Expr} {σ : L2.St} {H : Hp} {Q : VK} {pos apos p2 : Pos}
theorem sIx_m1 (n d : Nat) : HT.sIx (n + 1) d (some (-1)) = n := by
  show (if (-1 : Int) < 0 then ((-1 : Int) + ((n + 1 : Nat) : Int)).toNat else min (-1 : Int).toNat (n + 1)) = n
  rw [if_pos (by decide)]
  omega
theorem cut_init {xs : List L2.V} {z : L2.V} : cutV (xs ++ [z]) none (some (-1)) = xs := by
  unfold cutV
  rw [HT.sIx_none]
  have h : HT.sIx (xs ++ [z]).length (xs ++ [z]).length (some (-1)) = xs.length := by
    rw [List.length_append]
    exact sIx_m1 _ _
  rw [h, List.drop_zero, Nat.sub_zero, List.take_left]
theorem e_tInit (q : wE X e σ H fun x H1 => wE X b σ H1 fun y H2 => ∃ p xs z, x = .ref p ∧ y = .int (-1) ∧ H2 p = some (.tup (xs ++ [z])) ∧ ∀ t H3, Same H2 H3 → H3 t = some (.tup xs) → Q (.ref t) H3) : wE X (.Subscript e (.Slice none (some b) none p2) pos) σ H Q := by
  refine e_slL1 sl_tupA (e_mono q fun x H1 z => e_mono z fun y H2 ⟨p, xs, z, ex, ey, ht, q⟩ => ⟨_, ey, p, xs ++ [z], ex, SqT.of ht, fun hw => ?_, fun _ t nt => ?_⟩)
  · exfalso
    have h2 := hw.2
    have h : HT.sIx (xs ++ [z]).length (xs ++ [z]).length (some (-1)) = xs.length := by
      rw [List.length_append]
      exact sIx_m1 _ _
    rw [h, List.length_append] at h2
    simp only [List.length_cons, List.length_nil] at h2
    omega
  · refine q t _ (fun c u eo => by rw [upd_ne (ne_of_none eo nt)]; exact eo) ?_
    rw [cut_init]
    exact upd_same
theorem e_lIx (q : wE X o σ H fun x H1 => ∃ l xs0, x = .ref l ∧ SqL X.K H1 l xs0 ∧ wE X e σ H1 fun y H2 => ∃ (ys : List Str) (z : Str), y = .str z ∧ SqL X.K H2 l (sVs ys) ∧ z ∈ ys ∧ ∀ j : Nat, j < ys.length → ys[j]? = some z → Q (.int (j : Int)) H2)
    (hbase : attributeBase o "index" X.env (eval o X.env) = eval o X.env := by rfl)
    (hfew : ((backTo pos (starEach (e :: []) X.env)).all (fun x => !x.1) && (backToKw pos (keywordEach [] X.env)).all (fun x => x.1.isSome)
      && decide ((e :: []).length + ([] : List Keyword).length + (if ([] : List Keyword).isEmpty then 0 else 1) < 30)) = true := by rfl)
    (hline : (apos.endLine == pos.line) = true := by rfl) (hs : starEach (e :: []) X.env = (false, eval e X.env) :: starEach [] X.env := by rfl) (hplain : (backTo pos (starEach [] X.env)).any (·.1) = false := by rfl) :
    wE X (.Call (.Attribute o "index" apos) [e] [] pos) σ H Q := by
  refine e_of (pe_bm PySem.F.plainAttrs_list PySem.F.slot_list_index PySem.F.type_list_index mt_index pe (pa_cons pe pa_nil hs) hbase hfew hline hs hplain) (e_mono q fun x H1 z => ?_)
  obtain ⟨l, xs0, rfl, hl, z⟩ := z
  refine ⟨.inl ⟨rfl, _, hl⟩, e_mono z fun y H2 z2 => ?_⟩
  obtain ⟨ys, z, rfl, hsq, hz, q2⟩ := z2
  have hlt : ys.findIdx (fun y => decide (y = z)) < ys.length := List.findIdx_lt_length_of_exists ⟨z, hz, decide_eq_true rfl⟩
  have hat : ys[ys.findIdx (fun y => decide (y = z))]? = some z := by
    rw [List.getElem?_eq_getElem hlt]
    exact congrArg some (of_decide_eq_true (List.findIdx_getElem (w := hlt)))
  refine ⟨l, sVs ys, .str z, ys.findIdx (fun y => decide (y = z)), .str z, rfl, rfl, hsq, rfl, sVs_flat ys, ?_, ?_, fun m z' hm hz' => ?_, q2 _ hlt hat⟩
  · unfold sVs
    rw [List.getElem?_map, hat]
    rfl
  · show (z == z) = true
    exact beq_self_eq_true z
  · unfold sVs at hz'
    rw [List.getElem?_map] at hz'
    have hml : m < ys.length := Nat.lt_trans hm hlt
    rw [List.getElem?_eq_getElem hml] at hz'
    cases hz'
    have := List.not_of_lt_findIdx hm
    show (ys[m] == z) = false
    have h2 : ¬ ys[m] = z := of_decide_eq_false this
    exact beq_eq_false_iff_ne.mpr h2
end



theorem gdA_all {ns : List Str} {k d : Nat} : ∀ {s : Rd}, Gd ns false k d s → ∀ c ∈ acs s, GdA ns k d c
  | .nil, _, _, h => absurd h List.not_mem_nil
  | .pk z s, w, c, h => by
    rcases List.mem_cons.mp h with rfl | h
    · exact w.1
    · exact gdA_all (s := s) w.2 c h
  | .op _ _ s, w, c, h => by
    rcases List.mem_cons.mp h with rfl | h
    · trivial
    · exact gdA_all (s := s) w c h
  | .py _ q s, w, c, h => by
    rcases List.mem_cons.mp h with rfl | h
    · exact ⟨w.1, w.2.1⟩
    · exact gdA_all (s := s) w.2.2 c h
  | .tk _, w, _, _ => w.elim
  | .mk _ _ _, w, _, _ => w.elim
  | .of _ _, w, _, _ => w.elim
  | .hd _ _, w, _, _ => w.elim
theorem snoc_or' {α : Type} : ∀ l : List α, l = [] ∨ ∃ a b, l = a ++ [b]
  | [] => .inl rfl
  | x :: l => .inr (by
    rcases snoc_or' l with rfl | ⟨a, b, rfl⟩
    · exact ⟨[], x, rfl⟩
    · exact ⟨x :: a, b, rfl⟩)
theorem names_at {ns : List Str} (h0 : 0 < ns.length) {j : Nat} (hj : j < ns.length) : ∃ z, z ∈ ns ∧ atI (sVs ns) ((j : Int) - 1) = some (.str z) := by
  cases j with
  | zero =>
    rcases snoc_or' ns with rfl | ⟨a, b, rfl⟩
    · cases h0
    · refine ⟨b, by simp, ?_⟩
      rw [show ((0 : Nat) : Int) - 1 = -1 by omega, show sVs (a ++ [b]) = sVs a ++ [V.str b] by simp [sVs]]
      exact last_at
  | succ j => exact sVs_at (by omega) (by omega)
section
variable {P : Program} {w : World} {K : PySem.W.Frag} {mg : Str → Option Value} {base : Heap}
def spOt (n : Nat) : Sp := fun vs H Q _ => ∃ x R nm ns k, vs = [x, .ref nm] ∧ DV H R [x] ∧ Gd ns true k n R ∧ H nm = some (.lst (sVs ns)) ∧ 0 < ns.length ∧ ∀ y R' H', Same H H' → DV H' R' [y] → Gd ns true k n R' → nd R' ≤ nd R + 1 → Q y H'
theorem ok_otS (n : Nat) (T : Top K mg "_law_other" s_other) (mI : mg "isinstance" = none) (mS : mg "str" = none) (mInt : mg "int" = none) (F : ∀ m, n = m + 1 → Fn P w K mg base (m + 1) "_law_other" (spOt m)) : Fn P w K mg base (n + 1) "_law_other" (spOt n) := by
  refine fn_ok T sc_other so_other (fun vs H Q E h => by obtain ⟨x, R, nm, ns, k, rfl, _⟩ := h; rfl) (fun _ _ _ _ _ _ us hl => match us, hl with | [_, _], _ => rfl) fun f cdv A outer s H vs Q E hr h nd => ?_
  obtain ⟨x, R, nm, ns, k, rfl, hx, hG, hnm, hns, q⟩ := h
  cases R with
  | nil => exact hG.elim
  | pk d s => exact hG.elim
  | op n i s => exact hG.elim
  | py m p s => exact hG.elim
  | tk a =>
    obtain ⟨p, y, ex, hp, hy⟩ := hx
    cases ex
    obtain ⟨m, rfl, hG⟩ := hG
    refine l_cons (s_if (t_cmp (e_ix (e_var (e_int (ix_t (by exact SqT.of hp) at0 (e_str (o_neS ⟨_, rfl, ?_⟩))))))))
    rw [decide_eq_false (by decide +kernel)]
    refine iteT (l_cons (s_ret (e_bin (e_tInit (e_var (e_neg (e_int ⟨1, rfl, ?_⟩)))))))
    refine ⟨p, [.str "take"], y, rfl, rfl, hp, fun t1 H1 e1 h1 => ?_⟩
    refine e_tup (a_cons (e_call (by exact F m rfl) (by exact hr) (by omega) (a_cons (e_ix (e_var (e_neg (e_int ⟨1, rfl, ix_t (by exact SqT.of (e1 _ _ hp)) (last_at (l := [.str "take"])) (a_cons (e_var (a_nil ?_)))⟩)))))))
    refine ⟨y, a, nm, ns, k + 1, rfl, DV.ts (Same.ts e1) hy, hG, e1 _ _ hnm, hns, fun x' R' H2 e2 hx' hG' hN' => a_nil ?_⟩
    refine ⟨by show 1 ≤ sizeLine; decide, fun t3 H3 e3 n3 h3 => ?_⟩
    refine o_catA (e3 _ _ (e2 _ _ h1)) h3 (by show _ + 1 ≤ 200000; simp only [List.length_cons, List.length_nil]; omega) fun t4 H4 e4 h4 => ?_
    have e24 := e3.trans e4
    have e04 := (e1.trans e2).trans e24
    exact q _ (.tk R') H4 e04 ⟨t4, x', rfl, h4, hx'.ts (Same.ts e24)⟩ ⟨m, rfl, hG'⟩ (by show K13.nd R' + 1 ≤ K13.nd a + 1 + 1; omega)
  | mk z i a =>
    obtain ⟨p, y, ex, hp, hy⟩ := hx
    cases ex
    obtain ⟨m, rfl, hG⟩ := hG
    refine l_cons (s_if (t_cmp (e_ix (e_var (e_int (ix_t (by exact SqT.of hp) at0 (e_str (o_neS ⟨_, rfl, ?_⟩))))))))
    rw [decide_eq_false (by decide +kernel)]
    refine iteT (l_cons (s_ret (e_bin (e_tInit (e_var (e_neg (e_int ⟨1, rfl, ?_⟩)))))))
    refine ⟨p, [.str "make", .str z, .int i], y, rfl, rfl, hp, fun t1 H1 e1 h1 => ?_⟩
    refine e_tup (a_cons (e_call (by exact F m rfl) (by exact hr) (by omega) (a_cons (e_ix (e_var (e_neg (e_int ⟨1, rfl, ix_t (by exact SqT.of (e1 _ _ hp)) (last_at (l := [.str "make", .str z, .int i])) (a_cons (e_var (a_nil ?_)))⟩)))))))
    refine ⟨y, a, nm, ns, k, rfl, DV.ts (Same.ts e1) hy, hG, e1 _ _ hnm, hns, fun x' R' H2 e2 hx' hG' hN' => a_nil ?_⟩
    refine ⟨by show 1 ≤ sizeLine; decide, fun t3 H3 e3 n3 h3 => ?_⟩
    refine o_catA (e3 _ _ (e2 _ _ h1)) h3 (by show _ + 1 ≤ 200000; simp only [List.length_cons, List.length_nil]; omega) fun t4 H4 e4 h4 => ?_
    have e24 := e3.trans e4
    have e04 := (e1.trans e2).trans e24
    exact q _ (.mk z i R') H4 e04 ⟨t4, x', rfl, h4, hx'.ts (Same.ts e24)⟩ ⟨m, rfl, hG'⟩ (by show K13.nd R' + 1 ≤ K13.nd a + 1 + 1; omega)
  | of a b =>
    obtain ⟨p, y, y2, ex, hp, hy, hy2⟩ := hx
    cases ex
    obtain ⟨m, rfl, hG, hG2⟩ := hG
    refine l_cons (s_if (t_cmp (e_ix (e_var (e_int (ix_t (by exact SqT.of hp) at0 (e_str (o_neS ⟨_, rfl, ?_⟩))))))))
    rw [decide_eq_false (by decide +kernel)]
    refine iteT (l_cons (s_ret (e_bin (e_tInit (e_var (e_neg (e_int ⟨1, rfl, ?_⟩)))))))
    refine ⟨p, [.str "offer", y], y2, rfl, rfl, hp, fun t1 H1 e1 h1 => ?_⟩
    refine e_tup (a_cons (e_call (by exact F m rfl) (by exact hr) (by omega) (a_cons (e_ix (e_var (e_neg (e_int ⟨1, rfl, ix_t (by exact SqT.of (e1 _ _ hp)) (last_at (l := [.str "offer", y])) (a_cons (e_var (a_nil ?_)))⟩)))))))
    refine ⟨y2, b, nm, ns, k, rfl, DV.ts (Same.ts e1) hy2, hG2, e1 _ _ hnm, hns, fun x' R' H2 e2 hx' hG' hN' => a_nil ?_⟩
    refine ⟨by show 1 ≤ sizeLine; decide, fun t3 H3 e3 n3 h3 => ?_⟩
    refine o_catA (e3 _ _ (e2 _ _ h1)) h3 (by show _ + 1 ≤ 200000; simp only [List.length_cons, List.length_nil]; omega) fun t4 H4 e4 h4 => ?_
    have e24 := e3.trans e4
    have e04 := (e1.trans e2).trans e24
    exact q _ (.of a R') H4 e04 ⟨t4, y, x', rfl, h4, DV.ts (Same.ts e04) hy, hx'.ts (Same.ts e24)⟩ ⟨m, rfl, hG, hG'⟩ (by show K13.nd a + K13.nd R' + 1 ≤ K13.nd a + K13.nd b + 1 + 1; omega)
  | hd h s0 =>
    obtain ⟨p, r, ys, ex, hp, hrr, hys⟩ := hx
    cases ex
    obtain ⟨hok, hal, hG⟩ := hG
    have hw := hG.wf
    have hacs := al_sp hw hys
    have hall := gdA_all hG
    have hnd := nd_sp (acs s0)
    rw [sp_acs hw] at hnd
    have lacs := acs_al s0
    refine l_cons (s_if (t_cmp (e_ix (e_var (e_int (ix_t (by exact SqT.of hp) at0 (e_str (o_neS ⟨_, rfl, ?_⟩))))))))
    rw [decide_eq_true rfl]
    refine iteF (l_nil (l_cons (s_if (t_w (w_and (t_not (t_tru (e_ix (e_var (e_int (ix_t (by exact SqT.of hp) (atI_nat (j := 2) rfl) ⟨_, tru_t hrr, ?_⟩)))))))))))
    rcases snoc_or' (acs s0) with hcs | ⟨cs0, c, hcs⟩
    · rw [hcs] at hacs hnd
      cases (show ys = [] from hacs)
      cases h with
      | inr z =>
        refine iteT (w_and1 (t_val (e_callB (x := "isinstance") (by assumption) b_isi ?_)))
        refine a_cons (e_ix (e_var (e_int (ix_t (by exact SqT.of hp) at1 ?_))))
        walk_at "sts"
        refine c_isi ty_str (.ty _) (kit_ty kb_str_str) ⟨_, rfl, iteT ?_⟩
        refine l_cons (s_ret (e_tup (a_cons (e_str (a_cons (e_ix (e_var (e_bin (e_lIx (e_var ⟨nm, _, rfl, SqL.of hnm, e_ix (e_var (e_int (ix_t (by exact SqT.of hp) at1 ?_)))⟩))))))))))
        refine ⟨ns, z, rfl, SqL.of hnm, hok, fun j hj _ => e_int (o_sub ?_)⟩
        obtain ⟨z', hz', hza⟩ := names_at hns hj
        refine ix_l (by exact SqL.of hnm) hza (a_cons (e_tup (a_nil ?_)))
        refine ⟨by show 0 ≤ sizeLine; decide, fun t1 H1 e1 n1 h1 => a_nil ?_⟩
        refine ⟨by show 3 ≤ sizeLine; decide, fun t2 H2 e2 n2 h2 => ?_⟩
        refine q _ (.hd (.inr z') .nil) H2 (e1.trans e2) ⟨t2, t1, [], rfl, h2, e2 _ _ h1, rfl⟩ ⟨hz', by show 0 ≤ 4; decide, trivial⟩ ?_
        show 1 ≤ K13.nd s0 + 1
        omega
      | inl i =>
        refine iteT (w_and1 (t_val (e_callB (x := "isinstance") (by assumption) b_isi ?_)))
        refine a_cons (e_ix (e_var (e_int (ix_t (by exact SqT.of hp) at1 ?_))))
        walk_at "sts"
        refine c_isi ty_int (.ty _) (kit_ty kb_int_str) ⟨_, rfl, iteF (l_nil ?_)⟩
        refine l_cons (s_if (t_not (t_tru (e_ix (e_var (e_int (ix_t (by exact SqT.of hp) (atI_nat (j := 2) rfl) ⟨_, tru_t hrr, ?_⟩)))))))
        refine iteT (l_cons (s_ret (e_tup (a_cons (e_str (a_cons (e_ix (e_var (e_int (ix_t (by exact SqT.of hp) at1 (a_cons (e_tup (a_cons (e_tup (a_cons (e_str (a_cons (e_str (a_nil ?_)))))))))))))))))))
        refine ⟨by show 2 ≤ sizeLine; decide, fun g H1 e1 n1 h1 => a_nil ?_⟩
        refine ⟨by show 1 ≤ sizeLine; decide, fun t2 H2 e2 n2 h2 => a_nil ?_⟩
        refine ⟨by show 3 ≤ sizeLine; decide, fun t3 H3 e3 n3 h3 => ?_⟩
        refine q _ (.hd (.inl i) (.pk "left" .nil)) H3 ((e1.trans e2).trans e3) ⟨t3, t2, _, rfl, h3, e3 _ _ h2, g, [], rfl, e3 _ _ (e2 _ _ h1), rfl⟩ ⟨hok, by show 1 ≤ 4; decide, .inl rfl, trivial⟩ ?_
        show 2 ≤ K13.nd s0 + 1
        have : (([] : List Ac).map ndA).sum = 0 := rfl
        omega
    · rw [hcs] at hacs hnd lacs hall
      obtain ⟨us, vs1, rfl, hus, v1, us1, rfl, hv1, hn1⟩ := hacs.split
      cases (show us1 = [] from hn1)
      have lus := hus.len
      rw [List.length_append] at lacs
      simp only [List.length_cons, List.length_nil] at lacs
      have hemp : (us ++ [v1]).isEmpty = false := by cases us <;> rfl
      rw [hemp]
      refine iteF (iteF (l_nil ?_))
      refine l_cons (s_if (t_not (t_tru (e_ix (e_var (e_int (ix_t (by exact SqT.of hp) (atI_nat (j := 2) rfl) ⟨_, tru_t hrr, ?_⟩)))))))
      rw [hemp]
      refine iteF (l_nil ?_)
      -- the last row
      have fin : ∀ (c' : Ac) (v' : V) (H1 : Hp), Same H H1 → AcD H1 c' v' → GdA ns k n c' → ndA c' ≤ ndA c + 1 → ∀ (NX BK CT : L2.St → Hp → Prop), wL (cxOf CX0 P w K mg base N_other (Str.ofString "_law_other") (defScope s_other) f cdv A outer s H E).nox ((defBody s_other).drop 5) { nx := NX, rt := Q, bk := BK, ct := CT } [some (.ref p), some (.ref nm), some v'] H1 := by
        intro c' v' H1 e1 hc' hg' hn' NX BK CT
        refine l_cons (s_ret (e_tup (a_cons (e_str (a_cons (e_ix (e_var (e_int (ix_t (by exact SqT.of (e1 _ _ hp)) at1 (a_cons (e_bin ?_)))))))))))
        refine e_tInit (e_ix (e_var (e_int (ix_t (by exact SqT.of (e1 _ _ hp)) (atI_nat (j := 2) rfl) (e_neg (e_int ⟨1, rfl, ?_⟩))))))
        refine ⟨r, us, v1, rfl, rfl, e1 _ _ hrr, fun t2 H2 e2 h2 => e_tup (a_cons (e_var (a_nil ?_)))⟩
        refine ⟨by show 1 ≤ sizeLine; decide, fun t3 H3 e3 n3 h3 => ?_⟩
        refine o_catA (e3 _ _ h2) h3 (by simp only [List.length_cons, List.length_nil]; omega) fun t4 H4 e4 h4 => a_nil ?_
        refine ⟨by show 3 ≤ sizeLine; decide, fun t5 H5 e5 n5 h5 => ?_⟩
        have e15 := (e2.trans e3).trans (e4.trans e5)
        have e05 := e1.trans e15
        have hA : Al (AcD H5) (cs0 ++ [c']) (us ++ [v']) := (hus.mono fun _ _ => AcD.ts (Same.ts e05)).app ⟨_, [], rfl, hc'.ts (Same.ts e15), rfl⟩
        refine q _ (.hd h (sp (cs0 ++ [c']))) H5 e05 ⟨t5, t4, _, rfl, h5, e5 _ _ h4, dv_sp hA⟩ ⟨hok, ?_, gd_sp fun e he => ?_⟩ ?_
        · rw [al_of_sp, List.length_append]; simp only [List.length_cons, List.length_nil]; omega
        · rcases List.mem_append.mp he with he | he
          · exact hall e (List.mem_append_left _ he)
          · rw [List.mem_singleton.mp he]; exact hg'
        · show K13.nd (sp (cs0 ++ [c'])) ≤ K13.nd s0 + 1
          rw [nd_sp, List.map_append, List.sum_append]
          rw [List.map_append, List.sum_append] at hnd
          simp only [List.map_cons, List.map_nil, List.sum_cons, List.sum_nil] at hnd ⊢
          omega
      have hgc := hall c (List.mem_append_right _ (List.mem_singleton.mpr rfl))
      refine l_cons (s_set (e_ix (e_ix (e_var (e_int (ix_t (by exact SqT.of hp) (atI_nat (j := 2) rfl) (e_neg (e_int ⟨1, rfl, ix_t (by exact SqT.of hrr) last_at ?_⟩))))))))
      show wL _ _ _ [some (.ref p), some (.ref nm), some v1] _
      cases c with
      | pk z =>
        obtain ⟨g, rfl, hg⟩ := hv1
        refine l_cons (s_if (t_cmp (e_ix (e_var (e_int (ix_t (by exact SqT.of hg) at0 (e_str (o_eqS ⟨_, rfl, ?_⟩))))))))
        rw [decide_eq_false (by decide +kernel)]
        refine iteF (l_cons (s_if (t_cmp (e_ix (e_var (e_int (ix_t (by exact SqT.of hg) at0 (e_str (o_eqS ⟨_, rfl, ?_⟩)))))))))
        rw [decide_eq_true rfl]
        refine iteT (l_cons (s_set (e_tup (a_cons (e_str (a_cons (e_ix (e_lst (a_cons (e_str (a_cons (e_str (a_nil ?_)))))))))))))
        refine ⟨by show 2 ≤ sizeLine; decide, fun t2 H2 e2 n2 hl2 => ?_⟩
        refine e_callTy (x := "int") (by assumption) b_int (a_cons (e_cmp (e_ix (e_var (e_int (ix_t (by exact SqT.of (e2 _ _ hg)) at1 (e_str (o_eqS (a_nil (c_intB ?_))))))))))
        cases decide (z = Str.ofString "left") with
        | true =>
          refine ix_l (by exact SqL.of hl2) at1 (a_nil ?_)
          refine ⟨by show 2 ≤ sizeLine; decide, fun t4 H4 e4 n4 h4 => ?_⟩
          exact l_nil (l_nil (fin (.pk "right") (.ref t4) H4 (e2.trans e4) ⟨t4, rfl, h4⟩ (.inr rfl) (by show 1 ≤ 1 + 1; decide) _ _ _))
        | false =>
          refine ix_l (by exact SqL.of hl2) at0 (a_nil ?_)
          refine ⟨by show 2 ≤ sizeLine; decide, fun t4 H4 e4 n4 h4 => ?_⟩
          exact l_nil (l_nil (fin (.pk "left") (.ref t4) H4 (e2.trans e4) ⟨t4, rfl, h4⟩ (.inl rfl) (by show 1 ≤ 1 + 1; decide) _ _ _))
      | op z i =>
        obtain ⟨g, rfl, hg⟩ := hv1
        refine l_cons (s_if (t_cmp (e_ix (e_var (e_int (ix_t (by exact SqT.of hg) at0 (e_str (o_eqS ⟨_, rfl, ?_⟩))))))))
        rw [decide_eq_false (by decide +kernel)]
        refine iteF (l_cons (s_if (t_cmp (e_ix (e_var (e_int (ix_t (by exact SqT.of hg) at0 (e_str (o_eqS ⟨_, rfl, ?_⟩)))))))))
        rw [decide_eq_false (by decide +kernel)]
        refine iteF (l_cons (s_set (e_tup (a_cons (e_str (a_cons (e_ix (e_var (e_int (ix_t (by exact SqT.of hg) at1 (a_cons ?_)))))))))))
        refine e_callTy (x := "int") (by assumption) b_int (a_cons (e_cmp (e_ix (e_var (e_int (ix_t (by exact SqT.of hg) (atI_nat (j := 2) rfl) (e_int (o_eqI (a_nil (c_intB (a_nil ?_)))))))))))
        refine ⟨by show 3 ≤ sizeLine; decide, fun t4 H4 e4 n4 h4 => ?_⟩
        exact l_nil (l_nil (fin (.op z _) (.ref t4) H4 e4 ⟨t4, rfl, h4⟩ trivial (by show 1 ≤ 1 + 1; decide) _ _ _))
      | py mo p0 =>
        obtain ⟨g, mv, y0, rfl, hg, hmv, hy0⟩ := hv1
        obtain ⟨hmo, m, rfl, hGp⟩ := hgc
        refine l_cons (s_if (t_cmp (e_ix (e_var (e_int (ix_t (by exact SqT.of hg) at0 (e_str (o_eqS ⟨_, rfl, ?_⟩))))))))
        rw [decide_eq_true rfl]
        refine iteT (l_cons (s_set (e_tup (a_cons (e_str (a_cons (e_ix (e_var (e_int (ix_t (by exact SqT.of hg) at1 (a_cons (e_call (by exact F m rfl) (by exact hr) (by omega) ?_))))))))))))
        refine a_cons (e_ix (e_var (e_int (ix_t (by exact SqT.of hg) (atI_nat (j := 2) rfl) (a_cons (e_var (a_nil ?_)))))))
        refine ⟨y0, p0, nm, ns, k, rfl, hy0, hGp, hnm, hns, fun x' R' H2 e2 hx' hG' hN' => a_nil ?_⟩
        refine ⟨by show 3 ≤ sizeLine; decide, fun t4 H4 e4 n4 h4 => ?_⟩
        exact l_nil (fin (.py mo R') (.ref t4) H4 (e2.trans e4) ⟨t4, mv, x', rfl, h4, hmv.ts (Same.ts (e2.trans e4)), hx'.ts (Same.ts e4)⟩ ⟨hmo, m, rfl, hG'⟩ (by show 1 + K13.nd R' ≤ 1 + K13.nd p0 + 1; omega) _ _ _)
theorem ok_ot (T : Top K mg "_law_other" s_other) (mI : mg "isinstance" = none) (mS : mg "str" = none) (mInt : mg "int" = none) : ∀ n, Fn P w K mg base (n + 1) "_law_other" (spOt n)
  | 0 => ok_otS 0 T mI mS mInt (fun _ h => by omega)
  | n + 1 => ok_otS (n + 1) T mI mS mInt (fun m h => by cases h; exact ok_ot T mI mS mInt n)
end



/-! ### what a settled derivation looks like -/
def TrOk (n : Nat) (H : Hp) (x : V) : Prop := ∃ R l t r ns b k d, Gd ns b k d R ∧ TrV H (stl R l t r) x ∧ (stl R l t r).dep ≤ n
def ItOk (n : Nat) (H : Hp) (c : Str) (x : V) : Prop := (c = "t" ∧ ∃ m, n = m + 1 ∧ TrOk m H x) ∨ (c = "k" ∧ ∃ m, FdV H (mF m) x ∧ MdOk m) ∨ (c = "i" ∧ ∃ i, x = .int i) ∨ (c = "r" ∧ ∃ r, x = kV r) ∨ (c = "d" ∧ (x = .str "left" ∨ x = .str "right")) ∨ (c = "n" ∧ ∃ z, x = .str z)
def fm : Kd → Str
  | .own => "r" | .take => "t" | .offer => "tt" | .pick => "rdt" | .pay => "rktt" | .make => "nit" | .open_ => "rnit" | .cut => "kstt" | .cite => "n"
def fmC : Kd → List Str
  | .own => ["r"] | .take => ["t"] | .offer => ["t", "t"] | .pick => ["r", "d", "t"] | .pay => ["r", "k", "t", "t"] | .make => ["n", "i", "t"] | .open_ => ["r", "n", "i", "t"] | .cut => ["k", "s", "t", "t"] | .cite => ["n"]
abbrev fmK : List Str := ["own", "take", "offer", "pick", "pay", "make", "open", "cut", "cite"]
abbrev fmV : List Str := ["r", "t", "tt", "rdt", "rktt", "nit", "rnit", "kstt", "n"]
theorem fm_all : (allKd.all fun k => (List.range 5).all fun i => match (fmC k)[i]? with | some c => (match atI (fm k).cps.toList (i : Int) with | some a => decide (Wk.sg a = c) | none => false) | none => true) = true := by decide +kernel
theorem fm_len (k : Kd) : (fm k).length = (fmC k).length ∧ (fmC k).length ≤ 4 := by cases k <;> decide +kernel
theorem fm_at (k : Kd) (i : Nat) (c : Str) (h : (fmC k)[i]? = some c) : ∃ a, atI (fm k).cps.toList (i : Int) = some a ∧ Wk.sg a = c := by
  have hi : i < 5 := by
    have := (List.getElem?_eq_some_iff.mp h).1
    have := (fm_len k).2
    omega
  have hk : k ∈ allKd := by cases k <;> decide
  have h1 := List.all_eq_true.mp (List.all_eq_true.mp fm_all k hk) i (List.mem_range.mpr hi)
  rw [h] at h1
  cases ha : atI (fm k).cps.toList (i : Int) with
  | none => rw [ha] at h1; cases h1
  | some a => rw [ha] at h1; exact ⟨a, rfl, of_decide_eq_true h1⟩
theorem tr_items {n : Nat} {H : Hp} : ∀ {b : Bool} {R : Rd} {l : Nat} {t : List Nat} {r : Key} {ns : List Str} {k d : Nat} {x : V}, Gd ns b k d R → TrV H (stl R l t r) x → (stl R l t r).dep ≤ n → ∃ p xs kd, x = .ref p ∧ H p = some (.tup (.str (Kd.nm kd) :: xs)) ∧ Al (fun c y => ItOk n H c y) (fmC kd) xs
  | true, .tk a, l, t, r, ns, k, d, x, ⟨d', _, hG⟩, hv, hd => by
    obtain ⟨p, zs, y, rfl, hp, ⟨fs, rfl, hfs⟩, hy⟩ := hv
    cases (show fs = [] from hfs)
    have hd : (stl a (l + 1) (t ++ [l]) r).dep + 1 ≤ n := hd
    exact ⟨p, [y], .take, rfl, hp, y, [], rfl, .inl ⟨rfl, n - 1, by omega, a, _, _, _, ns, true, _, _, hG, hy, by omega⟩, rfl⟩
  | true, .mk z i a, l, t, r, ns, k, d, x, ⟨d', _, hG⟩, hv, hd => by
    obtain ⟨p, zs, y, rfl, hp, ⟨fs, rfl, f1, fs1, rfl, hf1, f2, fs2, rfl, hf2, hfs⟩, hy⟩ := hv
    cases (show fs2 = [] from hfs)
    cases (show f1 = .str z from hf1)
    cases (show f2 = .int i from hf2)
    have hd : (stl a l t r).dep + 1 ≤ n := hd
    exact ⟨p, [.str z, .int i, y], .make, rfl, hp, _, _, rfl, .inr (.inr (.inr (.inr (.inr ⟨rfl, z, rfl⟩)))), _, _, rfl, .inr (.inr (.inl ⟨rfl, i, rfl⟩)), y, [], rfl, .inl ⟨rfl, n - 1, by omega, a, _, _, _, ns, true, _, _, hG, hy, by omega⟩, rfl⟩
  | true, .of a b, l, t, r, ns, k, d, x, ⟨d', _, hG, hG'⟩, hv, hd => by
    obtain ⟨p, zs, y, y2, rfl, hp, ⟨fs, rfl, hfs⟩, hy, hy2⟩ := hv
    cases (show fs = [] from hfs)
    have hd : max (stl a l t r).dep (stl b l t r).dep + 1 ≤ n := hd
    exact ⟨p, [y, y2], .offer, rfl, hp, _, _, rfl, .inl ⟨rfl, n - 1, by omega, a, _, _, _, ns, true, _, _, hG, hy, by omega⟩, _, [], rfl, .inl ⟨rfl, n - 1, by omega, b, _, _, _, ns, true, _, _, hG', hy2, by omega⟩, rfl⟩
  | true, .hd h s, l, t, r, ns, k, d, x, ⟨_, _, hG⟩, hv, hd => tr_items (b := false) (R := s) hG hv hd
  | false, .nil, l, t, r, ns, k, d, x, _, hv, _ => by
    obtain ⟨p, zs, rfl, hp, fs, rfl, hfs⟩ := hv
    cases (show fs = [] from hfs)
    exact ⟨p, [kV r], .own, rfl, hp, _, [], rfl, .inr (.inr (.inr (.inl ⟨rfl, r, rfl⟩))), rfl⟩
  | false, .pk z s, l, t, r, ns, k, d, x, ⟨hz, hG⟩, hv, hd => by
    obtain ⟨p, zs, y, rfl, hp, ⟨fs, rfl, f1, fs1, rfl, hf1, hfs⟩, hy⟩ := hv
    cases (show fs1 = [] from hfs)
    cases (show f1 = .str z from hf1)
    have hd : (stl s (l + 1) t (lv l)).dep + 1 ≤ n := hd
    exact ⟨p, [kV r, .str z, y], .pick, rfl, hp, _, _, rfl, .inr (.inr (.inr (.inl ⟨rfl, r, rfl⟩))), _, _, rfl, .inr (.inr (.inr (.inr (.inl ⟨rfl, hz.imp (fun h => by rw [h]) (fun h => by rw [h])⟩)))), y, [], rfl, .inl ⟨rfl, n - 1, by omega, s, _, _, _, ns, false, _, _, hG, hy, by omega⟩, rfl⟩
  | false, .op z i s, l, t, r, ns, k, d, x, hG, hv, hd => by
    obtain ⟨p, zs, y, rfl, hp, ⟨fs, rfl, f1, fs1, rfl, hf1, f2, fs2, rfl, hf2, hfs⟩, hy⟩ := hv
    cases (show fs2 = [] from hfs)
    cases (show f1 = .str z from hf1)
    cases (show f2 = .int i from hf2)
    have hG : Gd ns false k d s := hG
    have hd : (stl s (l + 1) t (lv l)).dep + 1 ≤ n := hd
    exact ⟨p, [kV r, .str z, .int i, y], .open_, rfl, hp, _, _, rfl, .inr (.inr (.inr (.inl ⟨rfl, r, rfl⟩))), _, _, rfl, .inr (.inr (.inr (.inr (.inr ⟨rfl, z, rfl⟩)))), _, _, rfl, .inr (.inr (.inl ⟨rfl, i, rfl⟩)), y, [], rfl, .inl ⟨rfl, n - 1, by omega, s, _, _, _, ns, false, _, _, hG, hy, by omega⟩, rfl⟩
  | false, .py mo p0 s, l, t, r, ns, k, d, x, ⟨hmo, ⟨d', _, hG⟩, hG'⟩, hv, hd => by
    obtain ⟨p, zs, y, y2, rfl, hp, ⟨fs, rfl, mv, fs1, rfl, hf1, hfs⟩, hy, hy2⟩ := hv
    cases (show fs1 = [] from hfs)
    have hd : max (stl p0 l t r).dep (stl s (l + 1) t (lv l)).dep + 1 ≤ n := hd
    exact ⟨p, [kV r, mv, y, y2], .pay, rfl, hp, _, _, rfl, .inr (.inr (.inr (.inl ⟨rfl, r, rfl⟩))), _, _, rfl, .inr (.inl ⟨rfl, mo, hf1, hmo⟩), _, _, rfl, .inl ⟨rfl, n - 1, by omega, p0, _, _, _, ns, true, _, _, hG, hy, by omega⟩, _, [], rfl, .inl ⟨rfl, n - 1, by omega, s, _, _, _, ns, false, _, _, hG', hy2, by omega⟩, rfl⟩
theorem TrOk.is {n : Nat} {H H' : Hp} (e : Same H H') {x : V} : TrOk n H x → TrOk n H' x := fun ⟨R, l, t, r, ns, b, k, d, h1, h2, h3⟩ => ⟨R, l, t, r, ns, b, k, d, h1, h2.ts (Same.ts e), h3⟩
theorem ItOk.is {n : Nat} {H H' : Hp} (e : Same H H') {c : Str} {x : V} : ItOk n H c x → ItOk n H' c x := fun h => by
  rcases h with ⟨h0, m, h1, h2⟩ | ⟨h0, m, h1, h2⟩ | h | h | h | h
  · exact .inl ⟨h0, m, h1, h2.is e⟩
  · exact .inr (.inl ⟨h0, m, h1.ts (Same.ts e), h2⟩)
  · exact .inr (.inr (.inl h))
  · exact .inr (.inr (.inr (.inl h)))
  · exact .inr (.inr (.inr (.inr (.inl h))))
  · exact .inr (.inr (.inr (.inr (.inr h))))
section
variable {P : Program} {w : World} {K : PySem.W.Frag} {mg : Str → Option Value} {base : Heap}
def spMode : Sp := fun vs H Q _ => ∃ v m, vs = [v] ∧ FdV H (mF m) v ∧ MdOk m ∧ Q (.bl true) H
theorem ok_mode (T : Top K mg "_law_is_mode" s_is_mode) (mI : mg "isinstance" = none) (mS : mg "str" = none) (mT : mg "tuple" = none) (mL : mg "len" = none) (FN : Fn P w K mg base 1 "_law_is_number" spNum) : Fn P w K mg base 2 "_law_is_mode" spMode := by
  refine fn_ok T sc_is_mode so_is_mode (fun vs H Q E h => by obtain ⟨v, m, rfl, _⟩ := h; rfl) (fun _ _ _ _ _ _ us hl => match us, hl with | [_], _ => rfl) fun f cdv A outer s H vs Q E hr h nd => ?_
  obtain ⟨v, m, rfl, hv, hm, q⟩ := h
  cases m with
  | none =>
    cases (show v = .str "once" from hv)
    walk_at "sts"
    refine c_isi ty_str (.ty _) (kit_ty kb_str_str) ?_
    walk_at "sts"
    rw [decide_eq_true rfl]
    exact q
  | some ab =>
    obtain ⟨a, b⟩ := ab
    obtain ⟨t, rfl, ht⟩ := hv
    obtain ⟨g1, g2, g3, g4⟩ := hm
    walk_at "sts"
    refine c_isi (ty_tup ht) (.ty _) (kit_ty kb_tuple_str) ?_
    walk_at "sts"
    refine c_isi (ty_tup ht) (.ty _) (kit_ty kb_tuple_tuple) ?_
    walk_at "sts"
    refine c_lenT (by exact SqT.of ht) ?_
    walk_at "sts"
    refine e_call (by exact FN) (by exact hr) (by decide) ?_
    walk_at "sts"
    refine ix_t (by exact SqT.of ht) at0 ?_
    walk_at "sts"
    refine e_call (by exact FN) (by exact hr) (by decide) ?_
    walk_at "sts"
    refine ix_t (by exact SqT.of ht) at1 ?_
    walk_at "sts"
    refine ix_t (by exact SqT.of ht) at0 ?_
    walk_at "sts"
    rw [decide_eq_true g1]
    walk_at "sts"
    refine ix_t (by exact SqT.of ht) at1 ?_
    walk_at "sts"
    rw [decide_eq_true g3]
    exact q
def spItem (n : Nat) : Sp := fun vs H Q _ => ∃ c x, vs = [.str c, x] ∧ ItOk n H c x ∧ ∀ H', Same H H' → Q (.bl true) H'
def spTree (n : Nat) : Sp := fun vs H Q _ => ∃ x, vs = [x] ∧ TrOk n H x ∧ ∀ H', Same H H' → Q (.bl true) H'
theorem ok_itemS (n : Nat) (T : Top K mg "_law_is_item" s_is_item) (mI : mg "isinstance" = none) (mS : mg "str" = none) (FN : Fn P w K mg base 1 "_law_is_number" spNum) (FM : Fn P w K mg base 2 "_law_is_mode" spMode) (F : ∀ m, n = m + 1 → Fn P w K mg base (3 * m + 5) "_law_is_tree" (spTree m)) : Fn P w K mg base (3 * n + 3) "_law_is_item" (spItem n) := by
  refine fn_ok T sc_is_item so_is_item (fun vs H Q E h => by obtain ⟨c, x, rfl, _⟩ := h; rfl) (fun _ _ _ _ _ _ us hl => match us, hl with | [_, _], _ => rfl) fun f cdv A outer s H vs Q E hr h nd => ?_
  obtain ⟨c, x, rfl, hc, q⟩ := h
  rcases hc with ⟨rfl, m, rfl, ht⟩ | ⟨rfl, m, hm1, hm2⟩ | ⟨rfl, i, rfl⟩ | ⟨rfl, r, rfl⟩ | ⟨rfl, hx⟩ | ⟨rfl, z, rfl⟩
  · refine l_cons (s_if (t_cmp (e_var (e_str (o_eqS ⟨_, rfl, ?_⟩)))))
    rw [decide_eq_true rfl]
    refine iteT (l_cons (s_ret (e_call (by exact F m rfl) (by exact hr) (by omega) (a_cons (e_var (a_nil ?_))))))
    exact ⟨x, rfl, ht, q⟩
  · refine l_cons (s_if (t_cmp (e_var (e_str (o_eqS ⟨_, rfl, ?_⟩)))))
    rw [decide_eq_false (by decide +kernel)]
    refine iteF (l_nil (l_cons (s_if (t_cmp (e_var (e_str (o_eqS ⟨_, rfl, ?_⟩)))))))
    rw [decide_eq_false (by decide +kernel)]
    refine iteF (l_nil (l_cons (s_if (t_cmp (e_var (e_str (o_eqS ⟨_, rfl, ?_⟩)))))))
    rw [decide_eq_true rfl]
    refine iteT (l_cons (s_ret (e_call (by exact FM) (by exact hr) (by omega) (a_cons (e_var (a_nil ?_))))))
    exact ⟨x, m, rfl, hm1, hm2, q H (Same.refl H)⟩
  · refine l_cons (s_if (t_cmp (e_var (e_str (o_eqS ⟨_, rfl, ?_⟩)))))
    rw [decide_eq_false (by decide +kernel)]
    refine iteF (l_nil (l_cons (s_if (t_cmp (e_var (e_str (o_eqS ⟨_, rfl, ?_⟩)))))))
    rw [decide_eq_false (by decide +kernel)]
    refine iteF (l_nil (l_cons (s_if (t_cmp (e_var (e_str (o_eqS ⟨_, rfl, ?_⟩)))))))
    rw [decide_eq_false (by decide +kernel)]
    refine iteF (l_nil ?_)
    refine l_cons (s_if (t_w (w_or (t_cmp (e_var (e_str (o_eqS ⟨_, rfl, ?_⟩)))))))
    rw [decide_eq_true rfl]
    refine iteT (iteT (l_cons (s_ret (e_call (by exact FN) (by exact hr) (by omega) (a_cons (e_var (a_nil ?_)))))))
    exact ⟨i, rfl, q H (Same.refl H)⟩
  · refine l_cons (s_if (t_cmp (e_var (e_str (o_eqS ⟨_, rfl, ?_⟩)))))
    rw [decide_eq_false (by decide +kernel)]
    refine iteF (l_nil (l_cons (s_if (t_cmp (e_var (e_str (o_eqS ⟨_, rfl, ?_⟩)))))))
    rw [decide_eq_false (by decide +kernel)]
    refine iteF (l_nil (l_cons (s_if (t_cmp (e_var (e_str (o_eqS ⟨_, rfl, ?_⟩)))))))
    rw [decide_eq_false (by decide +kernel)]
    refine iteF (l_nil ?_)
    refine l_cons (s_if (t_w (w_or (t_cmp (e_var (e_str (o_eqS ⟨_, rfl, ?_⟩)))))))
    rw [decide_eq_false (by decide +kernel)]
    refine iteF (w_or1 (t_w (w_and (t_cmp (e_var (e_str (o_eqS ⟨_, rfl, ?_⟩)))))))
    rw [decide_eq_true rfl]
    refine iteT (w_and1 (t_not (t_val (e_callB (x := "isinstance") (by assumption) b_isi (a_cons (e_var ?_))))))
    cases r with
    | inl i =>
      walk_at "sts"
      refine c_isi ty_int (.ty _) (kit_ty kb_int_str) ⟨_, rfl, ?_⟩
      refine iteT (l_cons (s_ret (e_call (by exact FN) (by exact hr) (by omega) (a_cons (e_var (a_nil ?_))))))
      exact ⟨i, rfl, q H (Same.refl H)⟩
    | inr z =>
      walk_at "sts"
      refine c_isi ty_str (.ty _) (kit_ty kb_str_str) ⟨_, rfl, ?_⟩
      refine iteF (l_nil (l_cons (s_ret (e_and (e_callB (x := "isinstance") (by assumption) b_isi (a_cons (e_var ?_)))))))
      walk_at "sts"
      refine c_isi ty_str (.ty _) (kit_ty kb_str_str) ⟨_, rfl, ?_⟩
      refine iteT (e_one (e_or (e_cmp (e_var (e_str (o_neS ⟨_, rfl, ?_⟩))))))
      rw [decide_eq_false (by decide +kernel)]
      exact iteT (q H (Same.refl H))
  · refine l_cons (s_if (t_cmp (e_var (e_str (o_eqS ⟨_, rfl, ?_⟩)))))
    rw [decide_eq_false (by decide +kernel)]
    refine iteF (l_nil (l_cons (s_if (t_cmp (e_var (e_str (o_eqS ⟨_, rfl, ?_⟩)))))))
    rw [decide_eq_false (by decide +kernel)]
    refine iteF (l_nil (l_cons (s_if (t_cmp (e_var (e_str (o_eqS ⟨_, rfl, ?_⟩)))))))
    rw [decide_eq_false (by decide +kernel)]
    refine iteF (l_nil ?_)
    refine l_cons (s_if (t_w (w_or (t_cmp (e_var (e_str (o_eqS ⟨_, rfl, ?_⟩)))))))
    rw [decide_eq_false (by decide +kernel)]
    refine iteF (w_or1 (t_w (w_and (t_cmp (e_var (e_str (o_eqS ⟨_, rfl, ?_⟩)))))))
    rw [decide_eq_false (by decide +kernel)]
    refine iteF (iteF (l_nil ?_))
    have fin : ∀ z : Str, inV (V.str z) [.str "left", .str "right"] = true → wL (cxOf CX0 P w K mg base N_is_item (Str.ofString "_law_is_item") (defScope s_is_item) f cdv A outer s H E).nox ((defBody s_is_item).drop 4) { nx := fun _ H' => Q .non H', rt := Q } [some (.str "d"), some (.str z)] H := by
      intro z hz
      refine l_cons (s_ret (e_and (e_callB (x := "isinstance") (by assumption) b_isi (a_cons (e_var ?_)))))
      walk_at "sts"
      refine c_isi ty_str (.ty _) (kit_ty kb_str_str) ⟨_, rfl, ?_⟩
      refine iteT (e_one (e_or (e_cmp (e_var (e_str (o_neS ⟨_, rfl, ?_⟩))))))
      rw [decide_eq_true rfl]
      refine iteF (e_one (e_cmp (e_var (e_tup (a_cons (e_str (a_cons (e_str (a_nil ?_)))))))))
      refine ⟨by show 2 ≤ sizeLine; decide, fun q1 H1 e1 n1 h1 => ?_⟩
      refine o_inT (by exact SqT.of h1) rfl rfl ?_
      rw [hz]
      exact q H1 e1
    rcases hx with rfl | rfl
    · exact fin _ (by decide +kernel)
    · exact fin _ (by decide +kernel)
  · refine l_cons (s_if (t_cmp (e_var (e_str (o_eqS ⟨_, rfl, ?_⟩)))))
    rw [decide_eq_false (by decide +kernel)]
    refine iteF (l_nil (l_cons (s_if (t_cmp (e_var (e_str (o_eqS ⟨_, rfl, ?_⟩)))))))
    rw [decide_eq_false (by decide +kernel)]
    refine iteF (l_nil (l_cons (s_if (t_cmp (e_var (e_str (o_eqS ⟨_, rfl, ?_⟩)))))))
    rw [decide_eq_false (by decide +kernel)]
    refine iteF (l_nil ?_)
    refine l_cons (s_if (t_w (w_or (t_cmp (e_var (e_str (o_eqS ⟨_, rfl, ?_⟩)))))))
    rw [decide_eq_false (by decide +kernel)]
    refine iteF (w_or1 (t_w (w_and (t_cmp (e_var (e_str (o_eqS ⟨_, rfl, ?_⟩)))))))
    rw [decide_eq_false (by decide +kernel)]
    refine iteF (iteF (l_nil ?_))
    refine l_cons (s_ret (e_and (e_callB (x := "isinstance") (by assumption) b_isi (a_cons (e_var ?_)))))
    walk_at "sts"
    refine c_isi ty_str (.ty _) (kit_ty kb_str_str) ⟨_, rfl, ?_⟩
    refine iteT (e_one (e_or (e_cmp (e_var (e_str (o_neS ⟨_, rfl, ?_⟩))))))
    rw [decide_eq_false (by decide +kernel)]
    exact iteT (q H (Same.refl H))
def spLk (n : Nat) : Sp := fun vs H Q _ => ∃ p D kd xs kvs, vs = [.ref p, .ref D] ∧ H p = some (.tup (.str (Kd.nm kd) :: xs)) ∧ H D = some (.dK kvs) ∧ valV kvs (.inr (Kd.nm kd)) = some (.str (fm kd)) ∧ Al (fun c y => ItOk n H c y) (fmC kd) xs ∧ ∀ H', Same H H' → Q (.bl true) H'
theorem ok_lk (n : Nat) (T : Top K mg "_law_is_like" s_is_like) (mI : mg "isinstance" = none) (mS : mg "str" = none) (mT : mg "tuple" = none) (mL : mg "len" = none) (mR : mg "range" = none) (FI : Fn P w K mg base (3 * n + 3) "_law_is_item" (spItem n)) : Fn P w K mg base (3 * n + 4) "_law_is_like" (spLk n) := by
  refine fn_ok T sc_is_like so_is_like (fun vs H Q E h => by obtain ⟨p, D, kd, xs, kvs, rfl, _⟩ := h; rfl) (fun _ _ _ _ _ _ us hl => match us, hl with | [_, _], _ => rfl) fun f cdv A outer s H vs Q E hr h nd => ?_
  obtain ⟨p, D, kd, xs, kvs, rfl, hp, hD, hval, hal, q⟩ := h
  have lxs := hal.len
  obtain ⟨fl1, fl2⟩ := fm_len kd
  have hdg : DGet H D (.str kd.nm) (some (.str (fm kd))) := by
    have g := dg_K (k := (.inr kd.nm : Key)) hD
    rw [hval] at g
    exact g
  have hfl : (fm kd).length ≤ sizeLine := by show _ ≤ 2 ^ 24; omega
  refine l_cons (s_if (t_w (w_or (t_not (t_val (e_callB (x := "isinstance") (by assumption) b_isi (a_cons (e_var ?_))))))))
  walk_at "sts"
  refine c_isi (ty_tup hp) (.ty _) (kit_ty kb_tuple_tuple) ⟨_, rfl, ?_⟩
  refine iteF (w_or (t_not (t_tru (e_var ⟨_, tru_t hp, ?_⟩))))
  refine iteF (w_or (t_not (t_val (e_callB (x := "isinstance") (by assumption) b_isi (a_cons (e_ix (e_var (e_int (ix_t (by exact SqT.of hp) at0 ?_)))))))))
  walk_at "sts"
  refine c_isi ty_str (.ty _) (kit_ty kb_str_str) ⟨_, rfl, ?_⟩
  refine iteF (w_or1 (t_cmp (e_ix (e_var (e_int (ix_t (by exact SqT.of hp) at0 (e_var (o_ninD (by exact hr) hdg ⟨_, rfl, ?_⟩))))))))
  refine iteF (l_nil (l_cons (s_set (e_dg (by exact hr) (e_var (e_ix (e_var (e_int (ix_t (by exact SqT.of hp) at0 ⟨D, _, rfl, hdg, ?_⟩)))))))))
  refine l_cons (s_if (t_cmp (e_callB (x := "len") (by assumption) b_len (a_cons (e_var (a_nil (c_lenT (SqT.of hp) (e_bin (e_int (e_callB (x := "len") (by assumption) b_len (a_cons (e_var (a_nil (c_lenS hfl (o_add (o_neI ⟨_, rfl, ?_⟩))))))))))))))))
  rw [decide_eq_true (by simp only [List.length_cons]; omega)]
  refine iteF (l_nil ?_)
  refine l_cons (s_forR (by assumption) (e_callB (x := "len") (by assumption) b_len (a_cons (e_var (a_nil (c_lenS hfl ?_))))))
  refine ⟨(fm kd).length, rfl, by omega, fun j σ H' => ∃ o3, σ = [some (.ref p), some (.ref D), some (.str (fm kd)), o3] ∧ Same H H', ⟨none, rfl, Same.refl H⟩, ?_, ?_⟩
  · rintro j σ H1 hj ⟨o3, rfl, e1⟩
    have hjx : xs[j]? = some (xs[j]'(by omega)) := List.getElem?_eq_getElem (by omega)
    obtain ⟨c, hc, hit⟩ := hal.get hjx
    obtain ⟨a, ha, rfl⟩ := fm_at kd j c hc
    show wL _ _ _ [some (.ref p), some (.ref D), some (.str (fm kd)), some (.int (j : Int))] _
    refine l_cons (s_if (t_not (t_val (e_call (by exact FI) (by exact hr) (by omega) (a_cons (e_ix (e_var (e_var (ix_s hfl ha ?_)))))))))
    refine a_cons (e_ix (e_var (e_bin (e_var (e_int (o_add ?_))))))
    rw [show ((j : Int) + 1) = ((j + 1 : Nat) : Int) by omega]
    refine ix_t (by exact SqT.of (e1 _ _ hp)) (atI_nat (by rw [List.getElem?_cons_succ]; exact hjx)) (a_nil ?_)
    refine ⟨_, _, rfl, hit.is e1, fun H2 e2 => ?_⟩
    exact ⟨true, rfl, iteF (l_nil (l_nil ⟨_, rfl, e1.trans e2⟩))⟩
  · rintro σ H1 ⟨o3, rfl, e1⟩
    exact l_cons (s_ret (e_bl (q H1 e1)))
theorem fm_val (kd : Kd) : valV (mergeK [] ((fmK.zip fmV).map fun z => ((Sum.inr z.1 : Key), V.str z.2))) (.inr kd.nm) = some (.str (fm kd)) := by cases kd <;> decide +kernel
theorem ok_treeS (n : Nat) (T : Top K mg "_law_is_tree" s_is_tree) (FL : Fn P w K mg base (3 * n + 4) "_law_is_like" (spLk n)) : Fn P w K mg base (3 * n + 5) "_law_is_tree" (spTree n) := by
  refine fn_ok T sc_is_tree so_is_tree (fun vs H Q E h => by obtain ⟨x, rfl, _⟩ := h; rfl) (fun _ _ _ _ _ _ us hl => match us, hl with | [_], _ => rfl) fun f cdv A outer s H vs Q E hr h nd => ?_
  obtain ⟨x, rfl, ⟨R, l, t, r, ns, b, k, d, hG, hv, hd⟩, q⟩ := h
  obtain ⟨p, xs, kd, rfl, hp, hal⟩ := tr_items hG hv hd
  refine l_cons (s_ret (e_call (by exact FL) (by exact hr) (by omega) (a_cons (e_var (a_cons ?_)))))
  refine e_dC (zs := fmK) (ws := fmV) (.cons ⟨_, _, rfl⟩ (.cons ⟨_, _, rfl⟩ (.cons ⟨_, _, rfl⟩ (.cons ⟨_, _, rfl⟩ (.cons ⟨_, _, rfl⟩ (.cons ⟨_, _, rfl⟩ (.cons ⟨_, _, rfl⟩ (.cons ⟨_, _, rfl⟩ (.cons ⟨_, _, rfl⟩ .nil))))))))) (.cons ⟨_, _, rfl⟩ (.cons ⟨_, _, rfl⟩ (.cons ⟨_, _, rfl⟩ (.cons ⟨_, _, rfl⟩ (.cons ⟨_, _, rfl⟩ (.cons ⟨_, _, rfl⟩ (.cons ⟨_, _, rfl⟩ (.cons ⟨_, _, rfl⟩ (.cons ⟨_, _, rfl⟩ .nil))))))))) rfl (by simp) (by show 9 ≤ 15; decide) (by show 9 ≤ 15; decide) fun D H2 e2 n2 h2 => a_nil ?_
  exact ⟨p, D, kd, xs, _, rfl, e2 _ _ hp, h2, fm_val kd, hal.mono fun _ _ => ItOk.is e2, fun H' e' => q H' (e2.trans e')⟩
theorem ok_tree (TT : Top K mg "_law_is_tree" s_is_tree) (TL : Top K mg "_law_is_like" s_is_like) (TI : Top K mg "_law_is_item" s_is_item) (mI : mg "isinstance" = none) (mS : mg "str" = none) (mT : mg "tuple" = none) (mL : mg "len" = none) (mR : mg "range" = none) (FN : Fn P w K mg base 1 "_law_is_number" spNum) (FM : Fn P w K mg base 2 "_law_is_mode" spMode) : ∀ n, Fn P w K mg base (3 * n + 5) "_law_is_tree" (spTree n)
  | 0 => ok_treeS 0 TT (ok_lk 0 TL mI mS mT mL mR (ok_itemS 0 TI mI mS FN FM (fun _ h => by omega)))
  | n + 1 => ok_treeS (n + 1) TT (ok_lk (n + 1) TL mI mS mT mL mR (ok_itemS (n + 1) TI mI mS FN FM (fun m h => by cases h; exact ok_tree TT TL TI mI mS mT mL mR FN FM n)))
end



structure Errs (K : PySem.W.Frag) (mg : Str → Option Value) (CN CH CP : Addr) : Prop where
  mN : mg "NotBare" = some (.ref CN)
  mH : mg "HeldError" = some (.ref CH)
  mP : mg "NoPart" = some (.ref CP)
  mV : mg "ValueError" = none
  ec : EcC K CN
  xf : XfC K CN
  no : PySem.W.findIn K (.ref CN) "path" = some none
  xN : PySem.W.exmOne K (.ref CN) (.ref CN) = some true
  kH : PySem.W.kitOne K (.ref CN) (.ref CH) = some true
  kV : PySem.W.kitOne K (.ref CN) (.type "ValueError") = some true
  kP : PySem.W.kitOne K (.ref CN) (.ref CP) = some false
theorem b_ve : bootBuiltins "ValueError" = some (.type "ValueError") := by decide +kernel
section
variable {P : Program} {w : World} {K : PySem.W.Frag} {mg : Str → Option Value} {base : Heap} {CN CH CP : Addr}
/-- two derivations, the first row cut or cite -/
def spRfd : Sp := fun vs H Q _ => ∃ v1 v2 u t1 t2 p, vs = [v1, v2, u] ∧ TrV H t1 v1 ∧ TrV H t2 v2 ∧ t1.Ok ∧ t2.Ok ∧ t1.size ≤ 1000 ∧ t2.size ≤ 1000 ∧ PthV H p u ∧ p.length ≤ 900 ∧
  ((∃ R1, t1 = stl R1 0 [] (lv 0) ∧ Wf true R1 ∧ OkR 0 R1 ∧ firstT t2 = some p) ∨ firstT t1 = some p) ∧ ∀ H', Same H H' → Q (.bl true) H'
theorem ok_rfd (T : Top K mg "_law_refused" s_refused) (mI : mg "isinstance" = none) (mL : mg "len" = none) (R : Errs K mg CN CH CP) (FA : FnN P w K mg base 8 "alike" (spAl CN)) (FS : Fn P w K mg base 3 "_law_same" (spSm 1)) : Fn P w K mg base 9 "_law_refused" spRfd := by
  refine fn_ok T sc_refused so_refused (fun vs H Q E h => by obtain ⟨v1, v2, u, t1, t2, p, rfl, _⟩ := h; rfl) (fun _ _ _ _ _ _ us hl => match us, hl with | [_, _, _], _ => rfl) fun f cdv A outer s H vs Q E hr h nd => ?_
  obtain ⟨v1, v2, u, t1, t2, p, rfl, hv1, hv2, ho1, ho2, hz1, hz2', hu, hpl, hc, q⟩ := h
  have mV := R.mV
  have fin : ∀ (l4 : Addr) (uu : V) (H3 : Hp) (o5 : Option V), Same H H3 → H3 l4 = some (.lst [uu, .bl true, .bl true, .bl false]) → PthV H3 p uu → wL (cxOf CX0 P w K mg base N_refused (Str.ofString "_law_refused") (defScope s_refused) f cdv A outer s H E).nox ((defBody s_refused).drop 2) { nx := fun _ H' => Q .non H', rt := Q } [some v1, some v2, some u, some (.ref l4), o5] H3 := by
    intro l4 uu H3 o5 e3 h3 hu3
    refine l_cons (s_ret (e_and (e_cmp (e_callB (x := "len") (by assumption) b_len (a_cons (e_var (a_nil (c_lenL (SqL.of h3) (e_int (o_eqI ?_))))))))))
    refine ⟨_, rfl, ?_⟩
    rw [decide_eq_true (show ((([uu, V.bl true, V.bl true, V.bl false] : List V).length : Nat) : Int) = 4 from rfl)]
    refine iteT (e_and (e_call (by exact FS) (by exact hr) (by decide) (a_cons (e_ix (e_var (e_int (ix_l (by exact SqL.of h3) at0 (a_cons (e_var (a_nil ?_))))))))))
    refine ⟨uu, u, rfl, PthV.eq (by omega) hu3 (hu.ts (Same.ts e3)), fun H4 e4 => ⟨true, rfl, iteT (e_one (e_cmp (e_slL0 sl_list (e_var (e_int ⟨1, rfl, ?_⟩)))))⟩⟩
    refine ⟨l4, _, rfl, SqL.of (e4 _ _ h3), fun c nc => ?_⟩
    have h5 : upd H4 c (.lst (cutV [uu, V.bl true, .bl true, .bl false] (some 1) none)) c = some (.lst [V.bl true, .bl true, .bl false]) := upd_same
    have e5 : Same H4 (upd H4 c (.lst (cutV [uu, V.bl true, .bl true, .bl false] (some 1) none))) := fun b o hb => by rw [upd_ne (ne_of_none hb nc)]; exact hb
    generalize upd H4 c (.lst (cutV [uu, V.bl true, .bl true, .bl false] (some 1) none)) = H5 at h5 e5 ⊢
    refine e_lst (a_cons (e_bl (a_cons (e_bl (a_cons (e_bl (a_nil ?_)))))))
    refine ⟨by show 3 ≤ sizeLine; decide, fun l6 H6 e6 n6 h6 => ?_⟩
    refine o_eqP (by exact hr) (.lst (SqL.of (e6 _ _ h5)) (.cons (.bl true) (.cons (.bl true) (.cons (.bl false) .nil)))) (.lst (SqL.of h6) (.cons (.bl true) (.cons (.bl true) (.cons (.bl false) .nil)))) rfl rfl (by decide) ?_
    rw [PySem.SeqAt.eqv_refl_plain _ rfl]
    exact q H6 ((e3.trans e4).trans (e5.trans e6))
  refine l_cons (s_set (e_lst (a_nil ⟨by show 0 ≤ sizeLine; decide, fun fa H1 e1 n1 h1 => ?_⟩)))
  refine l_cons ?_
  refine s_tryN (by exact R.mN) takesN0 fun pn xe tk nd' => ?_
  refine l_cons (s_expr (e_app (e_var ⟨fa, [], rfl, SqL.of h1, e_callN (by exact FA) (by exact tk) (by exact hr) (by decide) (a_cons (e_var (a_cons (e_var (a_nil ?_)))))⟩)))
  refine ⟨v1, v2, t1, t2, rfl, hv1.ts (Same.ts e1), hv2.ts (Same.ts e1), ho1, ho2, hz1, hz2', .inr (hc.imp (fun ⟨R1, a, b, c, d⟩ => ⟨R1, p, a, b, c, d, fun uu d H2 e2 hu2 hd => ?_⟩) (fun a => ⟨p, a, fun uu d H2 e2 hu2 hd => ?_⟩))⟩
  · refine ⟨true, R.xN, fun _ a na => ?_, fun z => nomatch z⟩
    intro oe pn2 hz2 hf nd2 hot
    have hdd : ∀ dd, some d = some dd → H2 dd = some (.xd [(("path" : Str), uu)]) := fun dd e => by cases e; exact hd
    refine l_cons (s_set (e_lst ?_))
    refine a_cons (e_xf R.xf R.no hz2 hf (e_var ⟨rfl, d, _, uu, rfl, hd, by simp [List.lookup], ?_⟩))
    walk_at "sts"
    refine e_glob (v := .ref CH) (by exact R.mH) rfl ?_
    walk_at "sts"
    refine c_isE R.ec hz2 hf hdd (.own _) R.kH ?_
    walk_at "sts"
    refine e_bltn (v := .ty "ValueError") (by assumption) b_ve rfl ?_
    walk_at "sts"
    refine c_isE R.ec hz2 hf hdd (.ty _) R.kV ?_
    walk_at "sts"
    refine e_glob (v := .ref CP) (by exact R.mP) rfl ?_
    walk_at "sts"
    refine c_isE R.ec hz2 hf hdd (.own _) R.kP ?_
    refine a_nil ⟨by show 4 ≤ sizeLine; decide, fun l4 H3 e3 n3 h3 => ?_⟩
    exact l_nil (fin l4 uu H3 _ ((e1.trans e2).trans e3) h3 (hu2.ts (Same.ts e3)))
  · refine ⟨true, R.xN, fun _ a na => ?_, fun z => nomatch z⟩
    intro oe pn2 hz2 hf nd2 hot
    have hdd : ∀ dd, some d = some dd → H2 dd = some (.xd [(("path" : Str), uu)]) := fun dd e => by cases e; exact hd
    refine l_cons (s_set (e_lst ?_))
    refine a_cons (e_xf R.xf R.no hz2 hf (e_var ⟨rfl, d, _, uu, rfl, hd, by simp [List.lookup], ?_⟩))
    walk_at "sts"
    refine e_glob (v := .ref CH) (by exact R.mH) rfl ?_
    walk_at "sts"
    refine c_isE R.ec hz2 hf hdd (.own _) R.kH ?_
    walk_at "sts"
    refine e_bltn (v := .ty "ValueError") (by assumption) b_ve rfl ?_
    walk_at "sts"
    refine c_isE R.ec hz2 hf hdd (.ty _) R.kV ?_
    walk_at "sts"
    refine e_glob (v := .ref CP) (by exact R.mP) rfl ?_
    walk_at "sts"
    refine c_isE R.ec hz2 hf hdd (.own _) R.kP ?_
    refine a_nil ⟨by show 4 ≤ sizeLine; decide, fun l4 H3 e3 n3 h3 => ?_⟩
    exact l_nil (fin l4 uu H3 _ ((e1.trans e2).trans e3) h3 (hu2.ts (Same.ts e3)))
end



/-! ### readings as plain data -/
def dP : Rd → List PyData
  | .tk a => [.tuple (.str "take" :: dP a)]
  | .mk n i a => [.tuple (.str "make" :: .str n :: .int i :: dP a)]
  | .of a b => [.tuple (.str "offer" :: (dP a ++ dP b))]
  | .hd h s => [.tuple [.str "head", kP h, .tuple (dP s)]]
  | .nil => []
  | .pk d s => .tuple [.str "pick", .str d] :: dP s
  | .op n i s => .tuple [.str "open", .str n, .int i] :: dP s
  | .py m p s => .tuple (.str "pay" :: mP m :: dP p) :: dP s
theorem dpa_app {K : PySem.W.Frag} {H : Hp} : ∀ {xs : List V} {ds : List PyData} {ys : List V} {es : List PyData}, DpAll K H xs ds → DpAll K H ys es → DpAll K H (xs ++ ys) (ds ++ es)
  | _, _, _, _, .nil, h => h
  | _, _, _, _, .cons a b, h => .cons a (dpa_app b h)
theorem dv_dp {K : PySem.W.Frag} {H : Hp} : ∀ {R : Rd} {xs : List V}, DV H R xs → DpAll K H xs (dP R)
  | .tk a, _, ⟨t, x, h1, h2, h3⟩ => by rw [h1]; exact .cons (.tup (SqT.of h2) (.cons (.str _) (dv_dp h3))) .nil
  | .mk n i a, _, ⟨t, x, h1, h2, h3⟩ => by rw [h1]; exact .cons (.tup (SqT.of h2) (.cons (.str _) (.cons (.str _) (.cons (.int _) (dv_dp h3))))) .nil
  | .of a b, _, ⟨t, x, y, h1, h2, h3, h4⟩ => by rw [h1]; exact .cons (.tup (SqT.of h2) (.cons (.str _) (dpa_app (dv_dp h3) (dv_dp h4)))) .nil
  | .hd h s, _, ⟨t, r, ys, h1, h2, h3, h4⟩ => by rw [h1]; exact .cons (.tup (SqT.of h2) (.cons (.str _) (.cons (kP_dp h) (.cons (.tup (SqT.of h3) (dv_dp h4)) .nil)))) .nil
  | .nil, _, h => by rw [show _ = _ from h]; exact .nil
  | .pk d s, _, ⟨t, ys, h1, h2, h3⟩ => by rw [h1]; exact .cons (.tup (SqT.of h2) (.cons (.str _) (.cons (.str _) .nil))) (dv_dp h3)
  | .op n i s, _, ⟨t, ys, h1, h2, h3⟩ => by rw [h1]; exact .cons (.tup (SqT.of h2) (.cons (.str _) (.cons (.str _) (.cons (.int _) .nil)))) (dv_dp h3)
  | .py m p s, _, ⟨t, mv, x, ys, h1, h2, h3, h4, h5⟩ => by rw [h1]; exact .cons (.tup (SqT.of h2) (.cons (.str _) (.cons (mP_dp h3) (dv_dp h4)))) (dv_dp h5)
theorem pla_app : ∀ a b : List PyData, PyData.plainAll (a ++ b) = (PyData.plainAll a && PyData.plainAll b)
  | [], b => rfl
  | x :: a, b => by
    show (x.plain && PyData.plainAll (a ++ b)) = ((x.plain && PyData.plainAll a) && PyData.plainAll b)
    rw [pla_app a b, Bool.and_assoc]
theorem dpa_dep : ∀ a b : List PyData, PyData.depthAll (a ++ b) = max (PyData.depthAll a) (PyData.depthAll b)
  | [], b => (Nat.zero_max _).symm
  | x :: a, b => by
    show max x.depth (PyData.depthAll (a ++ b)) = max (max x.depth (PyData.depthAll a)) (PyData.depthAll b)
    rw [dpa_dep a b]
    omega
theorem dP_plain : ∀ R : Rd, PyData.plainAll (dP R) = true
  | .tk a => by show ((true && PyData.plainAll (dP a)) && true) = true; rw [dP_plain a]; rfl
  | .mk n i a => by show ((true && (true && (true && PyData.plainAll (dP a)))) && true) = true; rw [dP_plain a]; rfl
  | .of a b => by show ((true && PyData.plainAll (dP a ++ dP b)) && true) = true; rw [pla_app, dP_plain a, dP_plain b]; rfl
  | .hd h s => by show ((true && ((kP h).plain && (PyData.plainAll (dP s) && true))) && true) = true; rw [dP_plain s, (kP_plain h).1]; rfl
  | .nil => rfl
  | .pk d s => by show ((true && (true && true)) && PyData.plainAll (dP s)) = true; rw [dP_plain s]; rfl
  | .op n i s => by show ((true && (true && (true && true))) && PyData.plainAll (dP s)) = true; rw [dP_plain s]; rfl
  | .py m p s => by show ((true && ((mP m).plain && PyData.plainAll (dP p))) && PyData.plainAll (dP s)) = true; rw [dP_plain s, dP_plain p, (mP_plain m).1]; rfl
theorem dP_dep : ∀ R : Rd, PyData.depthAll (dP R) ≤ dD R
  | .tk a => by have := dP_dep a; show max (max 0 (PyData.depthAll (dP a)) + 1) 0 ≤ dD a + 1; omega
  | .mk n i a => by have := dP_dep a; show max (max 0 (max 0 (max 0 (PyData.depthAll (dP a)))) + 1) 0 ≤ dD a + 1; omega
  | .of a b => by have h1 := dP_dep a; have h2 := dP_dep b; show max (max 0 (PyData.depthAll (dP a ++ dP b)) + 1) 0 ≤ max (dD a) (dD b) + 1; rw [dpa_dep]; omega
  | .hd h s => by have h1 := dP_dep s; have h2 := (kP_plain h).2; show max (max 0 (max (kP h).depth (max (PyData.depthAll (dP s) + 1) 0)) + 1) 0 ≤ dD s + 2; omega
  | .nil => Nat.le_refl _
  | .pk d s => by have := dP_dep s; show max (max 0 (max 0 0) + 1) (PyData.depthAll (dP s)) ≤ max 1 (dD s); omega
  | .op n i s => by have := dP_dep s; show max (max 0 (max 0 (max 0 0)) + 1) (PyData.depthAll (dP s)) ≤ max 1 (dD s); omega
  | .py m p s => by have h1 := dP_dep s; have h2 := dP_dep p; have h3 := (mP_plain m).2; show max (max 0 (max (mP m).depth (PyData.depthAll (dP p))) + 1) (PyData.depthAll (dP s)) ≤ max (max 2 (dD p) + 1) (dD s); omega
theorem gd_dD {ns : List Str} : ∀ {b : Bool} {R : Rd} {k d : Nat}, Gd ns b k d R → dD R ≤ (if b then 3 * d + 3 else 3 * d + 1)
  | true, .tk a, _, _, ⟨d', rfl, h⟩ => by have := gd_dD (R := a) h; simp at this; show dD a + 1 ≤ 3 * (d' + 1) + 3; omega
  | true, .mk _ _ a, _, _, ⟨d', rfl, h⟩ => by have := gd_dD (R := a) h; simp at this; show dD a + 1 ≤ 3 * (d' + 1) + 3; omega
  | true, .of a b, _, _, ⟨d', rfl, h, h'⟩ => by have h1 := gd_dD (R := a) h; have h2 := gd_dD (R := b) h'; simp at h1 h2; show max (dD a) (dD b) + 1 ≤ 3 * (d' + 1) + 3; omega
  | true, .hd _ s, _, d, ⟨_, _, h⟩ => by have := gd_dD (R := s) h; simp at this; show dD s + 2 ≤ 3 * d + 3; omega
  | false, .nil, _, _, _ => Nat.zero_le _
  | false, .pk _ s, _, d, ⟨_, h⟩ => by have := gd_dD (R := s) h; simp at this; show max 1 (dD s) ≤ 3 * d + 1; omega
  | false, .op _ _ s, _, d, h => by have := gd_dD (b := false) (R := s) h; simp at this; show max 1 (dD s) ≤ 3 * d + 1; omega
  | false, .py _ p s, _, _, ⟨_, ⟨d', rfl, h⟩, h'⟩ => by have h1 := gd_dD (R := p) h; have h2 := gd_dD (R := s) h'; simp at h1 h2; show max (max 2 (dD p) + 1) (dD s) ≤ 3 * (d' + 1) + 1; omega
theorem gd_fw {ns : List Str} : ∀ {b : Bool} {R : Rd} {k d : Nat}, Gd ns b k d R → Fw R
  | true, .tk a, _, _, ⟨_, _, h⟩ => gd_fw (R := a) h
  | true, .mk _ _ a, _, _, ⟨_, _, h⟩ => gd_fw (R := a) h
  | true, .of a b, _, _, ⟨_, _, h, h'⟩ => ⟨gd_fw (R := a) h, gd_fw (R := b) h'⟩
  | true, .hd _ s, _, _, ⟨_, h4, h⟩ => ⟨by omega, gd_fw (R := s) h⟩
  | false, .nil, _, _, _ => trivial
  | false, .pk _ s, _, _, ⟨_, h⟩ => gd_fw (R := s) h
  | false, .op _ _ s, _, _, h => gd_fw (b := false) (R := s) h
  | false, .py _ p s, _, _, ⟨_, ⟨_, _, h⟩, h'⟩ => ⟨gd_fw (R := p) h, gd_fw (R := s) h'⟩
theorem eqva_app {a b c d : List PyData} (h : PyData.eqvAll (a ++ c) (b ++ d) = true) (hl : a.length = b.length) : PyData.eqvAll a b = true ∧ PyData.eqvAll c d = true := by
  induction a generalizing b with
  | nil => cases b with
    | nil => exact ⟨rfl, h⟩
    | cons _ _ => cases hl
  | cons x a ih => cases b with
    | nil => cases hl
    | cons y b =>
      rw [List.cons_append, List.cons_append, eqv_cons, Bool.and_eq_true] at h
      have := ih h.2 (by simpa using hl)
      exact ⟨by rw [eqv_cons, h.1, this.1]; rfl, this.2⟩
theorem dP_one : ∀ {R : Rd}, Wf true R → (dP R).length = 1
  | .tk _, _ => rfl | .mk _ _ _, _ => rfl | .of _ _, _ => rfl | .hd _ _, _ => rfl
  | .nil, w => w.elim | .pk _ _, w => w.elim | .op _ _ _, w => w.elim | .py _ _ _, w => w.elim
theorem dP_inj : ∀ {b : Bool} {R R' : Rd}, Wf b R → Wf b R' → PyData.eqvAll (dP R) (dP R') = true → R = R' := by
  intro b R
  induction R generalizing b with
  | tk a ih =>
    intro R' w w' h
    cases b with
    | false => exact w.elim
    | true =>
      cases R' <;> first
        | exact w'.elim
        | (simp only [dP, eqv_cons, eqv_tup, eqv_str, Bool.and_eq_true] at h; exact absurd h.1.1 (by decide +kernel))
        | skip
      rename_i a'
      simp only [dP, eqv_cons, eqv_tup, Bool.and_eq_true] at h
      rw [ih (b := true) (R' := a') w w' h.1.2]
  | mk n i a ih =>
    intro R' w w' h
    cases b with
    | false => exact w.elim
    | true =>
      cases R' <;> first
        | exact w'.elim
        | (simp only [dP, eqv_cons, eqv_tup, eqv_str, Bool.and_eq_true] at h; exact absurd h.1.1 (by decide +kernel))
        | skip
      rename_i n' i' a'
      simp only [dP, eqv_cons, eqv_tup, eqv_str, eqv_int, Bool.and_eq_true, beq_iff_eq] at h
      rw [ih (b := true) (R' := a') w w' h.1.2.2.2, h.1.2.1, h.1.2.2.1]
  | of a b' iha ihb =>
    intro R' w w' h
    cases b with
    | false => exact w.elim
    | true =>
      cases R' <;> first
        | exact w'.elim
        | (simp only [dP, eqv_cons, eqv_tup, eqv_str, Bool.and_eq_true] at h; exact absurd h.1.1 (by decide +kernel))
        | skip
      simp only [dP, eqv_cons, eqv_tup, Bool.and_eq_true] at h
      have h2 := eqva_app h.1.2 (by rw [dP_one w.1, dP_one w'.1])
      rw [iha (b := true) w.1 w'.1 h2.1, ihb (b := true) w.2 w'.2 h2.2]
  | hd k s ih =>
    intro R' w w' h
    cases b with
    | false => exact w.elim
    | true =>
      cases R' <;> first
        | exact w'.elim
        | (simp only [dP, eqv_cons, eqv_tup, eqv_str, Bool.and_eq_true] at h; exact absurd h.1.1 (by decide +kernel))
        | skip
      simp only [dP, eqv_cons, eqv_tup, Bool.and_eq_true] at h
      rw [ih (b := false) w w' h.1.2.2.1, kP_inj h.1.2.1]
  | nil =>
    intro R' w w' h
    cases b with
    | true => exact w.elim
    | false =>
      cases R' <;> first
        | exact w'.elim
        | rfl
        | (simp [dP, PyData.eqvAll] at h)
  | pk d s ih =>
    intro R' w w' h
    cases b with
    | true => exact w.elim
    | false =>
      cases R' <;> first
        | exact w'.elim
        | (simp only [dP, PyData.eqvAll] at h; exact absurd h (by decide))
        | (simp only [dP, eqv_cons, eqv_tup, eqv_str, Bool.and_eq_true] at h; exact absurd h.1.1 (by decide +kernel))
        | skip
      rename_i d' s'
      simp only [dP, eqv_cons, eqv_tup, eqv_str, Bool.and_eq_true, beq_iff_eq] at h
      rw [ih (b := false) (R' := s') w w' h.2, h.1.2.1]
  | op n i s ih =>
    intro R' w w' h
    cases b with
    | true => exact w.elim
    | false =>
      cases R' <;> first
        | exact w'.elim
        | (simp only [dP, PyData.eqvAll] at h; exact absurd h (by decide))
        | (simp only [dP, eqv_cons, eqv_tup, eqv_str, Bool.and_eq_true] at h; exact absurd h.1.1 (by decide +kernel))
        | skip
      rename_i n' i' s'
      simp only [dP, eqv_cons, eqv_tup, eqv_str, eqv_int, Bool.and_eq_true, beq_iff_eq] at h
      rw [ih (b := false) (R' := s') w w' h.2, h.1.2.1, h.1.2.2.1]
  | py m p s ihp ihs =>
    intro R' w w' h
    cases b with
    | true => exact w.elim
    | false =>
      cases R' <;> first
        | exact w'.elim
        | (simp only [dP, PyData.eqvAll] at h; exact absurd h (by decide))
        | (simp only [dP, eqv_cons, eqv_tup, eqv_str, Bool.and_eq_true] at h; exact absurd h.1.1 (by decide +kernel))
        | skip
      simp only [dP, eqv_cons, eqv_tup, Bool.and_eq_true] at h
      rw [ihs (b := false) w.2 w'.2 h.2, ihp (b := true) w.1 w'.1 h.1.2.2, mP_inj h.1.2.1]
theorem stp_det {g : Sg} {S A B : List SE} (a : Stp g S A) (b : Stp g S B) : A = B := by
  cases g with
  | tk => obtain ⟨p, q, h1, h2⟩ := a; obtain ⟨p', q', h1', h2'⟩ := b; rw [h1] at h1'; cases h1'; rw [h2, h2']
  | mk n i => obtain ⟨p, q, h1, h2⟩ := a; obtain ⟨p', q', h1', h2'⟩ := b; rw [h1] at h1'; cases h1'; rw [h2, h2']
  | of => obtain ⟨p, r, q, h1, h2⟩ := a; obtain ⟨p', r', q', h1', h2'⟩ := b; rw [h1] at h1'; cases h1'; rw [h2, h2']
  | py m => obtain ⟨p, q, h1, h2⟩ := a; obtain ⟨p', q', h1', h2'⟩ := b; rw [h1] at h1'; cases h1'; rw [h2, h2']
  | pk d => rw [show A = _ from a, show B = _ from b]
  | op n i => rw [show A = _ from a, show B = _ from b]
  | hd h n =>
    obtain ⟨cs, q, h1, h2, h3⟩ := a
    obtain ⟨cs', q', h1', h2', h3'⟩ := b
    rw [h1] at h1'
    have hl : (cs.map SE.A).length = (cs'.map SE.A).length := by rw [List.length_map, List.length_map, h2, h2']
    obtain ⟨e1, e2⟩ := List.append_inj h1' hl
    have e1 : cs = cs' := (List.map_inj_right (fun a b h => by cases h; rfl)).mp e1
    rw [h3, h3', e1, e2]
theorem go_det : ∀ {gs : List Sg} {S A B : List SE}, Go gs S A → Go gs S B → A = B
  | [], _, _, _, a, b => by rw [← show _ = _ from a, ← show _ = _ from b]
  | _ :: _, _, _, _, ⟨S1, a1, a2⟩, ⟨S2, b1, b2⟩ => by rw [stp_det a1 b1] at a2; exact go_det a2 b2
theorem sg_inj {R R' : Rd} (w : Wf true R) (w' : Wf true R') (h : sg R = sg R') : R = R' := by
  have g1 : Go ((sg R).reverse ++ []) [] [.R R] := go_sg w rfl
  have g2 : Go ((sg R').reverse ++ []) [] [.R R'] := go_sg w' rfl
  rw [h] at g1
  have := go_det g1 g2
  cases this
  rfl



theorem gd_mono {ns : List Str} : ∀ {b : Bool} {R : Rd} {k d e : Nat}, Gd ns b k d R → d ≤ e → Gd ns b k e R
  | true, .tk a, _, _, e, ⟨d', rfl, h⟩, hl => by
    obtain ⟨e', rfl⟩ : ∃ e', e = e' + 1 := ⟨e - 1, by omega⟩
    exact ⟨e', rfl, gd_mono (R := a) h (by omega)⟩
  | true, .mk _ _ a, _, _, e, ⟨d', rfl, h⟩, hl => by
    obtain ⟨e', rfl⟩ : ∃ e', e = e' + 1 := ⟨e - 1, by omega⟩
    exact ⟨e', rfl, gd_mono (R := a) h (by omega)⟩
  | true, .of a b, _, _, e, ⟨d', rfl, h, h'⟩, hl => by
    obtain ⟨e', rfl⟩ : ∃ e', e = e' + 1 := ⟨e - 1, by omega⟩
    exact ⟨e', rfl, gd_mono (R := a) h (by omega), gd_mono (R := b) h' (by omega)⟩
  | true, .hd _ s, _, _, _, ⟨h1, h2, h⟩, hl => ⟨h1, h2, gd_mono (R := s) h hl⟩
  | false, .nil, _, _, _, _, _ => trivial
  | false, .pk _ s, _, _, _, ⟨h1, h⟩, hl => ⟨h1, gd_mono (R := s) h hl⟩
  | false, .op _ _ s, _, _, _, h, hl => show Gd ns false _ _ s from gd_mono (b := false) (R := s) h hl
  | false, .py _ p s, _, _, e, ⟨h1, ⟨d', rfl, h⟩, h'⟩, hl => by
    obtain ⟨e', rfl⟩ : ∃ e', e = e' + 1 := ⟨e - 1, by omega⟩
    exact ⟨h1, ⟨e', rfl, gd_mono (R := p) h (by omega)⟩, gd_mono (R := s) h' hl⟩
theorem all_not (h : Hd) : (!(decide (h.k = .cut) || decide (h.k = .cite))) = !isC h.k := rfl
theorem bare_c : ∀ t : Tr, bareT t = !cT t
  | .le h => by show ((!isC h.k) && true) = !isC h.k; rw [Bool.and_true]
  | .un h a => by
    have e := bare_c a
    show ((!isC h.k) && bareT a) = !(isC h.k || cT a)
    rw [e, Bool.not_or]
  | .bi h a b => by
    have e1 := bare_c a
    have e2 := bare_c b
    have e3 : bareT (.bi h a b) = ((!isC h.k) && (bareT a && bareT b)) := by
      show ((!isC h.k) && (hds a ++ hds b).all _) = _
      rw [List.all_append]
      rfl
    rw [e3, e1, e2]
    show _ = !(isC h.k || (cT a || cT b))
    rw [Bool.not_or, Bool.not_or]
theorem cT_stl : ∀ (R : Rd) (l : Nat) (t : List Nat) (r : Key), cT (stl R l t r) = false
  | .tk a, l, t, r => by show (false || cT (stl a _ _ _)) = false; rw [cT_stl a]; rfl
  | .mk n i a, l, t, r => by show (false || cT (stl a _ _ _)) = false; rw [cT_stl a]; rfl
  | .of a b, l, t, r => by show (false || (cT (stl a _ _ _) || cT (stl b _ _ _))) = false; rw [cT_stl a, cT_stl b]; rfl
  | .hd h s, l, t, r => cT_stl s _ _ _
  | .nil, _, _, _ => rfl
  | .pk d s, l, t, r => by show (false || cT (stl s _ _ _)) = false; rw [cT_stl s]; rfl
  | .op n i s, l, t, r => by show (false || cT (stl s _ _ _)) = false; rw [cT_stl s]; rfl
  | .py m p s, l, t, r => by show (false || (cT (stl p _ _ _) || cT (stl s _ _ _))) = false; rw [cT_stl p, cT_stl s]; rfl
theorem Bu.same {p t : Addr} {H H1 H2 : Hp} (e : Same H H1) (hp : H p = none) (ht : H t = none) (b : Bu p t H1 H2) : Same H H2 := fun c o hc => b c o (fun z => by subst z; rw [hp] at hc; cases hc) (fun z => by subst z; rw [ht] at hc; cases hc) (e c o hc)
section
variable {P : Program} {w : World} {K : PySem.W.Frag} {mg : Str → Option Value} {base : Heap} {CN CH CP : Addr}
theorem run_okC {x qual : Str} {st : Stmt} {N C G ps : List Str} {k : Nat} {sp : Sp} {f : Addr} {fd : FuncData} (F : Fun K x qual st f fd) (S : FnScope (N ++ C) ps (defScope st)) (O : ScOk N G (defScope st)) (len : ∀ vs H Q E, sp vs H Q E → vs.length = ps.length)
    (hbody : ∀ (f : Addr) (cdv : Value) (A : Around) (outer : List Env) (s : Shared) (H : Hp) (vs : List V) (Q : VK) (E : XK), Room k (A.deeper (envOfC qual (defScope st) s.heap.objs.size f cdv)) → sp vs H Q E → Wk.In (cxOf CX0 P w K mg base (N ++ C) qual (defScope st) f cdv A outer s H E).nox N G (defScope st) →
      wL (cxOf CX0 P w K mg base (N ++ C) qual (defScope st) f cdv A outer s H E).nox (defBody st) { nx := fun _ H' => Q .non H', rt := Q } (start (N ++ C) vs) H) : FnOk P w K mg base CX0 (k + 1) f fd ps sp :=
  F.ok S len (fun cdv A outer s H vs Q E hr h => ⟨_, pl, hbody f cdv A outer s H vs Q E hr h ⟨O, ⟨C, rfl⟩, S.nd, rfl, rfl, PassesOwn.never⟩⟩)
theorem sqL_up {K : PySem.W.Frag} {H H' : Hp} {a : Addr} {xs : List V} (e : Same H H') (h : SqL K H a xs) : SqL K H' a xs := by
  rcases h with h | h
  · rcases h with h | ⟨o, h⟩
    · exact .inl (.inl (e _ _ h))
    · exact .inl (.inr ⟨o, e _ _ h⟩)
  · exact .inr h
theorem first_len {t : Tr} {p : List Nat} (h : firstT t = some p) : p.length ≤ t.dep := by
  obtain ⟨j, x, hx, rfl, _⟩ := spT_first h
  obtain ⟨q, h1, h2⟩ := spT_at x (List.mem_of_getElem? hx)
  have := at_len h2
  rw [h1, List.nil_append]
  omega
theorem same_dv {ns : List Str} {R : Rd} {H : Hp} {a b : V} (hG : Gd ns true 0 5 R) (h1 : DV H R [a]) (h2 : DV H R [b]) : Eqd H 40 a b := by
  have h := (DV.eq hG.wf (gd_fw hG) h1 h2).1
  have hd := gd_dD hG
  simp at hd
  exact h.more (by omega)
def spLaw (K : PySem.W.Frag) : Sp := fun vs H Q _ => ∃ (a : Addr) (ns : List Int), vs = [.ref a] ∧ SqL K H a (ns.map V.int) ∧ ns.length ≤ 63 ∧ ∀ H', Q (.bl true) H'
theorem ok_law {f : Addr} {fd : FuncData} (F : Fun K "law" "law" s_law f fd) (mL : mg "len" = none) (mR : mg "range" = none) (mT : mg "tuple" = none) (mI : mg "isinstance" = none) (mB : mg "bool" = none) (R0 : Errs K mg CN CH CP)
    (FPo : Fn P w K mg base 2 "_law_pool" (spPool K)) (FN : Fn P w K mg base 1 "_law_next" spNext) (FM : Fn P w K mg base 2 "_law_name" spName) (FD : ∀ n, Fn P w K mg base (2 * n + 4) "_law_drawn" (spDr n)) (FW : ∀ n, Fn P w K mg base (n + 1) "_law_weight" (spWt n)) (FSF : Fn P w K mg base 4 "settled_from" spSf)
    (FT : Fn P w K mg base 125 "_law_is_tree" (spTree 40)) (FSt : Fn P w K mg base 44 "_law_settled" spStl) (FR : Fn P w K mg base 41 "_law_reading" spRdg) (FS : Fn P w K mg base 42 "_law_same" (spSm 40)) (FSp : Fn P w K mg base 43 "_law_spots" (spSpt 40)) (FRC : Fn P w K mg base 3 "row_count" spRC) (FBa : Fn P w K mg base 3 "is_bare" spBare)
    (FRb : FnN P w K mg base 8 "read_bare" (spRb CN)) (FAl : FnN P w K mg base 8 "alike" (spAl CN)) (FO : Fn P w K mg base 6 "_law_other" (spOt 5)) (FSpo : Fn P w K mg base 44 "_law_spoilt" spSpo) (FF : Fn P w K mg base 44 "_law_first" spFst) (FRf : Fn P w K mg base 9 "_law_refused" spRfd) : FnOk P w K mg base CX0 200 f fd ["_law_script"] (spLaw K) := by
  refine run_okC F sc_law so_law (fun vs H Q E h => by obtain ⟨a, ns, rfl, _⟩ := h; rfl) fun f cdv A outer s H vs Q E hr h nd => ?_
  obtain ⟨sa, zs, rfl, hS, hlen, q⟩ := h
  refine l_cons (s_set (e_call (by exact FPo) (by exact hr) (by decide) (a_cons (e_var (a_cons (e_int (a_nil ?_)))))))
  refine ⟨sa, zs, 0, rfl, hS, fun p H1 e1 np p1 => ?_⟩
  refine l_cons (s_set (e_lst (a_nil ⟨by show 0 ≤ sizeLine; decide, fun nm H2 e2 n2 h2 => ?_⟩)))
  have npn : nm ≠ p := fun z => by subst z; obtain ⟨_, _, _, g⟩ := p1; rw [g] at n2; cases n2
  have nn0 : H nm = none := none_of e1 n2
  have e02 := e1.trans e2
  refine l_cons (s_forR (by assumption) (e_bin (e_int (e_call (by exact FN) (by exact hr) (by decide) (a_cons (e_var (a_cons (e_int (a_nil ?_)))))))))
  refine ⟨p, 4, rfl, by decide, by decide, p1.up e2, fun c H3 c0 c1 b3 p3 => o_add ?_⟩
  obtain ⟨N, rfl⟩ := Int.eq_ofNat_of_zero_le c0
  refine ⟨1 + N, congrArg V.int (by omega), by omega, fun j σ H' => ∃ (ts : List Str) (o3 : Option V), σ = [some (.ref sa), some (.ref p), some (.ref nm), o3, none, none, none, none, none, none, none, none, none, none, none, none, none, none] ∧ Bu p nm H2 H' ∧ PoolAt H' p ∧ H' nm = some (.lst (sVs ts)) ∧ ts.length = j, ⟨[], none, rfl, Bu.of b3, p3, b3 _ _ npn h2, rfl⟩, ?_, ?_⟩
  · rintro j σ H4 hj ⟨ts, o3, rfl, b4, p4, h4, hl4⟩
    refine l_cons (s_expr (e_call (by exact FM) (by exact hr) (by decide) (a_cons (e_var (a_cons (e_var (a_nil ?_)))))))
    refine ⟨p, nm, ts, rfl, p4, npn, h4, by omega, fun z H5 b5 p5 h5 => ?_⟩
    exact l_nil ⟨ts ++ [z], _, rfl, b4.trans b5, p5, h5, by rw [List.length_append]; simp [hl4]⟩
  rintro σ H4 ⟨ts, o3, rfl, b4, p4, h4, hl4⟩
  have e04 : Same H H4 := Bu.same e02 np nn0 b4
  -- behind the drawing
  have core : ∀ (x : V) (R : Rd) (H1 : Hp), Same H H1 → H1 nm = some (.lst (sVs ts)) → DV H1 R [x] → Gd ts true 0 5 R → K13.nd R ≤ 120 → ∀ (NX BK CT : L2.St → Hp → Prop), wL (cxOf CX0 P w K mg base (N_law ++ C_law) (Str.ofString "law") (defScope s_law) f cdv A outer s H E).nox ((defBody s_law).drop 5) { nx := NX, rt := Q, bk := BK, ct := CT } [some (.ref sa), some (.ref p), some (.ref nm), o3, some x, none, none, none, none, none, none, none, none, none, none, none, none, none] H1 := by
    intro x R H1 e1 hnm hx hG hnd NX BK CT
    have hw := hG.wf
    have hok := hG.ok
    have hso := stl_ok R 0 [] (lv 0)
    have hsz := stl_size R 0 [] (lv 0)
    have hdep := stl_dep hG 0 [] (lv 0)
    simp at hdep
    refine l_cons (s_set (e_call (by exact FSF) (by exact hr) (by decide) (a_cons (e_var (a_nil ?_)))))
    refine ⟨x, R, rfl, hx, hw, hok, by omega, fun tv H2 e2 htv => ?_⟩
    refine l_cons (s_if (t_w (w_or (t_not (t_val (e_call (by exact FT) (by exact hr) (by decide) (a_cons (e_var (a_nil ?_)))))))))
    refine ⟨tv, rfl, ⟨R, 0, [], lv 0, ts, true, 0, 5, hG, htv, by omega⟩, fun H3 e3 => ⟨true, rfl, iteF (w_or1 (t_not (t_val (e_call (by exact FSt) (by exact hr) (by decide) (a_cons (e_var (a_cons (e_var (a_nil ?_)))))))))⟩⟩
    refine ⟨tv, _, nm, ts, rfl, htv.ts (Same.ts e3), hso, by omega, by omega, (e2.trans e3) _ _ hnm, stl_sto (t := []) hG (fun _ h => absurd h List.not_mem_nil) (fun h => by cases h), fun H4 e4 => ⟨true, rfl, iteF (l_nil ?_)⟩⟩
    have e14 := (e2.trans e3).trans e4
    have hnm4 := e14 _ _ hnm
    have htv4 := htv.ts (Same.ts (e3.trans e4))
    have hx4 := hx.ts (Same.ts e14)
    have e04' : Same H H4 := Same.trans e1 e14
    refine l_cons (s_set (e_tup (a_cons (e_callTy (x := "tuple") (by assumption) b_tuple (a_cons (e_lcL (by exact bk_law0) (e_var ?_)))))))
    refine ⟨nm, sVs ts, rfl, SqL.of hnm4, fun D nD => ⟨fun k H5 => ∃ acc, H5 D = some (.lst acc) ∧ Al (fun z x => ∃ a, x = .ref a ∧ H5 a = some (.tup [.str z])) (ts.take k) acc ∧ Same H4 H5, ?_, ?_, ?_, ?_⟩⟩
    · exact ⟨[], upd_same, rfl, fun c u hc => by rw [upd_ne (ne_of_none hc nD)]; exact hc⟩
    · intro k H5 _ pr
      obtain ⟨acc, _, _, e⟩ := pr
      exact SqL.of (e _ _ hnm4)
    · intro k y H5 hy pr
      obtain ⟨acc, hD, ha, e⟩ := pr
      obtain ⟨z, hz, rfl⟩ := sVs_get hy
      intro s0 H0 C cl fp IB
      refine e_tup (a_cons (b_var (a_nil ?_)))
      refine ⟨by show 1 ≤ sizeLine; decide, fun a H6 e6 n6 h6 => ?_⟩
      have lx := ha.len
      rw [List.length_take] at lx
      have hD5 := e6 _ _ hD
      have t5 : TS H6 (upd H6 D (.lst (acc ++ [.ref a]))) := TS.upd hD5
      refine ⟨acc, hD5, by show _ < 2 ^ 24; omega, acc ++ [.ref a], upd_same, ?_, fresh_keep nD (Same.trans e e6)⟩
      rw [take_snoc' hz]
      exact (ha.mono fun x v ⟨a, g1, g2⟩ => ⟨a, g1, t5 _ _ (e6 _ _ g2)⟩).app ⟨_, [], rfl, ⟨a, rfl, t5 _ _ h6⟩, rfl⟩
    intro H5 pr
    obtain ⟨acc, hD, ha, e5⟩ := pr
    rw [List.take_of_length_le (by simp [sVs])] at ha
    refine a_nil (c_tupL (SqL.of hD) fun ct H6 e6 n6 h6 => a_cons (e_non (a_nil ?_)))
    refine ⟨by show 2 ≤ sizeLine; decide, fun cl H7 e7 n7 h7 => ?_⟩
    have e47 := (Same.trans e5 e6).trans e7
    have e57 := e6.trans e7
    refine l_cons (s_if (t_not (t_val (e_call (by exact FS) (by exact hr) (by decide) (a_cons (e_call (by exact FR) (by exact hr) (by decide) (a_cons (e_dict fun D2 H8 e8 n8 h8 => a_cons (e_var (a_cons (e_var (a_nil ?_))))))))))))
    have e48 := e47.trans e8
    refine ⟨.ref D2, cl, ct, acc, tv, R, ts, 5, rfl, e8 _ _ h7, e8 _ _ (e7 _ _ h6), ha.mono fun z x ⟨a, g1, g2⟩ => ⟨a, g1, (e57.trans e8) _ _ g2⟩, by omega, htv4.ts (Same.ts e48), hG, by decide, fun y H9 e9 hy => a_cons (e_var (a_nil ?_))⟩
    have e49 := e48.trans e9
    refine ⟨y, x, rfl, same_dv hG hy (hx4.ts (Same.ts e49)), fun H10 e10 => ⟨true, rfl, iteF (l_nil ?_)⟩⟩
    have e410 := e49.trans e10
    have hx10 := hx4.ts (Same.ts e410)
    have htv10 := htv4.ts (Same.ts e410)
    refine l_cons (s_set (e_call (by exact FW 5) (by exact hr) (by decide) (a_cons (e_var (a_cons (e_bl (a_nil ?_)))))))
    refine ⟨x, R, false, ts, 0, rfl, hx10, hG, fun i hi => ?_⟩
    have hi := hi rfl
    subst hi
    refine l_cons (s_if (t_w (w_or (t_cmp (e_callB (x := "len") (by assumption) b_len (a_cons (e_call (by exact FSp) (by exact hr) (by decide) (a_cons (e_var (a_cons (e_tup (a_nil ⟨by show 0 ≤ sizeLine; decide, fun e H11 e11 n11 h11 => a_cons (e_int (a_nil ?_))⟩))))))))))))
    refine ⟨tv, .ref e, _, [], 0, rfl, htv10.ts (Same.ts e11), hso, ⟨e, rfl, h11⟩, by omega, by omega, by show 0 + 40 ≤ 2000; decide, fun ls us H12 e12 n12 h12 hus => a_nil (c_lenL (SqL.of h12) (e_var (o_neI ⟨_, rfl, ?_⟩)))⟩
    rw [decide_eq_true (by rw [hus.len, spT_len, hsz])]
    refine iteF (w_or (t_not (t_val (e_call (by exact FS) (by exact hr) (by decide) (a_cons (e_call (by exact FRC) (by exact hr) (by decide) (a_cons (e_var (a_nil ?_)))))))))
    have e1012 := e11.trans e12
    refine ⟨tv, _, rfl, htv10.ts (Same.ts e1012), hso, by omega, fun H13 e13 => a_cons (e_var (a_nil ?_))⟩
    rw [hsz]
    refine ⟨_, _, rfl, Eqd.int _ _ _, fun H14 e14' => ⟨true, rfl, iteF (w_or1 (t_cmp (e_call (by exact FBa) (by exact hr) (by decide) (a_cons (e_var (a_nil ?_))))))⟩⟩
    have e1014 := (e1012.trans e13).trans e14'
    refine ⟨tv, _, rfl, htv10.ts (Same.ts e1014), hso, by omega, fun H15 e15 => e_bl (o_nisB ⟨_, rfl, ?_⟩)⟩
    rw [bare_c, cT_stl]
    refine iteF (l_nil ?_)
    have e1015 := e1014.trans e15
    have hx15 := hx10.ts (Same.ts e1015)
    have htv15 := htv10.ts (Same.ts e1015)
    refine l_cons (s_if (t_w (w_or (t_not (t_val (e_call (by exact FS) (by exact hr) (by decide) (a_cons (e_callN (by exact FRb) takesN0 (by exact hr) (by decide) (a_cons (e_var (a_nil ?_)))))))))))
    refine ⟨tv, _, rfl, htv15, hso, by omega, .inl ⟨R, rfl, hw, hok, fun y2 H16 e16 hy2 => a_cons (e_var (a_nil ?_))⟩⟩
    refine ⟨y2, x, rfl, same_dv hG hy2 (hx15.ts (Same.ts e16)), fun H17 e17 => ⟨true, rfl, iteF (w_or1 (t_cmp (e_callN (by exact FAl) takesN0 (by exact hr) (by decide) (a_cons (e_var (a_cons (e_var (a_nil ?_))))))))⟩⟩
    have e1517 := e16.trans e17
    have htv17 := htv15.ts (Same.ts e1517)
    refine ⟨tv, tv, _, _, rfl, htv17, htv17, hso, hso, by omega, by omega, .inl ⟨R, R, rfl, rfl, hw, hw, hok, hok, fun b H18 e18 hb => e_bl (o_nisB ⟨_, rfl, ?_⟩)⟩⟩
    have hb := hb.mpr rfl
    subst hb
    refine iteF (l_nil ?_)
    have e418 := (e410.trans e1015).trans (e1517.trans e18)
    have e018 : Same H H18 := e04'.trans e418
    have hx18 := hx4.ts (Same.ts e418)
    have htv18 := htv4.ts (Same.ts e418)
    have hnm18 := e418 _ _ hnm4
    refine l_cons (s_set (e_call (by exact FPo) (by exact hr) (by decide) (a_cons (e_var (a_cons (e_int (a_nil ?_)))))))
    refine ⟨sa, zs, 1, rfl, sqL_up e018 hS, fun p2 H19 e19 np2 p2at => ?_⟩
    refine l_cons (s_set (e_call (by exact FD 2) (by exact hr) (by decide) (a_cons (e_var (a_cons (e_var (a_cons (e_lst (a_cons (e_int (a_cons (e_int (a_nil ?_)))))))))))))
    refine ⟨by show 2 ≤ sizeLine; decide, fun rm H20 e20 n20 h20 => a_cons (e_int (a_cons (e_int (a_cons (e_int (a_nil ?_))))))⟩
    have nrp : rm ≠ p2 := fun z => by subst z; obtain ⟨_, _, _, g⟩ := p2at; rw [g] at n20; cases n20
    have nrn : nm ≠ rm := fun z => by subst z; rw [e19 _ _ hnm18] at n20; cases n20
    have nnp : nm ≠ p2 := fun z => by subst z; rw [hnm18] at np2; cases np2
    have nr18 : H18 rm = none := none_of e19 n20
    have d20 : DrS H20 H20 p2 rm nm ts 5 1 := ⟨p2at.up e20, h20, e20 _ _ (e19 _ _ hnm18), fun _ _ _ _ h => h, nrp, nnp, nrn⟩
    refine ⟨p2, nm, rm, 0, 9, 5, 1, ts, rfl, d20, by omega, by omega, by decide, by decide, by decide, fun x3 R3 b3 o3' H21 h21 hR3 hG3 hN3 hb3 ho3 => ?_⟩
    have e1821 : Same H18 H21 := Bu.same (e19.trans e20) np2 nr18 h21.bu
    have hQ3 : 0 ≤ Qb b3 := by unfold Qb; split <;> omega
    have hQ5 : Qb 5 = 5 := rfl
    have ho3' := ho3.2 (by decide)
    rw [if_neg (by decide), hQ5] at hN3
    have hnd3 : K13.nd R3 ≤ 36 := by omega
    have hG35 := gd_mono hG3 (show 2 ≤ 5 by decide)
    have hx21 := hx18.ts (Same.ts e1821)
    have htv21 := htv18.ts (Same.ts e1821)
    have hnm21 := e1821 _ _ hnm18
    -- behind the loop
    have tail : ∀ (o10 o11 : Option V) (H24 : Hp), Same H21 H24 → ∀ (NX BK CT : L2.St → Hp → Prop), wL (cxOf CX0 P w K mg base (N_law ++ C_law) (Str.ofString "law") (defScope s_law) f cdv A outer s H E).nox ((defBody s_law).drop 15) { nx := NX, rt := Q, bk := BK, ct := CT } [some (.ref sa), some (.ref p), some (.ref nm), o3, some x, some tv, some (.ref cl), some (.int (K13.nd R : Int)), some (.ref p2), some x3, o10, o11, none, none, none, none, none, none] H24 := by
      intro o10 o11 H24 e2124 NX BK CT
      have hw3 := hG3.wf
      have hok3 := hG3.ok
      have hso3 := stl_ok R3 0 [] (lv 0)
      have hsz3 := stl_size R3 0 [] (lv 0)
      have hdep3 := stl_dep hG3 0 [] (lv 0)
      simp at hdep3
      have p24 := h21.pool.up e2124
      refine l_cons (s_set (e_call (by exact FSF) (by exact hr) (by decide) (a_cons (e_var (a_nil ?_)))))
      refine ⟨x3, R3, rfl, hR3.ts (Same.ts e2124), hw3, hok3, by omega, fun lo H25 e25 hlo => ?_⟩
      refine l_cons (s_if (t_not (t_val (e_call (by exact FT) (by exact hr) (by decide) (a_cons (e_var (a_nil ?_)))))))
      refine ⟨lo, rfl, ⟨R3, 0, [], lv 0, ts, true, 0, 2, hG3, hlo, by omega⟩, fun H26 e26 => ⟨true, rfl, iteF (l_nil ?_)⟩⟩
      have hlo26 := hlo.ts (Same.ts e26)
      have p26 := p24.up (e25.trans e26)
      refine l_cons (s_set (e_call (by exact FSpo) (by exact hr) (by decide) (a_cons (e_var (a_cons (e_var (a_nil ?_)))))))
      refine ⟨p2, lo, _, rfl, p26, hlo26, hso3, by omega, by omega, fun sp t' H27 b27 p27 hsp hspo hspd hspz hspc => ?_⟩
      have ts27 : TS H26 H27 := p26.ts b27
      have e1827 : Same H18 H27 := fun c o hc => b27 c o (fun z => by subst z; rw [np2] at hc; cases hc) (e26 _ _ (e25 _ _ (e2124 _ _ (e1821 _ _ hc))))
      have hlo27 := hlo26.ts ts27
      refine l_cons (s_set (e_call (by exact FF) (by exact hr) (by decide) (a_cons (e_var (a_nil ?_)))))
      refine ⟨sp, t', rfl, hsp, hspo, by omega, by omega, cT_first hspc, fun pp hpp pu H28 e28 hpu => ?_⟩
      have hppl := first_len hpp
      have hx28 := (hx18.ts (Same.ts e1827)).ts (Same.ts e28)
      have htv28 := (htv18.ts (Same.ts e1827)).ts (Same.ts e28)
      have hlo28 := hlo27.ts (Same.ts e28)
      have hsp28 := hsp.ts (Same.ts e28)
      refine l_cons (s_set (e_non ?_))
      -- behind the try
      have last : ∀ (uu : V) (o16 : Option V) (H29 : Hp), Same H28 H29 → PthV H29 pp uu → ∀ (NX BK CT : L2.St → Hp → Prop), wL (cxOf CX0 P w K mg base (N_law ++ C_law) (Str.ofString "law") (defScope s_law) f cdv A outer s H E).nox ((defBody s_law).drop 21) { nx := NX, rt := Q, bk := BK, ct := CT } [some (.ref sa), some (.ref p), some (.ref nm), o3, some x, some tv, some (.ref cl), some (.int (K13.nd R : Int)), some (.ref p2), some x3, o10, o11, some lo, some sp, some pu, some uu, o16, none] H29 := by
        intro uu o16 H29 e29 huu NX BK CT
        refine l_cons (s_if (t_w (w_or (t_not (t_val (e_call (by exact FS) (by exact hr) (by decide) (a_cons (e_var (a_cons (e_var (a_nil ?_)))))))))))
        refine ⟨uu, pu, rfl, (PthV.eq (by omega) huu (hpu.ts (Same.ts e29))).more (by decide), fun H30 e30 => ⟨true, rfl, iteF (w_or1 (t_cmp (e_call (by exact FBa) (by exact hr) (by decide) (a_cons (e_var (a_nil ?_))))))⟩⟩
        refine ⟨sp, t', rfl, (hsp28.ts (Same.ts e29)).ts (Same.ts e30), hspo, by omega, fun H31 e31 => e_bl (o_nisB ⟨_, rfl, ?_⟩)⟩
        rw [bare_c, hspc]
        refine iteF (l_nil ?_)
        have e2831 := (e29.trans e30).trans e31
        refine l_cons (s_if (t_w (w_or (t_not (t_val (e_call (by exact FRf) (by exact hr) (by decide) (a_cons (e_var (a_cons (e_var (a_cons (e_var (a_nil ?_)))))))))))))
        refine ⟨lo, sp, pu, _, t', pp, rfl, hlo28.ts (Same.ts e2831), hsp28.ts (Same.ts e2831), hso3, hspo, by omega, by omega, hpu.ts (Same.ts e2831), by omega, .inl ⟨R3, rfl, hw3, hok3, hpp⟩, fun H32 e32 => ⟨true, rfl, iteF (w_or1 (t_not (t_val (e_call (by exact FRf) (by exact hr) (by decide) (a_cons (e_var (a_cons (e_var (a_cons (e_var (a_nil ?_)))))))))))⟩⟩
        have e2832 := e2831.trans e32
        refine ⟨sp, lo, pu, t', _, pp, rfl, hsp28.ts (Same.ts e2832), hlo28.ts (Same.ts e2832), hspo, hso3, by omega, by omega, hpu.ts (Same.ts e2832), by omega, .inr hpp, fun H33 e33 => ⟨true, rfl, iteF (l_nil ?_)⟩⟩
        have e2833 := e2832.trans e33
        refine l_cons (s_ret (e_and (e_call (by exact FS) (by exact hr) (by decide) (a_cons (e_call (by exact FSF) (by exact hr) (by decide) (a_cons (e_var (a_nil ?_))))))))
        refine ⟨x, R, rfl, hx28.ts (Same.ts e2833), hw, hok, by omega, fun tv2 H34 e34 htv2 => a_cons (e_var (a_nil ?_))⟩
        refine ⟨tv2, tv, rfl, (TrV.eq hso htv2 (htv28.ts (Same.ts (e2833.trans e34)))).more (by omega), fun H35 e35 => ⟨true, rfl, iteT (e_one ?_)⟩⟩
        have e2835 := (e2833.trans e34).trans e35
        refine e_call (by exact FS) (by exact hr) (by decide) (a_cons (e_callN (by exact FRb) takesN0 (by exact hr) (by decide) (a_cons (e_var (a_nil ?_)))))
        refine ⟨tv, _, rfl, htv28.ts (Same.ts e2835), hso, by omega, .inl ⟨R, rfl, hw, hok, fun y5 H36 e36 hy5 => a_cons (e_var (a_nil ?_))⟩⟩
        exact ⟨y5, x, rfl, same_dv hG hy5 (hx28.ts (Same.ts (e2835.trans e36))), fun H37 e37 => q H37⟩
      refine l_cons ?_
      refine s_tryN (by exact R0.mN) takesN0 fun pn xe tk nd' => ?_
      refine l_cons (s_expr (e_callN (by exact FRb) (by exact tk) (by exact hr) (by decide) (a_cons (e_var (a_nil ?_)))))
      refine ⟨sp, t', rfl, hsp28, hspo, by omega, .inr ⟨pp, hpp, fun uu d H29 e29 hu2 hd => ?_⟩⟩
      refine ⟨true, R0.xN, fun _ a na => ?_, fun z => nomatch z⟩
      intro oe pn2 hz2 hf nd2 hot
      refine l_cons (s_set (e_xf R0.xf R0.no hz2 hf (e_var ⟨rfl, d, _, uu, rfl, hd, by simp [List.lookup], ?_⟩)))
      exact l_nil (last uu _ H29 e29 hu2 _ _ _)
    refine l_cons (s_forT (e_tup (a_cons (e_var (a_cons (e_call (by exact FO) (by exact hr) (by decide) (a_cons (e_var (a_cons (e_var (a_nil ?_)))))))))))
    refine ⟨x, R, nm, ts, 0, rfl, hx21, hG, hnm21, by omega, fun x4 R4 H22 e22 hx4' hG4 hN4 => a_nil ?_⟩
    refine ⟨by show 2 ≤ sizeLine; decide, fun tt H23 e23 n23 h23 => ?_⟩
    have e2123 := e22.trans e23
    refine ⟨tt, _, rfl, SqT.of h23, fun j σ H' => ∃ o10 o11, σ = [some (.ref sa), some (.ref p), some (.ref nm), o3, some x, some tv, some (.ref cl), some (.int (K13.nd R : Int)), some (.ref p2), some x3, o10, o11, none, none, none, none, none, none] ∧ Same H23 H', ⟨none, none, rfl, Same.refl _⟩, ?_, ?_, ?_⟩
    · rintro j σ H' _ ⟨o10, o11, rfl, e⟩
      exact SqT.of (e _ _ h23)
    · rintro j y σ H24 hy ⟨o10, o11, rfl, e24⟩
      have hel : ∃ R', DV H23 R' [y] ∧ Gd ts true 0 5 R' ∧ K13.nd R' ≤ 121 := by
        match j, hy with
        | 0, hy => cases hy; exact ⟨R3, hR3.ts (Same.ts e2123), hG35, by omega⟩
        | 1, hy => cases hy; exact ⟨R4, hx4'.ts (Same.ts e23), hG4, by omega⟩
        | _ + 2, hy => simp at hy
      obtain ⟨R', hy', hG', hnd'⟩ := hel
      have hw' := hG'.wf
      have hok' := hG'.ok
      have hso' := stl_ok R' 0 [] (lv 0)
      have hsz' := stl_size R' 0 [] (lv 0)
      have e2124 := e2123.trans e24
      show wL _ _ _ [some (.ref sa), some (.ref p), some (.ref nm), o3, some x, some tv, some (.ref cl), some (.int (K13.nd R : Int)), some (.ref p2), some x3, some y, o11, none, none, none, none, none, none] _
      refine l_cons (s_set (e_callN (by exact FAl) takesN0 (by exact hr) (by decide) (a_cons (e_var (a_cons (e_call (by exact FSF) (by exact hr) (by decide) (a_cons (e_var (a_nil ?_)))))))))
      refine ⟨y, R', rfl, hy'.ts (Same.ts e24), hw', hok', by omega, fun tv2 H25 e25 htv2 => a_nil ?_⟩
      refine ⟨tv, tv2, _, _, rfl, (htv21.ts (Same.ts e2124)).ts (Same.ts e25), htv2, hso, hso', by omega, by omega, .inl ⟨R, R', rfl, rfl, hw, hw', hok, hok', fun b H26 e26 hb => ?_⟩⟩
      refine l_cons (s_if (t_w (w_or (t_not (t_val (e_callB (x := "isinstance") (by assumption) b_isi (a_cons (e_var ?_))))))))
      walk_at "sts"
      refine c_isi ty_bl (.ty _) (kit_ty kb_bool_bool) ⟨_, rfl, iteF (w_or1 (t_cmp (e_var (e_cmp (e_var (e_var ?_))))))⟩
      have e2426 := e25.trans e26
      have hxx := (hx21.ts (Same.ts e2124)).ts (Same.ts e2426)
      have hyy := (hy'.ts (Same.ts e24)).ts (Same.ts e2426)
      have hd5 := gd_dD hG
      simp at hd5
      have hdd := dP_dep R
      have hp1 : ∀ (R : Rd) (x : V) (H : Hp), Wf true R → DV H R [x] → ∃ d, Dp K H x d ∧ dP R = [d] := fun R x H w h => by
        have h1 := dv_dp (K := K) h
        have h2 := dP_one w
        match hd : dP R, h1, h2 with
        | [d], .cons a _, _ => exact ⟨d, a, rfl⟩
      obtain ⟨da, ga1, ga2⟩ := hp1 R x H26 hw hxx
      obtain ⟨db, gb1, gb2⟩ := hp1 R' y H26 hw' hyy
      have pa := dP_plain R
      have pb := dP_plain R'
      rw [ga2] at pa hdd
      rw [gb2] at pb
      have pa : (da.plain && true) = true := pa
      have pb : (db.plain && true) = true := pb
      rw [Bool.and_true] at pa pb
      have hdd : max da.depth 0 ≤ dD R := hdd
      refine o_eqP (by exact hr) ga1 gb1 pa pb (by omega) (o_neB ⟨_, rfl, ?_⟩)
      have heq : PyData.eqv da db = b := by
        have hall : PyData.eqvAll (dP R) (dP R') = (PyData.eqv da db && true) := by rw [ga2, gb2, eqv_cons]; rfl
        cases hv : PyData.eqv da db with
        | true =>
          rw [hv] at hall
          have := dP_inj hw hw' (by rw [hall]; rfl)
          subst this
          exact (hb.mpr rfl).symm
        | false =>
          cases b with
          | false => rfl
          | true =>
            have := sg_inj hw hw' (hb.mp rfl)
            subst this
            rw [ga2] at gb2
            cases gb2
            rw [PySem.SeqAt.eqv_refl_plain _ pa] at hv
            cases hv
      rw [heq, decide_eq_true rfl]
      exact iteF (l_nil (l_nil ⟨_, _, rfl, e24.trans e2426⟩))
    · rintro σ H24 ⟨o10, o11, rfl, e24⟩
      exact tail o10 o11 H24 (e2123.trans e24) _ _ _
  refine l_cons (s_set (e_call (by exact FD 5) (by exact hr) (by decide) (a_cons (e_var (a_cons (e_var (a_cons (e_lst (a_cons (e_int (a_cons (e_int (a_nil ?_)))))))))))))
  refine ⟨by show 2 ≤ sizeLine; decide, fun rm H5 e5 n5 h5 => a_cons (e_int (a_cons (e_int (a_cons (e_int (a_nil ?_))))))⟩
  have nrp : rm ≠ p := fun z => by subst z; obtain ⟨_, _, _, g⟩ := p4; rw [g] at n5; cases n5
  have nrn : nm ≠ rm := fun z => by subst z; rw [h4] at n5; cases n5
  have nr0 : H rm = none := none_of e04 n5
  have d5 : DrS H5 H5 p rm nm ts 14 3 := ⟨p4.up e5, h5, e5 _ _ h4, fun _ _ _ _ h => h, nrp, npn, nrn⟩
  refine ⟨p, nm, rm, 0, 1, 14, 3, ts, rfl, d5, by omega, by omega, by decide, by decide, by decide, fun x R b' o' H6 h6 hR hG hN hb' ho' => ?_⟩
  have e06 : Same H H6 := Bu.same (e04.trans e5) np nr0 h6.bu
  have hQ : 0 ≤ Qb b' := by unfold Qb; split <;> omega
  have hQ14 : Qb 14 = 14 := rfl
  have ho2 := ho'.2 (by decide)
  rw [if_neg (by decide), hQ14] at hN
  refine l_cons (s_if (t_cmp (e_call (by exact FW 5) (by exact hr) (by decide) (a_cons (e_var (a_cons (e_bl (a_nil ?_))))))))
  refine ⟨x, R, true, ts, 0, rfl, hR, hG, fun i _ => e_int (o_gt ⟨_, rfl, ?_⟩)⟩
  cases decide (120 < i) with
  | false => exact iteF (l_nil (core x R H6 e06 h6.nml hR hG (by omega) _ _ _))
  | true =>
    refine iteT (l_cons (s_set (e_call (by exact FD 2) (by exact hr) (by decide) (a_cons (e_var (a_cons (e_var (a_cons (e_lst (a_cons (e_int (a_cons (e_int (a_nil ?_))))))))))))))
    refine ⟨by show 2 ≤ sizeLine; decide, fun rm2 H7 e7 n7 h7 => a_cons (e_int (a_cons (e_int (a_cons (e_int (a_nil ?_))))))⟩
    have nrp2 : rm2 ≠ p := fun z => by subst z; obtain ⟨_, _, _, g⟩ := h6.pool; rw [g] at n7; cases n7
    have nrn2 : nm ≠ rm2 := fun z => by subst z; rw [h6.nml] at n7; cases n7
    have nr20 : H rm2 = none := none_of e06 n7
    have d7 : DrS H7 H7 p rm2 nm ts 3 1 := ⟨h6.pool.up e7, h7, e7 _ _ h6.nml, fun _ _ _ _ h => h, nrp2, npn, nrn2⟩
    refine ⟨p, nm, rm2, 0, 9, 3, 1, ts, rfl, d7, by omega, by omega, by decide, by decide, by decide, fun x2 R2 b2 o2 H8 h8 hR2 hG2 hN2 hb2 ho2' => ?_⟩
    have e08 : Same H H8 := Bu.same (e06.trans e7) np nr20 h8.bu
    have hQ2 : 0 ≤ Qb b2 := by unfold Qb; split <;> omega
    have hQ3 : Qb 3 = 3 := rfl
    have ho3 := ho2'.2 (by decide)
    rw [if_neg (by decide), hQ3] at hN2
    exact l_nil (core x2 R2 H8 e08 h8.nml hR2 (gd_mono hG2 (by decide)) (by omega) _ _ _)
end


section
theorem kit_sub {K : PySem.W.Frag} {D C : Addr} (hd : PySem.W.hasDictIn K C = true) (ht : PySem.W.typeIn K (.ref C) = some (.type "type")) (h : PySem.W.subIn K (.ref D) (.ref C) = some true) : PySem.W.kitOne K (.ref D) (.ref C) = some true := by
  obtain ⟨cd, hc, _⟩ := PySem.W.any_some hd
  unfold PySem.W.kitOne
  split
  · rfl
  · show (if ((PySem.W.clsIn K C).isSome && PySem.W.typeIn K (.ref C) == some (.type "type")) = true then PySem.W.subIn K (.ref D) (.ref C) else none) = some true
    rw [hc, ht, h]
    rfl
theorem kit_not {K : PySem.W.Frag} {D C : Addr} (hd : PySem.W.hasDictIn K C = true) (ht : PySem.W.typeIn K (.ref C) = some (.type "type")) (h : PySem.W.subIn K (.ref D) (.ref C) = some false) (hs : PySem.W.subIn K (.ref D) (.ref D) = some true) : PySem.W.kitOne K (.ref D) (.ref C) = some false := by
  obtain ⟨cd, hc, _⟩ := PySem.W.any_some hd
  have ne : D ≠ C := fun z => by
    subst z
    rw [hs] at h
    cases h
  unfold PySem.W.kitOne
  rw [if_neg (fun z => ne (Value.ref.inj (beq_iff_eq.mp z)))]
  show (if ((PySem.W.clsIn K C).isSome && PySem.W.typeIn K (.ref C) == some (.type "type")) = true then PySem.W.subIn K (.ref D) (.ref C) else none) = some false
  rw [hc, ht, h]
  rfl
theorem kit_typ {K : PySem.W.Frag} {D : Addr} (h : PySem.W.subIn K (.ref D) (.type "ValueError") = some true) : PySem.W.kitOne K (.ref D) (.type "ValueError") = some true := by
  unfold PySem.W.kitOne
  rw [if_neg (by simp)]
  show (if PySem.W.kitMeta "ValueError" = true then PySem.W.subIn K (.ref D) (.type "ValueError") else none) = some true
  rw [if_pos (by decide +kernel), h]
theorem all_mk {l : PySem.W.OpenLaw} {w : World} {K : PySem.W.Frag} {h : Heap} {mg : Str → Option Value} {fa : Addr} (X : K.In h) (G : h.Ns mainGlobals mg) (hfa : mg "law" = some (.ref fa))
    {f0 : Addr} {od0 an0 : Option Addr} {sl0 : Array (Option Value)} {oc0 kV0 dc0 pm0 cd0 ct0 : Value}
    {f1 : Addr} {od1 an1 : Option Addr} {sl1 : Array (Option Value)} {oc1 kV1 dc1 pm1 cd1 ct1 : Value}
    {f2 : Addr} {od2 an2 : Option Addr} {sl2 : Array (Option Value)} {oc2 kV2 dc2 pm2 cd2 ct2 : Value}
    {f3 : Addr} {od3 an3 : Option Addr} {sl3 : Array (Option Value)} {oc3 kV3 dc3 pm3 cd3 ct3 : Value}
    {f4 : Addr} {od4 an4 : Option Addr} {sl4 : Array (Option Value)} {oc4 kV4 dc4 pm4 cd4 ct4 : Value}
    {f5 : Addr} {od5 an5 : Option Addr} {sl5 : Array (Option Value)} {oc5 kV5 dc5 pm5 cd5 ct5 : Value}
    {f6 : Addr} {od6 an6 : Option Addr} {sl6 : Array (Option Value)} {oc6 kV6 dc6 pm6 cd6 ct6 : Value}
    {f7 : Addr} {od7 an7 : Option Addr} {sl7 : Array (Option Value)} {oc7 kV7 dc7 pm7 cd7 ct7 : Value}
    {f8 : Addr} {od8 an8 : Option Addr} {sl8 : Array (Option Value)} {oc8 kV8 dc8 pm8 cd8 ct8 : Value}
    {f9 : Addr} {od9 an9 : Option Addr} {sl9 : Array (Option Value)} {oc9 kV9 dc9 pm9 cd9 ct9 : Value}
    {f10 : Addr} {od10 an10 : Option Addr} {sl10 : Array (Option Value)} {oc10 kV10 dc10 pm10 cd10 ct10 : Value}
    {f11 : Addr} {od11 an11 : Option Addr} {sl11 : Array (Option Value)} {oc11 kV11 dc11 pm11 cd11 ct11 : Value}
    {f12 : Addr} {od12 an12 : Option Addr} {sl12 : Array (Option Value)} {oc12 kV12 dc12 pm12 cd12 ct12 : Value}
    {f13 : Addr} {od13 an13 : Option Addr} {sl13 : Array (Option Value)} {oc13 kV13 dc13 pm13 cd13 ct13 : Value}
    {f14 : Addr} {od14 an14 : Option Addr} {sl14 : Array (Option Value)} {oc14 kV14 dc14 pm14 cd14 ct14 : Value}
    {f15 : Addr} {od15 an15 : Option Addr} {sl15 : Array (Option Value)} {oc15 kV15 dc15 pm15 cd15 ct15 : Value}
    {f16 : Addr} {od16 an16 : Option Addr} {sl16 : Array (Option Value)} {oc16 kV16 dc16 pm16 cd16 ct16 : Value}
    {f17 : Addr} {od17 an17 : Option Addr} {sl17 : Array (Option Value)} {oc17 kV17 dc17 pm17 cd17 ct17 : Value}
    {f18 : Addr} {od18 an18 : Option Addr} {sl18 : Array (Option Value)} {oc18 kV18 dc18 pm18 cd18 ct18 : Value}
    {f19 : Addr} {od19 an19 : Option Addr} {sl19 : Array (Option Value)} {oc19 kV19 dc19 pm19 cd19 ct19 : Value}
    {f20 : Addr} {od20 an20 : Option Addr} {sl20 : Array (Option Value)} {oc20 kV20 dc20 pm20 cd20 ct20 : Value}
    {f21 : Addr} {od21 an21 : Option Addr} {sl21 : Array (Option Value)} {oc21 kV21 dc21 pm21 cd21 ct21 : Value}
    {f22 : Addr} {od22 an22 : Option Addr} {sl22 : Array (Option Value)} {oc22 kV22 dc22 pm22 cd22 ct22 : Value}
    {f23 : Addr} {od23 an23 : Option Addr} {sl23 : Array (Option Value)} {oc23 kV23 dc23 pm23 cd23 ct23 : Value}
    {f24 : Addr} {od24 an24 : Option Addr} {sl24 : Array (Option Value)} {oc24 kV24 dc24 pm24 cd24 ct24 : Value}
    {f25 : Addr} {od25 an25 : Option Addr} {sl25 : Array (Option Value)} {oc25 kV25 dc25 pm25 cd25 ct25 : Value}
    {f26 : Addr} {od26 an26 : Option Addr} {sl26 : Array (Option Value)} {oc26 kV26 dc26 pm26 cd26 ct26 : Value}
    {f27 : Addr} {od27 an27 : Option Addr} {sl27 : Array (Option Value)} {oc27 kV27 dc27 pm27 cd27 ct27 : Value}
    {f28 : Addr} {od28 an28 : Option Addr} {sl28 : Array (Option Value)} {oc28 kV28 dc28 pm28 cd28 ct28 : Value}
    {f29 : Addr} {od29 an29 : Option Addr} {sl29 : Array (Option Value)} {oc29 kV29 dc29 pm29 cd29 ct29 : Value}
    {f30 : Addr} {od30 an30 : Option Addr} {sl30 : Array (Option Value)} {oc30 kV30 dc30 pm30 cd30 ct30 : Value}
    {f31 : Addr} {od31 an31 : Option Addr} {sl31 : Array (Option Value)} {oc31 kV31 dc31 pm31 cd31 ct31 : Value}
    {f32 : Addr} {od32 an32 : Option Addr} {sl32 : Array (Option Value)} {oc32 kV32 dc32 pm32 cd32 ct32 : Value}
    {f33 : Addr} {od33 an33 : Option Addr} {sl33 : Array (Option Value)} {oc33 kV33 dc33 pm33 cd33 ct33 : Value}
    {f34 : Addr} {od34 an34 : Option Addr} {sl34 : Array (Option Value)} {oc34 kV34 dc34 pm34 cd34 ct34 : Value}
    {f35 : Addr} {od35 an35 : Option Addr} {sl35 : Array (Option Value)} {oc35 kV35 dc35 pm35 cd35 ct35 : Value}
    {f36 : Addr} {od36 an36 : Option Addr} {sl36 : Array (Option Value)} {oc36 kV36 dc36 pm36 cd36 ct36 : Value}
    {f37 : Addr} {od37 an37 : Option Addr} {sl37 : Array (Option Value)} {oc37 kV37 dc37 pm37 cd37 ct37 : Value}
    {f38 : Addr} {od38 an38 : Option Addr} {sl38 : Array (Option Value)} {oc38 kV38 dc38 pm38 cd38 ct38 : Value}
    {f39 : Addr} {od39 an39 : Option Addr} {sl39 : Array (Option Value)} {oc39 kV39 dc39 pm39 cd39 ct39 : Value}
    {f40 : Addr} {od40 an40 : Option Addr} {sl40 : Array (Option Value)} {oc40 kV40 dc40 pm40 cd40 ct40 : Value}
    {f41 : Addr} {od41 an41 : Option Addr} {sl41 : Array (Option Value)} {oc41 kV41 dc41 pm41 cd41 ct41 : Value}
    {f42 : Addr} {od42 an42 : Option Addr} {sl42 : Array (Option Value)} {oc42 kV42 dc42 pm42 cd42 ct42 : Value}
    {f43 : Addr} {od43 an43 : Option Addr} {sl43 : Array (Option Value)} {oc43 kV43 dc43 pm43 cd43 ct43 : Value}
    {f44 : Addr} {od44 an44 : Option Addr} {sl44 : Array (Option Value)} {oc44 kV44 dc44 pm44 cd44 ct44 : Value}
    {f45 : Addr} {od45 an45 : Option Addr} {sl45 : Array (Option Value)} {oc45 kV45 dc45 pm45 cd45 ct45 : Value}
    {f46 : Addr} {od46 an46 : Option Addr} {sl46 : Array (Option Value)} {oc46 kV46 dc46 pm46 cd46 ct46 : Value}
    {f47 : Addr} {od47 an47 : Option Addr} {sl47 : Array (Option Value)} {oc47 kV47 dc47 pm47 cd47 ct47 : Value}
    {f48 : Addr} {od48 an48 : Option Addr} {sl48 : Array (Option Value)} {oc48 kV48 dc48 pm48 cd48 ct48 : Value}
    {f49 : Addr} {od49 an49 : Option Addr} {sl49 : Array (Option Value)} {oc49 kV49 dc49 pm49 cd49 ct49 : Value}
    {f50 : Addr} {od50 an50 : Option Addr} {sl50 : Array (Option Value)} {oc50 kV50 dc50 pm50 cd50 ct50 : Value}
    {f51 : Addr} {od51 an51 : Option Addr} {sl51 : Array (Option Value)} {oc51 kV51 dc51 pm51 cd51 ct51 : Value}
    {FA DA : Addr} {nF nD : Nat} {r0_ : Addr} {tF0 tD0 tP0 : Tok} {nT0 : Nat} {r1_ : Addr} {tF1 tD1 tP1 : Tok} {nT1 : Nat} {r2_ : Addr} {tF2 tD2 tP2 : Tok} {nT2 : Nat} {r3_ : Addr} {tF3 tD3 tP3 : Tok} {nT3 : Nat} {r4_ : Addr} {tF4 tD4 tP4 : Tok} {nT4 : Nat} {r5_ : Addr} {tF5 tD5 tP5 : Tok} {nT5 : Nat} {r6_ : Addr} {tF6 tD6 tP6 : Tok} {nT6 : Nat} {r7_ : Addr} {tF7 tD7 tP7 : Tok} {nT7 : Nat} {r8_ : Addr} {tF8 tD8 tP8 : Tok} {nT8 : Nat} {tT0_0 : Tok} {tT3_0 : Tok} {tT3_1 : Tok} {tT4_0 : Tok} {tT4_1 : Tok} {tT5_0 : Tok} {tT5_1 : Tok} {tT6_0 : Tok} {tT6_1 : Tok} {tT6_2 : Tok} {tT7_0 : Tok} {tT7_1 : Tok} {tT8_0 : Tok}
    {CP CH CN : Addr}
    {nmCN qnCN : Str} {NaCN : Addr} {bsCN : List Value} {snCN : List Str} {subCN : List Value} {abCN : Bool} {colCN : Option Bool} {ddCN : Option Addr} {x0CN x1CN x2CN x3CN x5CN : Option Value}
    {f52 : Addr} {od52 an52 : Option Addr} {sl52 : Array (Option Value)} {oc52 kV52 dc52 pm52 cd52 ct52 : Value}
    (a0 : PySem.W.nsIn K mainGlobals "field_of" = some (some (.ref f0)))
    (l0 : K.lookup f0 = some ⟨oc0, od0, .func (PySem.W.fnOf "field_of" "field_of" (defArgs s_field_of) (defBody s_field_of) (defScope s_field_of) .none kV0 dc0 pm0 an0 cd0 ct0), sl0⟩)
    (c0 : PySem.W.codeIn K cd0 "field_of" = true)
    (k0 : PySem.W.keepIn K (.ref f0) = true)
    (a1 : PySem.W.nsIn K mainGlobals "refers" = some (some (.ref f1)))
    (l1 : K.lookup f1 = some ⟨oc1, od1, .func (PySem.W.fnOf "refers" "refers" (defArgs s_refers) (defBody s_refers) (defScope s_refers) .none kV1 dc1 pm1 an1 cd1 ct1), sl1⟩)
    (c1 : PySem.W.codeIn K cd1 "refers" = true)
    (k1 : PySem.W.keepIn K (.ref f1) = true)
    (a2 : PySem.W.nsIn K mainGlobals "premises" = some (some (.ref f2)))
    (l2 : K.lookup f2 = some ⟨oc2, od2, .func (PySem.W.fnOf "premises" "premises" (defArgs s_premises) (defBody s_premises) (defScope s_premises) .none kV2 dc2 pm2 an2 cd2 ct2), sl2⟩)
    (c2 : PySem.W.codeIn K cd2 "premises" = true)
    (k2 : PySem.W.keepIn K (.ref f2) = true)
    (a3 : PySem.W.nsIn K mainGlobals "head_of" = some (some (.ref f3)))
    (l3 : K.lookup f3 = some ⟨oc3, od3, .func (PySem.W.fnOf "head_of" "head_of" (defArgs s_head_of) (defBody s_head_of) (defScope s_head_of) .none kV3 dc3 pm3 an3 cd3 ct3), sl3⟩)
    (c3 : PySem.W.codeIn K cd3 "head_of" = true)
    (k3 : PySem.W.keepIn K (.ref f3) = true)
    (a4 : PySem.W.nsIn K mainGlobals "heads" = some (some (.ref f4)))
    (l4 : K.lookup f4 = some ⟨oc4, od4, .func (PySem.W.fnOf "heads" "heads" (defArgs s_heads) (defBody s_heads) (defScope s_heads) .none kV4 dc4 pm4 an4 cd4 ct4), sl4⟩)
    (c4 : PySem.W.codeIn K cd4 "heads" = true)
    (k4 : PySem.W.keepIn K (.ref f4) = true)
    (a5 : PySem.W.nsIn K mainGlobals "from_heads" = some (some (.ref f5)))
    (l5 : K.lookup f5 = some ⟨oc5, od5, .func (PySem.W.fnOf "from_heads" "from_heads" (defArgs s_from_heads) (defBody s_from_heads) (defScope s_from_heads) .none kV5 dc5 pm5 an5 cd5 ct5), sl5⟩)
    (c5 : PySem.W.codeIn K cd5 "from_heads" = true)
    (k5 : PySem.W.keepIn K (.ref f5) = true)
    (a6 : PySem.W.nsIn K mainGlobals "row_count" = some (some (.ref f6)))
    (l6 : K.lookup f6 = some ⟨oc6, od6, .func (PySem.W.fnOf "row_count" "row_count" (defArgs s_row_count) (defBody s_row_count) (defScope s_row_count) .none kV6 dc6 pm6 an6 cd6 ct6), sl6⟩)
    (c6 : PySem.W.codeIn K cd6 "row_count" = true)
    (k6 : PySem.W.keepIn K (.ref f6) = true)
    (a7 : PySem.W.nsIn K mainGlobals "walk" = some (some (.ref f7)))
    (l7 : K.lookup f7 = some ⟨oc7, od7, .func (PySem.W.fnOf "walk" "walk" (defArgs s_walk) (defBody s_walk) (defScope s_walk) .none kV7 dc7 pm7 an7 cd7 ct7), sl7⟩)
    (c7 : PySem.W.codeIn K cd7 "walk" = true)
    (k7 : PySem.W.keepIn K (.ref f7) = true)
    (a8 : PySem.W.nsIn K mainGlobals "is_bare" = some (some (.ref f8)))
    (l8 : K.lookup f8 = some ⟨oc8, od8, .func (PySem.W.fnOf "is_bare" "is_bare" (defArgs s_is_bare) (defBody s_is_bare) (defScope s_is_bare) .none kV8 dc8 pm8 an8 cd8 ct8), sl8⟩)
    (c8 : PySem.W.codeIn K cd8 "is_bare" = true)
    (k8 : PySem.W.keepIn K (.ref f8) = true)
    (a9 : PySem.W.nsIn K mainGlobals "require_bare" = some (some (.ref f9)))
    (l9 : K.lookup f9 = some ⟨oc9, od9, .func (PySem.W.fnOf "require_bare" "require_bare" (defArgs s_require_bare) (defBody s_require_bare) (defScope s_require_bare) .none kV9 dc9 pm9 an9 cd9 ct9), sl9⟩)
    (c9 : PySem.W.codeIn K cd9 "require_bare" = true)
    (k9 : PySem.W.keepIn K (.ref f9) = true)
    (a10 : PySem.W.nsIn K mainGlobals "read_bare" = some (some (.ref f10)))
    (l10 : K.lookup f10 = some ⟨oc10, od10, .func (PySem.W.fnOf "read_bare" "read_bare" (defArgs s_read_bare) (defBody s_read_bare) (defScope s_read_bare) .none kV10 dc10 pm10 an10 cd10 ct10), sl10⟩)
    (c10 : PySem.W.codeIn K cd10 "read_bare" = true)
    (k10 : PySem.W.keepIn K (.ref f10) = true)
    (a11 : PySem.W.nsIn K mainGlobals "alike" = some (some (.ref f11)))
    (l11 : K.lookup f11 = some ⟨oc11, od11, .func (PySem.W.fnOf "alike" "alike" (defArgs s_alike) (defBody s_alike) (defScope s_alike) .none kV11 dc11 pm11 an11 cd11 ct11), sl11⟩)
    (c11 : PySem.W.codeIn K cd11 "alike" = true)
    (k11 : PySem.W.keepIn K (.ref f11) = true)
    (a12 : PySem.W.nsIn K mainGlobals "signs_of" = some (some (.ref f12)))
    (l12 : K.lookup f12 = some ⟨oc12, od12, .func (PySem.W.fnOf "signs_of" "signs_of" (defArgs s_signs_of) (defBody s_signs_of) (defScope s_signs_of) .none kV12 dc12 pm12 an12 cd12 ct12), sl12⟩)
    (c12 : PySem.W.codeIn K cd12 "signs_of" = true)
    (k12 : PySem.W.keepIn K (.ref f12) = true)
    (a13 : PySem.W.nsIn K mainGlobals "read_row" = some (some (.ref f13)))
    (l13 : K.lookup f13 = some ⟨oc13, od13, .func (PySem.W.fnOf "read_row" "read_row" (defArgs s_read_row) (defBody s_read_row) (defScope s_read_row) .none kV13 dc13 pm13 an13 cd13 ct13), sl13⟩)
    (c13 : PySem.W.codeIn K cd13 "read_row" = true)
    (k13 : PySem.W.keepIn K (.ref f13) = true)
    (a14 : PySem.W.nsIn K mainGlobals "read_head" = some (some (.ref f14)))
    (l14 : K.lookup f14 = some ⟨oc14, od14, .func (PySem.W.fnOf "read_head" "read_head" (defArgs s_read_head) (defBody s_read_head) (defScope s_read_head) .none kV14 dc14 pm14 an14 cd14 ct14), sl14⟩)
    (c14 : PySem.W.codeIn K cd14 "read_head" = true)
    (k14 : PySem.W.keepIn K (.ref f14) = true)
    (a15 : PySem.W.nsIn K mainGlobals "meaning_of" = some (some (.ref f15)))
    (l15 : K.lookup f15 = some ⟨oc15, od15, .func (PySem.W.fnOf "meaning_of" "meaning_of" (defArgs s_meaning_of) (defBody s_meaning_of) (defScope s_meaning_of) .none kV15 dc15 pm15 an15 cd15 ct15), sl15⟩)
    (c15 : PySem.W.codeIn K cd15 "meaning_of" = true)
    (k15 : PySem.W.keepIn K (.ref f15) = true)
    (a16 : PySem.W.nsIn K mainGlobals "with_meaning" = some (some (.ref f16)))
    (l16 : K.lookup f16 = some ⟨oc16, od16, .func (PySem.W.fnOf "with_meaning" "with_meaning" (defArgs s_with_meaning) (defBody s_with_meaning) (defScope s_with_meaning) .none kV16 dc16 pm16 an16 cd16 ct16), sl16⟩)
    (c16 : PySem.W.codeIn K cd16 "with_meaning" = true)
    (k16 : PySem.W.keepIn K (.ref f16) = true)
    (a17 : PySem.W.nsIn K mainGlobals "reading_of" = some (some (.ref f17)))
    (l17 : K.lookup f17 = some ⟨oc17, od17, .func (PySem.W.fnOf "reading_of" "reading_of" (defArgs s_reading_of) (defBody s_reading_of) (defScope s_reading_of) .none kV17 dc17 pm17 an17 cd17 ct17), sl17⟩)
    (c17 : PySem.W.codeIn K cd17 "reading_of" = true)
    (k17 : PySem.W.keepIn K (.ref f17) = true)
    (a18 : PySem.W.nsIn K mainGlobals "settled_from" = some (some (.ref f18)))
    (l18 : K.lookup f18 = some ⟨oc18, od18, .func (PySem.W.fnOf "settled_from" "settled_from" (defArgs s_settled_from) (defBody s_settled_from) (defScope s_settled_from) .none kV18 dc18 pm18 an18 cd18 ct18), sl18⟩)
    (c18 : PySem.W.codeIn K cd18 "settled_from" = true)
    (k18 : PySem.W.keepIn K (.ref f18) = true)
    (a19 : PySem.W.nsIn K mainGlobals "settled_rows" = some (some (.ref f19)))
    (l19 : K.lookup f19 = some ⟨oc19, od19, .func (PySem.W.fnOf "settled_rows" "settled_rows" (defArgs s_settled_rows) (defBody s_settled_rows) (defScope s_settled_rows) .none kV19 dc19 pm19 an19 cd19 ct19), sl19⟩)
    (c19 : PySem.W.codeIn K cd19 "settled_rows" = true)
    (k19 : PySem.W.keepIn K (.ref f19) = true)
    (a20 : PySem.W.nsIn K mainGlobals "settled_head" = some (some (.ref f20)))
    (l20 : K.lookup f20 = some ⟨oc20, od20, .func (PySem.W.fnOf "settled_head" "settled_head" (defArgs s_settled_head) (defBody s_settled_head) (defScope s_settled_head) .none kV20 dc20 pm20 an20 cd20 ct20), sl20⟩)
    (c20 : PySem.W.codeIn K cd20 "settled_head" = true)
    (k20 : PySem.W.keepIn K (.ref f20) = true)
    (a21 : PySem.W.nsIn K mainGlobals "_law_cell" = some (some (.ref f21)))
    (l21 : K.lookup f21 = some ⟨oc21, od21, .func (PySem.W.fnOf "_law_cell" "_law_cell" (defArgs s_cell) (defBody s_cell) (defScope s_cell) .none kV21 dc21 pm21 an21 cd21 ct21), sl21⟩)
    (c21 : PySem.W.codeIn K cd21 "_law_cell" = true)
    (k21 : PySem.W.keepIn K (.ref f21) = true)
    (a22 : PySem.W.nsIn K mainGlobals "_law_pool" = some (some (.ref f22)))
    (l22 : K.lookup f22 = some ⟨oc22, od22, .func (PySem.W.fnOf "_law_pool" "_law_pool" (defArgs s_pool) (defBody s_pool) (defScope s_pool) .none kV22 dc22 pm22 an22 cd22 ct22), sl22⟩)
    (c22 : PySem.W.codeIn K cd22 "_law_pool" = true)
    (k22 : PySem.W.keepIn K (.ref f22) = true)
    (a23 : PySem.W.nsIn K mainGlobals "_law_next" = some (some (.ref f23)))
    (l23 : K.lookup f23 = some ⟨oc23, od23, .func (PySem.W.fnOf "_law_next" "_law_next" (defArgs s_next) (defBody s_next) (defScope s_next) .none kV23 dc23 pm23 an23 cd23 ct23), sl23⟩)
    (c23 : PySem.W.codeIn K cd23 "_law_next" = true)
    (k23 : PySem.W.keepIn K (.ref f23) = true)
    (a24 : PySem.W.nsIn K mainGlobals "_law_name" = some (some (.ref f24)))
    (l24 : K.lookup f24 = some ⟨oc24, od24, .func (PySem.W.fnOf "_law_name" "_law_name" (defArgs s_name) (defBody s_name) (defScope s_name) .none kV24 dc24 pm24 an24 cd24 ct24), sl24⟩)
    (c24 : PySem.W.codeIn K cd24 "_law_name" = true)
    (k24 : PySem.W.keepIn K (.ref f24) = true)
    (a25 : PySem.W.nsIn K mainGlobals "_law_is_number" = some (some (.ref f25)))
    (l25 : K.lookup f25 = some ⟨oc25, od25, .func (PySem.W.fnOf "_law_is_number" "_law_is_number" (defArgs s_is_number) (defBody s_is_number) (defScope s_is_number) .none kV25 dc25 pm25 an25 cd25 ct25), sl25⟩)
    (c25 : PySem.W.codeIn K cd25 "_law_is_number" = true)
    (k25 : PySem.W.keepIn K (.ref f25) = true)
    (a26 : PySem.W.nsIn K mainGlobals "_law_is_mode" = some (some (.ref f26)))
    (l26 : K.lookup f26 = some ⟨oc26, od26, .func (PySem.W.fnOf "_law_is_mode" "_law_is_mode" (defArgs s_is_mode) (defBody s_is_mode) (defScope s_is_mode) .none kV26 dc26 pm26 an26 cd26 ct26), sl26⟩)
    (c26 : PySem.W.codeIn K cd26 "_law_is_mode" = true)
    (k26 : PySem.W.keepIn K (.ref f26) = true)
    (a27 : PySem.W.nsIn K mainGlobals "_law_is_item" = some (some (.ref f27)))
    (l27 : K.lookup f27 = some ⟨oc27, od27, .func (PySem.W.fnOf "_law_is_item" "_law_is_item" (defArgs s_is_item) (defBody s_is_item) (defScope s_is_item) .none kV27 dc27 pm27 an27 cd27 ct27), sl27⟩)
    (c27 : PySem.W.codeIn K cd27 "_law_is_item" = true)
    (k27 : PySem.W.keepIn K (.ref f27) = true)
    (a28 : PySem.W.nsIn K mainGlobals "_law_is_like" = some (some (.ref f28)))
    (l28 : K.lookup f28 = some ⟨oc28, od28, .func (PySem.W.fnOf "_law_is_like" "_law_is_like" (defArgs s_is_like) (defBody s_is_like) (defScope s_is_like) .none kV28 dc28 pm28 an28 cd28 ct28), sl28⟩)
    (c28 : PySem.W.codeIn K cd28 "_law_is_like" = true)
    (k28 : PySem.W.keepIn K (.ref f28) = true)
    (a29 : PySem.W.nsIn K mainGlobals "_law_is_sentence" = some (some (.ref f29)))
    (l29 : K.lookup f29 = some ⟨oc29, od29, .func (PySem.W.fnOf "_law_is_sentence" "_law_is_sentence" (defArgs s_is_sentence) (defBody s_is_sentence) (defScope s_is_sentence) .none kV29 dc29 pm29 an29 cd29 ct29), sl29⟩)
    (c29 : PySem.W.codeIn K cd29 "_law_is_sentence" = true)
    (k29 : PySem.W.keepIn K (.ref f29) = true)
    (a30 : PySem.W.nsIn K mainGlobals "_law_is_tree" = some (some (.ref f30)))
    (l30 : K.lookup f30 = some ⟨oc30, od30, .func (PySem.W.fnOf "_law_is_tree" "_law_is_tree" (defArgs s_is_tree) (defBody s_is_tree) (defScope s_is_tree) .none kV30 dc30 pm30 an30 cd30 ct30), sl30⟩)
    (c30 : PySem.W.codeIn K cd30 "_law_is_tree" = true)
    (k30 : PySem.W.keepIn K (.ref f30) = true)
    (a31 : PySem.W.nsIn K mainGlobals "_law_row" = some (some (.ref f31)))
    (l31 : K.lookup f31 = some ⟨oc31, od31, .func (PySem.W.fnOf "_law_row" "_law_row" (defArgs s_row) (defBody s_row) (defScope s_row) .none kV31 dc31 pm31 an31 cd31 ct31), sl31⟩)
    (c31 : PySem.W.codeIn K cd31 "_law_row" = true)
    (k31 : PySem.W.keepIn K (.ref f31) = true)
    (a32 : PySem.W.nsIn K mainGlobals "_law_parts" = some (some (.ref f32)))
    (l32 : K.lookup f32 = some ⟨oc32, od32, .func (PySem.W.fnOf "_law_parts" "_law_parts" (defArgs s_parts) (defBody s_parts) (defScope s_parts) .none kV32 dc32 pm32 an32 cd32 ct32), sl32⟩)
    (c32 : PySem.W.codeIn K cd32 "_law_parts" = true)
    (k32 : PySem.W.keepIn K (.ref f32) = true)
    (a33 : PySem.W.nsIn K mainGlobals "_law_env" = some (some (.ref f33)))
    (l33 : K.lookup f33 = some ⟨oc33, od33, .func (PySem.W.fnOf "_law_env" "_law_env" (defArgs s_env) (defBody s_env) (defScope s_env) .none kV33 dc33 pm33 an33 cd33 ct33), sl33⟩)
    (c33 : PySem.W.codeIn K cd33 "_law_env" = true)
    (k33 : PySem.W.keepIn K (.ref f33) = true)
    (a34 : PySem.W.nsIn K mainGlobals "_law_pay" = some (some (.ref f34)))
    (l34 : K.lookup f34 = some ⟨oc34, od34, .func (PySem.W.fnOf "_law_pay" "_law_pay" (defArgs s_pay) (defBody s_pay) (defScope s_pay) .none kV34 dc34 pm34 an34 cd34 ct34), sl34⟩)
    (c34 : PySem.W.codeIn K cd34 "_law_pay" = true)
    (k34 : PySem.W.keepIn K (.ref f34) = true)
    (a35 : PySem.W.nsIn K mainGlobals "_law_open" = some (some (.ref f35)))
    (l35 : K.lookup f35 = some ⟨oc35, od35, .func (PySem.W.fnOf "_law_open" "_law_open" (defArgs s_open) (defBody s_open) (defScope s_open) .none kV35 dc35 pm35 an35 cd35 ct35), sl35⟩)
    (c35 : PySem.W.codeIn K cd35 "_law_open" = true)
    (k35 : PySem.W.keepIn K (.ref f35) = true)
    (a36 : PySem.W.nsIn K mainGlobals "_law_value" = some (some (.ref f36)))
    (l36 : K.lookup f36 = some ⟨oc36, od36, .func (PySem.W.fnOf "_law_value" "_law_value" (defArgs s_value) (defBody s_value) (defScope s_value) .none kV36 dc36 pm36 an36 cd36 ct36), sl36⟩)
    (c36 : PySem.W.codeIn K cd36 "_law_value" = true)
    (k36 : PySem.W.keepIn K (.ref f36) = true)
    (a37 : PySem.W.nsIn K mainGlobals "_law_quote" = some (some (.ref f37)))
    (l37 : K.lookup f37 = some ⟨oc37, od37, .func (PySem.W.fnOf "_law_quote" "_law_quote" (defArgs s_quote) (defBody s_quote) (defScope s_quote) .none kV37 dc37 pm37 an37 cd37 ct37), sl37⟩)
    (c37 : PySem.W.codeIn K cd37 "_law_quote" = true)
    (k37 : PySem.W.keepIn K (.ref f37) = true)
    (a38 : PySem.W.nsIn K mainGlobals "_law_reading" = some (some (.ref f38)))
    (l38 : K.lookup f38 = some ⟨oc38, od38, .func (PySem.W.fnOf "_law_reading" "_law_reading" (defArgs s_reading) (defBody s_reading) (defScope s_reading) .none kV38 dc38 pm38 an38 cd38 ct38), sl38⟩)
    (c38 : PySem.W.codeIn K cd38 "_law_reading" = true)
    (k38 : PySem.W.keepIn K (.ref f38) = true)
    (a39 : PySem.W.nsIn K mainGlobals "_law_drawn" = some (some (.ref f39)))
    (l39 : K.lookup f39 = some ⟨oc39, od39, .func (PySem.W.fnOf "_law_drawn" "_law_drawn" (defArgs s_drawn) (defBody s_drawn) (defScope s_drawn) .none kV39 dc39 pm39 an39 cd39 ct39), sl39⟩)
    (c39 : PySem.W.codeIn K cd39 "_law_drawn" = true)
    (k39 : PySem.W.keepIn K (.ref f39) = true)
    (a40 : PySem.W.nsIn K mainGlobals "_law_action" = some (some (.ref f40)))
    (l40 : K.lookup f40 = some ⟨oc40, od40, .func (PySem.W.fnOf "_law_action" "_law_action" (defArgs s_action) (defBody s_action) (defScope s_action) .none kV40 dc40 pm40 an40 cd40 ct40), sl40⟩)
    (c40 : PySem.W.codeIn K cd40 "_law_action" = true)
    (k40 : PySem.W.keepIn K (.ref f40) = true)
    (a41 : PySem.W.nsIn K mainGlobals "_law_weight" = some (some (.ref f41)))
    (l41 : K.lookup f41 = some ⟨oc41, od41, .func (PySem.W.fnOf "_law_weight" "_law_weight" (defArgs s_weight) (defBody s_weight) (defScope s_weight) .none kV41 dc41 pm41 an41 cd41 ct41), sl41⟩)
    (c41 : PySem.W.codeIn K cd41 "_law_weight" = true)
    (k41 : PySem.W.keepIn K (.ref f41) = true)
    (a42 : PySem.W.nsIn K mainGlobals "_law_other" = some (some (.ref f42)))
    (l42 : K.lookup f42 = some ⟨oc42, od42, .func (PySem.W.fnOf "_law_other" "_law_other" (defArgs s_other) (defBody s_other) (defScope s_other) .none kV42 dc42 pm42 an42 cd42 ct42), sl42⟩)
    (c42 : PySem.W.codeIn K cd42 "_law_other" = true)
    (k42 : PySem.W.keepIn K (.ref f42) = true)
    (a43 : PySem.W.nsIn K mainGlobals "_law_spots" = some (some (.ref f43)))
    (l43 : K.lookup f43 = some ⟨oc43, od43, .func (PySem.W.fnOf "_law_spots" "_law_spots" (defArgs s_spots) (defBody s_spots) (defScope s_spots) .none kV43 dc43 pm43 an43 cd43 ct43), sl43⟩)
    (c43 : PySem.W.codeIn K cd43 "_law_spots" = true)
    (k43 : PySem.W.keepIn K (.ref f43) = true)
    (a44 : PySem.W.nsIn K mainGlobals "_law_can" = some (some (.ref f44)))
    (l44 : K.lookup f44 = some ⟨oc44, od44, .func (PySem.W.fnOf "_law_can" "_law_can" (defArgs s_can) (defBody s_can) (defScope s_can) .none kV44 dc44 pm44 an44 cd44 ct44), sl44⟩)
    (c44 : PySem.W.codeIn K cd44 "_law_can" = true)
    (k44 : PySem.W.keepIn K (.ref f44) = true)
    (a45 : PySem.W.nsIn K mainGlobals "_law_same" = some (some (.ref f45)))
    (l45 : K.lookup f45 = some ⟨oc45, od45, .func (PySem.W.fnOf "_law_same" "_law_same" (defArgs s_same) (defBody s_same) (defScope s_same) .none kV45 dc45 pm45 an45 cd45 ct45), sl45⟩)
    (c45 : PySem.W.codeIn K cd45 "_law_same" = true)
    (k45 : PySem.W.keepIn K (.ref f45) = true)
    (a46 : PySem.W.nsIn K mainGlobals "_law_put" = some (some (.ref f46)))
    (l46 : K.lookup f46 = some ⟨oc46, od46, .func (PySem.W.fnOf "_law_put" "_law_put" (defArgs s_put) (defBody s_put) (defScope s_put) .none kV46 dc46 pm46 an46 cd46 ct46), sl46⟩)
    (c46 : PySem.W.codeIn K cd46 "_law_put" = true)
    (k46 : PySem.W.keepIn K (.ref f46) = true)
    (a47 : PySem.W.nsIn K mainGlobals "_law_spoilt" = some (some (.ref f47)))
    (l47 : K.lookup f47 = some ⟨oc47, od47, .func (PySem.W.fnOf "_law_spoilt" "_law_spoilt" (defArgs s_spoilt) (defBody s_spoilt) (defScope s_spoilt) .none kV47 dc47 pm47 an47 cd47 ct47), sl47⟩)
    (c47 : PySem.W.codeIn K cd47 "_law_spoilt" = true)
    (k47 : PySem.W.keepIn K (.ref f47) = true)
    (a48 : PySem.W.nsIn K mainGlobals "_law_first" = some (some (.ref f48)))
    (l48 : K.lookup f48 = some ⟨oc48, od48, .func (PySem.W.fnOf "_law_first" "_law_first" (defArgs s_first) (defBody s_first) (defScope s_first) .none kV48 dc48 pm48 an48 cd48 ct48), sl48⟩)
    (c48 : PySem.W.codeIn K cd48 "_law_first" = true)
    (k48 : PySem.W.keepIn K (.ref f48) = true)
    (a49 : PySem.W.nsIn K mainGlobals "_law_settled" = some (some (.ref f49)))
    (l49 : K.lookup f49 = some ⟨oc49, od49, .func (PySem.W.fnOf "_law_settled" "_law_settled" (defArgs s_settled) (defBody s_settled) (defScope s_settled) .none kV49 dc49 pm49 an49 cd49 ct49), sl49⟩)
    (c49 : PySem.W.codeIn K cd49 "_law_settled" = true)
    (k49 : PySem.W.keepIn K (.ref f49) = true)
    (a50 : PySem.W.nsIn K mainGlobals "_law_refused" = some (some (.ref f50)))
    (l50 : K.lookup f50 = some ⟨oc50, od50, .func (PySem.W.fnOf "_law_refused" "_law_refused" (defArgs s_refused) (defBody s_refused) (defScope s_refused) .none kV50 dc50 pm50 an50 cd50 ct50), sl50⟩)
    (c50 : PySem.W.codeIn K cd50 "_law_refused" = true)
    (k50 : PySem.W.keepIn K (.ref f50) = true)
    (a51 : PySem.W.nsIn K mainGlobals "law" = some (some (.ref f51)))
    (l51 : K.lookup f51 = some ⟨oc51, od51, .func (PySem.W.fnOf "law" "law" (defArgs s_law) (defBody s_law) (defScope s_law) .none kV51 dc51 pm51 an51 cd51 ct51), sl51⟩)
    (c51 : PySem.W.codeIn K cd51 "law" = true)
    (k51 : PySem.W.keepIn K (.ref f51) = true)
    (z_isinstance : PySem.W.nsIn K mainGlobals "isinstance" = some none)
    (z_int : PySem.W.nsIn K mainGlobals "int" = some none)
    (z_bool : PySem.W.nsIn K mainGlobals "bool" = some none)
    (z_str : PySem.W.nsIn K mainGlobals "str" = some none)
    (z_tuple : PySem.W.nsIn K mainGlobals "tuple" = some none)
    (z_list : PySem.W.nsIn K mainGlobals "list" = some none)
    (z_len : PySem.W.nsIn K mainGlobals "len" = some none)
    (z_range : PySem.W.nsIn K mainGlobals "range" = some none)
    (z_abs : PySem.W.nsIn K mainGlobals "abs" = some none)
    (z_reversed : PySem.W.nsIn K mainGlobals "reversed" = some none)
    (z_zip : PySem.W.nsIn K mainGlobals "zip" = some none)
    (z_ValueError : PySem.W.nsIn K mainGlobals "ValueError" = some none)
    (aF : PySem.W.nsIn K mainGlobals "FIELDS" = some (some (.ref FA)))
    (aD : PySem.W.nsIn K mainGlobals "PREMISES" = some (some (.ref DA)))
    (lF : K.lookup FA = some { cls := .type "dict", data := .dict #[⟨PyData.keyHash w.params "own", .str "own" tF0, .ref r0_⟩, ⟨PyData.keyHash w.params "take", .str "take" tF1, .ref r1_⟩, ⟨PyData.keyHash w.params "offer", .str "offer" tF2, .ref r2_⟩, ⟨PyData.keyHash w.params "pick", .str "pick" tF3, .ref r3_⟩, ⟨PyData.keyHash w.params "pay", .str "pay" tF4, .ref r4_⟩, ⟨PyData.keyHash w.params "make", .str "make" tF5, .ref r5_⟩, ⟨PyData.keyHash w.params "open", .str "open" tF6, .ref r6_⟩, ⟨PyData.keyHash w.params "cut", .str "cut" tF7, .ref r7_⟩, ⟨PyData.keyHash w.params "cite", .str "cite" tF8, .ref r8_⟩] nF })
    (lD : K.lookup DA = some { cls := .type "dict", data := .dict #[⟨PyData.keyHash w.params "own", .str "own" tD0, .int 0 tP0⟩, ⟨PyData.keyHash w.params "take", .str "take" tD1, .int 1 tP1⟩, ⟨PyData.keyHash w.params "offer", .str "offer" tD2, .int 2 tP2⟩, ⟨PyData.keyHash w.params "pick", .str "pick" tD3, .int 1 tP3⟩, ⟨PyData.keyHash w.params "pay", .str "pay" tD4, .int 2 tP4⟩, ⟨PyData.keyHash w.params "make", .str "make" tD5, .int 1 tP5⟩, ⟨PyData.keyHash w.params "open", .str "open" tD6, .int 1 tP6⟩, ⟨PyData.keyHash w.params "cut", .str "cut" tD7, .int 2 tP7⟩, ⟨PyData.keyHash w.params "cite", .str "cite" tD8, .int 0 tP8⟩] nD })
    (lT0 : K.lookup r0_ = some { cls := .type "tuple", data := .seq #[.str "ref" tT0_0] nT0 })
    (lT1 : K.lookup r1_ = some { cls := .type "tuple", data := .seq #[] nT1 })
    (lT2 : K.lookup r2_ = some { cls := .type "tuple", data := .seq #[] nT2 })
    (lT3 : K.lookup r3_ = some { cls := .type "tuple", data := .seq #[.str "ref" tT3_0, .str "side" tT3_1] nT3 })
    (lT4 : K.lookup r4_ = some { cls := .type "tuple", data := .seq #[.str "ref" tT4_0, .str "kind" tT4_1] nT4 })
    (lT5 : K.lookup r5_ = some { cls := .type "tuple", data := .seq #[.str "name" tT5_0, .str "index" tT5_1] nT5 })
    (lT6 : K.lookup r6_ = some { cls := .type "tuple", data := .seq #[.str "ref" tT6_0, .str "name" tT6_1, .str "index" tT6_2] nT6 })
    (lT7 : K.lookup r7_ = some { cls := .type "tuple", data := .seq #[.str "kind" tT7_0, .str "sentence" tT7_1] nT7 })
    (lT8 : K.lookup r8_ = some { cls := .type "tuple", data := .seq #[.str "name" tT8_0] nT8 })
    (mCP : PySem.W.nsIn K mainGlobals "NoPart" = some (some (.ref CP)))
    (mCH : PySem.W.nsIn K mainGlobals "HeldError" = some (some (.ref CH)))
    (mCN : PySem.W.nsIn K mainGlobals "NotBare" = some (some (.ref CN)))
    (xLCN : K.lookup CN = some (excClassObj nmCN qnCN CN NaCN bsCN [.ref CH, .type "ValueError", .type "Exception", .type "BaseException", .type "object"] true snCN subCN abCN colCN ddCN x0CN x1CN x2CN x3CN x5CN "ValueError.__new__"))
    (a52 : PySem.W.findIn K (.ref CN) "__init__" = some (some (.ref f52)))
    (i52 : PySem.W.isFn K (.ref f52) = true)
    (l52 : K.lookup f52 = some ⟨oc52, od52, .func (PySem.W.fnOf "__init__" "NotBare.__init__" (defArgs s_NotBare___init) (defBody s_NotBare___init) (defScope s_NotBare___init) .none kV52 dc52 pm52 an52 cd52 ct52), sl52⟩)
    (c52 : PySem.W.codeIn K cd52 "NotBare.__init__" = true)
    (k52 : PySem.W.keepIn K (.ref f52) = true)
    (saCN : PySem.W.findIn K (.ref CN) "__setattr__" = some (some (.builtin "object.__setattr__")))
    (gaCN : PySem.W.findIn K (.ref CN) "__getattribute__" = some (some (.builtin "BaseException.__getattribute__")))
    (ggCN : PySem.W.findIn K (.ref CN) "__getattr__" = some none)
    (nkCN : PySem.W.findIn K (.ref CN) "path" = some none)
    (kCCN : PySem.W.keepIn K (.ref CN) = true)
    (eCCN : PySem.W.subIn K (.ref CN) (.type "BaseException") = some true)
    (tCCN : PySem.W.typeIn K (.ref CN) = some (.type "type"))
    (hCCN : PySem.W.hasDictIn K CN = true)
    (haCN : PySem.W.findIn K (.ref CN) "__class__" = some (some (.builtin "object.__class__")))
    (hmCN : PySem.W.mroIn K CN (.type "object") = some true)
    (sVCN : PySem.W.subIn K (.ref CN) (.type "ValueError") = some true)
    (sICN : PySem.W.subIn K (.ref CN) (.ref CN) = some true)
    (sHCN : PySem.W.subIn K (.ref CN) (.ref CH) = some true)
    (sCNCP : PySem.W.subIn K (.ref CN) (.ref CP) = some false)
    (hn : PySem.W.specialIn K (.builtin "object.__class__") "__get__" = some (some (.builtin "getset_descriptor.__get__")))
    (ht : PySem.W.takesIn K (.builtin "object.__class__") = some true)
    (tCCH : PySem.W.typeIn K (.ref CH) = some (.type "type"))
    (dCCH : PySem.W.hasDictIn K CH = true)
    (tCCP : PySem.W.typeIn K (.ref CP) = some (.type "type"))
    (dCCP : PySem.W.hasDictIn K CP = true) :
    ∃ fd : FuncData, (∀ (s : Shared) (v : Value), BindsTo s fd ⟨[v], []⟩ [("_law_script", v)]) ∧ ∀ base : Heap, K.In base → base.Ns mainGlobals mg → FnOk l.prog w K mg base CX0 200 fa fd ["_law_script"] (spLaw K) := by
  have e := hfa.symm.trans (PySem.W.mg_of X G a51)
  cases e
  have TBO : TabsO w K mg := by
    refine ⟨FA, DA, fun | .own => r0_ | .take => r1_ | .offer => r2_ | .pick => r3_ | .pay => r4_ | .make => r5_ | .open_ => r6_ | .cut => r7_ | .cite => r8_, PySem.W.mg_of X G aF, PySem.W.mg_of X G aD, ?_, ?_, ?_, ?_⟩
    · exact kdict_mk [("own", tF0, .ref r0_), ("take", tF1, .ref r1_), ("offer", tF2, .ref r2_), ("pick", tF3, .ref r3_), ("pay", tF4, .ref r4_), ("make", tF5, .ref r5_), ("open", tF6, .ref r6_), ("cut", tF7, .ref r7_), ("cite", tF8, .ref r8_)] lF ⟨rfl, rfl, rfl⟩ rfl ((.cons ⟨rfl, rfl⟩ (.cons ⟨rfl, rfl⟩ (.cons ⟨rfl, rfl⟩ (.cons ⟨rfl, rfl⟩ (.cons ⟨rfl, rfl⟩ (.cons ⟨rfl, rfl⟩ (.cons ⟨rfl, rfl⟩ (.cons ⟨rfl, rfl⟩ (.cons ⟨rfl, rfl⟩ .nil)))))))))) (by show (allKd.map Kd.nm).Nodup; decide +kernel)
    · exact kdict_mk [("own", tD0, .int 0 tP0), ("take", tD1, .int 1 tP1), ("offer", tD2, .int 2 tP2), ("pick", tD3, .int 1 tP3), ("pay", tD4, .int 2 tP4), ("make", tD5, .int 1 tP5), ("open", tD6, .int 1 tP6), ("cut", tD7, .int 2 tP7), ("cite", tD8, .int 0 tP8)] lD ⟨rfl, rfl, rfl⟩ rfl ((.cons ⟨rfl, ⟨_, rfl⟩⟩ (.cons ⟨rfl, ⟨_, rfl⟩⟩ (.cons ⟨rfl, ⟨_, rfl⟩⟩ (.cons ⟨rfl, ⟨_, rfl⟩⟩ (.cons ⟨rfl, ⟨_, rfl⟩⟩ (.cons ⟨rfl, ⟨_, rfl⟩⟩ (.cons ⟨rfl, ⟨_, rfl⟩⟩ (.cons ⟨rfl, ⟨_, rfl⟩⟩ (.cons ⟨rfl, ⟨_, rfl⟩⟩ .nil)))))))))) (by show (allKd.map Kd.nm).Nodup; decide +kernel)
    · intro H k
      cases k with
      | own => exact .inr ⟨_, _, _, lT0, rfl, rfl, by show 1 ≤ 2 ^ 24; decide, ((.cons ⟨_, rfl⟩ .nil))⟩
      | take => exact .inr ⟨_, _, _, lT1, rfl, rfl, by show 0 ≤ 2 ^ 24; decide, .nil⟩
      | offer => exact .inr ⟨_, _, _, lT2, rfl, rfl, by show 0 ≤ 2 ^ 24; decide, .nil⟩
      | pick => exact .inr ⟨_, _, _, lT3, rfl, rfl, by show 2 ≤ 2 ^ 24; decide, ((.cons ⟨_, rfl⟩ (.cons ⟨_, rfl⟩ .nil)))⟩
      | pay => exact .inr ⟨_, _, _, lT4, rfl, rfl, by show 2 ≤ 2 ^ 24; decide, ((.cons ⟨_, rfl⟩ (.cons ⟨_, rfl⟩ .nil)))⟩
      | make => exact .inr ⟨_, _, _, lT5, rfl, rfl, by show 2 ≤ 2 ^ 24; decide, ((.cons ⟨_, rfl⟩ (.cons ⟨_, rfl⟩ .nil)))⟩
      | open_ => exact .inr ⟨_, _, _, lT6, rfl, rfl, by show 3 ≤ 2 ^ 24; decide, ((.cons ⟨_, rfl⟩ (.cons ⟨_, rfl⟩ (.cons ⟨_, rfl⟩ .nil))))⟩
      | cut => exact .inr ⟨_, _, _, lT7, rfl, rfl, by show 2 ≤ 2 ^ 24; decide, ((.cons ⟨_, rfl⟩ (.cons ⟨_, rfl⟩ .nil)))⟩
      | cite => exact .inr ⟨_, _, _, lT8, rfl, rfl, by show 1 ≤ 2 ^ 24; decide, ((.cons ⟨_, rfl⟩ .nil))⟩
    · intro k
      cases k with
      | own => exact ⟨_, lT0, rfl, rfl⟩
      | take => exact ⟨_, lT1, rfl, rfl⟩
      | offer => exact ⟨_, lT2, rfl, rfl⟩
      | pick => exact ⟨_, lT3, rfl, rfl⟩
      | pay => exact ⟨_, lT4, rfl, rfl⟩
      | make => exact ⟨_, lT5, rfl, rfl⟩
      | open_ => exact ⟨_, lT6, rfl, rfl⟩
      | cut => exact ⟨_, lT7, rfl, rfl⟩
      | cite => exact ⟨_, lT8, rfl, rfl⟩
  have TB := TBO.tabs
  have mIs := (PySem.W.mg_none_of X G z_isinstance)
  have mInt := (PySem.W.mg_none_of X G z_int)
  have mBool := (PySem.W.mg_none_of X G z_bool)
  have mStr := (PySem.W.mg_none_of X G z_str)
  have mTup := (PySem.W.mg_none_of X G z_tuple)
  have mList := (PySem.W.mg_none_of X G z_list)
  have mLen := (PySem.W.mg_none_of X G z_len)
  have mR := (PySem.W.mg_none_of X G z_range)
  have mAbs := (PySem.W.mg_none_of X G z_abs)
  have mRev := (PySem.W.mg_none_of X G z_reversed)
  have mZip := (PySem.W.mg_none_of X G z_zip)
  have mVE := (PySem.W.mg_none_of X G z_ValueError)
  have FL := fun_mk (st := s_law) l51 c51 k51
  have cX : (PySem.W.clsIn K CN).isSome = true := by
    obtain ⟨cd, hc, _⟩ := PySem.W.any_some hCCN
    rw [hc]
    rfl
  have OB : OexC K CN := ⟨⟨_, _, _, _, _, _, _, _, _, _, _, _, _, _, _, xLCN, by first | rfl | simp [PySem.HandSPX.refsVE]⟩, saCN, eCCN, tCCN, kCCN⟩
  have R : Errs K mg CN CH CP := ⟨PySem.W.mg_of X G mCN, PySem.W.mg_of X G mCH, PySem.W.mg_of X G mCP, mVE, ⟨cX, gaCN, ggCN, eCCN, haCN, hn, ht, hmCN⟩, ⟨gaCN, ggCN, eCCN, hCCN⟩, nkCN, PySem.W.exm_ref eCCN hCCN tCCN sICN, kit_sub dCCH tCCH sHCN, kit_typ sVCN, kit_not dCCP tCCP sCNCP sICN⟩
  refine ⟨PySem.W.fnOf "law" "law" (defArgs s_law) (defBody s_law) (defScope s_law) .none kV51 dc51 pm51 an51 cd51 ct51, fun s v => .of_eq rfl, fun base _ _ => ?_⟩
  have Fcell : Fn l.prog w K mg base 1 "_law_cell" (spCell K) := ok_cell (top_mk X G a21 l21 c21 k21) mLen mAbs
  have Fpool := ok_pool (top_mk X G a22 l22 c22 k22) Fcell mInt
  have Fnext : Fn l.prog w K mg base 1 "_law_next" spNext := ok_next (top_mk X G a23 l23 c23 k23) mInt
  have Fprem : Fn l.prog w K mg base 1 "premises" spPrem := ok_premises (top_mk X G a2 l2 c2 k2) TB mList mLen
  have Fhead : Fn l.prog w K mg base 1 "head_of" spHead := ok_head_of (top_mk X G a3 l3 c3 k3) TB mLen
  have Fheads := ok_heads (top_mk X G a4 l4 c4 k4) Fhead Fprem
  have Ffrom : Fn l.prog w K mg base 1 "from_heads" spFrom := ok_from_heads (top_mk X G a5 l5 c5 k5) TB mR mRev
  have ER : Er l.prog w K mg base "NotBare" CN "path" := ok_nb (topM_mk a52 i52 l52 c52 k52) OB nkCN R.mN
  have Frc := ok_row_count (top_mk X G a6 l6 c6 k6) mLen Fheads
  have Fbare := ok_is_bare (top_mk X G a8 l8 c8 k8) Fheads
  have Gwalk2 := ok_walk2 (top_mk X G a7 l7 c7 k7) mLen mR mRev Fprem
  have Freq := ok_req (top_mk X G a9 l9 c9 k9) Gwalk2 ER
  have Fref : Fn l.prog w K mg base 1 "refers" spRef := ok_refers (top_mk X G a1 l1 c1 k1) TB
  have Ffo : Fn l.prog w K mg base 1 "field_of" spKF := ok_field_of (top_mk X G a0 l0 c0 k0) TBO
  have Fmo : Fn l.prog w K mg base 1 "meaning_of" spMo := ok_mo (top_mk X G a15 l15 c15 k15)
  have Fwm : Fn l.prog w K mg base 2 "with_meaning" spWm := ok_wm (top_mk X G a16 l16 c16 k16)
  have Frh := ok_rh (top_mk X G a14 l14 c14 k14) mLen Fmo
  have Frr := ok_rr (top_mk X G a13 l13 c13 k13) mList Frh Fwm Fref Fhead Fprem Fmo Ffo
  have Fso := ok_so (top_mk X G a12 l12 c12 k12) mIs mStr Freq Frr
  have Fro : Fn l.prog w K mg base 1 "reading_of" spRo := ok_ro (top_mk X G a17 l17 c17 k17) mRev mR mTup
  have Frb := ok_rb (top_mk X G a10 l10 c10 k10) Fso Fro
  have Fal := ok_al (top_mk X G a11 l11 c11 k11) Fso
  have Fsh : Fn l.prog w K mg base 1 "settled_head" spSh := ok_sh (top_mk X G a20 l20 c20 k20)
  have Fsr := ok_sr (top_mk X G a19 l19 c19 k19) mLen Fsh Fwm
  have Fsf := ok_sf (top_mk X G a18 l18 c18 k18) mIs mStr Fsr Ffrom
  have Fname := ok_name (top_mk X G a24 l24 c24 k24) mLen mStr mR Fnext
  have Fdraw := ok_draw (top_mk X G a40 l40 c40 k40) (top_mk X G a39 l39 c39 k39) mLen mR mTup Fnext Fname
  have Fsm : ∀ n, Fn l.prog w K mg base (n + 2) "_law_same" (spSm n) := ok_sm (top_mk X G a45 l45 c45 k45) mIs mInt mBool mTup mLen mR
  have Fenv : Fn l.prog w K mg base 1 "_law_env" spEnv := ok_env (top_mk X G a33 l33 c33 k33)
  have Fwt : ∀ n, Fn l.prog w K mg base (n + 1) "_law_weight" (spWt n) := ok_wt (top_mk X G a41 l41 c41 k41)
  have FpayH : Fn l.prog w K mg base 1 "_law_pay" spPayH := ok_payH (top_mk X G a34 l34 c34 k34)
  have FopH : Fn l.prog w K mg base 1 "_law_open" spOpH := ok_opH (top_mk X G a35 l35 c35 k35)
  have Fval := ok_val (top_mk X G a36 l36 c36 k36) Fenv FpayH FopH
  have FpayF := ok_payF (top_mk X G a34 l34 c34 k34) (Fval 30) Fenv
  have Fqu := ok_qu (top_mk X G a37 l37 c37 k37) mTup FpayF
  have Frdg := ok_rdg (top_mk X G a38 l38 c38 k38) (Fval 30) Fqu
  have Frow : Fn l.prog w K mg base 1 "_law_row" spRow := ok_row (top_mk X G a31 l31 c31 k31) mIs mTup mLen
  have Fparts := ok_parts (top_mk X G a32 l32 c32 k32) Frow
  have Fspt := ok_spt (top_mk X G a43 l43 c43 k43) mLen mR mInt Fparts
  have Ffst := ok_fst (top_mk X G a48 l48 c48 k48) (Fspt 40)
  have Fcan : Fn l.prog w K mg base 1 "_law_can" spCan := ok_can (top_mk X G a44 l44 c44 k44)
  have Fstl := ok_stl (top_mk X G a49 l49 c49 k49) mIs mStr (Fspt 40) Fcan
  have Fput := ok_put (top_mk X G a46 l46 c46 k46) mLen mTup Fparts
  have Fspo := ok_spo (top_mk X G a47 l47 c47 k47) mR mLen Fnext (Fspt 40) (Fput 40)
  have Fot : ∀ n, Fn l.prog w K mg base (n + 1) "_law_other" (spOt n) := ok_ot (top_mk X G a42 l42 c42 k42) mIs mStr mInt
  have Fnum : Fn l.prog w K mg base 1 "_law_is_number" spNum := ok_num (top_mk X G a25 l25 c25 k25) mIs mInt mBool
  have Fmode := ok_mode (top_mk X G a26 l26 c26 k26) mIs mStr mTup mLen Fnum
  have Ftree := ok_tree (top_mk X G a30 l30 c30 k30) (top_mk X G a28 l28 c28 k28) (top_mk X G a27 l27 c27 k27) mIs mStr mTup mLen mR Fnum Fmode
  have Frfd := ok_rfd (top_mk X G a50 l50 c50 k50) mIs mLen R Fal (Fsm 1)
  exact ok_law FL mLen mR mTup mIs mBool R Fpool Fnext Fname Fdraw Fwt Fsf (Ftree 40) Fstl Frdg (Fsm 40) (Fspt 40) Frc Fbare Frb Fal (Fot 5) Fspo Ffst Frfd
theorem walk {l : PySem.W.OpenLaw} {q : Program} {loose : List Str} {XP : (Str → Option Value) → Heap → Prop} {YP : World → Heap → Prop} {d : DefRec} {K : Params → PySem.W.Frag} (hn : l.most = some 63) (hdf : d.params.defaults = [])
    (hY : ∀ (w : World) (h : Heap), YP w h → (K w.params).In h)
    (F : ∀ (w : World) (mg : Str → Option Value) (fa : Addr) (h : Heap), (K w.params).In h → h.Ns mainGlobals mg → mg d.name = some (.ref fa) →
      ∃ fd : FuncData, (∀ (s : Shared) (u : Value), BindsTo s fd ⟨[u], []⟩ [("_law_script", u)]) ∧ ∀ base : Heap, (K w.params).In base → base.Ns mainGlobals mg → FnOk l.prog w (K w.params) mg base CX0 200 fa fd ["_law_script"] (spLaw (K w.params))) :
    PySem.W.WalkO q loose XP YP l.row.toRowW d [] (fun f vs => PySem.call f vs) :=
  L2.walk_of (n := 63) (k := 200) (x := "_law_script") (CX := fun _ => CX0) (sp := fun w => spLaw (K w.params)) hn (by decide) hdf ⟨rfl, by decide, by decide⟩ hY F (fun _ _ a ns hl _ hS => ⟨a, ns, rfl, hS, hl, fun _ => rfl⟩) fun _ _ _ _ _ z => z
end
end K13
open PySem PySem.W PyProof.Rows
set_option maxRecDepth 100000 in
set_option maxHeartbeats 0 in
theorem PySem.Challenge.cw_heldproofs_k13_readings_settled_holds : PySem.Challenge.rw_heldproofs_k13_readings_settled.Holds := by
  w_on; o_law; k_head; (case hw => w_witness2)
  k_fill
  refine K13.walk (l := PySem.Challenge.rw_heldproofs_k13_readings_settled) rfl rfl (fun w h Y => PySem.W.kIn_of Y) ?F
  case F =>
    intro w mg fa h KX G hmg
    refine' K13.all_mk KX G hmg ?a0 ?l0 ?c0 ?k0 ?a1 ?l1 ?c1 ?k1 ?a2 ?l2 ?c2 ?k2 ?a3 ?l3 ?c3 ?k3 ?a4 ?l4 ?c4 ?k4 ?a5 ?l5 ?c5 ?k5 ?a6 ?l6 ?c6 ?k6 ?a7 ?l7 ?c7 ?k7 ?a8 ?l8 ?c8 ?k8 ?a9 ?l9 ?c9 ?k9 ?a10 ?l10 ?c10 ?k10 ?a11 ?l11 ?c11 ?k11 ?a12 ?l12 ?c12 ?k12 ?a13 ?l13 ?c13 ?k13 ?a14 ?l14 ?c14 ?k14 ?a15 ?l15 ?c15 ?k15 ?a16 ?l16 ?c16 ?k16 ?a17 ?l17 ?c17 ?k17 ?a18 ?l18 ?c18 ?k18 ?a19 ?l19 ?c19 ?k19 ?a20 ?l20 ?c20 ?k20 ?a21 ?l21 ?c21 ?k21 ?a22 ?l22 ?c22 ?k22 ?a23 ?l23 ?c23 ?k23 ?a24 ?l24 ?c24 ?k24 ?a25 ?l25 ?c25 ?k25 ?a26 ?l26 ?c26 ?k26 ?a27 ?l27 ?c27 ?k27 ?a28 ?l28 ?c28 ?k28 ?a29 ?l29 ?c29 ?k29 ?a30 ?l30 ?c30 ?k30 ?a31 ?l31 ?c31 ?k31 ?a32 ?l32 ?c32 ?k32 ?a33 ?l33 ?c33 ?k33 ?a34 ?l34 ?c34 ?k34 ?a35 ?l35 ?c35 ?k35 ?a36 ?l36 ?c36 ?k36 ?a37 ?l37 ?c37 ?k37 ?a38 ?l38 ?c38 ?k38 ?a39 ?l39 ?c39 ?k39 ?a40 ?l40 ?c40 ?k40 ?a41 ?l41 ?c41 ?k41 ?a42 ?l42 ?c42 ?k42 ?a43 ?l43 ?c43 ?k43 ?a44 ?l44 ?c44 ?k44 ?a45 ?l45 ?c45 ?k45 ?a46 ?l46 ?c46 ?k46 ?a47 ?l47 ?c47 ?k47 ?a48 ?l48 ?c48 ?k48 ?a49 ?l49 ?c49 ?k49 ?a50 ?l50 ?c50 ?k50 ?a51 ?l51 ?c51 ?k51 ?z_isinstance ?z_int ?z_bool ?z_str ?z_tuple ?z_list ?z_len ?z_range ?z_abs ?z_reversed ?z_zip ?z_ValueError ?aF ?aD ?lF ?lD ?lT0 ?lT1 ?lT2 ?lT3 ?lT4 ?lT5 ?lT6 ?lT7 ?lT8 ?mCP ?mCH ?mCN ?xLCN ?a52 ?i52 ?l52 ?c52 ?k52 ?saCN ?gaCN ?ggCN ?nkCN ?kCCN ?eCCN ?tCCN ?hCCN ?haCN ?hmCN ?sVCN ?sICN ?sHCN ?sCNCP ?hn ?ht ?tCCH ?dCCH ?tCCP ?dCCP
    (case a0 => k_is)
    (case l0 => k_is)
    (case c0 => k_is)
    (case k0 => k_is)
    (case a1 => k_is)
    (case l1 => k_is)
    (case c1 => k_is)
    (case k1 => k_is)
    (case a2 => k_is)
    (case l2 => k_is)
    (case c2 => k_is)
    (case k2 => k_is)
    (case a3 => k_is)
    (case l3 => k_is)
    (case c3 => k_is)
    (case k3 => k_is)
    (case a4 => k_is)
    (case l4 => k_is)
    (case c4 => k_is)
    (case k4 => k_is)
    (case a5 => k_is)
    (case l5 => k_is)
    (case c5 => k_is)
    (case k5 => k_is)
    (case a6 => k_is)
    (case l6 => k_is)
    (case c6 => k_is)
    (case k6 => k_is)
    (case a7 => k_is)
    (case l7 => k_is)
    (case c7 => k_is)
    (case k7 => k_is)
    (case a8 => k_is)
    (case l8 => k_is)
    (case c8 => k_is)
    (case k8 => k_is)
    (case a9 => k_is)
    (case l9 => k_is)
    (case c9 => k_is)
    (case k9 => k_is)
    (case a10 => k_is)
    (case l10 => k_is)
    (case c10 => k_is)
    (case k10 => k_is)
    (case a11 => k_is)
    (case l11 => k_is)
    (case c11 => k_is)
    (case k11 => k_is)
    (case a12 => k_is)
    (case l12 => k_is)
    (case c12 => k_is)
    (case k12 => k_is)
    (case a13 => k_is)
    (case l13 => k_is)
    (case c13 => k_is)
    (case k13 => k_is)
    (case a14 => k_is)
    (case l14 => k_is)
    (case c14 => k_is)
    (case k14 => k_is)
    (case a15 => k_is)
    (case l15 => k_is)
    (case c15 => k_is)
    (case k15 => k_is)
    (case a16 => k_is)
    (case l16 => k_is)
    (case c16 => k_is)
    (case k16 => k_is)
    (case a17 => k_is)
    (case l17 => k_is)
    (case c17 => k_is)
    (case k17 => k_is)
    (case a18 => k_is)
    (case l18 => k_is)
    (case c18 => k_is)
    (case k18 => k_is)
    (case a19 => k_is)
    (case l19 => k_is)
    (case c19 => k_is)
    (case k19 => k_is)
    (case a20 => k_is)
    (case l20 => k_is)
    (case c20 => k_is)
    (case k20 => k_is)
    (case a21 => k_is)
    (case l21 => k_is)
    (case c21 => k_is)
    (case k21 => k_is)
    (case a22 => k_is)
    (case l22 => k_is)
    (case c22 => k_is)
    (case k22 => k_is)
    (case a23 => k_is)
    (case l23 => k_is)
    (case c23 => k_is)
    (case k23 => k_is)
    (case a24 => k_is)
    (case l24 => k_is)
    (case c24 => k_is)
    (case k24 => k_is)
    (case a25 => k_is)
    (case l25 => k_is)
    (case c25 => k_is)
    (case k25 => k_is)
    (case a26 => k_is)
    (case l26 => k_is)
    (case c26 => k_is)
    (case k26 => k_is)
    (case a27 => k_is)
    (case l27 => k_is)
    (case c27 => k_is)
    (case k27 => k_is)
    (case a28 => k_is)
    (case l28 => k_is)
    (case c28 => k_is)
    (case k28 => k_is)
    (case a29 => k_is)
    (case l29 => k_is)
    (case c29 => k_is)
    (case k29 => k_is)
    (case a30 => k_is)
    (case l30 => k_is)
    (case c30 => k_is)
    (case k30 => k_is)
    (case a31 => k_is)
    (case l31 => k_is)
    (case c31 => k_is)
    (case k31 => k_is)
    (case a32 => k_is)
    (case l32 => k_is)
    (case c32 => k_is)
    (case k32 => k_is)
    (case a33 => k_is)
    (case l33 => k_is)
    (case c33 => k_is)
    (case k33 => k_is)
    (case a34 => k_is)
    (case l34 => k_is)
    (case c34 => k_is)
    (case k34 => k_is)
    (case a35 => k_is)
    (case l35 => k_is)
    (case c35 => k_is)
    (case k35 => k_is)
    (case a36 => k_is)
    (case l36 => k_is)
    (case c36 => k_is)
    (case k36 => k_is)
    (case a37 => k_is)
    (case l37 => k_is)
    (case c37 => k_is)
    (case k37 => k_is)
    (case a38 => k_is)
    (case l38 => k_is)
    (case c38 => k_is)
    (case k38 => k_is)
    (case a39 => k_is)
    (case l39 => k_is)
    (case c39 => k_is)
    (case k39 => k_is)
    (case a40 => k_is)
    (case l40 => k_is)
    (case c40 => k_is)
    (case k40 => k_is)
    (case a41 => k_is)
    (case l41 => k_is)
    (case c41 => k_is)
    (case k41 => k_is)
    (case a42 => k_is)
    (case l42 => k_is)
    (case c42 => k_is)
    (case k42 => k_is)
    (case a43 => k_is)
    (case l43 => k_is)
    (case c43 => k_is)
    (case k43 => k_is)
    (case a44 => k_is)
    (case l44 => k_is)
    (case c44 => k_is)
    (case k44 => k_is)
    (case a45 => k_is)
    (case l45 => k_is)
    (case c45 => k_is)
    (case k45 => k_is)
    (case a46 => k_is)
    (case l46 => k_is)
    (case c46 => k_is)
    (case k46 => k_is)
    (case a47 => k_is)
    (case l47 => k_is)
    (case c47 => k_is)
    (case k47 => k_is)
    (case a48 => k_is)
    (case l48 => k_is)
    (case c48 => k_is)
    (case k48 => k_is)
    (case a49 => k_is)
    (case l49 => k_is)
    (case c49 => k_is)
    (case k49 => k_is)
    (case a50 => k_is)
    (case l50 => k_is)
    (case c50 => k_is)
    (case k50 => k_is)
    (case a51 => k_is)
    (case l51 => k_is)
    (case c51 => k_is)
    (case k51 => k_is)
    (case z_isinstance => k_is)
    (case z_int => k_is)
    (case z_bool => k_is)
    (case z_str => k_is)
    (case z_tuple => k_is)
    (case z_list => k_is)
    (case z_len => k_is)
    (case z_range => k_is)
    (case z_abs => k_is)
    (case z_reversed => k_is)
    (case z_zip => k_is)
    (case z_ValueError => k_is)
    (case aF => k_is)
    (case aD => k_is)
    (case lF => k_is)
    (case lD => k_is)
    (case lT0 => k_is)
    (case lT1 => k_is)
    (case lT2 => k_is)
    (case lT3 => k_is)
    (case lT4 => k_is)
    (case lT5 => k_is)
    (case lT6 => k_is)
    (case lT7 => k_is)
    (case lT8 => k_is)
    (case mCP => k_is)
    (case mCH => k_is)
    (case mCN => k_is)
    (case xLCN => k_is)
    (case a52 => k_is)
    (case i52 => k_is)
    (case l52 => k_is)
    (case c52 => k_is)
    (case k52 => k_is)
    (case saCN => k_is)
    (case gaCN => k_is)
    (case ggCN => k_is)
    (case nkCN => k_is)
    (case kCCN => k_is)
    (case eCCN => k_is)
    (case tCCN => k_is)
    (case hCCN => k_is)
    (case haCN => k_is)
    (case hmCN => k_is)
    (case sVCN => k_is)
    (case sICN => k_is)
    (case sHCN => k_is)
    (case sCNCP => k_is)
    (case hn => k_is)
    (case ht => k_is)
    (case tCCH => k_is)
    (case dCCH => k_is)
    (case tCCP => k_is)
    (case dCCP => k_is)
