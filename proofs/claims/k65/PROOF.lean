import PyProof.Rows.All
import Wide.All
import OpenK.AllK
import Wide.FinOn
import HandS.ForMost
import HandS.IsInst
import HandS.Codes
import HandS.ForExc
import HandS.ExcInit
import HandS.ExcField
import HandS.CallSlots
import HandS.TupLe
import KE.KExcIs
import HandS.Flt
import HandS.ExcCtx
import HandS.HotCalls
import HandS.ExcInitHot
import HandS.Text
import HandS.Iter
import HandS.Wide
import HandS.Defaults
import HandS.More
import HandS.Conv
import HandS.Deep
import HandS.Set
import HandS.SetFor
import HandS.Strs
import HandS.Rev
import HandS.TupSets
import HandS.DictComp
import HandS.Dict
import HandS.Finally
import HandS.Flow
import HandS.Style
import HandS.TupAny
import KE.GoesMore
import KE.GoesEnum
import HandS.Zip
import HandS.RevRange
import HandS.GenBody
import HandS.GenYield
import HandS.GenCall
import HandS.GenList
import KE.KDictZip
import HandS.WordsDict
import HandS.Sort
import KE.DataEq
import HandS.Ends
import PyProof.ReprRoads
import HandS.Small
import HandS.ExcValue
import HandS.ExcIs
import PySem.Challenge.RW_heldproofs_k65_errors_made
set_option Elab.async false
set_option linter.all false
set_option maxRecDepth 100000
/-! My own layer over the hand layer: the weakest reading of a piece of syntax, and a rule a construct, chosen where the values are known. -/
namespace Wk
open PySem PySem.Spec PyProof.Rows L2
section
variable (X : Cx)
@[irreducible] def wE (e : Expr) : TE := fun σ H Q => ∀ (pins : List (Addr × Obj)) (s : Shared), Inv X pins σ H s → wpAny (model X.prog X.w) X.A (eval e X.env) (EP X pins σ Q) X.xe s
@[irreducible] def wT (e : Expr) : TT := fun σ H Q => ∀ (pins : List (Addr × Obj)) (s : Shared), Inv X pins σ H s → wpAny (model X.prog X.w) X.A (isTrue e X.env (eval e X.env)) (TP X pins σ Q) X.xe s
@[irreducible] def wW (e : Expr) : TT := fun σ H Q => ∀ (whole : Sem Value) (pins : List (Addr × Obj)) (s : Shared), Inv X pins σ H s → wpAny (model X.prog X.w) X.A (isTrue e X.env whole) (TP X pins σ Q) X.xe s
@[irreducible] def wA (es : List Expr) : TA := fun σ H Q => ∀ (pos : Pos) (pins : List (Addr × Obj)) (s : Shared), Inv X pins σ H s → wpAny (model X.prog X.w) X.A (spliced (backTo pos (starEach es X.env))) (AP X pins σ Q) X.xe s
@[irreducible] def wS (st : Stmt) : TS := fun D σ H => ∀ (pins : List (Addr × Obj)) (s : Shared), Inv X pins σ H s → wpAny (model X.prog X.w) X.A (exec st X.env) (SP X pins D) X.xe s
@[irreducible] def wL (st : List Stmt) : TS := fun D σ H => ∀ (pins : List (Addr × Obj)) (s : Shared), Inv X pins σ H s → wpAny (model X.prog X.w) X.A (execs st X.env) (SP X pins D) X.xe s
@[irreducible] def wO (f : Value → Value → Sem Value) : R2 := fun x y H Q => ∀ (pins : List (Addr × Obj)) (s : Shared) (σ : L2.St) (v u : Value), Inv X pins σ H s → RelV x v → RelV y u → wpAny (model X.prog X.w) X.A (f v u) (EP X pins σ Q) X.xe s
@[irreducible] def wB (op : Operator) : R2 := fun x y H Q => wO X (binaryOp op) x y H Q
@[irreducible] def wK (op : CmpOp) : R2 := fun x y H Q => wO X (compareOp op) x y H Q
@[irreducible] def wIx : R2 := fun x y H Q => ∀ (value slice : Expr) (pins : List (Addr × Obj)) (s : Shared) (σ : L2.St) (v u : Value), Inv X pins σ H s → RelV x v → RelV y u → subscripted slice false v u = operate [v, u] (getItem v u) → wpAny (model X.prog X.w) X.A (subscriptTail value slice v u) (EP X pins σ Q) X.xe s
@[irreducible] def wC (f : Value) : List V → Hp → VK → Prop := fun xs H Q => ∀ (pins : List (Addr × Obj)) (s : Shared) (σ : L2.St) (us : List Value), Inv X pins σ H s → Vals xs us → wpAny (model X.prog X.w) X.A (call f us) (EP X pins σ Q) X.xe s
@[irreducible] def wSet : V → V → V → Hp → (Hp → Prop) → Prop := fun o i v H Q => ∀ (pins : List (Addr × Obj)) (s : Shared) (σ : L2.St) (ov iv u : Value), Inv X pins σ H s → RelV o ov → RelV i iv → RelV v u → wpAny (model X.prog X.w) X.A (setItem ov iv u) (fun _ s' => ∃ H', Inv X pins σ H' s' ∧ Q H') X.xe s
end
section
variable {X : Cx} {e a b c : Expr} {es rest : List Expr} {st : Stmt} {sts : List Stmt} {σ : L2.St} {H : Hp} {Q : VK} {D : Ends} {pos p0 : Pos} {QT : Bool → Hp → Prop}
theorem pe : PE X e (wE X e) := ⟨fun pins s _ _ _ I h => by unfold wE at h; exact h pins s I⟩
theorem pt : PT X e (wT X e) := ⟨fun pins s _ _ _ I h => by unfold wT at h; exact h pins s I⟩
theorem pw : PW X e (wW X e) := ⟨fun wh pins s _ _ _ I h => by unfold wW at h; exact h wh pins s I⟩
theorem pa : PA X es (wA X es) := ⟨fun p pins s _ _ _ I h => by unfold wA at h; exact h p pins s I⟩
theorem ps : PS X st (wS X st) := ⟨fun pins s _ _ _ I h => by unfold wS at h; exact h pins s I⟩
theorem pl : PSs X sts (wL X sts) := ⟨fun pins s _ _ _ I h => by unfold wL at h; exact h pins s I⟩
theorem opr {f : Value → Value → Sem Value} : OpR X f (wO X f) := fun pins s σ _ _ _ v u _ I rx ry h => by unfold wO at h; exact h pins s σ v u I rx ry
theorem opb {op : Operator} : OpR X (binaryOp op) (wB X op) := fun pins s σ _ _ _ v u _ I rx ry h => by unfold wB at h; exact opr pins s σ _ _ _ v u _ I rx ry h
theorem opk {op : CmpOp} : OpR X (compareOp op) (wK X op) := fun pins s σ _ _ _ v u _ I rx ry h => by unfold wK at h; exact opr pins s σ _ _ _ v u _ I rx ry h
theorem ixr : IxR X (wIx X) := fun va sl pins s σ _ _ _ v u _ I rx ry h hs => by unfold wIx at h; exact h va sl pins s σ v u I rx ry hs
theorem cr {f : Value} : CallR X f (wC X f) := fun pins s σ _ _ us _ I r h => by unfold wC at h; exact h pins s σ us I r
theorem pset : PSet X (wSet X) := fun pins s σ _ _ _ _ ov iv u _ I ro ri rv h => by unfold wSet at h; exact h pins s σ ov iv u I ro ri rv
theorem e_of {t : TE} (h : PE X e t) (q : t σ H Q) : wE X e σ H Q := by unfold wE; exact fun pins s I => h.run pins s σ H Q I q
theorem t_of {t : TT} (h : PT X e t) (q : t σ H QT) : wT X e σ H QT := by unfold wT; exact fun pins s I => h.run pins s σ H QT I q
theorem w_of {t : TT} (h : PW X e t) (q : t σ H QT) : wW X e σ H QT := by unfold wW; exact fun wh pins s I => h.run wh pins s σ H QT I q
theorem a_of {t : TA} {QA : List V → Hp → Prop} (h : PA X es t) (q : t σ H QA) : wA X es σ H QA := by unfold wA; exact fun p pins s I => h.run p pins s σ H QA I q
theorem s_of {t : TS} (h : PS X st t) (q : t D σ H) : wS X st D σ H := by unfold wS; exact fun pins s I => h.run pins s σ H D I q
theorem l_of {t : TS} (h : PSs X sts t) (q : t D σ H) : wL X sts D σ H := by unfold wL; exact fun pins s I => h.run pins s σ H D I q
theorem o_of {f : Value → Value → Sem Value} {r : R2} {x y : V} (h : OpR X f r) (q : r x y H Q) : wO X f x y H Q := by unfold wO; exact fun pins s σ v u I rx ry => h pins s σ H x y v u Q I rx ry q
theorem b_of {op : Operator} {r : R2} {x y : V} (h : OpR X (binaryOp op) r) (q : r x y H Q) : wB X op x y H Q := by unfold wB; exact o_of h q
theorem k_of {op : CmpOp} {r : R2} {x y : V} (h : OpR X (compareOp op) r) (q : r x y H Q) : wK X op x y H Q := by unfold wK; exact o_of h q
theorem ix_of {r : R2} {x y : V} (h : IxR X r) (q : r x y H Q) : wIx X x y H Q := by unfold wIx; exact fun va sl pins s σ v u I rx ry hs => h va sl pins s σ H x y v u Q I rx ry q hs
theorem c_of {f : Value} {r : List V → Hp → VK → Prop} {xs : List V} (h : CallR X f r) (q : r xs H Q) : wC X f xs H Q := by unfold wC; exact fun pins s σ us I r => h pins s σ H xs us Q I r q
theorem set_of {t : V → V → V → Hp → (Hp → Prop) → Prop} {o i v : V} {QH : Hp → Prop} (h : PSet X t) (q : t o i v H QH) : wSet X o i v H QH := by unfold wSet; exact fun pins s σ ov iv u I ro ri rv => h pins s σ H o i v ov iv u QH I ro ri rv q

theorem e_mono {Q' : VK} (q : wE X e σ H Q) (h : ∀ v H1, Q v H1 → Q' v H1) : wE X e σ H Q' := by
  unfold wE at q ⊢
  exact fun pins s I => wpAny_mono (q pins s I) (fun _ _ ⟨v, H1, I1, r, z⟩ => ⟨v, H1, I1, r, h v H1 z⟩) fun _ _ z => z
theorem a_mono {QA QA' : List V → Hp → Prop} (q : wA X es σ H QA) (h : ∀ v H1, QA v H1 → QA' v H1) : wA X es σ H QA' := by
  unfold wA at q ⊢
  exact fun pp pins s I => wpAny_mono (q pp pins s I) (fun _ _ ⟨v, H1, I1, r, z⟩ => ⟨v, H1, I1, r, h v H1 z⟩) fun _ _ z => z

end
/-- where a name stands in a list; found by its spelling -/
inductive At {α : Type} : List α → Nat → α → Prop where
  | z {x : α} {l : List α} : At (x :: l) 0 x
  | s {x y : α} {l : List α} {i : Nat} (h : At l i x) : At (y :: l) (i + 1) x
theorem At.get {α : Type} {l : List α} {i : Nat} {x : α} (h : At l i x) : l[i]? = some x := by
  induction h with
  | z => rfl
  | s _ ih => simpa using ih
theorem At.mem {α : Type} {l : List α} {i : Nat} {x : α} (h : At l i x) : x ∈ l := List.mem_of_getElem? h.get
instance locDec {sc : Scope} {x : Str} : Decidable (Loc sc x) := inferInstanceAs (Decidable (_ ∨ _))
/-- a def's names: its own, in their slots, and the global ones -/
structure ScOk (N G : List Str) (sc : Scope) : Prop where
  nd : N.Nodup
  lo : ∀ x ∈ N, Loc sc x ∧ (x == ("__debug__" : Str)) = false ∧ (x == ("__classdict__" : Str)) = false
  gl : ∀ x ∈ G, sc.names.lookup x = some .globalImplicit ∧ (x == ("__debug__" : Str)) = false ∧ x ≠ "__name__"
/-- the body that the proof stands in -/
structure In (X : Cx) (N G : List Str) (sc : Scope) : Prop where
  ok : ScOk N G sc
  n : ∃ C, X.N = N ++ C
  nd : X.N.Nodup
  sc : X.env.scope = sc
  fn : X.fn = fun _ => true
  nev : PassesOwn (model X.prog X.w) X.A X.env X.xe
section
variable {X : Cx} {e a b c : Expr} {es rest : List Expr} {st : Stmt} {sts : List Stmt} {σ : L2.St} {H : Hp} {Q : VK} {D : Ends} {pos p0 : Pos} {QT : Bool → Hp → Prop} {N G : List Str} {sc : Scope}
theorem In.loc (I : In X N G sc) {i : Nat} {x : Str} (h : At N i x) : Loc X.env.scope x := by rw [I.sc]; exact (I.ok.lo x h.mem).1
theorem In.vis (I : In X N G sc) {i : Nat} {x : Str} (h : At N i x) : Vis X.env.scope x := by
  rcases I.loc h with z | z
  · exact .inl z
  · exact .inr (.inl z)
theorem In.hi (I : In X N G sc) {i : Nat} {x : Str} (h : At N i x) : X.N[i]? = some x := by
  obtain ⟨C, e⟩ := I.n
  have hl : i < N.length := by
    have := h.get
    exact (List.getElem?_eq_some_iff.mp this).1
  rw [e, List.getElem?_append_left hl]
  exact h.get
theorem In.f (I : In X N G sc) {x : Str} : X.fn x = true ∨ X.env.scope.names.lookup x = some .local := .inl (by rw [I.fn])
theorem In.g (I : In X N G sc) {i : Nat} {x : Str} (h : At G i x) : Gl X x := by
  show X.env.scope.names.lookup x = _
  rw [I.sc]
  exact (I.ok.gl x h.mem).1
theorem In.gd (I : In X N G sc) {i : Nat} {x : Str} (h : At G i x) : (x == ("__debug__" : Str)) = false := (I.ok.gl x h.mem).2.1
theorem In.gn (I : In X N G sc) {i : Nat} {x : Str} (h : At G i x) : x ≠ "__name__" := (I.ok.gl x h.mem).2.2
theorem In.never (I : In X N G sc) : PassesOwn (model X.prog X.w) X.A X.env X.xe := I.nev

/-! ### statements -/
theorem l_nil {nx : L2.St → Hp → Prop} {rt : VK} {bk ct : L2.St → Hp → Prop} (q : nx σ H) : wL X [] ⟨nx, rt, bk, ct⟩ σ H := l_of pss_nil q
theorem l_cons {nx : L2.St → Hp → Prop} {rt : VK} {bk ct : L2.St → Hp → Prop} (q : wS X st ⟨fun σ' H' => wL X sts ⟨nx, rt, bk, ct⟩ σ' H', rt, bk, ct⟩ σ H) : wL X (st :: sts) ⟨nx, rt, bk, ct⟩ σ H := l_of (pss_cons ps pl) q
theorem s_set {nx : L2.St → Hp → Prop} {rt : VK} {bk ct : L2.St → Hp → Prop} {i : Nat} {x : Str} {pos' : Pos} (q : wE X e σ H fun v H' => nx (σ.set i (some v)) H') (I : In X N G sc := by assumption) (hA : At N i x := by repeat (first | with_reducible apply At.z | with_reducible apply At.s)) (hs : swapsWith e (some (.Name x pos')) pos.line X.env = pure false := by rfl) :
    wS X (.Assign [.Name x pos'] e pos) ⟨nx, rt, bk, ct⟩ σ H := s_of (ps_set I.nd (I.hi hA) (I.loc hA) pe hs I.f) q
theorem s_ret {nx : L2.St → Hp → Prop} {rt : VK} {bk ct : L2.St → Hp → Prop} (q : wE X e σ H rt) : wS X (.Return (some e) pos) ⟨nx, rt, bk, ct⟩ σ H := s_of (ps_ret pe) q
theorem s_retN {nx : L2.St → Hp → Prop} {rt : VK} {bk ct : L2.St → Hp → Prop} (q : rt .non H) : wS X (.Return none pos) ⟨nx, rt, bk, ct⟩ σ H := s_of ps_retN q
theorem s_pass {nx : L2.St → Hp → Prop} {rt : VK} {bk ct : L2.St → Hp → Prop} (q : nx σ H) : wS X (.Pass pos) ⟨nx, rt, bk, ct⟩ σ H := s_of ps_pass q
theorem s_brk {nx : L2.St → Hp → Prop} {rt : VK} {bk ct : L2.St → Hp → Prop} (q : bk σ H) : wS X (.Break pos) ⟨nx, rt, bk, ct⟩ σ H := s_of ps_break q
theorem s_cnt {nx : L2.St → Hp → Prop} {rt : VK} {bk ct : L2.St → Hp → Prop} (q : ct σ H) : wS X (.Continue pos) ⟨nx, rt, bk, ct⟩ σ H := s_of ps_continue q
theorem s_expr {nx : L2.St → Hp → Prop} {rt : VK} {bk ct : L2.St → Hp → Prop} (q : wE X e σ H fun _ H' => nx σ H') (hs : swapsWith e none pos.line X.env = pure false := by rfl) : wS X (.Expr e pos) ⟨nx, rt, bk, ct⟩ σ H := s_of (ps_expr pe hs) q
theorem s_if {nx : L2.St → Hp → Prop} {rt : VK} {bk ct : L2.St → Hp → Prop} {A B : List Stmt} (q : wT X c σ H fun k H1 => if k = true then wL X A ⟨nx, rt, bk, ct⟩ σ H1 else wL X B ⟨nx, rt, bk, ct⟩ σ H1) : wS X (.If c A B pos) ⟨nx, rt, bk, ct⟩ σ H := s_of (ps_if pt pl pl) q
theorem s_fld {nx : L2.St → Hp → Prop} {rt : VK} {bk ct : L2.St → Hp → Prop} {o value : Expr} {f : Str} {pos' : Pos} (q : wE X value σ H fun y H1 => wE X o σ H1 fun x H2 => ∃ a C dx fs, x = .ref a ∧ H2 a = some (.ins C dx fs) ∧ Cls X.K C ∧ NoAttr X.K C f ∧ fs.length < 1000 ∧ nx σ (upd H2 a (.ins C dx (putF f y fs))))
    (hs : swapsWith value (some (.Attribute o f pos')) pos.line X.env = pure false := by rfl) : wS X (.Assign [.Attribute o f pos'] value pos) ⟨nx, rt, bk, ct⟩ σ H := s_of (ps_fld pe pe hs) q
/-- o[i] = v -/
theorem s_sub {nx : L2.St → Hp → Prop} {rt : VK} {bk ct : L2.St → Hp → Prop} {o i value : Expr} {pos' : Pos} (q : wE X value σ H fun v H1 => wE X o σ H1 fun x H2 => wE X i σ H2 fun y H3 => wSet X x y v H3 fun H4 => nx σ H4)
    (hs : swapsWithSole [.Subscript o i pos'] value pos.line X.env = pure false := by rfl) (hw : swappedStores [.Subscript o i pos'] value X.env = pure none := by rfl) (h1 : (assignEach [.Subscript o i pos'] X.env).map (·.2) = [assign (.Subscript o i pos') X.env] := by rfl)
    (ha : ∀ v, assign (.Subscript o i pos') X.env v = (do let ov ← holding [v] (eval o X.env); let iv ← holding [v, ov] (eval i X.env); standAt pos'; holding [v, ov, iv] (setItem ov iv v); release [v, ov, iv] []) := by intro _; rfl) : wS X (.Assign [.Subscript o i pos'] value pos) ⟨nx, rt, bk, ct⟩ σ H := s_of (ps_asg pe (pg_sub pe pe pset ha) hs hw h1) q
/-- two names from a tuple -/
theorem s_tup2 {nx : L2.St → Hp → Prop} {rt : VK} {bk ct : L2.St → Hp → Prop} {i j : Nat} {x y : Str} {k : Nat} {px py pt : Pos} (q : wE X e σ H fun v H1 => ∃ a u w, v = .ref a ∧ SqT X.K H1 a [u, w] ∧ nx ((σ.set i (some u)).set j (some w)) H1)
    (I : In X N G sc := by assumption) (hc : X.calm = true := by rfl) (hA : At N i x := by repeat (first | with_reducible apply At.z | with_reducible apply At.s)) (hB : At N j y := by repeat (first | with_reducible apply At.z | with_reducible apply At.s))
    (hs : swapsWithSole [.Tuple [.Name x px, .Name y py] k pt] e pos.line X.env = pure false := by rfl) (hw : swappedStores [.Tuple [.Name x px, .Name y py] k pt] e X.env = pure none := by rfl) (h1 : (assignEach [.Tuple [.Name x px, .Name y py] k pt] X.env).map (·.2) = [assign (.Tuple [.Name x px, .Name y py] k pt) X.env] := by rfl) :
    wS X (.Assign [.Tuple [.Name x px, .Name y py] k pt] e pos) ⟨nx, rt, bk, ct⟩ σ H := by
  refine s_of (ps_asg pe (pg_tup hc (pgs_cons (pg_name I.nd (I.hi hA) (I.loc hA) I.f) (pgs_cons (pg_name I.nd (I.hi hB) (I.loc hB) I.f) pgs_nil))) hs hw h1) (e_mono q fun v H1 q1 => ?_)
  obtain ⟨ad, u, w, ev, hq, q2⟩ := q1
  exact ⟨ad, [u, w], ev, hq, rfl, u, [w], rfl, w, [], rfl, rfl, q2⟩
/-! ### expressions -/
theorem e_var {i : Nat} {x : Str} {v : V} (q : Q v H) (I : In X N G sc := by assumption) (hA : At N i x := by repeat (first | with_reducible apply At.z | with_reducible apply At.s)) (hσ : σ[i]? = some (some v) := by exact rfl) : wE X (.Name x pos) σ H Q :=
  e_of (pe_var (I.hi hA) (I.vis hA) (I.ok.lo x hA.mem).2.1 (I.ok.lo x hA.mem).2.2) ⟨v, hσ, q⟩
theorem e_int {i : Int} {j} (q : Q (.int i) H) : wE X (.Constant (.int i) j pos) σ H Q := e_of pe_int q
theorem e_bl {k : Bool} {j} (q : Q (.bl k) H) : wE X (.Constant (.bool k) j pos) σ H Q := e_of pe_bl q
theorem e_non {j} (q : Q .non H) : wE X (.Constant .none j pos) σ H Q := e_of pe_non q
theorem e_str {x : Str} {j} (q : Q (.str x) H) : wE X (.Constant (.str x) j pos) σ H Q := e_of pe_str q
theorem e_bin {op : Operator} (q : wE X a σ H fun x H1 => wE X b σ H1 fun y H2 => wB X op x y H2 Q) : wE X (.BinOp a op b pos) σ H Q := e_of (pe_op opb pe pe) q
theorem e_cmp {op : CmpOp} (q : wE X a σ H fun x H1 => wE X b σ H1 fun y H2 => wK X op x y H2 Q) (hm : behindInMarks op b = false := by first | exact nomark _ | rfl) : wE X (.Compare a [op] [b] pos) σ H Q := e_of (pe_cmpR opk pe pe hm) q
theorem t_cmp {op : CmpOp} (q : wE X a σ H fun x H1 => wE X b σ H1 fun y H2 => wK X op x y H2 fun z H3 => ∃ k, z = .bl k ∧ QT k H3) (hm : behindInMarks op b = false := by first | exact nomark _ | rfl) : wT X (.Compare a [op] [b] pos) σ H QT := t_of (pt_cmpR opk pe pe hm) q
theorem t_val (q : wE X e σ H fun z H3 => ∃ k, z = .bl k ∧ QT k H3) (he : ∀ whole, isTrue e X.env whole = (do let v ← whole; standAt e.pos; holding [v] (truthy v)) := by intro _; rfl) : wT X e σ H QT := t_of (pt_val pe he) q
theorem t_not (q : wT X a σ H fun k H1 => QT (!k) H1) : wT X (.UnaryOp .Not a pos) σ H QT := t_of (pt_not pt) q
theorem t_w (q : wW X e σ H QT) : wT X e σ H QT := t_of pw.pt q
theorem w_and1 (q : wT X a σ H QT) : wW X (.BoolOp .And [a] pos) σ H QT := w_of (pw_and1 pt) q
theorem w_or1 (q : wT X a σ H QT) : wW X (.BoolOp .Or [a] pos) σ H QT := w_of (pw_or1 pt) q
theorem w_and (q : wT X a σ H fun k H1 => if k = true then wW X (.BoolOp .And (b :: rest) pos) σ H1 QT else QT false H1) : wW X (.BoolOp .And (a :: b :: rest) pos) σ H QT := w_of (pw_and pt pw) q
theorem w_or (q : wT X a σ H fun k H1 => if k = true then QT true H1 else wW X (.BoolOp .Or (b :: rest) pos) σ H1 QT) : wW X (.BoolOp .Or (a :: b :: rest) pos) σ H QT := w_of (pw_or pt pw) q
theorem e_one {op} (q : wE X a σ H Q) : wE X (.BoolOp op [a] pos) σ H Q := e_of (pe_one pe) q
theorem e_and (q : wE X a σ H fun x H1 => ∃ k, x = .bl k ∧ if k = true then wE X (.BoolOp .And (b :: rest) pos) σ H1 Q else Q (.bl false) H1) : wE X (.BoolOp .And (a :: b :: rest) pos) σ H Q := e_of (pe_and pe pe) q
theorem e_or (q : wE X a σ H fun x H1 => ∃ k, x = .bl k ∧ if k = true then Q (.bl true) H1 else wE X (.BoolOp .Or (b :: rest) pos) σ H1 Q) : wE X (.BoolOp .Or (a :: b :: rest) pos) σ H Q := e_of (pe_or pe pe) q
theorem e_not (q : wE X a σ H fun x H1 => ∃ k, x = .bl k ∧ Q (.bl (!k)) H1) : wE X (.UnaryOp .Not a pos) σ H Q := e_of (pe_not pe) q
theorem e_ifExp (q : wT X c σ H fun k H1 => if k = true then wE X a σ H1 Q else wE X b σ H1 Q) : wE X (.IfExp c a b pos) σ H Q := e_of (pe_ifExp pt pe pe) q
theorem e_ix (q : wE X a σ H fun x H1 => wE X b σ H1 fun y H2 => wIx X x y H2 Q) (hs : PlainIx b := by intro _ _; rfl) : wE X (.Subscript a b pos) σ H Q := e_of (pe_ix ixr pe pe hs) q
theorem e_fld {f : Str} (q : wE X e σ H fun x H1 => ∃ a C dx fs v, x = .ref a ∧ H1 a = some (.ins C dx fs) ∧ Cls X.K C ∧ NoAttr X.K C f ∧ fs.lookup f = some v ∧ Q v H1) (hb : attributeBase e f X.env (eval e X.env) = eval e X.env := by rfl) : wE X (.Attribute e f pos) σ H Q := e_of (pe_fld pe hb) q
theorem a_nil {QA : List V → Hp → Prop} (q : QA [] H) : wA X [] σ H QA := a_of pa_nil q
theorem a_cons {QA : List V → Hp → Prop} (q : wE X e σ H fun x H1 => wA X es σ H1 fun xs H2 => QA (x :: xs) H2) (hs : starEach (e :: es) X.env = (false, eval e X.env) :: starEach es X.env := by rfl) : wA X (e :: es) σ H QA := a_of (pa_cons pe pa hs) q
theorem e_tup {k} (q : wA X es σ H fun xs H1 => xs.length ≤ sizeLine ∧ ∀ p H2, Same H1 H2 → H1 p = none → H2 p = some (.tup xs) → Q (.ref p) H2) : wE X (.Tuple es k pos) σ H Q :=
  e_of (pe_tup pa) (a_mono q fun xs H1 z => ⟨z.1, fun p np => z.2 p _ (fun b o eo => by rw [upd_ne (ne_of_none eo np)]; exact eo) np upd_same⟩)
theorem e_lst (q : wA X es σ H fun xs H1 => xs.length ≤ sizeLine ∧ ∀ p H2, Same H1 H2 → H1 p = none → H2 p = some (.lst xs) → Q (.ref p) H2) : wE X (.List es pos) σ H Q :=
  e_of (pe_lst pa) (a_mono q fun xs H1 z => ⟨z.1, fun p np => z.2 p _ (fun b o eo => by rw [upd_ne (ne_of_none eo np)]; exact eo) np upd_same⟩)
/-! ### calls -/
/-- a def of the module that no exception leaves -/
structure Fn (P : Program) (w : World) (K : PySem.W.Frag) (mg : Str → Option Value) (base : Heap) (k : Nat) (x : Str) (sp : Sp) : Prop where
  ex : ∃ (f : Addr) (fd : FuncData) (ps : List Str), FnOk P w K mg base CX0 k f fd ps sp ∧ mg x = some (.ref f) ∧ PySem.W.keepIn K (.ref f) = true ∧ Binds K fd ps []
theorem e_call {g : Nat} {k n : Nat} {x : Str} {sp : Sp} (F : Fn X.prog X.w X.K X.mg X.base k x sp) (hr : Room n X.A) (hk : k ≤ n) (q : wA X (e :: es) σ H fun vs H1 => sp vs H1 Q E0) (I : In X N G sc := by assumption) (hG : At G g x := by repeat (first | with_reducible apply At.z | with_reducible apply At.s))
    (he : starEach (e :: es) X.env = (false, eval e X.env) :: starEach es X.env := by rfl) (hpl : (backTo pos (starEach es X.env)).any (·.1) = false := by rfl) : wE X (.Call (.Name x p0) (e :: es) [] pos) σ H Q := by
  obtain ⟨f, fd, ps, F0, hm, hkp, hb⟩ := F.ex
  refine e_of (pe_call F0 (hr.mono hk) (I.g hG) hm hkp hb .nil pass0 pa (I.gd hG) he hpl) ?_
  show wA X (e :: es) σ H fun vs H1 => sp (vs ++ []) H1 Q E0
  simp only [List.append_nil]
  exact q
theorem e_call0 {g : Nat} {k n : Nat} {x : Str} {sp : Sp} (F : Fn X.prog X.w X.K X.mg X.base k x sp) (hr : Room n X.A) (hk : k ≤ n) (q : sp [] H Q E0) (I : In X N G sc := by assumption) (hG : At G g x := by repeat (first | with_reducible apply At.z | with_reducible apply At.s)) : wE X (.Call (.Name x p0) [] [] pos) σ H Q := by
  obtain ⟨f, fd, ps, F0, hm, hkp, hb⟩ := F.ex
  exact e_of (pe_call0 F0 (hr.mono hk) (I.g hG) hm hkp hb .nil pass0 (I.gd hG)) q
theorem e_callB {g : Nat} {x : Str} {id : String} (hm : X.mg x = none) (hv : bootBuiltins x = some (.builtin id)) (q : wA X (e :: es) σ H fun vs H1 => wC X (.builtin id) vs H1 Q) (I : In X N G sc := by assumption) (hG : At G g x := by repeat (first | with_reducible apply At.z | with_reducible apply At.s))
    (he : starEach (e :: es) X.env = (false, eval e X.env) :: starEach es X.env := by rfl) (hpl : (backTo pos (starEach es X.env)).any (·.1) = false := by rfl) : wE X (.Call (.Name x p0) (e :: es) [] pos) σ H Q := e_of (pe_callB cr (I.g hG) hm hv pa (I.gn hG) (I.gd hG) he hpl) q
theorem e_callTy {g : Nat} {x : Str} {T : String} (hm : X.mg x = none) (hv : bootBuiltins x = some (.type T)) (q : wA X (e :: es) σ H fun vs H1 => wC X (.type T) vs H1 Q) (I : In X N G sc := by assumption) (hG : At G g x := by repeat (first | with_reducible apply At.z | with_reducible apply At.s))
    (he : starEach (e :: es) X.env = (false, eval e X.env) :: starEach es X.env := by rfl) (hpl : (backTo pos (starEach es X.env)).any (·.1) = false := by rfl) : wE X (.Call (.Name x p0) (e :: es) [] pos) σ H Q := e_of (pe_callTy cr (I.g hG) hm hv pa (I.gn hG) (I.gd hG) he hpl) q
theorem e_glob {g : Nat} {x : Str} {v : V} {u : Value} (hm : X.mg x = some u) (r : RelV v u) (q : Q v H) (I : In X N G sc := by assumption) (hG : At G g x := by repeat (first | with_reducible apply At.z | with_reducible apply At.s)) : wE X (.Name x pos) σ H Q := e_of (pe_glob (I.g hG) hm r (I.gd hG)) q
theorem e_bltn {g : Nat} {x : Str} {v : V} {u : Value} (hm : X.mg x = none) (hv : bootBuiltins x = some u) (r : RelV v u) (q : Q v H) (I : In X N G sc := by assumption) (hG : At G g x := by repeat (first | with_reducible apply At.z | with_reducible apply At.s)) : wE X (.Name x pos) σ H Q := e_of (pe_bltn (I.g hG) hm hv r (I.gn hG) (I.gd hG)) q
/-- a method of a class that no exception leaves -/
structure Mt (P : Program) (w : World) (K : PySem.W.Frag) (mg : Str → Option Value) (base : Heap) (k : Nat) (C : Addr) (m : Str) (sp : Sp) : Prop where
  ex : ∃ (f : Addr) (fd : FuncData) (ps : List Str), FnOk P w K mg base CX0 k f fd ps sp ∧ Meth K C m f ∧ Binds K fd ps [] ∧ Cls K C
theorem e_meth {k n : Nat} {o : Expr} {m : Str} {C : Addr} {apos : Pos} {pl : Sem Bool} {sp : Sp} (F : Mt X.prog X.w X.K X.mg X.base k C m sp) (hr : Room n X.A) (hk : k ≤ n)
    (q : wE X o σ H fun x H1 => ∃ a dx fs, x = .ref a ∧ H1 a = some (.ins C dx fs) ∧ fs.lookup m = none ∧ wA X (e :: es) σ H1 fun vs H2 => sp (x :: vs) H2 Q E0)
    (hst : starEach (e :: es) X.env = (false, eval e X.env) :: starEach es X.env := by rfl) (hpl : (backTo pos (starEach es X.env)).any (·.1) = false := by rfl)
    (ht : eval (.Call (.Attribute o m apos) (e :: es) [] pos) X.env = (do let ov ← eval o X.env; standAt apos.atName; let (f, first) ← holding [ov] (getMethod ov m pl); callWith pos f first (backTo pos (starEach (e :: es) X.env)) (backToKw pos (keywordEach [] X.env))) := by rfl) :
    wE X (.Call (.Attribute o m apos) (e :: es) [] pos) σ H Q := by
  obtain ⟨f, fd, ps, F0, M, hb, c⟩ := F.ex
  refine e_of (pe_meth (pl := pl) pe c M F0 (hr.mono hk) hb .nil pass0 pa hst hpl ht) ?_
  show wE X o σ H fun x H1 => ∃ a dx fs, x = .ref a ∧ H1 a = some (.ins C dx fs) ∧ fs.lookup m = none ∧ wA X (e :: es) σ H1 fun vs H2 => sp (x :: (vs ++ [])) H2 Q E0
  simp only [List.append_nil]
  exact q
theorem e_meth0 {k n : Nat} {o : Expr} {m : Str} {C : Addr} {apos : Pos} {pl : Sem Bool} {sp : Sp} (F : Mt X.prog X.w X.K X.mg X.base k C m sp) (hr : Room n X.A) (hk : k ≤ n)
    (q : wE X o σ H fun x H1 => ∃ a dx fs, x = .ref a ∧ H1 a = some (.ins C dx fs) ∧ fs.lookup m = none ∧ sp [x] H1 Q E0)
    (ht : eval (.Call (.Attribute o m apos) [] [] pos) X.env = (do let ov ← eval o X.env; standAt apos.atName; let (f, first) ← holding [ov] (getMethod ov m pl); callWith pos f first (backTo pos (starEach [] X.env)) (backToKw pos (keywordEach [] X.env))) := by rfl) :
    wE X (.Call (.Attribute o m apos) [] [] pos) σ H Q := by
  obtain ⟨f, fd, ps, F0, M, hb, c⟩ := F.ex
  exact e_of (pe_meth0 (pl := pl) pe c M F0 (hr.mono hk) hb .nil pass0 ht) q
/-- an own class whose __init__ no exception leaves -/
structure Kl (P : Program) (w : World) (K : PySem.W.Frag) (mg : Str → Option Value) (base : Heap) (k : Nat) (x : Str) (C : Addr) (sp : Sp) : Prop where
  ex : ∃ (f : Addr) (fd : FuncData) (ps : List Str), FnOk P w K mg base CX0 k f fd ps sp ∧ mg x = some (.ref C) ∧ Mk K C f ∧ Binds K fd ps []
theorem e_make {g : Nat} {k n : Nat} {x : Str} {C : Addr} {sp : Sp} (F : Kl X.prog X.w X.K X.mg X.base k x C sp) (hr : Room n X.A) (hk : k + 1 ≤ n)
    (q : wA X (e :: es) σ H fun vs H1 => ∀ x dx, H1 x = none → H1 dx = none → dx ≠ x → sp (.ref x :: vs) (upd (upd H1 dx (.own x)) x (.ins C dx [])) (fun v H2 => v = .non ∧ Q (.ref x) H2) E0)
    (I : In X N G sc := by assumption) (hG : At G g x := by repeat (first | with_reducible apply At.z | with_reducible apply At.s)) (he : starEach (e :: es) X.env = (false, eval e X.env) :: starEach es X.env := by rfl) (hpl : (backTo pos (starEach es X.env)).any (·.1) = false := by rfl) : wE X (.Call (.Name x p0) (e :: es) [] pos) σ H Q := by
  obtain ⟨f, fd, ps, F0, hm, M, hb⟩ := F.ex
  refine e_of (pe_make M F0 (hr.mono hk) (I.g hG) hm hb .nil pass0 pa (I.gd hG) he hpl) ?_
  show wA X (e :: es) σ H fun vs H1 => ∀ x dx, H1 x = none → H1 dx = none → dx ≠ x → sp (.ref x :: (vs ++ [])) (upd (upd H1 dx (.own x)) x (.ins C dx [])) (fun v H2 => v = .non ∧ Q (.ref x) H2) E0
  simp only [List.append_nil]
  exact q
end
/-! ### values -/
section
variable {X : Cx} {H : Hp} {Q : VK} {i j : Int} {σ : L2.St} {D : Ends}
theorem o_add (q : Q (.int (i + j)) H) : wB X .Add (.int i) (.int j) H Q := b_of op_add ⟨i, j, rfl, rfl, q⟩
theorem o_sub (q : Q (.int (i - j)) H) : wB X .Sub (.int i) (.int j) H Q := b_of op_sub ⟨i, j, rfl, rfl, q⟩
theorem o_mul (c : CMul i j) (q : Q (.int (i * j)) H) : wB X .Mult (.int i) (.int j) H Q := b_of op_mul ⟨i, j, rfl, rfl, c, q⟩
theorem o_mod (c : 0 < j) (q : Q (.int (i % j)) H) : wB X .Mod (.int i) (.int j) H Q := b_of op_mod ⟨i, j, rfl, rfl, c, q⟩
theorem o_fdiv (c : 0 < j ∧ j < 1073741824) (q : Q (.int (i / j)) H) : wB X .FloorDiv (.int i) (.int j) H Q := b_of op_fdiv ⟨i, j, rfl, rfl, c, q⟩
theorem o_pow (c : CPow i j) (q : Q (.int (i ^ j.toNat)) H) : wB X .Pow (.int i) (.int j) H Q := b_of op_pow ⟨i, j, rfl, rfl, c, q⟩
theorem o_lt (q : Q (.bl (decide (i < j))) H) : wK X .Lt (.int i) (.int j) H Q := k_of op_lt ⟨i, j, rfl, rfl, q⟩
theorem o_le (q : Q (.bl (decide (i ≤ j))) H) : wK X .LtE (.int i) (.int j) H Q := k_of op_le ⟨i, j, rfl, rfl, q⟩
theorem o_gt (q : Q (.bl (decide (j < i))) H) : wK X .Gt (.int i) (.int j) H Q := k_of op_gt ⟨i, j, rfl, rfl, q⟩
theorem o_ge (q : Q (.bl (decide (j ≤ i))) H) : wK X .GtE (.int i) (.int j) H Q := k_of op_ge ⟨i, j, rfl, rfl, q⟩
theorem dint {i j : Int} : decide (V.int i = V.int j) = decide (i = j) := by simp
theorem dbl {i j : Bool} : decide (V.bl i = V.bl j) = decide (i = j) := by simp
theorem dstr {i j : Str} : decide (V.str i = V.str j) = decide (i = j) := by simp
theorem o_eqI (q : Q (.bl (decide (i = j))) H) : wK X .Eq (.int i) (.int j) H Q := k_of op_eq ⟨rfl, dint ▸ q⟩
theorem o_neI (q : Q (.bl (!decide (i = j))) H) : wK X .NotEq (.int i) (.int j) H Q := k_of op_ne ⟨rfl, dint ▸ q⟩
theorem o_eqB {i j : Bool} (q : Q (.bl (decide (i = j))) H) : wK X .Eq (.bl i) (.bl j) H Q := k_of op_eq ⟨rfl, dbl ▸ q⟩
theorem o_neB {i j : Bool} (q : Q (.bl (!decide (i = j))) H) : wK X .NotEq (.bl i) (.bl j) H Q := k_of op_ne ⟨rfl, dbl ▸ q⟩
theorem o_eqS {i j : Str} (q : Q (.bl (decide (i = j))) H) : wK X .Eq (.str i) (.str j) H Q := k_of op_eq ⟨rfl, dstr ▸ q⟩
theorem o_neS {i j : Str} (q : Q (.bl (!decide (i = j))) H) : wK X .NotEq (.str i) (.str j) H Q := k_of op_ne ⟨rfl, dstr ▸ q⟩
/-- a pair of ints beside a text -/
theorem o_eqPS {n : Nat} {a : Addr} {u v : Int} {z : Str} (hr : Room n X.A) (h : H a = some (.tup [.int u, .int v])) (hz : SeqAt.shaped (.str z) = true) (q : Q (.bl false) H) : wK X .Eq (.ref a) (.str z) H Q :=
  k_of (op_eqD hr.units) ⟨.tuple [.int u, .int v], .str z, .tup (SqT.of h) (.cons (.int u) (.cons (.int v) .nil)), .str z, rfl, hz, q⟩
theorem ix_l {a : Addr} {xs : List V} {v : V} (h : SqL X.K H a xs) (e : atI xs i = some v) (q : Q v H) : wIx X (.ref a) (.int i) H Q := ix_of ix_list ⟨a, xs, i, v, rfl, rfl, h, e, q⟩
theorem ix_t {a : Addr} {xs : List V} {v : V} (h : SqT X.K H a xs) (e : atI xs i = some v) (q : Q v H) : wIx X (.ref a) (.int i) H Q := ix_of ix_tup ⟨a, xs, i, v, rfl, rfl, h, e, q⟩
theorem set_l {a : Addr} {xs : List V} {v : V} {k : Nat} {QH : Hp → Prop} (h : H a = some (.lst xs)) (e : ixN xs.length i = some k) (q : QH (upd H a (.lst (xs.set k v)))) : wSet X (.ref a) (.int i) v H QH := set_of set_list ⟨a, xs, i, k, rfl, rfl, h, e, q⟩
theorem c_int (q : Q (.int i) H) : wC X (.type "int") [.int i] H Q := c_of call_int1 (.inl ⟨i, rfl, q⟩)
theorem c_abs (q : Q (.int (if i < 0 then -i else i)) H) : wC X (.builtin "abs") [.int i] H Q := c_of call_abs ⟨i, rfl, q⟩
theorem c_max (hc : X.calm = true) (q : Q (.int (if j > i then j else i)) H) : wC X (.builtin "max") [.int i, .int j] H Q := c_of (call_max2 hc) ⟨i, j, rfl, q⟩
theorem c_min (hc : X.calm = true) (q : Q (.int (if j < i then j else i)) H) : wC X (.builtin "min") [.int i, .int j] H Q := c_of (call_min2 hc) ⟨i, j, rfl, q⟩
theorem c_lenL {a : Addr} {xs : List V} (h : SqL X.K H a xs) (q : Q (.int xs.length) H) : wC X (.builtin "len") [.ref a] H Q := c_of call_len_seq ⟨a, xs, rfl, .inl h, q⟩
theorem c_lenT {a : Addr} {xs : List V} (h : SqT X.K H a xs) (q : Q (.int xs.length) H) : wC X (.builtin "len") [.ref a] H Q := c_of call_len_seq ⟨a, xs, rfl, .inr h, q⟩
theorem c_isi {x c : V} {t u : Value} {b : Bool} (ty : TyX X.K H x t) (k : ClsV c u) (e : PySem.W.kitOne X.K t u = some b) (q : Q (.bl b) H) : wC X (.builtin "isinstance") [x, c] H Q := c_of call_isi ⟨x, c, t, u, b, rfl, k, ty, e, q⟩
theorem c_isiT {x : V} {tp : Addr} {cs : List V} {t : Value} {us : List Value} {b : Bool} (ty : TyX X.K H x t) (h : H tp = some (.tup cs)) (k : Paired ClsV cs us) (e : PySem.W.kitAny X.K t us = some b) (q : Q (.bl b) H) : wC X (.builtin "isinstance") [x, .ref tp] H Q :=
  c_of call_isiT ⟨x, tp, cs, t, us, b, rfl, h, k, ty, e, q⟩
theorem ty_non : TyX X.K H .non (.type "NoneType") := .base .non
theorem ty_bl {b : Bool} : TyX X.K H (.bl b) (.type "bool") := .base (.bl b)
theorem ty_int : TyX X.K H (.int i) (.type "int") := .base (.int i)
theorem ty_str {z : Str} : TyX X.K H (.str z) (.type "str") := .base (.str z)
theorem ty_tup {a : Addr} {xs : List V} (h : H a = some (.tup xs)) : TyX X.K H (.ref a) (.type "tuple") := .base (.tup h)
theorem ty_lst {a : Addr} {xs : List V} (h : H a = some (.lst xs)) : TyX X.K H (.ref a) (.type "list") := .base (.lst h)
theorem two_ty {a b : String} : Paired ClsV [.ty a, .ty b] [.type a, .type b] := .cons (.ty a) (.cons (.ty b) .nil)
theorem kit2 {K : PySem.W.Frag} {t a b : String} {x y : Bool} (h1 : kitB t a = some x) (h2 : kitB t b = some y) : PySem.W.kitAny K (.type t) [.type a, .type b] = some (x || y) := by
  cases x with
  | true => exact kitAny_cons (kit_ty h1) (fun z => nomatch z) fun _ => rfl
  | false =>
    refine kitAny_cons (kit_ty h1) (fun _ => ?_) (fun z => nomatch z)
    cases y with
    | true => exact kitAny_cons (kit_ty h2) (fun z => nomatch z) fun _ => rfl
    | false => exact kitAny_cons (kit_ty h2) (fun _ => rfl) (fun z => nomatch z)
theorem kb_int_tuple : kitB "int" "tuple" = some false := by decide +kernel
theorem kb_int_list : kitB "int" "list" = some false := by decide +kernel
theorem kb_int_int : kitB "int" "int" = some true := by decide +kernel
theorem kb_int_bool : kitB "int" "bool" = some false := by decide +kernel
theorem kb_int_str : kitB "int" "str" = some false := by decide +kernel
theorem kb_tuple_tuple : kitB "tuple" "tuple" = some true := by decide +kernel
theorem kb_tuple_list : kitB "tuple" "list" = some false := by decide +kernel
theorem kb_tuple_str : kitB "tuple" "str" = some false := by decide +kernel
theorem kb_tuple_int : kitB "tuple" "int" = some false := by decide +kernel
theorem kb_tuple_bool : kitB "tuple" "bool" = some false := by decide +kernel
theorem kb_list_tuple : kitB "list" "tuple" = some false := by decide +kernel
theorem kb_list_list : kitB "list" "list" = some true := by decide +kernel
theorem kb_list_str : kitB "list" "str" = some false := by decide +kernel
theorem kb_list_int : kitB "list" "int" = some false := by decide +kernel
theorem kb_list_bool : kitB "list" "bool" = some false := by decide +kernel
theorem kb_bool_bool : kitB "bool" "bool" = some true := by decide +kernel
theorem kb_bool_int : kitB "bool" "int" = some true := by decide +kernel
theorem kb_bool_str : kitB "bool" "str" = some false := by decide +kernel
theorem kb_bool_tuple : kitB "bool" "tuple" = some false := by decide +kernel
theorem kb_bool_list : kitB "bool" "list" = some false := by decide +kernel
theorem kb_str_str : kitB "str" "str" = some true := by decide +kernel
theorem kb_str_bool : kitB "str" "bool" = some false := by decide +kernel
theorem kb_str_int : kitB "str" "int" = some false := by decide +kernel
theorem kb_str_tuple : kitB "str" "tuple" = some false := by decide +kernel
theorem kb_str_list : kitB "str" "list" = some false := by decide +kernel
theorem kb_non_bool : kitB "NoneType" "bool" = some false := by decide +kernel
theorem kb_non_int : kitB "NoneType" "int" = some false := by decide +kernel
theorem kb_non_str : kitB "NoneType" "str" = some false := by decide +kernel
theorem kb_non_tuple : kitB "NoneType" "tuple" = some false := by decide +kernel
theorem kb_non_list : kitB "NoneType" "list" = some false := by decide +kernel
theorem b_int : bootBuiltins "int" = some (.type "int") := by decide +kernel
theorem b_bool : bootBuiltins "bool" = some (.type "bool") := by decide +kernel
theorem b_str : bootBuiltins "str" = some (.type "str") := by decide +kernel
theorem b_tuple : bootBuiltins "tuple" = some (.type "tuple") := by decide +kernel
theorem b_list : bootBuiltins "list" = some (.type "list") := by decide +kernel
theorem b_isi : bootBuiltins "isinstance" = some (.builtin "isinstance") := by decide +kernel
theorem b_len : bootBuiltins "len" = some (.builtin "len") := by decide +kernel
theorem b_abs : bootBuiltins "abs" = some (.builtin "abs") := by decide +kernel
theorem b_max : bootBuiltins "max" = some (.builtin "max") := by decide +kernel
theorem b_min : bootBuiltins "min" = some (.builtin "min") := by decide +kernel
/-! ### loops -/
theorem s_forR {nx : L2.St → Hp → Prop} {rt : VK} {bk ct : L2.St → Hp → Prop} {g : Nat} {N G : List Str} {sc : Scope} {x : Str} {i : Nat} {a : Expr} {body : List Stmt} {px p cp pos : Pos} (hm : X.mg "range" = none)
    (q : wE X a σ H fun v H1 => ∃ n : Nat, v = .int n ∧ n < 2 ^ 62 ∧ ∃ Pv : Nat → L2.St → Hp → Prop, Pv 0 σ H1 ∧ (∀ k σ H, k < n → Pv k σ H → wL X body ⟨Pv (k + 1), rt, nx, Pv (k + 1)⟩ (σ.set i (some (.int (k : Int)))) H) ∧ ∀ σ H, Pv n σ H → nx σ H)
    (I : In X N G sc := by assumption) (hc : X.calm = true := by rfl) (hA : At N i x := by repeat (first | with_reducible apply At.z | with_reducible apply At.s))
    (hG : At G g ("range" : Str) := by repeat (first | with_reducible apply At.z | with_reducible apply At.s)) (hs : starEach [a] X.env = [(false, eval a X.env)] := by rfl) (hs2 : ∀ z, foldedSetIterable (.Call (.Name "range" p) [a] [] cp) X.env z = pure z := by intro _; rfl)
    (hs1 : starEach (a :: []) X.env = (false, eval a X.env) :: starEach [] X.env := by rfl) :
    wS X (.For (.Name x px) (.Call (.Name "range" p) [a] [] cp) body [] pos) ⟨nx, rt, bk, ct⟩ σ H := by
  refine s_of (ps_for I.never hc (pi_range1 (I.g hG) hm (pa_cons pe pa_nil hs1) hs) (pg_name I.nd (I.hi hA) (I.loc hA) I.f) pl hs2) (e_mono q fun v H1 q1 => ?_)
  obtain ⟨n, rfl, hn, Pv, h0, hb, hd⟩ := q1
  refine ⟨(n : Int), rfl, by omega, by omega, ?_⟩
  rw [Int.toNat_natCast]
  refine for_range (n := n) Pv h0 (fun k σ H hk p => ?_) hd
  rw [Int.zero_add]
  exact hb k σ H hk p
theorem s_forL {nx : L2.St → Hp → Prop} {rt : VK} {bk ct : L2.St → Hp → Prop} {N G : List Str} {sc : Scope} {x : Str} {i : Nat} {a : Expr} {body : List Stmt} {px pos : Pos}
    (q : wE X a σ H fun v H1 => ∃ ad xs, v = .ref ad ∧ SqL X.K H1 ad xs ∧ ∃ Pv : Nat → L2.St → Hp → Prop, Pv 0 σ H1 ∧ (∀ k σ H, k ≤ xs.length → Pv k σ H → SqL X.K H ad xs) ∧ (∀ k y σ H, xs[k]? = some y → Pv k σ H → wL X body ⟨Pv (k + 1), rt, nx, Pv (k + 1)⟩ (σ.set i (some y)) H) ∧ ∀ σ H, Pv xs.length σ H → nx σ H)
    (I : In X N G sc := by assumption) (hc : X.calm = true := by rfl) (hA : At N i x := by repeat (first | with_reducible apply At.z | with_reducible apply At.s))
    (hs2 : ∀ z, foldedSetIterable a X.env z = pure z := by intro _; rfl) :
    wS X (.For (.Name x px) a body [] pos) ⟨nx, rt, bk, ct⟩ σ H := by
  refine s_of (ps_for I.never hc (pi_list pe) (pg_name I.nd (I.hi hA) (I.loc hA) I.f) pl hs2) (e_mono q fun v H1 q1 => ?_)
  obtain ⟨ad, xs, rfl, hl, Pv, h0, hk, hb, hd⟩ := q1
  exact ⟨ad, rfl, ⟨xs, hl⟩, for_list Pv h0 hk hb hd⟩
theorem s_forT {nx : L2.St → Hp → Prop} {rt : VK} {bk ct : L2.St → Hp → Prop} {N G : List Str} {sc : Scope} {x : Str} {i : Nat} {a : Expr} {body : List Stmt} {px pos : Pos}
    (q : wE X a σ H fun v H1 => ∃ ad xs, v = .ref ad ∧ SqT X.K H1 ad xs ∧ ∃ Pv : Nat → L2.St → Hp → Prop, Pv 0 σ H1 ∧ (∀ k σ H, k ≤ xs.length → Pv k σ H → SqT X.K H ad xs) ∧ (∀ k y σ H, xs[k]? = some y → Pv k σ H → wL X body ⟨Pv (k + 1), rt, nx, Pv (k + 1)⟩ (σ.set i (some y)) H) ∧ ∀ σ H, Pv xs.length σ H → nx σ H)
    (I : In X N G sc := by assumption) (hc : X.calm = true := by rfl) (hA : At N i x := by repeat (first | with_reducible apply At.z | with_reducible apply At.s))
    (hs2 : ∀ z, foldedSetIterable a X.env z = pure z := by intro _; rfl) :
    wS X (.For (.Name x px) a body [] pos) ⟨nx, rt, bk, ct⟩ σ H := by
  refine s_of (ps_for I.never hc (pi_tup pe) (pg_name I.nd (I.hi hA) (I.loc hA) I.f) pl hs2) (e_mono q fun v H1 q1 => ?_)
  obtain ⟨ad, xs, rfl, hl, Pv, h0, hk, hb, hd⟩ := q1
  exact ⟨ad, rfl, ⟨xs, hl⟩, for_tup Pv h0 hk hb hd⟩
/-! ### an own operator of an own class -/
theorem op_own {op : Operator} {k n : Nat} {C f : Addr} {fd : FuncData} {pn : List Str} {sp : Sp} (F : FnOk X.prog X.w X.K X.mg X.base CX0 k f fd pn sp) (hs : PySem.W.findIn X.K (.ref C) (PySem.dunder op.info.2) = some (some (.ref f))) (hf : PySem.W.isFn X.K (.ref f) = true)
    (hc : PySem.W.selfFirst X.K C = true) (hb : Binds X.K fd pn []) (hr : Room n X.A) (hk : k ≤ n) :
    OpR X (binaryOp op) (fun x y H Q => ∃ a b dx dy fs gs, x = .ref a ∧ y = .ref b ∧ H a = some (.ins C dx fs) ∧ H b = some (.ins C dy gs) ∧ sp [x, y] H (fun v H' => (∃ p, v = .ref p) ∧ Q v H') E0) := by
  intro pins s σ H x y u v Q I rx ry h
  obtain ⟨a, b, dx, dy, fs, gs, rfl, rfl, ha, hb', hsp⟩ := h
  cases rx
  cases ry
  obtain ⟨mA, J, _⟩ := ins_get I.hok ha
  obtain ⟨mB, J', _⟩ := ins_get I.hok hb'
  obtain ⟨od, J, _⟩ := J.look
  obtain ⟨od', J', _⟩ := J'.look
  obtain ⟨m, hF⟩ := I.fr
  refine PySem.W.binop_K hF I.ok.mod.kin J J'.type hc hs hf ?_
  refine wpAny_mono (run_fn (E := E0) F (hr.mono hk) hb .nil pass0 I (show Vals [V.ref a, V.ref b] [Value.ref a, Value.ref b] from .cons rfl (.cons rfl .nil)) (by rw [List.append_nil]; exact hsp)) (fun w s' z => ?_) fun _ _ z => z
  obtain ⟨v', H', I', rz, ⟨p, rfl⟩, q⟩ := z
  cases rz
  exact ⟨.ref p, H', I', rfl, q⟩
structure Op2 (P : Program) (w : World) (K : PySem.W.Frag) (mg : Str → Option Value) (base : Heap) (k : Nat) (C : Addr) (op : Operator) (sp : Sp) : Prop where
  ex : ∃ (f : Addr) (fd : FuncData) (pn : List Str), FnOk P w K mg base CX0 k f fd pn sp ∧ PySem.W.findIn K (.ref C) (PySem.dunder op.info.2) = some (some (.ref f)) ∧ PySem.W.isFn K (.ref f) = true ∧ PySem.W.selfFirst K C = true ∧ Binds K fd pn []
theorem o_own {op : Operator} {k n : Nat} {C a b dx dy : Addr} {fs gs : List (Str × V)} {sp : Sp} (F : Op2 X.prog X.w X.K X.mg X.base k C op sp) (hr : Room n X.A) (hk : k ≤ n) (ha : H a = some (.ins C dx fs)) (hb : H b = some (.ins C dy gs))
    (q : sp [.ref a, .ref b] H (fun v H' => (∃ p, v = .ref p) ∧ Q v H') E0) : wB X op (.ref a) (.ref b) H Q := by
  obtain ⟨f, fd, pn, G, hs, hf, hc, hb'⟩ := F.ex
  exact b_of (op_own G hs hf hc hb' hr hk) ⟨a, b, dx, dy, fs, gs, rfl, rfl, ha, hb, q⟩
end
/-! ### heaps -/
/-- all but a stays -/
def But (a : Addr) (H H' : Hp) : Prop := ∀ b o, b ≠ a → H b = some o → H' b = some o
theorem But.refl {a : Addr} {H : Hp} : But a H H := fun _ _ _ h => h
theorem But.trans {a : Addr} {H H1 H2 : Hp} (x : But a H H1) (y : But a H1 H2) : But a H H2 := fun b o n h => y b o n (x b o n h)
theorem But.of {a : Addr} {H H1 : Hp} (x : Same H H1) : But a H H1 := fun b o _ h => x b o h
theorem But.upd {a : Addr} {H H1 : Hp} {o : HO} (x : But a H H1) : But a H (L2.upd H1 a o) := fun b u n h => by
  rw [upd_ne n]
  exact x b u n h
theorem But.tup {a p : Addr} {H H1 : Hp} {l xs : List V} (x : But a H H1) (ha : H a = some (.lst l)) (hp : H p = some (.tup xs)) : H1 p = some (.tup xs) := x p _ (ne_of hp ha (by intro z; cases z)) hp
theorem But.ins {a p C dx : Addr} {H H1 : Hp} {l : List V} {fs : List (Str × V)} (x : But a H H1) (ha : H a = some (.lst l)) (hp : H p = some (.ins C dx fs)) : H1 p = some (.ins C dx fs) := x p _ (ne_of hp ha (by intro z; cases z)) hp
theorem But.frz {a p : Addr} {H H1 : Hp} {l : List V} {o : Obj} {u : HO} (x : But a H H1) (ha : H a = some (.lst l)) (hp : H p = some (.frz o u)) : H1 p = some (.frz o u) := x p _ (ne_of hp ha (by intro z; cases z)) hp
section
variable {P : Program} {w : World} {K : PySem.W.Frag} {mg : Str → Option Value} {base : Heap}
/-- a def of the module where the top has left it -/
structure Top (K : PySem.W.Frag) (mg : Str → Option Value) (x : Str) (st : Stmt) : Prop where
  ex : ∃ (f : Addr) (fd : FuncData), Fun K x x st f fd ∧ mg x = some (.ref f)
theorem top_mk {h : Heap} {x : Str} {st : Stmt} {f : Addr} {oc : Value} {od an : Option Addr} {osl : Array (Option Value)} {kV doc pm cdv ct : Value} (X : K.In h) (G : h.Ns mainGlobals mg) (a : PySem.W.nsIn K mainGlobals x = some (some (.ref f)))
    (l : K.lookup f = some ⟨oc, od, .func (PySem.W.fnOf x x (defArgs st) (defBody st) (defScope st) .none kV doc pm an cdv ct), osl⟩) (c : PySem.W.codeIn K cdv x = true) (k : PySem.W.keepIn K (.ref f) = true) : Top K mg x st :=
  ⟨f, _, fun_mk l c k, PySem.W.mg_of X G a⟩
theorem fn_ok {x : Str} {st : Stmt} {N G ps : List Str} {k : Nat} {sp : Sp} (T : Top K mg x st) (S : FnScope N ps (defScope st)) (O : ScOk N G (defScope st)) (len : ∀ vs H Q E, sp vs H Q E → vs.length = ps.length)
    (hb : ∀ (kV doc pm : Value) (an : Option Addr) (cdv ct : Value) (us : List Value), us.length = ps.length → bindArgs (PySem.W.fnOf x x (defArgs st) (defBody st) (defScope st) .none kV doc pm an cdv ct) ⟨us, []⟩ = pure (ps.zip us))
    (hbody : ∀ (f : Addr) (cdv : Value) (A : Around) (outer : List Env) (s : Shared) (H : Hp) (vs : List V) (Q : VK) (E : XK), Room k (A.deeper (envOfC x (defScope st) s.heap.objs.size f cdv)) → sp vs H Q E → In (cxOf CX0 P w K mg base N x (defScope st) f cdv A outer s H E).nox N G (defScope st) →
      wL (cxOf CX0 P w K mg base N x (defScope st) f cdv A outer s H E).nox (defBody st) { nx := fun _ H' => Q .non H', rt := Q } (start N vs) H) : Fn P w K mg base (k + 1) x sp := by
  obtain ⟨f, fd, F, hm⟩ := T.ex
  exact ⟨f, fd, ps, F.ok S len (fun cdv A outer s H vs Q E hr h => ⟨_, pl, hbody f cdv A outer s H vs Q E hr h ⟨O, ⟨[], (List.append_nil _).symm⟩, S.nd, rfl, rfl, PassesOwn.never⟩⟩), hm, F.kp, F.binds hb⟩
/-- a method where the top has left it -/
structure TopM (K : PySem.W.Frag) (C : Addr) (x qual : Str) (st : Stmt) : Prop where
  ex : ∃ (f : Addr) (fd : FuncData), Fun K x qual st f fd ∧ PySem.W.findIn K (.ref C) x = some (some (.ref f)) ∧ PySem.W.isFn K (.ref f) = true
theorem topM_mk {x qual : Str} {st : Stmt} {C f : Addr} {oc : Value} {od an : Option Addr} {osl : Array (Option Value)} {kV doc pm cdv ct : Value} (a : PySem.W.findIn K (.ref C) x = some (some (.ref f))) (i : PySem.W.isFn K (.ref f) = true)
    (l : K.lookup f = some ⟨oc, od, .func (PySem.W.fnOf x qual (defArgs st) (defBody st) (defScope st) .none kV doc pm an cdv ct), osl⟩) (c : PySem.W.codeIn K cdv qual = true) (k : PySem.W.keepIn K (.ref f) = true) : TopM K C x qual st :=
  ⟨f, _, fun_mk l c k, a, i⟩
theorem me_ok {x qual : Str} {C : Addr} {st : Stmt} {N G ps : List Str} {k : Nat} {sp : Sp} (T : TopM K C x qual st) (S : FnScope N ps (defScope st)) (O : ScOk N G (defScope st)) (len : ∀ vs H Q E, sp vs H Q E → vs.length = ps.length)
    (hb : ∀ (kV doc pm : Value) (an : Option Addr) (cdv ct : Value) (us : List Value), us.length = ps.length → bindArgs (PySem.W.fnOf x qual (defArgs st) (defBody st) (defScope st) .none kV doc pm an cdv ct) ⟨us, []⟩ = pure (ps.zip us))
    (hbody : ∀ (f : Addr) (cdv : Value) (A : Around) (outer : List Env) (s : Shared) (H : Hp) (vs : List V) (Q : VK) (E : XK), Room k (A.deeper (envOfC qual (defScope st) s.heap.objs.size f cdv)) → sp vs H Q E → In (cxOf CX0 P w K mg base N qual (defScope st) f cdv A outer s H E).nox N G (defScope st) →
      wL (cxOf CX0 P w K mg base N qual (defScope st) f cdv A outer s H E).nox (defBody st) { nx := fun _ H' => Q .non H', rt := Q } (start N vs) H) :
    ∃ (f : Addr) (fd : FuncData), FnOk P w K mg base CX0 (k + 1) f fd ps sp ∧ Binds K fd ps [] ∧ PySem.W.findIn K (.ref C) x = some (some (.ref f)) ∧ PySem.W.isFn K (.ref f) = true ∧ PySem.W.keepIn K (.ref f) = true := by
  obtain ⟨f, fd, F, hf, hi⟩ := T.ex
  exact ⟨f, fd, F.ok S len (fun cdv A outer s H vs Q E hr h => ⟨_, pl, hbody f cdv A outer s H vs Q E hr h ⟨O, ⟨[], (List.append_nil _).symm⟩, S.nd, rfl, rfl, PassesOwn.never⟩⟩), F.binds hb, hf, hi, F.kp⟩
end
/-- a bool test that is decided by a fact -/
theorem ifT {c A B : Prop} [Decidable c] (hc : c) (h : A) : if decide c = true then A else B := by
  rw [decide_eq_true hc]
  exact iteT h
theorem ifF {c A B : Prop} [Decidable c] (hc : ¬ c) (h : B) : if decide c = true then A else B := by
  rw [decide_eq_false hc]
  exact iteF h
theorem if2 {c A B : Prop} [Decidable c] (h1 : c → A) (h2 : ¬ c → B) : if decide c = true then A else B := by
  by_cases h : c
  · exact ifT h (h1 h)
  · exact ifF h (h2 h)
theorem ite_t {c : Bool} {A B : Prop} (hc : c = true) (h : A) : if c = true then A else B := by
  rw [hc]
  exact iteT h
theorem ite_f {c : Bool} {A B : Prop} (hc : c = false) (h : B) : if c = true then A else B := by
  rw [hc]
  exact iteF h
section
variable {P : Program} {w : World} {K : PySem.W.Frag} {mg : Str → Option Value} {base : Heap}
theorem run_ok {x qual : Str} {st : Stmt} {N G ps : List Str} {k : Nat} {sp : Sp} {f : Addr} {fd : FuncData} (F : Fun K x qual st f fd) (S : FnScope N ps (defScope st)) (O : ScOk N G (defScope st)) (len : ∀ vs H Q E, sp vs H Q E → vs.length = ps.length)
    (hbody : ∀ (f : Addr) (cdv : Value) (A : Around) (outer : List Env) (s : Shared) (H : Hp) (vs : List V) (Q : VK) (E : XK), Room k (A.deeper (envOfC qual (defScope st) s.heap.objs.size f cdv)) → sp vs H Q E → In (cxOf CX0 P w K mg base N qual (defScope st) f cdv A outer s H E).nox N G (defScope st) →
      wL (cxOf CX0 P w K mg base N qual (defScope st) f cdv A outer s H E).nox (defBody st) { nx := fun _ H' => Q .non H', rt := Q } (start N vs) H) : FnOk P w K mg base CX0 (k + 1) f fd ps sp :=
  F.ok S len (fun cdv A outer s H vs Q E hr h => ⟨_, pl, hbody f cdv A outer s H vs Q E hr h ⟨O, ⟨[], (List.append_nil _).symm⟩, S.nd, rfl, rfl, PassesOwn.never⟩⟩)
end
end Wk

/-! My own layer, errors: an own class of errors with fields, raised, caught, asked. -/
namespace Wk
open PySem PySem.Spec PyProof.Rows L2
section
variable {X : Cx} {N G : List Str} {sc : Scope} {e o : Expr} {es : List Expr} {σ : L2.St} {H : Hp} {Q : VK} {pos p0 np : Pos}
theorem o_isN {x : V} (q : Q (.bl (decide (x = .non))) H) : wK X .Is x .non H Q := k_of op_isN ⟨rfl, q⟩
theorem o_nisB {a b : Bool} (q : Q (.bl (!decide (a = b))) H) : wK X .IsNot (.bl a) (.bl b) H Q := k_of op_isnot_bl ⟨a, b, rfl, rfl, q⟩
/-- a def of the module that may raise -/
structure FnX (P : Program) (w : World) (K : PySem.W.Frag) (mg : Str → Option Value) (base : Heap) (k : Nat) (x : Str) (sp : Sp) : Prop where
  ex : ∃ (f : Addr) (fd : FuncData) (ps : List Str), FnOk P w K mg base (L2.CX P w) k f fd ps sp ∧ mg x = some (.ref f) ∧ PySem.W.keepIn K (.ref f) = true ∧ Binds K fd ps []
theorem e_callX {g k n : Nat} {x : Str} {sp : Sp} {W : WX} (F : FnX X.prog X.w X.K X.mg X.base k x sp) (tk : Takes X W) (hr : Room n X.A) (hk : k ≤ n) (q : wA X (e :: es) σ H fun vs H1 => sp vs H1 Q (fun cls d H' => W cls d σ H'))
    (I : In X N G sc := by assumption) (hG : At G g x := by repeat (first | with_reducible apply At.z | with_reducible apply At.s)) (he : starEach (e :: es) X.env = (false, eval e X.env) :: starEach es X.env := by rfl) (hpl : (backTo pos (starEach es X.env)).any (·.1) = false := by rfl) :
    wE X (.Call (.Name x p0) (e :: es) [] pos) σ H Q := by
  obtain ⟨f, fd, ps, F0, hm, hkp, hb⟩ := F.ex
  refine e_of (pe_callSD (E := fun σ cls d H' => W cls d σ H') F0 (hr.mono hk) (I.g hG) hm hkp hb .nil (fun σ => passAt tk σ) pa (I.gd hG) he hpl) ?_
  show wA X (e :: es) σ H fun vs H1 => sp (vs ++ []) H1 Q (fun cls d H' => W cls d σ H')
  simp only [List.append_nil]
  exact q
/-- an own class of errors whose __init__ stores its one argument in the field f -/
def sp1 (C : Addr) (f : Str) : Sp := fun vs H Q _ => ∃ (a : Addr) (v : V), vs = [.ref a, v] ∧ H a = some (exo a C none) ∧ ∀ dx, H dx = none → dx ≠ a → Q .non (upd (upd H dx (exd dx [(f, v)])) a (exo a C (some dx)))
structure Er (P : Program) (w : World) (K : PySem.W.Frag) (mg : Str → Option Value) (base : Heap) (x : Str) (C : Addr) (f : Str) : Prop where
  o : OexC K C
  mgC : mg x = some (.ref C)
  ex : ∃ (fI : Addr) (fd : FuncData) (ps : List Str), FnOk P w K mg base CX0 1 fI fd ps (sp1 C f) ∧ PySem.W.findIn K (.ref C) "__init__" = some (some (.ref fI)) ∧ PySem.W.typeIn K (.ref fI) = some (.type "function") ∧ Binds K fd ps []
/-- self.f = e of an error that is being made -/
theorem s_ost {nx : L2.St → Hp → Prop} {rt : VK} {bk ct : L2.St → Hp → Prop} {f : Str} {value : Expr} {pos' : Pos} (q : wE X value σ H fun y H1 => wE X o σ H1 fun x H2 => ∃ a C : Addr, x = .ref a ∧ OexC X.K C ∧ PySem.W.findIn X.K (.ref C) f = some none ∧ H2 a = some (exo a C none) ∧ ∀ dx, H2 dx = none → dx ≠ a → nx σ (upd (upd H2 dx (exd dx [(f, y)])) a (exo a C (some dx))))
    (hs : swapsWith value (some (.Attribute o f pos')) pos.line X.env = pure false := by rfl) : wS X (.Assign [.Attribute o f pos'] value pos) ⟨nx, rt, bk, ct⟩ σ H :=
  s_of (ps_ost pe pe hs) (e_mono q fun y H1 z => e_mono z fun x H2 ⟨a, C, h1, h2, h3, h4, h5⟩ => ⟨a, C, h1, h2, h3, .inl ⟨h4, h5⟩⟩)
/-- raise C(e) -/
theorem s_raise1 {nx : L2.St → Hp → Prop} {rt : VK} {bk ct : L2.St → Hp → Prop} {g n : Nat} {x f : Str} {C : Addr} {W : WX} {pos' : Pos} (R : Er X.prog X.w X.K X.mg X.base x C f) (tk : Takes X W) (hr : Room n X.A) (hn : 2 ≤ n)
    (q : wE X e σ H fun v H1 => ∀ d H', Same H1 H' → H1 d = none → H' d = some (.xd [(f, v)]) → W (.ref C) (some d) σ H')
    (I : In X N G sc := by assumption) (hG : At G g x := by repeat (first | with_reducible apply At.z | with_reducible apply At.s)) (hc : X.calm = true := by rfl)
    (he : starEach (e :: []) X.env = (false, eval e X.env) :: starEach [] X.env := by rfl) (hpl : (backTo pos (starEach [] X.env)).any (·.1) = false := by rfl) :
    wS X (.Raise (some (.Call (.Name x p0) [e] [] pos)) none pos') ⟨nx, rt, bk, ct⟩ σ H := by
  obtain ⟨fI, fd, ps, F0, hi, ht, hb⟩ := R.ex
  refine s_of (ps_raise hc tk (pmk_oex R.o hi ht F0 (hr.mono hn) hb .nil pass0 (I.g hG) R.mgC pa (I.gd hG) he hpl)) ?_
  refine a_cons (e_mono q fun v H1 z => a_nil ⟨by show 1 ≤ 1000; decide, fun a na => ?_⟩) he
  refine ⟨a, v, rfl, upd_same, fun dx nd ne => ⟨rfl, dx, [(f, v)], upd_same, ?_, ?_, ?_⟩⟩
  · rw [upd_ne ne, upd_same]
  · rw [upd_ne ne] at nd
    exact nd
  · refine z dx _ (fun b u hb => ?_) (by rw [upd_ne ne] at nd; exact nd) upd_same
    have h1 : b ≠ a := ne_of_none hb na
    have h2 : b ≠ dx := ne_of_none hb (by rw [upd_ne ne] at nd; exact nd)
    rw [upd_ne h2, del_ne h1, upd_ne h1, upd_ne h2, upd_ne h1]
    exact hb
/-- the suite of an except clause -/
def tsS (X : Cx) (N G : List Str) (sc : Scope) (sts : List Stmt) : Addr → Value → Option Addr → TS := fun a cls d D σ H => ∀ (oe : Obj) (pn : List (Addr × Obj)), Zc cls d oe → (∃ vs, oe.data = .fields vs) → In (X.suite a ((a, oe) :: pn)) N G sc → wL (X.suite a ((a, oe) :: pn)) sts D σ H
theorem In.tr (I : In X N G sc) {pn : List (Addr × Obj)} {xe : Value → Shared → Prop} (h : PassesOwn (model X.prog X.w) X.A X.env xe) : In (X.tr pn xe) N G sc := ⟨I.ok, I.n, I.nd, I.sc, I.fn, h⟩
theorem In.suite (I : In X N G sc) {a : Addr} {pn : List (Addr × Obj)} : In (X.suite a pn) N G sc := ⟨I.ok, I.n, I.nd, I.sc, I.fn, PassesOwn.never⟩
/-- try: body, except x as n: suite -/
theorem s_tryAs {nx : L2.St → Hp → Prop} {rt : VK} {bk ct : L2.St → Hp → Prop} {i g : Nat} {x n : Str} {c : Value} {body suite : List Stmt} {b0 : Stmt} {pos' : Pos} {Wout : WX} (hm : X.mg x = some c) (tk : Takes X Wout)
    (q : ∀ (pn : List (Addr × Obj)) (xe : Value → Shared → Prop), Takes (X.tr pn xe) (wAs X.K c i (tsS X N G sc (b0 :: suite)) Wout ⟨nx, rt, bk, ct⟩) → In (X.tr pn xe) N G sc → wL (X.tr pn xe) body ⟨nx, rt, bk, ct⟩ σ H)
    (I : In X N G sc := by assumption) (hA : At N i n := by repeat (first | with_reducible apply At.z | with_reducible apply At.s)) (hG : At G g x := by repeat (first | with_reducible apply At.z | with_reducible apply At.s))
    (hln : X.env.kindOf n = some .local := by rfl) (hs : X.stack = X.env :: X.outer := by rfl) (hf : X.env.frame = some X.env.locals := by rfl) :
    wS X (.Try body [.ExceptHandler (some (.Name x np)) (some n) (b0 :: suite) pos'] [] [] pos) ⟨nx, rt, bk, ct⟩ σ H :=
  s_of (ps_try_as (tb := fun W D σ H => ∀ (pn : List (Addr × Obj)) (xe : Value → Shared → Prop), Takes (X.tr pn xe) W → In (X.tr pn xe) N G sc → wL (X.tr pn xe) body D σ H) hs hf I.nd (I.hi hA) hln ⟨I.g hG, I.gd hG, .inl hm⟩ tk
    (fun W pn xe tk' po => ⟨fun pins s σ H D Iv h => pl.run pins s σ H D Iv (h pn xe tk' (I.tr po))⟩)
    (fun a oe cls d pn hz hd => ⟨fun pins s σ H D Iv h => pl.run pins s σ H D Iv (h oe pn hz hd I.suite)⟩)) q
/-- what the class D must say, so that isinstance asks its errors rightly -/
structure EcC (K : PySem.W.Frag) (D : Addr) : Prop where
  cl : (PySem.W.clsIn K D).isSome = true
  hg : PySem.W.findIn K (.ref D) "__getattribute__" = some (some (.builtin "BaseException.__getattribute__"))
  hk : PySem.W.findIn K (.ref D) "__getattr__" = some none
  hs : PySem.W.subIn K (.ref D) (.type "BaseException") = some true
  ha : PySem.W.findIn K (.ref D) "__class__" = some (some (.builtin "object.__class__"))
  hn : PySem.W.specialIn K (.builtin "object.__class__") "__get__" = some (some (.builtin "getset_descriptor.__get__"))
  ht : PySem.W.takesIn K (.builtin "object.__class__") = some true
  hm : PySem.W.mroIn K D (.type "object") = some true
/-- the caught error at a stands as an instance -/
theorem inst_of {pins : List (Addr × Obj)} {s : Shared} {a D : Addr} {d : Option Addr} {oe : Obj} {pn : List (Addr × Obj)} {fs : List (Str × V)} (I : Inv (X.suite a ((a, oe) :: pn)) pins σ H s) (hz : Zc (.ref D) d oe) (hf : ∃ vs, oe.data = .fields vs)
    (hd : ∀ dd, d = some dd → H dd = some (.xd fs)) : ∃ od, PySem.W.InstAt s.heap a oe D od := by
  obtain ⟨hget, _⟩ := I.pin (a, oe) (List.mem_append.mpr (.inl List.mem_cons_self))
  obtain ⟨vs, hv⟩ := hf
  have nc : PySem.W.notCls oe := by unfold PySem.W.notCls; rw [hv] <;> trivial
  cases d with
  | none => exact ⟨none, hget, hz.1, nc, by rw [hz.2]; trivial⟩
  | some dd =>
    obtain ⟨mA, hns, _⟩ := (show ObjOk X.prog X.w H s.heap dd (.xd fs) from I.hok dd _ (hd dd rfl))
    obtain ⟨od, ho, _⟩ := lookIn_ns hns
    exact ⟨some od, hget, hz.1, nc, by rw [hz.2]; exact ho⟩
theorem c_isE {a D : Addr} {d : Option Addr} {oe : Obj} {pn : List (Addr × Obj)} {fs : List (Str × V)} {c : V} {cv : Value} {b : Bool} (C : EcC X.K D) (hz : Zc (.ref D) d oe) (hf : ∃ vs, oe.data = .fields vs) (hd : ∀ dd, d = some dd → H dd = some (.xd fs))
    (k : ClsV c cv) (e : PySem.W.kitOne X.K (.ref D) cv = some b) (q : Q (.bl b) H) : wC (X.suite a ((a, oe) :: pn)) (.builtin "isinstance") [.ref a, c] H Q := by
  unfold wC
  intro pins s σ us I r
  obtain ⟨u1, u2, rfl, r1, r2⟩ := vals2 r
  cases (show u1 = Value.ref a from r1)
  have ec := k.eq r2
  subst ec
  obtain ⟨od, J⟩ := inst_of I hz hf hd
  exact PySem.W.kia_one (PySem.W.kitx_exc (od := od) C.cl C.hg C.hk C.hs C.ha C.hn C.ht C.hm) I.kIn J e (fun z => nomatch z) fun tk => ⟨.bl b, H, I.tok tk, rfl, q⟩
theorem c_isET {a D tp : Addr} {d : Option Addr} {oe : Obj} {pn : List (Addr × Obj)} {fs : List (Str × V)} {cs : List V} {us' : List Value} {b : Bool} (C : EcC X.K D) (hz : Zc (.ref D) d oe) (hf : ∃ vs, oe.data = .fields vs) (hd : ∀ dd, d = some dd → H dd = some (.xd fs))
    (hT : H tp = some (.tup cs)) (k : Paired ClsV cs us') (e : PySem.W.kitAny X.K (.ref D) us' = some b) (q : Q (.bl b) H) : wC (X.suite a ((a, oe) :: pn)) (.builtin "isinstance") [.ref a, .ref tp] H Q := by
  unfold wC
  intro pins s σ us I r
  obtain ⟨u1, u2, rfl, r1, r2⟩ := vals2 r
  cases (show u1 = Value.ref a from r1)
  cases (show u2 = Value.ref tp from r2)
  obtain ⟨od, J⟩ := inst_of I hz hf hd
  obtain ⟨_, its, rv, o, h1, h2, n, h3⟩ := (show ObjOk X.prog X.w H s.heap tp (.tup cs) from I.hok tp _ hT)
  have e3 := ClsV.all k rv
  subst e3
  obtain ⟨oc, odd, dt, sl⟩ := o
  simp only at h2 h3
  subst h2 h3
  exact PySem.W.kia_tup (PySem.W.kitx_exc (od := od) C.cl C.hg C.hk C.hs C.ha C.hn C.ht C.hm) I.kIn J h1 e (fun z => nomatch z) fun tk => ⟨.bl b, H, I.tok tk, rfl, q⟩
/-- e.f of the caught error -/
theorem e_xf {a C : Addr} {oe : Obj} {d : Option Addr} {pn : List (Addr × Obj)} {f : Str} (T : XfC X.K C) (hno : PySem.W.findIn X.K (.ref C) f = some none) (hz : Zc (.ref C) d oe) (hf : ∃ vs, oe.data = .fields vs)
    (q : wE (X.suite a ((a, oe) :: pn)) e σ H fun x H1 => x = .ref a ∧ ∃ (dd : Addr) (fs : List (Str × V)) (v : V), d = some dd ∧ H1 dd = some (.xd fs) ∧ fs.lookup f = some v ∧ Q v H1) (hb : attributeBase e f X.env (eval e X.env) = eval e X.env := by rfl) :
    wE (X.suite a ((a, oe) :: pn)) (.Attribute e f pos) σ H Q := e_of (pe_xf T hno hz hf pe hb) (e_mono q fun x H1 z => ⟨z.1, rfl, z.2⟩)
end
section
variable {P : Program} {w : World} {K : PySem.W.Frag} {mg : Str → Option Value} {base : Heap}
theorem fn_okX {x : Str} {st : Stmt} {N G ps : List Str} {k : Nat} {sp : Sp} (T : Top K mg x st) (S : FnScope N ps (defScope st)) (O : ScOk N G (defScope st)) (len : ∀ vs H Q E, sp vs H Q E → vs.length = ps.length)
    (hb : ∀ (kV doc pm : Value) (an : Option Addr) (cdv ct : Value) (us : List Value), us.length = ps.length → bindArgs (PySem.W.fnOf x x (defArgs st) (defBody st) (defScope st) .none kV doc pm an cdv ct) ⟨us, []⟩ = pure (ps.zip us))
    (hbody : ∀ (f : Addr) (cdv : Value) (A : Around) (outer : List Env) (s : Shared) (H : Hp) (vs : List V) (Q : VK) (E : XK), Room k (A.deeper (envOfC x (defScope st) s.heap.objs.size f cdv)) → sp vs H Q E → In (cxOf (L2.CX P w) P w K mg base N x (defScope st) f cdv A outer s H E) N G (defScope st) →
      Takes (cxOf (L2.CX P w) P w K mg base N x (defScope st) f cdv A outer s H E) (fun cls d _ H => E cls d H) →
      wL (cxOf (L2.CX P w) P w K mg base N x (defScope st) f cdv A outer s H E) (defBody st) { nx := fun _ H' => Q .non H', rt := Q } (start N vs) H) : FnX P w K mg base (k + 1) x sp := by
  obtain ⟨f, fd, F, hm⟩ := T.ex
  exact ⟨f, fd, ps, F.okX S len (fun cdv A outer s H vs Q E hr h => ⟨_, pl, hbody f cdv A outer s H vs Q E hr h ⟨O, ⟨[], (List.append_nil _).symm⟩, S.nd, rfl, rfl, passes_of rfl⟩ (takes_of rfl rfl rfl rfl)⟩), hm, F.kp, F.binds hb⟩
end
end Wk

/-! My own layer, errors whose context is None: raised where nothing is handled, so that defs may be called in the suite that catches them. -/
namespace Wk
open PySem PySem.Spec PyProof.Rows L2
section
variable {X : Cx} {N G : List Str} {sc : Scope} {e o : Expr} {es : List Expr} {σ : L2.St} {H : Hp} {Q : VK} {pos p0 np : Pos}
/-- C(e) of a class whose __init__ stores one field: the made error's fields are known -/
theorem pmkN {n : Nat} {x f : Str} {C : Addr} (R : Er X.prog X.w X.K X.mg X.base x C f) (hr : Room n X.A) (hn : 2 ≤ n) (hg : Gl X x) (hdb : (x == ("__debug__" : Str)) = false)
    (he : starEach (e :: []) X.env = (false, eval e X.env) :: starEach [] X.env) (hpl : (backTo pos (starEach [] X.env)).any (·.1) = false) :
    L2N.PMk X (.Call (.Name x p0) [e] [] pos) (fun σ H Q => wE X e σ H fun v H1 => ∀ d H', Same H1 H' → H1 d = none → H' d = some (.xd [(f, v)]) → Q (.ref C) (some d) H') := by
  intro pins s σ H Q I h
  obtain ⟨fI, fd, ps, F0, hi, ht, hb⟩ := R.ex
  obtain ⟨_, _, _, _, bm, _, _, _, _, _, _, _, _, _, _, hC, hbm⟩ := R.o.cls
  refine wpAny_Call_Name_kw (ld_glob I hg R.mgC ?_ hdb)
  refine PySem.W.callWith_K (h₀ := X.base) I.ok.mod.kin R.o.kC (thn ((pa_cons pe pa_nil he).run pos pins s σ H (fun vs H1 => ∃ v, vs = [v] ∧ ∀ d H', Same H1 H' → H1 d = none → H' d = some (.xd [(f, v)]) → Q (.ref C) (some d) H') I (e_mono h fun v H1 z => ⟨v, rfl, z⟩)) fun us s1 ⟨vs, H1, I1, r1, v, ev, q1⟩ => ⟨I1.kIn, ?_⟩) he hpl
  subst ev
  show wpAny _ _ (call (.ref C) us) _ _ _
  obtain ⟨hp, g, dr, tk, os⟩ := s1
  have hget0 : ((hp.push (PySem.W.kdv_tup us)).push (PySem.HandSPX.excO C hp.objs.size)).get? (hp.objs.size + 1) = some (PySem.HandSPX.excO C hp.objs.size) := by heap_get
  let a := hp.objs.size + 1
  have na : H1 a = none := I1.hok.fresh (Nat.le_succ _)
  let hp2 := (hp.push (PySem.W.kdv_tup us)).push (PySem.HandSPX.excO C hp.objs.size)
  have kk : ∀ b o, hp.get? b = some o → hp2.get? b = some o := fun b o z => Heap.get?_push_of_some _ (Heap.get?_push_of_some _ z)
  have hget : hp2.get? a = some (PySem.HandSPX.excO C hp.objs.size) := hget0
  have I2 : Inv X pins σ (upd H1 a (exo a C none)) ⟨hp2, g, dr, tk, os⟩ := I1.laid (t' := tk) (h' := hp2) kk (Nat.le_succ _) (exo_ok hget)
  have r2 : Vals (V.ref a :: [v]) (Value.ref a :: us) := .cons rfl r1
  have lu : us.length = 1 := r1.length.symm
  -- what __init__ is asked for
  have hq : sp1 C f [.ref a, v] (upd H1 a (exo a C none)) (fun w H2 => w = .non ∧ ∃ d, H2 a = some (exo a C (some d)) ∧ H2 d = some (exd d [(f, v)]) ∧ H1 d = none ∧ Q (.ref C) (some d) (upd (del H2 a) d (.xd [(f, v)]))) (fun _ _ _ => False) := by
    refine ⟨a, v, rfl, upd_same, fun dx nd ne => ⟨rfl, dx, upd_same, by rw [upd_ne ne, upd_same], by rw [upd_ne ne] at nd; exact nd, ?_⟩⟩
    rw [upd_ne ne] at nd
    refine q1 dx _ (fun b u hb => ?_) nd upd_same
    have h1 : b ≠ a := ne_of_none hb na
    have h2 : b ≠ dx := ne_of_none hb nd
    rw [upd_ne h2, del_ne h1, upd_ne h1, upd_ne h2, upd_ne h1]
    exact hb
  have lp : (Value.ref a :: us).length = ps.length := by
    have z1 := r2.length
    rw [F0.len _ _ _ _ hq] at z1
    exact z1.symm
  have bind : BindsTo ⟨hp2, g, dr, tk, os⟩ fd ⟨Value.ref a :: us, []⟩ (ps.zip (Value.ref a :: us)) := by
    have z1 := hb ⟨hp2, g, dr, tk, os⟩ (Value.ref a :: us) I2.kIn (by rw [List.append_nil]; exact lp)
    rwa [List.append_nil] at z1
  have room : Room 1 (X.A.under (.builtin "type.__call__" ⟨.ref C :: us, []⟩)) := (hr.mono hn).make C us []
  have go := F0.run _ X.stack _ _ ⟨Value.ref a :: us, []⟩ (Value.ref a :: us) [V.ref a, v] _ (fun _ _ _ => False) room (I2.env0.make C us []) bind r2 hq
  refine wpAny_call (PySem.HandSPX.call_own F.excBase_ValueError (fun Y => PySem.HandSPX.refsVE_contains Y bm hbm) (I1.kIn _ _ hC) (PySem.W.looks_findIn I1.kIn hi) (fun self => PySem.W.bind_fn I1.kIn self ht) (by rw [lu, sizeLine_eq]; decide) (codeAny_mono go fun r s' back => ?_))
  cases r with
  | error er => exact False.elim back
  | ok fl =>
    cases fl with
    | ret u =>
      obtain ⟨w, H2, o2, b2, un2, ok2, rw2, ew, d, ea, ed, nd1, q2⟩ := back
      subst ew
      obtain ⟨h2, g2, d2, t2, os'⟩ := s'
      obtain ⟨t0, Gh, J, kG, ge, hoe, nH⟩ := mk_end0 (d2 := d2) (t2 := t2) I1 (Nat.le_succ _) kk un2 ok2 o2 b2 ea ed nd1
      refine ⟨rw2, a, _, #[.ref t0, .none, .none, .none, .bool false, .none], ⟨Gh, g2, d2, t2, os'⟩, _, .ref C, some d, rfl, J, kG, ge, hoe, ⟨rfl, rfl, ?_⟩, rfl, rfl, nH, rfl, b2, raises_own R.o.exC R.o.tyC, q2⟩
      intro vs z
      cases z
      rfl
    | next => exact False.elim back
    | brk => exact False.elim back
    | cont => exact False.elim back

theorem e_dict (q : ∀ p H2, Same H H2 → H p = none → H2 p = some (.dK []) → Q (.ref p) H2) : wE X (.Dict [] [] pos) σ H Q :=
  e_of pe_dnewK fun p np => q p _ (fun b u eo => by rw [upd_ne (ne_of_none eo np)]; exact eo) np upd_same
theorem e_neg {a : Expr} (q : wE X a σ H fun x H1 => ∃ i, x = .int i ∧ Q (.int (-i)) H1) : wE X (.UnaryOp .USub a pos) σ H Q := e_of (pe_un un_neg pe) q
theorem o_cat {l b : Addr} {xs zs : List V} (h1 : H l = some (.lst xs)) (h2 : H b = some (.lst zs)) (hz : xs.length + zs.length ≤ sizeLine) (q : ∀ p H2, Same H H2 → H2 p = some (.lst (xs ++ zs)) → Q (.ref p) H2) : wB X .Add (.ref l) (.ref b) H Q :=
  b_of op_cat ⟨l, b, xs, zs, rfl, rfl, h1, h2, hz, fun p np => q p _ (fun c u eo => by rw [upd_ne (ne_of_none eo np)]; exact eo) upd_same⟩
theorem c_str {i : Int} (hl : i.natAbs.log2 < 1920) (q : Q (.str (toString i)) H) : wC X (.type "str") [.int i] H Q := c_of call_str_int ⟨i, rfl, hl, q⟩
theorem o_isB {a b : Bool} (q : Q (.bl (decide (a = b))) H) : wK X .Is (.bl a) (.bl b) H Q := k_of op_is_bl ⟨a, b, rfl, rfl, q⟩
/-- raise C(e), where nothing is handled -/
theorem s_raiseN {nx : L2.St → Hp → Prop} {rt : VK} {bk ct : L2.St → Hp → Prop} {g n : Nat} {x f : Str} {C : Addr} {W : WX} {pos' : Pos} (R : Er X.prog X.w X.K X.mg X.base x C f) (tk : L2N.Takes X W) (hr : Room n X.A) (hn : 2 ≤ n)
    (q : wE X e σ H fun v H1 => ∀ d H', Same H1 H' → H1 d = none → H' d = some (.xd [(f, v)]) → W (.ref C) (some d) σ H')
    (I : In X N G sc := by assumption) (hG : At G g x := by repeat (first | with_reducible apply At.z | with_reducible apply At.s)) (hc : X.calm = true := by rfl)
    (he : starEach (e :: []) X.env = (false, eval e X.env) :: starEach [] X.env := by rfl) (hpl : (backTo pos (starEach [] X.env)).any (·.1) = false := by rfl) :
    wS X (.Raise (some (.Call (.Name x p0) [e] [] pos)) none pos') ⟨nx, rt, bk, ct⟩ σ H :=
  s_of (L2N.ps_raise hc tk (pmkN R hr hn (I.g hG) (I.gd hG) he hpl)) q
/-- a def of the module that may raise so -/
structure FnN (P : Program) (w : World) (K : PySem.W.Frag) (mg : Str → Option Value) (base : Heap) (k : Nat) (x : Str) (sp : Sp) : Prop where
  ex : ∃ (f : Addr) (fd : FuncData) (ps : List Str), FnOk P w K mg base (L2N.CX P w) k f fd ps sp ∧ mg x = some (.ref f) ∧ PySem.W.keepIn K (.ref f) = true ∧ Binds K fd ps []
theorem e_callN {g k n : Nat} {x : Str} {sp : Sp} {W : WX} (F : FnN X.prog X.w X.K X.mg X.base k x sp) (tk : L2N.Takes X W) (hr : Room n X.A) (hk : k ≤ n) (q : wA X (e :: es) σ H fun vs H1 => sp vs H1 Q (fun cls d H' => W cls d σ H'))
    (I : In X N G sc := by assumption) (hG : At G g x := by repeat (first | with_reducible apply At.z | with_reducible apply At.s)) (he : starEach (e :: es) X.env = (false, eval e X.env) :: starEach es X.env := by rfl) (hpl : (backTo pos (starEach es X.env)).any (·.1) = false := by rfl) :
    wE X (.Call (.Name x p0) (e :: es) [] pos) σ H Q := by
  obtain ⟨f, fd, ps, F0, hm, hkp, hb⟩ := F.ex
  refine e_of (pe_callSD (E := fun σ cls d H' => W cls d σ H') F0 (hr.mono hk) (I.g hG) hm hkp hb .nil (fun σ => L2N.passAt tk σ) pa (I.gd hG) he hpl) ?_
  show wA X (e :: es) σ H fun vs H1 => sp (vs ++ []) H1 Q (fun cls d H' => W cls d σ H')
  simp only [List.append_nil]
  exact q
/-- the suite of an except clause that catches such an error -/
def tsN (X : Cx) (N G : List Str) (sc : Scope) (sts : List Stmt) : Addr → Value → Option Addr → TS := fun a cls d D σ H => ∀ (oe : Obj) (pn : List (Addr × Obj)), Zc cls d oe → (∃ vs, oe.data = .fields vs) → In (X.suite a ((a, oe) :: pn)) N G sc → L2H.HotC (X.suite a ((a, oe) :: pn)) → wL (X.suite a ((a, oe) :: pn)) sts D σ H
theorem s_tryN {nx : L2.St → Hp → Prop} {rt : VK} {bk ct : L2.St → Hp → Prop} {i g : Nat} {x n : Str} {c : Value} {body suite : List Stmt} {b0 : Stmt} {pos' : Pos} {Wout : WX} (hm : X.mg x = some c) (tk : L2N.Takes X Wout)
    (q : ∀ (pn : List (Addr × Obj)) (xe : Value → Shared → Prop), L2N.Takes (X.tr pn xe) (wAs X.K c i (tsN X N G sc (b0 :: suite)) Wout ⟨nx, rt, bk, ct⟩) → In (X.tr pn xe) N G sc → wL (X.tr pn xe) body ⟨nx, rt, bk, ct⟩ σ H)
    (I : In X N G sc := by assumption) (hA : At N i n := by repeat (first | with_reducible apply At.z | with_reducible apply At.s)) (hG : At G g x := by repeat (first | with_reducible apply At.z | with_reducible apply At.s))
    (hln : X.env.kindOf n = some .local := by rfl) (hs : X.stack = X.env :: X.outer := by rfl) (hf : X.env.frame = some X.env.locals := by rfl) :
    wS X (.Try body [.ExceptHandler (some (.Name x np)) (some n) (b0 :: suite) pos'] [] [] pos) ⟨nx, rt, bk, ct⟩ σ H :=
  s_of (L2N.ps_try_as (tb := fun W D σ H => ∀ (pn : List (Addr × Obj)) (xe : Value → Shared → Prop), L2N.Takes (X.tr pn xe) W → In (X.tr pn xe) N G sc → wL (X.tr pn xe) body D σ H) hs hf I.nd (I.hi hA) hln ⟨I.g hG, I.gd hG, .inl hm⟩ tk
    (fun W pn xe tk' po => ⟨fun pins s σ H D Iv h => pl.run pins s σ H D Iv (h pn xe tk' (I.tr po))⟩)
    (fun a oe cls d pn hz hd => ⟨fun pins s σ H D Iv h => pl.run pins s σ H D Iv (h oe pn hz.zc hd I.suite (by
      obtain ⟨vs, hv⟩ := hd
      exact ⟨(a, oe), ⟨rfl, vs, hv, hz.2.2 vs hv⟩, List.mem_cons_self⟩))⟩)) q
theorem takesN0 : L2N.Takes X (fun _ _ _ _ => False) := fun _ _ x => by
  obtain ⟨_, _, _, _, _, _, _, _, _, _, _, _, _, _, _, _, z⟩ := x
  exact z.elim
/-- a def that is called where an error is handled -/
structure FnHt (P : Program) (w : World) (K : PySem.W.Frag) (mg : Str → Option Value) (base : Heap) (k : Nat) (x : Str) (sp : Sp) : Prop where
  ex : ∃ (f : Addr) (fd : FuncData) (ps : List Str), L2H.FnH P w K mg base CX0 k f fd ps sp ∧ mg x = some (.ref f) ∧ PySem.W.keepIn K (.ref f) = true ∧ Binds K fd ps []
theorem e_callH {g k n : Nat} {x : Str} {sp : Sp} (F : FnHt X.prog X.w X.K X.mg X.base k x sp) (hr : L2H.RoomH n X.A) (hk : k ≤ n) (hh : L2H.HotC X) (q : wA X (e :: es) σ H fun vs H1 => sp vs H1 Q E0)
    (I : In X N G sc := by assumption) (hG : At G g x := by repeat (first | with_reducible apply At.z | with_reducible apply At.s)) (he : starEach (e :: es) X.env = (false, eval e X.env) :: starEach es X.env := by rfl) (hpl : (backTo pos (starEach es X.env)).any (·.1) = false := by rfl) :
    wE X (.Call (.Name x p0) (e :: es) [] pos) σ H Q := by
  obtain ⟨f, fd, ps, F0, hm, hkp, hb⟩ := F.ex
  exact e_of (L2H.pe_callH (E := fun _ => E0) F0 (hr.mono hk) hh (I.g hG) hm hkp hb (fun σ pins H s e s' I z => z.elim) pa (I.gd hG) he hpl) q
end
section
variable {P : Program} {w : World} {K : PySem.W.Frag} {mg : Str → Option Value} {base : Heap}
theorem fn_okN {x : Str} {st : Stmt} {N G ps : List Str} {k : Nat} {sp : Sp} (T : Top K mg x st) (S : FnScope N ps (defScope st)) (O : ScOk N G (defScope st)) (len : ∀ vs H Q E, sp vs H Q E → vs.length = ps.length)
    (hb : ∀ (kV doc pm : Value) (an : Option Addr) (cdv ct : Value) (us : List Value), us.length = ps.length → bindArgs (PySem.W.fnOf x x (defArgs st) (defBody st) (defScope st) .none kV doc pm an cdv ct) ⟨us, []⟩ = pure (ps.zip us))
    (hbody : ∀ (f : Addr) (cdv : Value) (A : Around) (outer : List Env) (s : Shared) (H : Hp) (vs : List V) (Q : VK) (E : XK), Room k (A.deeper (envOfC x (defScope st) s.heap.objs.size f cdv)) → sp vs H Q E → In (cxOf (L2N.CX P w) P w K mg base N x (defScope st) f cdv A outer s H E) N G (defScope st) →
      L2N.Takes (cxOf (L2N.CX P w) P w K mg base N x (defScope st) f cdv A outer s H E) (fun cls d _ H => E cls d H) →
      wL (cxOf (L2N.CX P w) P w K mg base N x (defScope st) f cdv A outer s H E) (defBody st) { nx := fun _ H' => Q .non H', rt := Q } (start N vs) H) : FnN P w K mg base (k + 1) x sp := by
  obtain ⟨f, fd, F, hm⟩ := T.ex
  obtain ⟨oc, od, kV, doc, pm, an, cdv, ct, osl, rfl, lk, hcd⟩ := id F.ex
  exact ⟨f, _, ps, fn_of lk hcd S len (fun A outer s H vs Q E hr h => ⟨_, pl, hbody f cdv A outer s H vs Q E hr h ⟨O, ⟨[], (List.append_nil _).symm⟩, S.nd, rfl, rfl, passes_of rfl⟩ (L2N.takes_of rfl rfl rfl rfl)⟩), hm, F.kp, F.binds hb⟩
theorem fn_okH {x : Str} {st : Stmt} {N G ps : List Str} {k : Nat} {sp : Sp} (T : Top K mg x st) (S : FnScope N ps (defScope st)) (O : ScOk N G (defScope st)) (len : ∀ vs H Q E, sp vs H Q E → vs.length = ps.length)
    (hb : ∀ (kV doc pm : Value) (an : Option Addr) (cdv ct : Value) (us : List Value), us.length = ps.length → bindArgs (PySem.W.fnOf x x (defArgs st) (defBody st) (defScope st) .none kV doc pm an cdv ct) ⟨us, []⟩ = pure (ps.zip us))
    (hbody : ∀ (f : Addr) (cdv : Value) (A : Around) (outer : List Env) (s : Shared) (H : Hp) (vs : List V) (Q : VK) (E : XK) (p : Addr × Obj), L2H.RoomH k (A.deeper (envOfC x (defScope st) s.heap.objs.size f cdv)) → sp vs H Q E → In (L2H.cxH CX0 P w K mg base N x (defScope st) f cdv A outer s H E p).nox N G (defScope st) →
      wL (L2H.cxH CX0 P w K mg base N x (defScope st) f cdv A outer s H E p).nox (defBody st) { nx := fun _ H' => Q .non H', rt := Q } (start N vs) H) : FnHt P w K mg base (k + 1) x sp := by
  obtain ⟨f, fd, F, hm⟩ := T.ex
  obtain ⟨oc, od, kV, doc, pm, an, cdv, ct, osl, rfl, lk, hcd⟩ := id F.ex
  exact ⟨f, _, ps, L2H.fn_ofH lk hcd S len (fun A outer s H vs Q E p hot hr h => ⟨_, PSs.nox pl, hbody f cdv A outer s H vs Q E p hr h ⟨O, ⟨[], (List.append_nil _).symm⟩, S.nd, rfl, rfl, PassesOwn.never⟩⟩), hm, F.kp, F.binds hb⟩
end
end Wk

/-! My own layer, texts: chains of comparisons, order and length of texts, a sign of a text, a loop over a text. -/
namespace Wk
open PySem PySem.Spec PyProof.Rows L2
section
variable {X : Cx} {N G : List Str} {sc : Scope} {a b c e : Expr} {es : List Expr} {σ : L2.St} {H : Hp} {Q : VK} {pos : Pos} {QT : Bool → Hp → Prop}
theorem e_chain {op op' : CmpOp} (q : wE X a σ H fun x H1 => wE X b σ H1 fun y H2 => wK X op x y H2 fun z H3 => ∃ k, z = .bl k ∧ (if k = true then wE X c σ H3 fun w H4 => wK X op' y w H4 Q else Q (.bl false) H3)) (hm : lastMarks [op, op'] [b, c] = false := by with_unfolding_all rfl) :
    wE X (.Compare a [op, op'] [b, c] pos) σ H Q := e_of (pe_chain opk opk pe pe pe hm) q
theorem t_chain {op op' : CmpOp} (q : wE X a σ H fun x H1 => wE X b σ H1 fun y H2 => wK X op x y H2 fun z H3 => ∃ k, z = .bl k ∧ (if k = true then wE X c σ H3 fun w H4 => wK X op' y w H4 fun z H5 => ∃ k, z = .bl k ∧ QT k H5 else ∃ k, V.bl false = .bl k ∧ QT k H3)) (hm : lastMarks [op, op'] [b, c] = false := by with_unfolding_all rfl) :
    wT X (.Compare a [op, op'] [b, c] pos) σ H QT := t_of (pt_chain opk opk pe pe pe hm) q
/-- one sign -/
abbrev sg (c : Nat) : Str := ⟨#[c]⟩
theorem lt1 (c d : Nat) : (([c] : List Nat) < [d]) ↔ c < d := by
  constructor
  · intro h
    cases h with
    | rel h => exact h
    | cons h => cases h
  · exact fun h => .rel h
theorem o_le1 {c d : Nat} (q : Q (.bl (decide (c ≤ d))) H) : wK X .LtE (.str (sg c)) (.str (sg d)) H Q := by
  refine k_of op_le_str ⟨sg c, sg d, rfl, rfl, ?_⟩
  have e1 : (!decide (([d] : List Nat) < [c])) = decide (c ≤ d) := by
    by_cases h : c ≤ d
    · have h2 : ¬ (([d] : List Nat) < [c]) := fun z => absurd ((lt1 d c).mp z) (by omega)
      rw [decide_eq_true h, decide_eq_false h2]
      rfl
    · have h2 : ([d] : List Nat) < [c] := (lt1 d c).mpr (by omega)
      rw [decide_eq_false h, decide_eq_true h2]
      rfl
  show Q (.bl (!decide (([d] : List Nat) < [c]))) H
  rw [e1]
  exact q
theorem c_lenS {z : Str} (h : z.length ≤ sizeLine) (q : Q (.int (z.length : Int)) H) : wC X (.builtin "len") [.str z] H Q := c_of call_len ⟨.str z, z.length, rfl, ⟨h, rfl⟩, q⟩
theorem ix_s {z : Str} {i : Int} {c : Nat} (h : z.length ≤ sizeLine) (e : atI z.cps.toList i = some c) (q : Q (.str (sg c)) H) : wIx X (.str z) (.int i) H Q := ix_of ix_str ⟨z, i, c, rfl, rfl, h, e, q⟩
theorem s_forS {nx : L2.St → Hp → Prop} {rt : VK} {bk ct : L2.St → Hp → Prop} {x : Str} {i : Nat} {body : List Stmt} {px : Pos}
    (q : wE X a σ H fun v H1 => ∃ z : Str, v = .str z ∧ ∃ Pv : Nat → L2.St → Hp → Prop, Pv 0 σ H1 ∧ (∀ k c σ H, z.cps[k]? = some c → Pv k σ H → wL X body ⟨Pv (k + 1), rt, nx, Pv (k + 1)⟩ (σ.set i (some (.str (sg c)))) H) ∧ ∀ σ H, Pv z.cps.size σ H → nx σ H)
    (I : In X N G sc := by assumption) (hc : X.calm = true := by rfl) (hA : At N i x := by repeat (first | with_reducible apply At.z | with_reducible apply At.s)) (hs2 : ∀ z, foldedSetIterable a X.env z = pure z := by intro _; rfl) :
    wS X (.For (.Name x px) a body [] pos) ⟨nx, rt, bk, ct⟩ σ H := by
  refine s_of (ps_for I.never hc (pi_str pe) (pg_name I.nd (I.hi hA) (I.loc hA) I.f) pl hs2) (e_mono q fun v H1 q1 => ?_)
  obtain ⟨z, rfl, Pv, h0, hb, hd⟩ := q1
  refine ⟨z, rfl, fun k m σ H => m = z.cps.size - k ∧ k ≤ z.cps.size ∧ Pv k σ H, ⟨z.cps.size, by simp, Nat.zero_le _, h0⟩, ?_⟩
  rintro k m σ H ⟨rfl, hk, p⟩
  by_cases hlt : k < z.cps.size
  · refine .inr ⟨hlt, Pv (k + 1), fun σ' H' p' => ⟨z.cps.size - (k + 1), by omega, rfl, hlt, p'⟩, fun y H' hy => ?_⟩
    obtain ⟨rfl, c, hc', rfl⟩ := hy
    exact hb k c σ _ hc' p
  · have e : k = z.cps.size := by omega
    subst e
    exact .inl ⟨Nat.le_refl _, hd σ H p⟩
end
end Wk

/-! My own layer, comprehensions with their own names, and ground terms: what only makes new objects, over facts that last. -/
namespace Wk
open PySem PySem.Spec PyProof.Rows L2
section
variable {P : Program} {w : World} {K : PySem.W.Frag} {mg : Str → Option Value} {base : Heap}
/-- a def with further slots C for the names of its comprehensions -/
theorem fn_okC {x : Str} {st : Stmt} {N C G ps : List Str} {k : Nat} {sp : Sp} (T : Top K mg x st) (S : FnScope (N ++ C) ps (defScope st)) (O : ScOk N G (defScope st)) (len : ∀ vs H Q E, sp vs H Q E → vs.length = ps.length)
    (hb : ∀ (kV doc pm : Value) (an : Option Addr) (cdv ct : Value) (us : List Value), us.length = ps.length → bindArgs (PySem.W.fnOf x x (defArgs st) (defBody st) (defScope st) .none kV doc pm an cdv ct) ⟨us, []⟩ = pure (ps.zip us))
    (hbody : ∀ (f : Addr) (cdv : Value) (A : Around) (outer : List Env) (s : Shared) (H : Hp) (vs : List V) (Q : VK) (E : XK), Room k (A.deeper (envOfC x (defScope st) s.heap.objs.size f cdv)) → sp vs H Q E → In (cxOf CX0 P w K mg base (N ++ C) x (defScope st) f cdv A outer s H E).nox N G (defScope st) →
      wL (cxOf CX0 P w K mg base (N ++ C) x (defScope st) f cdv A outer s H E).nox (defBody st) { nx := fun _ H' => Q .non H', rt := Q } (start (N ++ C) vs) H) : Fn P w K mg base (k + 1) x sp := by
  obtain ⟨f, fd, F, hm⟩ := T.ex
  exact ⟨f, fd, ps, F.ok S len (fun cdv A outer s H vs Q E hr h => ⟨_, pl, hbody f cdv A outer s H vs Q E hr h ⟨O, ⟨C, rfl⟩, S.nd, rfl, rfl, PassesOwn.never⟩⟩), hm, F.kp, F.binds hb⟩
end
/-! ### blocks -/
instance visDec {sc : Scope} {x : Str} : Decidable (Vis sc x) := inferInstanceAs (Decidable (_ ∨ _))
/-- the names of a comprehension's block: the seen ones with their slots, the global ones, its own at slot i -/
structure BkOk (N : List Str) (Vn : List (Nat × Str)) (G : List Str) (i : Nat) (x : Str) (sc scope : Scope) : Prop where
  lo : ∀ p ∈ Vn, N[p.1]? = some p.2 ∧ Vis (relS scope sc) p.2 ∧ (p.2 == ("__debug__" : Str)) = false ∧ (p.2 == ("__classdict__" : Str)) = false
  gl : ∀ x ∈ G, (relS scope sc).names.lookup x = some .globalImplicit ∧ (x == ("__debug__" : Str)) = false ∧ x ≠ "__name__"
  own : N[i]? = some x ∧ (relS scope sc).names.lookup x = some .local
  blk : blkC N sc scope [(x, i)] = true
structure InB (X : Cx) (Vn : List (Nat × Str)) (G : List Str) : Prop where
  nd : X.N.Nodup
  lo : ∀ p ∈ Vn, X.N[p.1]? = some p.2 ∧ Vis X.env.scope p.2 ∧ (p.2 == ("__debug__" : Str)) = false ∧ (p.2 == ("__classdict__" : Str)) = false
  gl : ∀ x ∈ G, Gl X x ∧ (x == ("__debug__" : Str)) = false ∧ x ≠ "__name__"
abbrev Bk (X : Cx) (s : Shared) (H : Hp) (scope : Scope) (C : Addr) (cl : List (Str × Addr)) (fp : List Addr) : Cx := X.blk s H scope (compEnvC scope cl C X.env) fp
section
variable {X : Cx} {e a b c elt : Expr} {es rest : List Expr} {σ : L2.St} {H : Hp} {Q : VK} {pos p0 : Pos} {N G G' : List Str} {Vn : List (Nat × Str)} {sc scope : Scope}
theorem rel_eq (h : X.env.scope = sc) (C : Addr) (cl : List (Str × Addr)) : (compEnvC scope cl C X.env).scope = relS scope sc := by
  subst h
  rfl
theorem BkOk.inB {i : Nat} {x : Str} (B : BkOk X.N Vn G' i x sc scope) (I : In X N G sc) (s : Shared) (H : Hp) (C : Addr) (cl : List (Str × Addr)) (fp : List Addr) : InB (Bk X s H scope C cl fp) Vn G' := by
  have e : (compEnvC scope cl C X.env).scope = relS scope sc := rel_eq I.sc C cl
  refine ⟨I.nd, fun p hp => ?_, fun y hy => ?_⟩
  · obtain ⟨h1, h2, h3, h4⟩ := B.lo p hp
    exact ⟨h1, by show Vis (compEnvC scope cl C X.env).scope p.2; rw [e]; exact h2, h3, h4⟩
  · obtain ⟨h1, h2, h3⟩ := B.gl y hy
    exact ⟨by show (compEnvC scope cl C X.env).scope.names.lookup y = _; rw [e]; exact h1, h2, h3⟩
theorem BkOk.pg {i : Nat} {x : Str} {px : Pos} (B : BkOk X.N Vn G' i x sc scope) (I : In X N G sc) (s : Shared) (H : Hp) (C : Addr) (cl : List (Str × Addr)) (fp : List Addr) : PG (Bk X s H scope C cl fp) (.Name x px) (gName i) := by
  have e : (compEnvC scope cl C X.env).scope = relS scope sc := rel_eq I.sc C cl
  have l : (Bk X s H scope C cl fp).env.scope.names.lookup x = some .local := by
    show (compEnvC scope cl C X.env).scope.names.lookup x = _
    rw [e]
    exact B.own.2
  exact pg_name I.nd B.own.1 (.inl l) (.inr l)
theorem BkOk.ok {i : Nat} {x : Str} (B : BkOk X.N Vn G' i x sc scope) (I : In X N G sc) : BlkOk X.N X.env.scope scope [(x, i)] := by
  rw [I.sc]
  exact blkOk_by B.blk
theorem InB.g (I : InB X Vn G) {i : Nat} {x : Str} (h : At G i x) : Gl X x := (I.gl x h.mem).1
theorem InB.gd (I : InB X Vn G) {i : Nat} {x : Str} (h : At G i x) : (x == ("__debug__" : Str)) = false := (I.gl x h.mem).2.1
theorem InB.gn (I : InB X Vn G) {i : Nat} {x : Str} (h : At G i x) : x ≠ "__name__" := (I.gl x h.mem).2.2
theorem b_var {j i : Nat} {x : Str} {v : V} (q : Q v H) (I : InB X Vn G := by assumption) (hA : At Vn j (i, x) := by repeat (first | with_reducible apply At.z | with_reducible apply At.s)) (hσ : σ[i]? = some (some v) := by exact rfl) : wE X (.Name x pos) σ H Q :=
  e_of (pe_var (I.lo _ hA.mem).1 (I.lo _ hA.mem).2.1 (I.lo _ hA.mem).2.2.1 (I.lo _ hA.mem).2.2.2) ⟨v, hσ, q⟩
theorem b_call {g : Nat} {k n : Nat} {x : Str} {sp : Sp} (F : Fn X.prog X.w X.K X.mg X.base k x sp) (hr : Room n X.A) (hk : k ≤ n) (q : wA X (e :: es) σ H fun vs H1 => sp vs H1 Q E0) (I : InB X Vn G := by assumption) (hG : At G g x := by repeat (first | with_reducible apply At.z | with_reducible apply At.s))
    (he : starEach (e :: es) X.env = (false, eval e X.env) :: starEach es X.env := by rfl) (hpl : (backTo pos (starEach es X.env)).any (·.1) = false := by rfl) : wE X (.Call (.Name x p0) (e :: es) [] pos) σ H Q := by
  obtain ⟨f, fd, ps, F0, hm, hkp, hb⟩ := F.ex
  refine e_of (pe_call F0 (hr.mono hk) (I.g hG) hm hkp hb .nil pass0 pa (I.gd hG) he hpl) ?_
  show wA X (e :: es) σ H fun vs H1 => sp (vs ++ []) H1 Q E0
  simp only [List.append_nil]
  exact q
theorem b_callB {g : Nat} {x : Str} {id : String} (hm : X.mg x = none) (hv : bootBuiltins x = some (.builtin id)) (q : wA X (e :: es) σ H fun vs H1 => wC X (.builtin id) vs H1 Q) (I : InB X Vn G := by assumption) (hG : At G g x := by repeat (first | with_reducible apply At.z | with_reducible apply At.s))
    (he : starEach (e :: es) X.env = (false, eval e X.env) :: starEach es X.env := by rfl) (hpl : (backTo pos (starEach es X.env)).any (·.1) = false := by rfl) : wE X (.Call (.Name x p0) (e :: es) [] pos) σ H Q := e_of (pe_callB cr (I.g hG) hm hv pa (I.gn hG) (I.gd hG) he hpl) q
theorem b_glob {g : Nat} {x : Str} {v : V} {u : Value} (hm : X.mg x = some u) (r : RelV v u) (q : Q v H) (I : InB X Vn G := by assumption) (hG : At G g x := by repeat (first | with_reducible apply At.z | with_reducible apply At.s)) : wE X (.Name x pos) σ H Q := e_of (pe_glob (I.g hG) hm r (I.gd hG)) q
theorem wipe1 (σ : L2.St) (i : Nat) : wipe σ [i] = σ.set i none := rfl
theorem wipe_set (σ : L2.St) (i : Nat) (v : L2.V) : wipe ((wipe σ [i]).set i (some v)) [i] = wipe σ [i] := by
  simp [wipe1, List.set_set]
/-- what the turns of a comprehension ask: over range(n) -/
def LcR (X : Cx) (Vn : List (Nat × Str)) (G' : List Str) (elt : Expr) (scope : Scope) (i n : Nat) (D : Addr) (σ : L2.St) (H1 : Hp) (Qd : Hp → Prop) : Prop := ∃ Pv : Nat → Hp → Prop, Pv 0 (upd H1 D (.lst [])) ∧
  (∀ k H2, k < n → Pv k H2 → ∀ s0 H0 C cl fp, InB (Bk X s0 H0 scope C cl fp) Vn G' → wE (Bk X s0 H0 scope C cl fp) elt ((wipe σ [i]).set i (some (.int (k : Int)))) H2 fun y H4 => ∃ acc, H4 D = some (.lst acc) ∧ acc.length < sizeLine ∧ Pv (k + 1) (upd H4 D (.lst (acc ++ [y])))) ∧
  ∀ H2, Pv n H2 → Qd H2
/-- .. over a list that stays -/
def LcL (X : Cx) (Vn : List (Nat × Str)) (G' : List Str) (elt : Expr) (scope : Scope) (i : Nat) (ad : Addr) (xs : List L2.V) (D : Addr) (σ : L2.St) (H1 : Hp) (Qd : Hp → Prop) : Prop := ∃ Pv : Nat → Hp → Prop, Pv 0 (upd H1 D (.lst [])) ∧ (∀ k H2, k ≤ xs.length → Pv k H2 → SqL X.K H2 ad xs) ∧
  (∀ k x H2, xs[k]? = some x → Pv k H2 → ∀ s0 H0 C cl fp, InB (Bk X s0 H0 scope C cl fp) Vn G' → wE (Bk X s0 H0 scope C cl fp) elt ((wipe σ [i]).set i (some x)) H2 fun y H4 => ∃ acc, H4 D = some (.lst acc) ∧ acc.length < sizeLine ∧ Pv (k + 1) (upd H4 D (.lst (acc ++ [y])))) ∧
  ∀ H2, Pv xs.length H2 → Qd H2
/-- the turn's reading, where the block may run anywhere -/
@[irreducible] def wBk (X : Cx) (Vn : List (Nat × Str)) (G' : List Str) (elt : Expr) (scope : Scope) : TE := fun σ H Q => ∀ s0 H0 C cl fp, InB (Bk X s0 H0 scope C cl fp) Vn G' → wE (Bk X s0 H0 scope C cl fp) elt σ H Q
theorem pe_bk {s0 : Shared} {H0 : Hp} {C : Addr} {cl : List (Str × Addr)} {fp : List Addr} (I : InB (Bk X s0 H0 scope C cl fp) Vn G') : PE (Bk X s0 H0 scope C cl fp) elt (wBk X Vn G' elt scope) :=
  ⟨fun pins s σ H Q Iv h => by unfold wBk at h; exact pe.run pins s σ H Q Iv (h s0 H0 C cl fp I)⟩
theorem lcR_of {i n : Nat} {D : Addr} {H1 : Hp} {Qd : Hp → Prop} (q : LcR X Vn G' elt scope i n D σ H1 Qd) : ∃ W : Nat → Nat → Hp → Prop, (∃ m, W 0 m (upd H1 D (.lst []))) ∧ ∀ k m H, W k m H →
    ((Itr 0 n).stop k H ∧ Qd H) ∨ ((Itr 0 n).go k H ∧ ∃ Nx : Hp → Prop, (∀ H', Nx H' → ∃ m', m' < m ∧ W (k + 1) m' H') ∧ ∀ x H', (Itr 0 n).yld k H x H' → gName i x (wipe σ [i]) H' fun σ2 H2 => wipe σ2 [i] = wipe σ [i] ∧ tYes σ2 H2 fun b H3 =>
      if b = true then wBk X Vn G' elt scope σ2 H3 fun y H4 => ∃ acc, H4 D = some (.lst acc) ∧ acc.length < sizeLine ∧ Nx (upd H4 D (.lst (acc ++ [y]))) else Nx H3) := by
  obtain ⟨Pv, h0, hs, hd⟩ := q
  refine lc_range Pv h0 (fun k H hk p => ?_) hd
  refine ⟨wipe_set σ i _, ?_⟩
  unfold tYes
  refine iteT ?_
  unfold wBk
  intro s0 H0 C cl fp I
  rw [Int.zero_add]
  exact hs k H hk p s0 H0 C cl fp I
theorem lcL_of {i : Nat} {ad : Addr} {xs : List L2.V} {D : Addr} {H1 : Hp} {Qd : Hp → Prop} (q : LcL X Vn G' elt scope i ad xs D σ H1 Qd) : ∃ W : Nat → Nat → Hp → Prop, (∃ m, W 0 m (upd H1 D (.lst []))) ∧ ∀ k m H, W k m H →
    ((Itl X.K ad).stop k H ∧ Qd H) ∨ ((Itl X.K ad).go k H ∧ ∃ Nx : Hp → Prop, (∀ H', Nx H' → ∃ m', m' < m ∧ W (k + 1) m' H') ∧ ∀ x H', (Itl X.K ad).yld k H x H' → gName i x (wipe σ [i]) H' fun σ2 H2 => wipe σ2 [i] = wipe σ [i] ∧ tYes σ2 H2 fun b H3 =>
      if b = true then wBk X Vn G' elt scope σ2 H3 fun y H4 => ∃ acc, H4 D = some (.lst acc) ∧ acc.length < sizeLine ∧ Nx (upd H4 D (.lst (acc ++ [y]))) else Nx H3) := by
  obtain ⟨Pv, h0, hl, hs, hd⟩ := q
  refine lc_list Pv h0 hl (fun k x H hk p => ?_) hd
  refine ⟨wipe_set σ i _, ?_⟩
  unfold tYes
  refine iteT ?_
  unfold wBk
  intro s0 H0 C cl fp I
  exact hs k x H hk p s0 H0 C cl fp I
/-- [elt for x in range(a)] -/
theorem e_lcR {i g : Nat} {x : Str} {px p cp : Pos} (B : BkOk X.N Vn G' i x sc scope) (hm : X.mg "range" = none)
    (q : wE X a σ H fun v H1 => ∃ n : Nat, v = .int n ∧ n < 2 ^ 62 ∧ ∀ D, H1 D = none → LcR X Vn G' elt scope i n D σ H1 fun H2 => Q (.ref D) H2)
    (I : In X N G sc := by assumption) (hc : X.calm = true := by rfl) (hG : At G g ("range" : Str) := by repeat (first | with_reducible apply At.z | with_reducible apply At.s)) (hs : starEach [a] X.env = [(false, eval a X.env)] := by rfl) (hs2 : ∀ z, foldedSetIterable (.Call (.Name "range" p) [a] [] cp) X.env z = pure z := by intro _; rfl)
    (hs1 : starEach (a :: []) X.env = (false, eval a X.env) :: starEach [] X.env := by rfl) :
    wE X (.ListComp elt [⟨.Name x px, .Call (.Name "range" p) [a] [] cp, [], 0⟩] scope pos) σ H Q := by
  refine e_of (pe_lc (own := [(x, i)]) (g := gName i) (tt := tYes) (te := wBk X Vn G' elt scope) hc I.nd (pi_range1 (I.g hG) hm (pa_cons pe pa_nil hs1) hs) (B.ok I) (fun s H C cl fp => B.pg I s H C cl fp) (fun _ _ _ _ _ => pts_nil) (fun s H C cl fp => pe_bk (B.inB I s H C cl fp)) hs2) (e_mono q fun v H1 q1 => ?_)
  obtain ⟨n, rfl, hn, q2⟩ := q1
  refine ⟨(n : Int), rfl, by omega, by omega, ?_⟩
  rw [Int.toNat_natCast]
  exact fun D hD => lcR_of (q2 D hD)
/-- [elt for x in a], a list -/
theorem e_lcL {i : Nat} {x : Str} {px : Pos} (B : BkOk X.N Vn G' i x sc scope)
    (q : wE X a σ H fun v H1 => ∃ ad xs, v = .ref ad ∧ SqL X.K H1 ad xs ∧ ∀ D, H1 D = none → LcL X Vn G' elt scope i ad xs D σ H1 fun H2 => Q (.ref D) H2)
    (I : In X N G sc := by assumption) (hc : X.calm = true := by rfl) (hs2 : ∀ z, foldedSetIterable a X.env z = pure z := by intro _; rfl) :
    wE X (.ListComp elt [⟨.Name x px, a, [], 0⟩] scope pos) σ H Q := by
  refine e_of (pe_lc (own := [(x, i)]) (g := gName i) (tt := tYes) (te := wBk X Vn G' elt scope) hc I.nd (pi_list pe) (B.ok I) (fun s H C cl fp => B.pg I s H C cl fp) (fun _ _ _ _ _ => pts_nil) (fun s H C cl fp => pe_bk (B.inB I s H C cl fp)) hs2) (e_mono q fun v H1 q1 => ?_)
  obtain ⟨ad, xs, rfl, hl, q2⟩ := q1
  exact ⟨ad, rfl, ⟨xs, hl⟩, fun D hD => lcL_of (q2 D hD)⟩
theorem s_lcR {nx : L2.St → Hp → Prop} {rt : VK} {bk ct : L2.St → Hp → Prop} {i j g : Nat} {x y : Str} {px py p cp spos : Pos} (B : BkOk X.N Vn G' i x sc scope) (hm : X.mg "range" = none)
    (q : wE X a σ H fun v H1 => ∃ n : Nat, v = .int n ∧ n < 2 ^ 62 ∧ ∀ D, H1 D = none → LcR X Vn G' elt scope i n D σ H1 fun H2 => nx (σ.set j (some (.ref D))) H2)
    (I : In X N G sc := by assumption) (hc : X.calm = true := by rfl) (hA : At N j y := by repeat (first | with_reducible apply At.z | with_reducible apply At.s)) (hG : At G g ("range" : Str) := by repeat (first | with_reducible apply At.z | with_reducible apply At.s))
    (hk : X.env.scope.kind = .function := by rfl) (hy : X.env.scope.names.lookup y = some .local := by rfl) (hl : (py.line == pos.line) = true := by rfl) (ha : (scope.names.any fun (n, k) => n == y && (k == .local || k == .cell)) = false := by decide +kernel)
    (hs : starEach [a] X.env = [(false, eval a X.env)] := by rfl) (hs2 : ∀ z, foldedSetIterable (.Call (.Name "range" p) [a] [] cp) X.env z = pure z := by intro _; rfl) (hs1 : starEach (a :: []) X.env = (false, eval a X.env) :: starEach [] X.env := by rfl) :
    wS X (.Assign [.Name y py] (.ListComp elt [⟨.Name x px, .Call (.Name "range" p) [a] [] cp, [], 0⟩] scope pos) spos) ⟨nx, rt, bk, ct⟩ σ H := by
  refine s_of (ps_setLc (own := [(x, i)]) (g := gName i) (tt := tYes) (te := wBk X Vn G' elt scope) hc I.nd (I.hi hA) hy (sw_true hk hy hl ha) (pi_range1 (I.g hG) hm (pa_cons pe pa_nil hs1) hs) (B.ok I) (fun s H C cl fp => B.pg I s H C cl fp) (fun _ _ _ _ _ => pts_nil) (fun s H C cl fp => pe_bk (B.inB I s H C cl fp)) hs2) (e_mono q fun v H1 q1 => ?_)
  obtain ⟨n, rfl, hn, q2⟩ := q1
  refine ⟨(n : Int), rfl, by omega, by omega, ?_⟩
  rw [Int.toNat_natCast]
  exact fun D hD => lcR_of (q2 D hD)
theorem s_lcL {nx : L2.St → Hp → Prop} {rt : VK} {bk ct : L2.St → Hp → Prop} {i j : Nat} {x y : Str} {px py spos : Pos} (B : BkOk X.N Vn G' i x sc scope)
    (q : wE X a σ H fun v H1 => ∃ ad xs, v = .ref ad ∧ SqL X.K H1 ad xs ∧ ∀ D, H1 D = none → LcL X Vn G' elt scope i ad xs D σ H1 fun H2 => nx (σ.set j (some (.ref D))) H2)
    (I : In X N G sc := by assumption) (hc : X.calm = true := by rfl) (hA : At N j y := by repeat (first | with_reducible apply At.z | with_reducible apply At.s))
    (hk : X.env.scope.kind = .function := by rfl) (hy : X.env.scope.names.lookup y = some .local := by rfl) (hl : (py.line == pos.line) = true := by rfl) (ha : (scope.names.any fun (n, k) => n == y && (k == .local || k == .cell)) = false := by decide +kernel) (hs2 : ∀ z, foldedSetIterable a X.env z = pure z := by intro _; rfl) :
    wS X (.Assign [.Name y py] (.ListComp elt [⟨.Name x px, a, [], 0⟩] scope pos) spos) ⟨nx, rt, bk, ct⟩ σ H := by
  refine s_of (ps_setLc (own := [(x, i)]) (g := gName i) (tt := tYes) (te := wBk X Vn G' elt scope) hc I.nd (I.hi hA) hy (sw_true hk hy hl ha) (pi_list pe) (B.ok I) (fun s H C cl fp => B.pg I s H C cl fp) (fun _ _ _ _ _ => pts_nil) (fun s H C cl fp => pe_bk (B.inB I s H C cl fp)) hs2) (e_mono q fun v H1 q1 => ?_)
  obtain ⟨ad, xs, rfl, hl, q2⟩ := q1
  exact ⟨ad, rfl, ⟨xs, hl⟩, fun D hD => lcL_of (q2 D hD)⟩
end
/-! ### ground terms: they make new objects and change none -/
abbrev Rl := Hp → L2.V → Prop
class Lasts (Γ : Hp → Prop) : Prop where
  up : ∀ H H', Same H H' → Γ H → Γ H'
class LastR (R : Rl) : Prop where
  up : ∀ H H' v, Same H H' → R H v → R H' v
def All2 : List Rl → Hp → List L2.V → Prop
  | [], _, vs => vs = []
  | R :: Rs, H, vs => ∃ v us, vs = v :: us ∧ R H v ∧ All2 Rs H us
@[irreducible] def Ev (X : Cx) (e : Expr) (σ : L2.St) (H : Hp) (R : Rl) : Prop := ∀ Q : VK, (∀ v H', Same H H' → R H' v → Q v H') → wE X e σ H Q
@[irreducible] def EvA (X : Cx) (es : List Expr) (σ : L2.St) (H : Hp) (Rs : List Rl) : Prop := ∀ Q : List L2.V → Hp → Prop, (∀ vs H', Same H H' → All2 Rs H' vs → Q vs H') → wA X es σ H Q
/-- a promise of a def that makes new objects alone -/
def spG {α : Type} (A : α → List Rl) (R : α → Rl) : Sp := fun vs H Q _ => ∃ x, All2 (A x) H vs ∧ ∀ v H', Same H H' → R x H' v → Q v H'
section
variable {X : Cx} {e a b c : Expr} {es : List Expr} {σ : L2.St} {H : Hp} {Q : VK} {pos p0 : Pos} {N G : List Str} {sc : Scope} {R R1 R2 : Rl} {Rs : List Rl}
theorem ev_e (h : Ev X e σ H R) (q : ∀ v H', Same H H' → R H' v → Q v H') : wE X e σ H Q := by unfold Ev at h; exact h Q q
theorem ev_of (h : ∀ Q : VK, (∀ v H', Same H H' → R H' v → Q v H') → wE X e σ H Q) : Ev X e σ H R := by unfold Ev; exact h
theorem ev_a {QA : List L2.V → Hp → Prop} (h : EvA X es σ H Rs) (q : ∀ vs H', Same H H' → All2 Rs H' vs → QA vs H') : wA X es σ H QA := by unfold EvA at h; exact h QA q
theorem ev_up {H0 : Hp} (h : Ev X e σ H R) : Ev X e σ H R := h
theorem g_var {i : Nat} {x : Str} {v : V} (r : R H v) (I : In X N G sc := by assumption) (hA : At N i x := by repeat (first | with_reducible apply At.z | with_reducible apply At.s)) (hσ : σ[i]? = some (some v) := by exact rfl) : Ev X (.Name x pos) σ H R :=
  ev_of fun Q q => e_var (q v H (Same.refl H) r) I hA hσ
theorem g_nil : EvA X [] σ H [] := by unfold EvA; exact fun Q q => a_nil (q [] H (Same.refl H) rfl)
theorem g_cons [LastR R] (h1 : Ev X e σ H R) (h2 : ∀ H', Same H H' → EvA X es σ H' Rs) (hs : starEach (e :: es) X.env = (false, eval e X.env) :: starEach es X.env := by rfl) : EvA X (e :: es) σ H (R :: Rs) := by
  unfold EvA
  exact fun Q q => a_cons (ev_e h1 fun v H1 s1 r1 => ev_a (h2 H1 s1) fun vs H2 s2 r2 => q (v :: vs) H2 (s1.trans s2) ⟨v, vs, rfl, LastR.up H1 H2 v s2 r1, r2⟩) hs
theorem g_call {α : Type} {A : α → List Rl} {R : α → Rl} {g k n : Nat} {x : Str} {z : α} (F : Fn X.prog X.w X.K X.mg X.base k x (spG A R)) (hr : Room n X.A) (hk : k ≤ n) (h : EvA X (e :: es) σ H (A z)) (I : In X N G sc := by assumption) (hG : At G g x := by repeat (first | with_reducible apply At.z | with_reducible apply At.s))
    (he : starEach (e :: es) X.env = (false, eval e X.env) :: starEach es X.env := by rfl) (hpl : (backTo pos (starEach es X.env)).any (·.1) = false := by rfl) : Ev X (.Call (.Name x p0) (e :: es) [] pos) σ H (R z) :=
  ev_of fun Q q => e_call F hr hk (ev_a h fun vs H1 s1 r1 => ⟨z, r1, fun v H2 s2 r2 => q v H2 (s1.trans s2) r2⟩) I hG he hpl
theorem g_test {QT : Bool → Hp → Prop} (h : Ev X e σ H fun _ v => v = .bl true) (q : ∀ H', Same H H' → QT true H') (he : ∀ whole, isTrue e X.env whole = (do let v ← whole; standAt e.pos; holding [v] (truthy v)) := by intro _; rfl) : wT X e σ H QT :=
  t_val (ev_e h fun v H' s r => by
    cases (show v = .bl true from r)
    exact ⟨true, rfl, q H' s⟩) he
/-- if not a or not b: return False -/
theorem s_no2 {nx : L2.St → Hp → Prop} {rt : VK} {bk ct : L2.St → Hp → Prop} {body : List Stmt} {p1 p2 p3 p4 : Pos} (h1 : Ev X a σ H fun _ v => v = .bl true) (h2 : ∀ H', Same H H' → Ev X b σ H' fun _ v => v = .bl true) (q : ∀ H', Same H H' → nx σ H')
    (he : ∀ whole, isTrue a X.env whole = (do let v ← whole; standAt a.pos; holding [v] (truthy v)) := by intro _; rfl) (he2 : ∀ whole, isTrue b X.env whole = (do let v ← whole; standAt b.pos; holding [v] (truthy v)) := by intro _; rfl) :
    wS X (.If (.BoolOp .Or [.UnaryOp .Not a p1, .UnaryOp .Not b p2] p3) body [] p4) ⟨nx, rt, bk, ct⟩ σ H := by
  refine s_if (t_w (w_or (t_not (g_test h1 (fun H1 s1 => ?_) he))))
  refine iteF (w_or1 (t_not (g_test (h2 H1 s1) (fun H2 s2 => ?_) he2)))
  exact iteF (l_nil (q H2 (s1.trans s2)))
theorem s_no1 {nx : L2.St → Hp → Prop} {rt : VK} {bk ct : L2.St → Hp → Prop} {body : List Stmt} {p1 p4 : Pos} (h1 : Ev X a σ H fun _ v => v = .bl true) (q : ∀ H', Same H H' → nx σ H')
    (he : ∀ whole, isTrue a X.env whole = (do let v ← whole; standAt a.pos; holding [v] (truthy v)) := by intro _; rfl) :
    wS X (.If (.UnaryOp .Not a p1) body [] p4) ⟨nx, rt, bk, ct⟩ σ H := by
  refine s_if (t_not (g_test h1 (fun H1 s1 => ?_) he))
  exact iteF (l_nil (q H1 s1))
theorem g_and2 (h1 : Ev X a σ H fun _ v => v = .bl true) (h2 : ∀ H', Same H H' → Ev X b σ H' fun _ v => v = .bl true) : Ev X (.BoolOp .And [a, b] pos) σ H fun _ v => v = .bl true :=
  ev_of fun Q q => e_and (ev_e h1 fun v H1 s1 r1 => by
    cases (show v = .bl true from r1)
    exact ⟨true, rfl, iteT (e_one (ev_e (h2 H1 s1) fun v H2 s2 r2 => q v H2 (s1.trans s2) r2))⟩)
theorem g_and3 (h1 : Ev X a σ H fun _ v => v = .bl true) (h2 : ∀ H', Same H H' → Ev X b σ H' fun _ v => v = .bl true) (h3 : ∀ H', Same H H' → Ev X c σ H' fun _ v => v = .bl true) : Ev X (.BoolOp .And [a, b, c] pos) σ H fun _ v => v = .bl true :=
  ev_of fun Q q => e_and (ev_e h1 fun v H1 s1 r1 => by
    cases (show v = .bl true from r1)
    refine ⟨true, rfl, iteT (e_and (ev_e (h2 H1 s1) fun v H2 s2 r2 => ?_))⟩
    cases (show v = .bl true from r2)
    exact ⟨true, rfl, iteT (e_one (ev_e (h3 H2 (s1.trans s2)) fun v H3 s3 r3 => q v H3 ((s1.trans s2).trans s3) r3))⟩)
end
section
variable {X : Cx} {H : Hp} {Q : VK} {i j : Int}
theorem o_mulW (c : CMulW i j) (q : Q (.int (i * j)) H) : wB X .Mult (.int i) (.int j) H Q := b_of op_mulW ⟨i, j, rfl, rfl, c, q⟩
end
end Wk
namespace Wk
open PySem PySem.Spec
/-- the value of a return or of an assignment, a comprehension's scope -/
def valE : Stmt → Expr
  | .Return (some e) _ => e
  | .Assign _ e _ => e
  | .Expr e _ => e
  | _ => .Name "" ⟨0, 0, 0, 0⟩
def lcSc : Expr → Scope
  | .ListComp _ _ sc _ => sc
  | _ => { kind := .function, names := [], isGenerator := false, isCoroutine := false }
end Wk
namespace Wk
open PySem PySem.Spec PyProof.Rows L2
section
variable {X : Cx} {c e : Expr} {body : List Stmt} {σ : L2.St} {H : Hp} {pos : Pos} {N G : List Str} {sc : Scope} {QT QT' : Bool → Hp → Prop}
theorem t_mono (q : wT X c σ H QT) (h : ∀ b H1, QT b H1 → QT' b H1) : wT X c σ H QT' := by
  unfold wT at q ⊢
  exact fun pins s I => wpAny_mono (q pins s I) (fun _ _ ⟨H1, I1, z⟩ => ⟨H1, I1, h _ _ z⟩) fun _ _ z => z
theorem s_while {nx : L2.St → Hp → Prop} {rt : VK} {bk ct : L2.St → Hp → Prop} (Pv : L2.St → Hp → Prop) (μ : L2.St → Hp → Nat) (h0 : Pv σ H)
    (hs : ∀ σ H, Pv σ H → wT X c σ H fun b H1 => if b = true then wL X body ⟨fun σ' H' => Pv σ' H' ∧ μ σ' H' < μ σ H, rt, nx, fun σ' H' => Pv σ' H' ∧ μ σ' H' < μ σ H⟩ σ H1 else nx σ H1)
    (I : In X N G sc := by assumption) : wS X (.While c body [] pos) ⟨nx, rt, bk, ct⟩ σ H :=
  s_of (ps_while I.never pt pl) (while_by Pv μ h0 hs fun _ _ _ _ h q => t_mono q h)
end
end Wk
namespace Wk
open PySem PySem.Spec PyProof.Rows L2
section
variable {X : Cx} {o e : Expr} {σ : L2.St} {H : Hp} {Q : VK} {pos apos : Pos}
/-- o.append(e) -/
theorem e_app (q : wE X o σ H fun x H1 => ∃ l xs0, x = .ref l ∧ SqL X.K H1 l xs0 ∧ wE X e σ H1 fun y H2 => ∃ xs, H2 l = some (.lst xs) ∧ xs.length < sizeLine ∧ Q .non (upd H2 l (.lst (xs ++ [y]))))
    (hbase : attributeBase o "append" X.env (eval o X.env) = eval o X.env := by rfl)
    (hfew : ((backTo pos (starEach (e :: []) X.env)).all (fun x => !x.1) && (backToKw pos (keywordEach [] X.env)).all (fun x => x.1.isSome)
      && decide ((e :: []).length + ([] : List Keyword).length + (if ([] : List Keyword).isEmpty then 0 else 1) < 30)) = true := by rfl)
    (hline : (apos.endLine == pos.line) = true := by rfl) (hs : starEach (e :: []) X.env = (false, eval e X.env) :: starEach [] X.env := by rfl) (hplain : (backTo pos (starEach [] X.env)).any (·.1) = false := by rfl) :
    wE X (.Call (.Attribute o "append" apos) [e] [] pos) σ H Q := by
  refine e_of (pe_bm PySem.F.plainAttrs_list PySem.F.slot_list_append PySem.F.type_list_append mt_append pe (pa_cons pe pa_nil hs) hbase hfew hline hs hplain) (e_mono q fun x H1 z => ?_)
  obtain ⟨l, xs0, rfl, hl, z⟩ := z
  refine ⟨.inl ⟨rfl, _, hl⟩, e_mono z fun y H2 z2 => ?_⟩
  obtain ⟨xs, h1, h2, h3⟩ := z2
  exact ⟨l, xs, y, rfl, rfl, h1, h2, h3⟩
end
end Wk
namespace Wk
open PySem PySem.Spec PyProof.Rows L2
theorem All2.len {Rs : List Rl} {H : Hp} : ∀ {vs : List L2.V}, All2 Rs H vs → vs.length = Rs.length := by
  induction Rs with
  | nil => intro vs h; cases (show vs = [] from h); rfl
  | cons R Rs ih => intro vs h; obtain ⟨v, us, rfl, _, h⟩ := h; simp [ih h]
end Wk
namespace Wk
open PySem PySem.Spec PyProof.Rows L2
/-- from the heap H on -/
def EvS (X : Cx) (e : Expr) (σ : L2.St) (H : Hp) (R : Rl) : Prop := ∀ H', Same H H' → Ev X e σ H' R
def EvSA (X : Cx) (es : List Expr) (σ : L2.St) (H : Hp) (Rs : List Rl) : Prop := ∀ H', Same H H' → EvA X es σ H' Rs
abbrev IsT : Rl := fun _ v => v = .bl true
section
variable {X : Cx} {e a b c : Expr} {es : List Expr} {σ : L2.St} {H H0 : Hp} {Q : VK} {pos p0 : Pos} {N G : List Str} {sc : Scope} {R R1 R2 : Rl} {Rs : List Rl}
theorem EvS.up {H1 : Hp} (h : EvS X e σ H R) (s : Same H H1) : EvS X e σ H1 R := fun H' t => h H' (s.trans t)
theorem EvS.get (h : EvS X e σ H R) (q : ∀ v H', Same H H' → R H' v → Q v H') : wE X e σ H Q := ev_e (h H (Same.refl H)) q
theorem gs_var [LastR R] {i : Nat} {x : Str} {v : L2.V} (r : R H v) (I : In X N G sc := by assumption) (hA : At N i x := by repeat (first | with_reducible apply At.z | with_reducible apply At.s)) (hσ : σ[i]? = some (some v) := by exact rfl) : EvS X (.Name x pos) σ H R :=
  fun H' s => g_var (LastR.up H H' v s r) I hA hσ
theorem gs_int {i : Int} {j} : EvS X (.Constant (.int i) j pos) σ H (fun _ v => v = .int i) := fun H' _ => ev_of fun Q q => e_int (q _ H' (Same.refl H') rfl)
theorem gs_nil : EvSA X [] σ H [] := fun _ _ => g_nil
theorem gs_cons [LastR R] (h1 : EvS X e σ H R) (h2 : EvSA X es σ H Rs) (hs : starEach (e :: es) X.env = (false, eval e X.env) :: starEach es X.env := by rfl) : EvSA X (e :: es) σ H (R :: Rs) := fun H' s => g_cons (h1 H' s) (fun H2 s2 => h2 H2 (s.trans s2)) hs
theorem gs_call {α : Type} {A : α → List Rl} {R : α → Rl} {g k n : Nat} {x : Str} {z : α} (F : Fn X.prog X.w X.K X.mg X.base k x (spG A R)) (hr : Room n X.A) (hk : k ≤ n) (h : EvSA X (e :: es) σ H (A z)) (I : In X N G sc := by assumption) (hG : At G g x := by repeat (first | with_reducible apply At.z | with_reducible apply At.s))
    (he : starEach (e :: es) X.env = (false, eval e X.env) :: starEach es X.env := by rfl) (hpl : (backTo pos (starEach es X.env)).any (·.1) = false := by rfl) : EvS X (.Call (.Name x p0) (e :: es) [] pos) σ H (R z) := fun H' s => g_call F hr hk (h H' s) I hG he hpl
/-- if not a or not b: return False; both hold -/
theorem s_nn {nx : L2.St → Hp → Prop} {rt : VK} {bk ct : L2.St → Hp → Prop} {body : List Stmt} {p1 p2 p3 p4 : Pos} (s0 : Same H0 H) (h1 : EvS X a σ H0 IsT) (h2 : EvS X b σ H0 IsT) (q : ∀ H', Same H0 H' → nx σ H')
    (he : ∀ whole, isTrue a X.env whole = (do let v ← whole; standAt a.pos; holding [v] (truthy v)) := by intro _; rfl) (he2 : ∀ whole, isTrue b X.env whole = (do let v ← whole; standAt b.pos; holding [v] (truthy v)) := by intro _; rfl) :
    wS X (.If (.BoolOp .Or [.UnaryOp .Not a p1, .UnaryOp .Not b p2] p3) body [] p4) ⟨nx, rt, bk, ct⟩ σ H := s_no2 (h1 H s0) (fun H1 s1 => h2 H1 (s0.trans s1)) (fun H1 s1 => q H1 (s0.trans s1)) he he2
theorem s_n {nx : L2.St → Hp → Prop} {rt : VK} {bk ct : L2.St → Hp → Prop} {body : List Stmt} {p1 p4 : Pos} (s0 : Same H0 H) (h1 : EvS X a σ H0 IsT) (q : ∀ H', Same H0 H' → nx σ H')
    (he : ∀ whole, isTrue a X.env whole = (do let v ← whole; standAt a.pos; holding [v] (truthy v)) := by intro _; rfl) :
    wS X (.If (.UnaryOp .Not a p1) body [] p4) ⟨nx, rt, bk, ct⟩ σ H := s_no1 (h1 H s0) (fun H1 s1 => q H1 (s0.trans s1)) he
theorem gs_and2 (h1 : EvS X a σ H IsT) (h2 : EvS X b σ H IsT) : EvS X (.BoolOp .And [a, b] pos) σ H IsT := fun H' s => g_and2 (h1 H' s) fun H2 s2 => h2 H2 (s.trans s2)
theorem gs_and3 (h1 : EvS X a σ H IsT) (h2 : EvS X b σ H IsT) (h3 : EvS X c σ H IsT) : EvS X (.BoolOp .And [a, b, c] pos) σ H IsT := fun H' s => g_and3 (h1 H' s) (fun H2 s2 => h2 H2 (s.trans s2)) fun H2 s2 => h3 H2 (s.trans s2)
theorem s_let {nx : L2.St → Hp → Prop} {rt : VK} {bk ct : L2.St → Hp → Prop} {i : Nat} {x : Str} {pos' : Pos} (s0 : Same H0 H) (h : EvS X e σ H0 R) (q : ∀ v H', Same H0 H' → R H' v → nx (σ.set i (some v)) H')
    (I : In X N G sc := by assumption) (hA : At N i x := by repeat (first | with_reducible apply At.z | with_reducible apply At.s)) (hs : swapsWith e (some (.Name x pos')) pos.line X.env = pure false := by rfl) :
    wS X (.Assign [.Name x pos'] e pos) ⟨nx, rt, bk, ct⟩ σ H := s_set ((h.up s0).get fun v H' s r => q v H' (s0.trans s) r) I hA hs
theorem s_retS {nx : L2.St → Hp → Prop} {rt : VK} {bk ct : L2.St → Hp → Prop} (s0 : Same H0 H) (h : EvS X e σ H0 R) (q : ∀ v H', Same H0 H' → R H' v → rt v H') : wS X (.Return (some e) pos) ⟨nx, rt, bk, ct⟩ σ H := s_ret ((h.up s0).get fun v H' s r => q v H' (s0.trans s) r)
end
end Wk

/-! My own layer, more: defs with loops where an error is handled, a keyword-only parameter with a default, insert. -/
namespace Wk
open PySem PySem.Spec PyProof.Rows L2
section
variable {P : Program} {w : World} {K : PySem.W.Frag} {mg : Str → Option Value} {base : Heap}
theorem fn_okH2 {x : Str} {st : Stmt} {N G ps : List Str} {k : Nat} {sp : Sp} (T : Top K mg x st) (S : FnScope N ps (defScope st)) (O : ScOk N G (defScope st)) (len : ∀ vs H Q E, sp vs H Q E → vs.length = ps.length)
    (hb : ∀ (kV doc pm : Value) (an : Option Addr) (cdv ct : Value) (us : List Value), us.length = ps.length → bindArgs (PySem.W.fnOf x x (defArgs st) (defBody st) (defScope st) .none kV doc pm an cdv ct) ⟨us, []⟩ = pure (ps.zip us))
    (hbody : ∀ (f : Addr) (cdv : Value) (A : Around) (outer : List Env) (s : Shared) (H : Hp) (vs : List L2.V) (Q : VK) (E : XK) (p : Addr × Obj), L2H.RoomH k (A.deeper (envOfC x (defScope st) s.heap.objs.size f cdv)) → sp vs H Q E → In (L2H.cxH CX0 P w K mg base N x (defScope st) f cdv A outer s H E p).nox N G (defScope st) →
      L2H.HotC (L2H.cxH CX0 P w K mg base N x (defScope st) f cdv A outer s H E p).nox →
      wL (L2H.cxH CX0 P w K mg base N x (defScope st) f cdv A outer s H E p).nox (defBody st) { nx := fun _ H' => Q .non H', rt := Q } (start N vs) H) : FnHt P w K mg base (k + 1) x sp := by
  obtain ⟨f, fd, F, hm⟩ := T.ex
  obtain ⟨oc, od, kV, doc, pm, an, cdv, ct, osl, rfl, lk, hcd⟩ := id F.ex
  exact ⟨f, _, ps, L2H.fn_ofH lk hcd S len (fun A outer s H vs Q E p hot hr h => ⟨_, PSs.nox pl, hbody f cdv A outer s H vs Q E p hr h ⟨O, ⟨[], (List.append_nil _).symm⟩, S.nd, rfl, rfl, PassesOwn.never⟩ ⟨p, ⟨hot.1, hot.2⟩, List.mem_cons_self⟩⟩), hm, F.kp, F.binds hb⟩
end
section
variable {X : Cx} {N G : List Str} {sc : Scope} {a e v o : Expr} {es : List Expr} {σ : L2.St} {H : Hp} {Q : VK} {pos p0 kpos apos : Pos}
theorem s_forRH {nx : L2.St → Hp → Prop} {rt : VK} {bk ct : L2.St → Hp → Prop} {g : Nat} {x : Str} {i : Nat} {body : List Stmt} {px p cp : Pos} (hm : X.mg "range" = none) (hot : L2H.HotC X)
    (q : wE X a σ H fun v H1 => ∃ n : Nat, v = .int n ∧ n < 2 ^ 62 ∧ ∃ Pv : Nat → L2.St → Hp → Prop, Pv 0 σ H1 ∧ (∀ k σ H, k < n → Pv k σ H → wL X body ⟨Pv (k + 1), rt, nx, Pv (k + 1)⟩ (σ.set i (some (.int (k : Int)))) H) ∧ ∀ σ H, Pv n σ H → nx σ H)
    (I : In X N G sc := by assumption) (hA : At N i x := by repeat (first | with_reducible apply At.z | with_reducible apply At.s))
    (hG : At G g ("range" : Str) := by repeat (first | with_reducible apply At.z | with_reducible apply At.s)) (hs : starEach [a] X.env = [(false, eval a X.env)] := by rfl) (hs2 : ∀ z, foldedSetIterable (.Call (.Name "range" p) [a] [] cp) X.env z = pure z := by intro _; rfl)
    (hs1 : starEach (a :: []) X.env = (false, eval a X.env) :: starEach [] X.env := by rfl) :
    wS X (.For (.Name x px) (.Call (.Name "range" p) [a] [] cp) body [] pos) ⟨nx, rt, bk, ct⟩ σ H := by
  refine s_of (L2H.ps_forH I.never hot (L2H.pi_range1H (I.g hG) hm (pa_cons pe pa_nil hs1) hs) (pg_name I.nd (I.hi hA) (I.loc hA) I.f) pl hs2) (e_mono q fun v H1 q1 => ?_)
  obtain ⟨n, rfl, hn, Pv, h0, hb, hd⟩ := q1
  refine ⟨(n : Int), rfl, by omega, by omega, ?_⟩
  rw [Int.toNat_natCast]
  refine for_range (n := n) Pv h0 (fun k σ H hk p => ?_) hd
  rw [Int.zero_add]
  exact hb k σ H hk p
/-- a def with one keyword-only parameter kw and its default d, that may raise -/
structure FnKw (P : Program) (w : World) (K : PySem.W.Frag) (mg : Str → Option Value) (base : Heap) (k : Nat) (x kw : Str) (m : Nat) (d : L2.V) (sp : Sp) : Prop where
  ex : ∃ (f : Addr) (fd : FuncData) (ps : List Str), FnOk P w K mg base (L2N.CX P w) k f fd ps sp ∧ mg x = some (.ref f) ∧ PySem.W.keepIn K (.ref f) = true ∧ (∃ ds, Vals [d] ds ∧ Binds K fd ps ds) ∧ ∃ g, KBn K fd ps m [kw] g (fun vs zs => vs ++ zs)
theorem e_callD {g k n m : Nat} {x kw : Str} {d : L2.V} {sp : Sp} {W : WX} (F : FnKw X.prog X.w X.K X.mg X.base k x kw m d sp) (tk : L2N.Takes X W) (hr : Room n X.A) (hk : k ≤ n) (q : wA X (e :: es) σ H fun vs H1 => sp (vs ++ [d]) H1 Q (fun cls d H' => W cls d σ H'))
    (I : In X N G sc := by assumption) (hG : At G g x := by repeat (first | with_reducible apply At.z | with_reducible apply At.s)) (he : starEach (e :: es) X.env = (false, eval e X.env) :: starEach es X.env := by rfl) (hpl : (backTo pos (starEach es X.env)).any (·.1) = false := by rfl) :
    wE X (.Call (.Name x p0) (e :: es) [] pos) σ H Q := by
  obtain ⟨f, fd, ps, F0, hm, hkp, ⟨ds, hd, hb⟩, _⟩ := F.ex
  exact e_of (pe_callSD (E := fun σ cls d H' => W cls d σ H') F0 (hr.mono hk) (I.g hG) hm hkp hb hd (fun σ => L2N.passAt tk σ) pa (I.gd hG) he hpl) q
theorem e_callK {g k n m : Nat} {x kw : Str} {d : L2.V} {sp : Sp} {W : WX} (F : FnKw X.prog X.w X.K X.mg X.base k x kw m d sp) (tk : L2N.Takes X W) (hr : Room n X.A) (hk : k ≤ n) (q : wA X (e :: es) σ H fun vs H1 => wE X v σ H1 fun z H2 => vs.length = m ∧ sp (vs ++ [z]) H2 Q (fun cls d H' => W cls d σ H'))
    (I : In X N G sc := by assumption) (hG : At G g x := by repeat (first | with_reducible apply At.z | with_reducible apply At.s))
    (hall : (backToKw pos (keywordEach [⟨some kw, v, kpos⟩] X.env)).all (·.1.isSome) = true := by rfl) (hks : (backToKw pos (keywordEach [⟨some kw, v, kpos⟩] X.env)).filterMap (·.1) = [kw] := by rfl)
    (he : starEach (e :: es) X.env = (false, eval e X.env) :: starEach es X.env := by rfl) (hpl : ((backTo pos (starEach (e :: es) X.env)).any (·.1) || (backToKw pos (keywordEach [⟨some kw, v, kpos⟩] X.env)).any (·.1.isNone)) = false := by rfl) :
    wE X (.Call (.Name x p0) (e :: es) [⟨some kw, v, kpos⟩] pos) σ H Q := by
  obtain ⟨f, fd, ps, F0, hm, hkp, _, g0, hb⟩ := F.ex
  unfold wE
  intro pins s I0
  refine wpAny_Call_Name_kw (ld_glob I0 (I.g hG) hm ?_ (I.gd hG))
  refine PySem.W.callWith_KW (h₀ := X.base) I0.ok.mod.kin hkp hall (thn (pa.run pos pins s σ H _ I0 q) fun us s1 ⟨vs, H1, I1, r, q1⟩ => ?_) hpl he
  refine thn ((pk_cons pe pk_nil).run pos pins s1 σ H1 (fun zs H2 => ∃ z, zs = [z] ∧ vs.length = m ∧ sp (vs ++ [z]) H2 Q (fun cls d H' => W cls d σ H')) I1 (e_mono q1 fun z H2 z2 => ⟨z, rfl, z2⟩)) fun ws s2 ⟨zs, H2, I2, rz, z, ez, l1, q2⟩ => ⟨I2.kIn, ?_⟩
  subst ez
  rw [hks]
  have r2 := hb.rel r rz
  have l2 : ws.length = [kw].length := rz.length.symm
  refine wpAny_call (codeAny_mono (F0.run X.A X.stack s2 H2 ⟨us, [kw].zip ws⟩ (g0 us ws) (vs ++ [z]) Q (fun cls d H' => W cls d σ H') (hr.mono hk) I2.env0 (hb.to s2 us ws I2.kIn (r.length.symm.trans l1) l2) r2 q2) fun r s' hq => ?_)
  cases r with
  | error e => exact L2N.passAt tk σ pins H2 s2 e s' I2 hq
  | ok fl =>
    cases fl with
    | ret u => exact I2.after hq
    | next => exact False.elim hq
    | brk => exact False.elim hq
    | cont => exact False.elim hq
/-- o.insert(0, v) and its like -/
theorem e_ins {i : Expr} (q : wE X o σ H fun x H1 => ∃ l xs0, x = .ref l ∧ SqL X.K H1 l xs0 ∧ wE X i σ H1 fun j H2 => wE X e σ H2 fun y H3 => ∃ n : Int, ∃ xs, j = .int n ∧ H3 l = some (.lst xs) ∧ xs.length < sizeLine ∧ 0 ≤ n ∧ n < 2 ^ 63 ∧ Q .non (upd H3 l (.lst (xs.take n.toNat ++ [y] ++ xs.drop n.toNat))))
    (hbase : attributeBase o "insert" X.env (eval o X.env) = eval o X.env := by rfl)
    (hfew : ((backTo pos (starEach (i :: [e]) X.env)).all (fun x => !x.1) && (backToKw pos (keywordEach [] X.env)).all (fun x => x.1.isSome)
      && decide ((i :: [e]).length + ([] : List Keyword).length + (if ([] : List Keyword).isEmpty then 0 else 1) < 30)) = true := by rfl)
    (hline : (apos.endLine == pos.line) = true := by rfl) (hs : starEach (i :: [e]) X.env = (false, eval i X.env) :: starEach [e] X.env := by rfl) (hs2 : starEach (e :: []) X.env = (false, eval e X.env) :: starEach [] X.env := by rfl) (hplain : (backTo pos (starEach [e] X.env)).any (·.1) = false := by rfl) :
    wE X (.Call (.Attribute o "insert" apos) [i, e] [] pos) σ H Q := by
  refine e_of (pe_bm PySem.F.plainAttrs_list PySem.F.slot_list_insert PySem.F.type_list_insert mt_insert pe (pa_cons pe (pa_cons pe pa_nil hs2) hs) hbase hfew hline hs hplain) (e_mono q fun x H1 z => ?_)
  obtain ⟨l, xs0, rfl, hl, z⟩ := z
  refine ⟨.inl ⟨rfl, _, hl⟩, e_mono z fun j H2 z2 => e_mono z2 fun y H3 z3 => ?_⟩
  obtain ⟨n, xs, rfl, h1, h2, h3, h4, h5⟩ := z3
  exact ⟨l, xs, n, y, rfl, rfl, h1, h2, h3, h4, h5⟩
end
end Wk
namespace Wk
open PySem PySem.Spec PyProof.Rows L2
section
variable {X : Cx} {N G : List Str} {sc : Scope} {a b e v o i : Expr} {es : List Expr} {σ : L2.St} {H : Hp} {Q : VK} {QT : Bool → Hp → Prop} {pos p0 p2 apos : Pos}
theorem t_tru (q : wE X a σ H fun x H' => ∃ k, TruV X.K x H' k ∧ QT k H') (he : ∀ whole, isTrue a X.env whole = (do let v ← whole; standAt a.pos; holding [v] (truthy v)) := by intro _; rfl) : wT X a σ H QT := t_of (pt_truth pe he) q
theorem tru_l {K : PySem.W.Frag} {l : Addr} {xs : List L2.V} (h : H l = some (.lst xs)) : TruV K (.ref l) H (!xs.isEmpty) := .inl ⟨xs, SqL.of h, rfl⟩
/-- o.pop() -/
theorem e_pop (q : wE X o σ H fun x H1 => ∃ l xs y, x = .ref l ∧ H1 l = some (.lst (xs ++ [y])) ∧ Q y (upd H1 l (.lst xs)))
    (hbase : attributeBase o "pop" X.env (eval o X.env) = eval o X.env := by rfl) (hline : (apos.endLine == pos.line) = true := by rfl) : wE X (.Call (.Attribute o "pop" apos) [] [] pos) σ H Q := by
  refine e_of (pe_bm0 PySem.F.plainAttrs_list PySem.F.slot_list_pop PySem.F.type_list_pop mt_pop pe hbase hline) (e_mono q fun x H1 z => ?_)
  obtain ⟨l, xs, y, rfl, h1, h2⟩ := z
  refine ⟨.inl ⟨rfl, _, SqL.of h1⟩, l, _, y, rfl, rfl, h1, by simp, ?_⟩
  rw [List.dropLast_concat]
  exact h2
theorem e_slL0 {r : L2.V → Option Int → Option Int → Hp → VK → Prop} (hr : SlR X r) (q : wE X e σ H fun x H1 => wE X a σ H1 fun y H2 => ∃ j, y = .int j ∧ r x (some j) none H2 Q) : wE X (.Subscript e (.Slice (some a) none none p2) pos) σ H Q :=
  e_of (pe_slice hr pe (po_some pe) po_none) (e_mono q fun x H1 z => e_mono z fun y H2 ⟨j, e, z2⟩ => ⟨j, e, z2⟩)
theorem e_slL1 {r : L2.V → Option Int → Option Int → Hp → VK → Prop} (hr : SlR X r) (q : wE X e σ H fun x H1 => wE X b σ H1 fun y H2 => ∃ j, y = .int j ∧ r x none (some j) H2 Q) : wE X (.Subscript e (.Slice none (some b) none p2) pos) σ H Q :=
  e_of (pe_slice hr pe po_none (po_some pe)) (e_mono q fun x H1 z => e_mono z fun y H2 ⟨j, e, z2⟩ => ⟨j, e, z2⟩)
theorem s_dput {nx : L2.St → Hp → Prop} {rt : VK} {bk ct : L2.St → Hp → Prop} {pos' : Pos} (hu : X.A.units + 1 < cLine) (q : wE X v σ H fun v H1 => wE X o σ H1 fun x H2 => wE X i σ H2 fun y H3 => ∃ a H4, x = .ref a ∧ DPut H3 a y v H4 ∧ nx σ H4)
    (hs : swapsWith v (some (.Subscript o i pos')) pos.line X.env = pure false := by rfl) : wS X (.Assign [.Subscript o i pos'] v pos) ⟨nx, rt, bk, ct⟩ σ H := s_of (ps_dput hu pe pe pe hs) q
theorem c_listD {p : Addr} {kvs : List (Key × L2.V)} (hc : X.calm = true) (h : H p = some (.dK kvs)) (q : ∀ l H2, Same H H2 → H2 l = some (.lst (kvs.map fun kv => kV kv.1)) → Q (.ref l) H2) : wC X (.type "list") [.ref p] H Q :=
  c_of (call_list_dK hc) ⟨p, kvs, rfl, h, fun l np => q l _ (fun c u eo => by rw [upd_ne (ne_of_none eo np)]; exact eo) upd_same⟩
theorem c_listL {p : Addr} {xs : List L2.V} (h : H p = some (.lst xs)) (q : ∀ l H2, Same H H2 → H l = none → H2 l = some (.lst xs) → Q (.ref l) H2) : wC X (.type "list") [.ref p] H Q :=
  c_of call_list_of ⟨p, xs, rfl, .inl (SqL.of h), fun l np => q l _ (fun c u eo => by rw [upd_ne (ne_of_none eo np)]; exact eo) np upd_same⟩
end
end Wk
namespace Wk
open PySem PySem.Spec PyProof.Rows L2
section
variable {X : Cx} {c e : Expr} {body : List Stmt} {σ : L2.St} {H : Hp} {pos : Pos} {N G : List Str} {sc : Scope}
theorem s_whileN {nx : L2.St → Hp → Prop} {rt : VK} {bk ct : L2.St → Hp → Prop} (Pv : Nat → L2.St → Hp → Prop) (n0 : Nat) (h0 : Pv n0 σ H)
    (hs : ∀ n σ H, Pv n σ H → wT X c σ H fun b H1 => if b = true then wL X body ⟨fun σ' H' => ∃ m, m < n ∧ Pv m σ' H', rt, nx, fun σ' H' => ∃ m, m < n ∧ Pv m σ' H'⟩ σ H1 else nx σ H1)
    (I : In X N G sc := by assumption) : wS X (.While c body [] pos) ⟨nx, rt, bk, ct⟩ σ H := by
  refine s_of (ps_while I.never pt pl) ⟨Pv, ⟨n0, h0⟩, fun n σ H p => ?_⟩
  refine t_mono (hs n σ H p) fun b H1 q => ?_
  cases b with
  | true => exact ⟨fun σ' H' => ∃ m, m < n ∧ Pv m σ' H', fun σ' H' z => z, q⟩
  | false => exact q
end
end Wk
namespace Wk
open PySem PySem.Spec PyProof.Rows L2
/-- a block with two own names -/
structure BkOk2 (N : List Str) (V : List (Nat × Str)) (G : List Str) (i j : Nat) (x y : Str) (sc scope : Scope) : Prop where
  lo : ∀ p ∈ V, N[p.1]? = some p.2 ∧ Vis (relS scope sc) p.2 ∧ (p.2 == ("__debug__" : Str)) = false ∧ (p.2 == ("__classdict__" : Str)) = false
  gl : ∀ x ∈ G, (relS scope sc).names.lookup x = some .globalImplicit ∧ (x == ("__debug__" : Str)) = false ∧ x ≠ "__name__"
  own : N[i]? = some x ∧ (relS scope sc).names.lookup x = some .local
  own2 : N[j]? = some y ∧ (relS scope sc).names.lookup y = some .local
  ne : i ≠ j
  blk : blkC N sc scope [(x, i), (y, j)] = true
section
variable {X : Cx} {e a b c elt : Expr} {es rest : List Expr} {σ : L2.St} {H : Hp} {Q : VK} {pos p0 : Pos} {N G G' : List Str} {Vn : List (Nat × Str)} {sc scope : Scope}
theorem BkOk2.inB {i j : Nat} {x y : Str} (B : BkOk2 X.N Vn G' i j x y sc scope) (I : In X N G sc) (s : Shared) (H : Hp) (C : Addr) (cl : List (Str × Addr)) (fp : List Addr) : InB (Bk X s H scope C cl fp) Vn G' := by
  have e : (compEnvC scope cl C X.env).scope = relS scope sc := rel_eq I.sc C cl
  refine ⟨I.nd, fun p hp => ?_, fun y hy => ?_⟩
  · obtain ⟨h1, h2, h3, h4⟩ := B.lo p hp
    exact ⟨h1, by show Vis (compEnvC scope cl C X.env).scope p.2; rw [e]; exact h2, h3, h4⟩
  · obtain ⟨h1, h2, h3⟩ := B.gl y hy
    exact ⟨by show (compEnvC scope cl C X.env).scope.names.lookup y = _; rw [e]; exact h1, h2, h3⟩
def gT2 (K : PySem.W.Frag) (i j : Nat) : TG := fun v σ H Q => ∃ a u w, v = .ref a ∧ SqT K H a [u, w] ∧ Q ((σ.set i (some u)).set j (some w)) H
theorem BkOk2.pg {i j : Nat} {x y : Str} {px py pt : Pos} {k : Nat} (B : BkOk2 X.N Vn G' i j x y sc scope) (hc : X.calm = true) (I : In X N G sc) (s : Shared) (H : Hp) (C : Addr) (cl : List (Str × Addr)) (fp : List Addr) : PG (Bk X s H scope C cl fp) (.Tuple [.Name x px, .Name y py] k pt) (gT2 X.K i j) := by
  have e : (compEnvC scope cl C X.env).scope = relS scope sc := rel_eq I.sc C cl
  have l : (Bk X s H scope C cl fp).env.scope.names.lookup x = some .local := by
    show (compEnvC scope cl C X.env).scope.names.lookup x = _
    rw [e]
    exact B.own.2
  have l2 : (Bk X s H scope C cl fp).env.scope.names.lookup y = some .local := by
    show (compEnvC scope cl C X.env).scope.names.lookup y = _
    rw [e]
    exact B.own2.2
  refine ⟨fun pins s σ H v u Q I0 r h => ?_⟩
  obtain ⟨ad, u1, w1, rfl, hq, q⟩ := h
  exact (pg_tup (X := Bk X _ _ scope C cl fp) hc (pgs_cons (pg_name I.nd B.own.1 (.inl l) (.inr l)) (pgs_cons (pg_name I.nd B.own2.1 (.inl l2) (.inr l2)) pgs_nil))).run pins s σ H _ u Q I0 r ⟨ad, [u1, w1], rfl, hq, rfl, u1, [w1], rfl, w1, [], rfl, rfl, q⟩
theorem BkOk2.ok {i j : Nat} {x y : Str} (B : BkOk2 X.N Vn G' i j x y sc scope) (I : In X N G sc) : BlkOk X.N X.env.scope scope [(x, i), (y, j)] := by
  rw [I.sc]
  exact blkOk_by B.blk
theorem wipe2 (σ : L2.St) (i j : Nat) : wipe σ [i, j] = (σ.set j none).set i none := rfl
theorem wipe_set2 (σ : L2.St) {i j : Nat} (h : i ≠ j) (u w : L2.V) : wipe (((wipe σ [i, j]).set i (some u)).set j (some w)) [i, j] = wipe σ [i, j] := by
  rw [wipe2, wipe2]
  apply List.ext_getElem?
  intro k
  by_cases h1 : i = k
  · subst h1
    simp [List.getElem?_set, h.symm]
  · by_cases h2 : j = k
    · subst h2
      simp [List.getElem?_set, h1]
    · simp [List.getElem?_set, h1, h2]
/-- [elt for x, y in a], a list of pairs -/
def LcL2 (X : Cx) (Vn : List (Nat × Str)) (G' : List Str) (elt : Expr) (scope : Scope) (i j : Nat) (ad : Addr) (xs : List L2.V) (D : Addr) (σ : L2.St) (H1 : Hp) (Qd : Hp → Prop) : Prop := ∃ Pv : Nat → Hp → Prop, Pv 0 (upd H1 D (.lst [])) ∧ (∀ k H2, k ≤ xs.length → Pv k H2 → SqL X.K H2 ad xs) ∧
  (∀ k x H2, xs[k]? = some x → Pv k H2 → ∃ t u w, x = .ref t ∧ SqT X.K H2 t [u, w] ∧ ∀ s0 H0 C cl fp, InB (Bk X s0 H0 scope C cl fp) Vn G' → wE (Bk X s0 H0 scope C cl fp) elt (((wipe σ [i, j]).set i (some u)).set j (some w)) H2 fun y H4 => ∃ acc, H4 D = some (.lst acc) ∧ acc.length < sizeLine ∧ Pv (k + 1) (upd H4 D (.lst (acc ++ [y])))) ∧
  ∀ H2, Pv xs.length H2 → Qd H2
theorem pe_bk2 {i j : Nat} {x y : Str} {s0 : Shared} {H0 : Hp} {C : Addr} {cl : List (Str × Addr)} {fp : List Addr} (I : InB (Bk X s0 H0 scope C cl fp) Vn G') : PE (Bk X s0 H0 scope C cl fp) elt (wBk X Vn G' elt scope) := pe_bk I
theorem lcL2_of {i j : Nat} (hij : i ≠ j) {ad : Addr} {xs : List L2.V} {D : Addr} {H1 : Hp} {Qd : Hp → Prop} (q : LcL2 X Vn G' elt scope i j ad xs D σ H1 Qd) : ∃ W : Nat → Nat → Hp → Prop, (∃ m, W 0 m (upd H1 D (.lst []))) ∧ ∀ k m H, W k m H →
    ((Itl X.K ad).stop k H ∧ Qd H) ∨ ((Itl X.K ad).go k H ∧ ∃ Nx : Hp → Prop, (∀ H', Nx H' → ∃ m', m' < m ∧ W (k + 1) m' H') ∧ ∀ x H', (Itl X.K ad).yld k H x H' → gT2 X.K i j x (wipe σ [i, j]) H' fun σ2 H2 => wipe σ2 [i, j] = wipe σ [i, j] ∧ tYes σ2 H2 fun b H3 =>
      if b = true then wBk X Vn G' elt scope σ2 H3 fun y H4 => ∃ acc, H4 D = some (.lst acc) ∧ acc.length < sizeLine ∧ Nx (upd H4 D (.lst (acc ++ [y]))) else Nx H3) := by
  obtain ⟨Pv, h0, hl, hs, hd⟩ := q
  refine lc_list Pv h0 hl (fun k x H hk p => ?_) hd
  obtain ⟨t, u, w, rfl, hq, z⟩ := hs k x H hk p
  refine ⟨t, u, w, rfl, hq, wipe_set2 σ hij u w, ?_⟩
  unfold tYes
  refine iteT ?_
  unfold wBk
  intro s0 H0 C cl fp I
  exact z s0 H0 C cl fp I
theorem e_lcL2 {i j : Nat} {x y : Str} {px py pt : Pos} {kt : Nat} (B : BkOk2 X.N Vn G' i j x y sc scope)
    (q : wE X a σ H fun v H1 => ∃ ad xs, v = .ref ad ∧ SqL X.K H1 ad xs ∧ ∀ D, H1 D = none → LcL2 X Vn G' elt scope i j ad xs D σ H1 fun H2 => Q (.ref D) H2)
    (I : In X N G sc := by assumption) (hc : X.calm = true := by rfl) (hs2 : ∀ z, foldedSetIterable a X.env z = pure z := by intro _; rfl) :
    wE X (.ListComp elt [⟨.Tuple [.Name x px, .Name y py] kt pt, a, [], 0⟩] scope pos) σ H Q := by
  refine e_of (pe_lc (own := [(x, i), (y, j)]) (g := gT2 X.K i j) (tt := tYes) (te := wBk X Vn G' elt scope) hc I.nd (pi_list pe) (B.ok I) (fun s H C cl fp => B.pg hc I s H C cl fp) (fun _ _ _ _ _ => pts_nil) (fun s H C cl fp => pe_bk (B.inB I s H C cl fp)) hs2) (e_mono q fun v H1 q1 => ?_)
  obtain ⟨ad, xs, rfl, hl, q2⟩ := q1
  exact ⟨ad, rfl, ⟨xs, hl⟩, fun D hD => lcL2_of B.ne (q2 D hD)⟩
end
end Wk
namespace Wk
open PySem PySem.Spec PyProof.Rows L2
section
variable {P : Program} {w : World} {K : PySem.W.Frag} {mg : Str → Option Value} {base : Heap}
/-- a def of the module with one keyword-only default -/
structure TopK (K : PySem.W.Frag) (mg : Str → Option Value) (x : Str) (st : Stmt) (kw : Str) (d : L2.V) : Prop where
  ex : ∃ (f : Addr) (fd : FuncData), FunD K x x (defArgs st) (defBody st) (defScope st) [] [(kw, d)] f fd ∧ mg x = some (.ref f)
theorem topK_mk {h : Heap} {x kw : Str} {d : L2.V} {u : Value} {st : Stmt} {f D : Addr} {oc : Value} {od an : Option Addr} {osl : Array (Option Value)} {doc pm cdv ct : Value} (X : K.In h) (G : h.Ns mainGlobals mg) (a : PySem.W.nsIn K mainGlobals x = some (some (.ref f)))
    (l : K.lookup f = some ⟨oc, od, .func (PySem.W.fnOf x x (defArgs st) (defBody st) (defScope st) .none (.ref D) doc pm an cdv ct), osl⟩) (c : PySem.W.codeIn K cdv x = true) (k : PySem.W.keepIn K (.ref f) = true)
    (hd : PySem.W.nsIn K D kw = some (some u)) (r : RelV d u) : TopK K mg x st kw d :=
  ⟨f, _, ⟨⟨oc, od, .none, .ref D, doc, pm, an, cdv, ct, osl, rfl, l, c, .inl ⟨rfl, rfl⟩, .inr ⟨D, rfl, fun q hq => by
    simp only [List.mem_singleton] at hq
    subst hq
    exact ⟨u, hd, r⟩⟩⟩, k⟩, PySem.W.mg_of X G a⟩
theorem fn_okKw {x kw : Str} {d : L2.V} {st : Stmt} {N G : List Str} {p1 p2 : Str} {k : Nat} {sp : Sp} (T : TopK K mg x st kw d) (S : FnScope N [p1, p2, kw] (defScope st)) (O : ScOk N G (defScope st)) (len : ∀ vs H Q E, sp vs H Q E → vs.length = 3)
    (hb : ∀ (D : Addr) (doc pm : Value) (an : Option Addr) (cdv ct : Value) (a b u : Value), KwChain D [(kw, u)] (bindArgs (PySem.W.fnOf x x (defArgs st) (defBody st) (defScope st) .none (.ref D) doc pm an cdv ct) ⟨[a, b], []⟩) [(p1, a), (p2, b), (kw, u)])
    (hb2 : ∀ (kV doc pm : Value) (an : Option Addr) (cdv ct : Value) (a b u : Value), bindArgs (PySem.W.fnOf x x (defArgs st) (defBody st) (defScope st) .none kV doc pm an cdv ct) ⟨[a, b], [(kw, u)]⟩ = pure [(p1, a), (p2, b), (kw, u)])
    (hbody : ∀ (f : Addr) (cdv : Value) (A : Around) (outer : List Env) (s : Shared) (H : Hp) (vs : List L2.V) (Q : VK) (E : XK), Room k (A.deeper (envOfC x (defScope st) s.heap.objs.size f cdv)) → sp vs H Q E → In (cxOf (L2N.CX P w) P w K mg base N x (defScope st) f cdv A outer s H E) N G (defScope st) →
      L2N.Takes (cxOf (L2N.CX P w) P w K mg base N x (defScope st) f cdv A outer s H E) (fun cls d _ H => E cls d H) →
      wL (cxOf (L2N.CX P w) P w K mg base N x (defScope st) f cdv A outer s H E) (defBody st) { nx := fun _ H' => Q .non H', rt := Q } (start N vs) H) : FnKw P w K mg base (k + 1) x kw 2 d sp := by
  obtain ⟨f, fd, F, hm⟩ := T.ex
  have hbd := FunD.binds0 (ps := [p1, p2, kw]) F 2 (by simp) rfl (fun D doc pm an cdv ct us ks l1 l2 => by
    match us, ks, l1, l2 with
    | [a, b], [u], _, _ => exact hb D doc pm an cdv ct a b u)
  obtain ⟨oc, od, dV, kV, doc, pm, an, cdv, ct, osl, rfl, lk, hcd, hD, hK⟩ := id F.ex
  obtain rfl : dV = .none := by
    rcases hD with ⟨_, h⟩ | ⟨h, _⟩
    · exact h
    · exact absurd rfl h
  refine ⟨f, _, [p1, p2, kw], fn_of lk hcd S len (fun A outer s H vs Q E hr h => ⟨_, pl, hbody f cdv A outer s H vs Q E hr h ⟨O, ⟨[], (List.append_nil _).symm⟩, S.nd, rfl, rfl, passes_of rfl⟩ (L2N.takes_of rfl rfl rfl rfl)⟩), hm, F.kp, ?_, fun us ws => us ++ ws, ⟨fun s us ws _ l1 l2 => ?_, fun r1 r2 => r1.append r2⟩⟩
  · obtain ⟨ds, h1, h2⟩ := hbd
    exact ⟨ds, h1, h2⟩
  · match us, ws, l1, l2 with
    | [a, b], [u], _, _ => exact .of_eq (hb2 kV doc pm an cdv ct a b u)
end
end Wk

set_option maxHeartbeats 4000000
/-! My own layer: sorted(set(xs)) of a list of texts. -/
namespace Wk
open PySem PySem.Spec PyProof.Rows L2
/-- one more text, if it is new -/
def addL (l : List Str) (z : Str) : List Str := if z ∈ l then l else l ++ [z]
def txE (e : Int × Value) : Str := strOf e.2
def TxE (w : World) (e : Int × Value) : Prop := ∃ z tk, e.2 = Value.str z tk ∧ e.1 = hashStr w z
/-- the set of the texts L -/
def SetTx (w : World) (h : Heap) (a : Addr) (L : List Str) : Prop :=
  ∃ ob es ep tb, h.get? a = some ob ∧ ob.ExactSet ∧ ob.data = .set es ep tb ∧ (∀ e ∈ es.toList, TxE w e) ∧ (es.toList.map txE).Perm L ∧ L.Nodup ∧
    es.size < scanBound ∧ tb.fits es.size = true ∧ Ris tb.place.toList ∧ (w.params.followText "set-order" = true ∨ tb.led = true)
section
variable {P : Program} {w : World} {h h' : Heap} {a : Addr} {L : List Str}
theorem SetTx.moves (R : SetTx w h a L) (k : ∀ o, h.get? a = some o → h'.get? a = some o) : SetTx w h' a L := by
  obtain ⟨ob, es, ep, tb, g1, rest⟩ := R
  exact ⟨ob, es, ep, tb, k ob g1, rest⟩
theorem tx_elems {l : List (Int × Value)} (g : ∀ e ∈ l, TxE w e) : ElemsOf (PySem.strKind P w) l := fun e m => by
  obtain ⟨z, tk, e1, e2⟩ := g e m
  refine ⟨⟨z, by rw [e1]; exact strKind_is P w z tk, e2⟩, ?_⟩
  rw [e1]
  rfl
theorem tx_is {e : Int × Value} (g : TxE w e) (z : Str) : (PySem.strKind P w).is z e.2 = true ↔ txE e = z := by
  obtain ⟨y, tk, e1, _⟩ := g
  have e2 : txE e = y := by unfold txE; rw [e1]; rfl
  rw [e2, e1]
  constructor
  · intro q
    obtain ⟨u, eu⟩ := Value.isStrOf_shape (x := z) (show Value.isStrOf z (.str y tk) = true from q)
    injection eu
  · rintro rfl
    exact strKind_is P w y tk
theorem tx_mem {l : List (Int × Value)} (g : ∀ e ∈ l, TxE w e) (z : Str) : z ∈ l.map txE ↔ ∃ e ∈ l, (PySem.strKind P w).is z e.2 = true := by
  rw [List.mem_map]
  exact ⟨fun ⟨e, m, q⟩ => ⟨e, m, (tx_is (g e m) z).2 q⟩, fun ⟨e, m, q⟩ => ⟨e, m, (tx_is (g e m) z).1 q⟩⟩
theorem tx_fresh (ho : h.get? a = some { cls := .type "set", dict := none, data := .set #[] 0 (.fresh 0 0 (!w.params.followText "set-order")) }) : SetTx w h a [] := by
  refine ⟨_, #[], 0, _, ho, ⟨rfl, rfl, rfl⟩, rfl, (fun e m => by simp at m), .refl _, List.nodup_nil, by decide, rfl, List.Pairwise.nil, ?_⟩
  show _ ∨ (!w.params.followText "set-order") = true
  cases w.params.followText "set-order" with
  | false => exact .inr rfl
  | true => exact .inl rfl
end
section
variable {P : Program} {w : World} {A : Around} {E : Value → Shared → Prop} {s : Shared} {a : Addr} {L : List Str}
theorem tx_tail {g : Bool → Sem Unit} (hg : ∀ (b : Bool) (s1 : Shared) (Q1 : Unit → Shared → Prop), Q1 () s1 → wpAny (model P w) A (g b) Q1 E s1)
    {ob : Obj} {es : Array (Int × Value)} {ep : Nat} {tb : SetTable} (g0 : s.heap.get? a = some ob) (gx : ob.ExactSet) (gd : ob.data = .set es ep tb)
    {fs : Array (Int × Value)} {t2 : SetTable} {M : List Str} (g1 : ∀ e ∈ fs.toList, TxE w e) (pm1 : (fs.toList.map txE).Perm M) (nd1 : M.Nodup)
    (b1 : fs.size < scanBound) (f1 : t2.fits fs.size = true) (r1 : Ris t2.place.toList) (l1 : w.params.followText "set-order" = true ∨ t2.led = true) {wd : Bool} {R : Option Bool → Shared → Prop}
    (hR : ∀ h1, Heap.SameBut a s.heap h1 → SetTx w h1 a M → R (some true) { s with heap := h1 }) :
    wpAny (model P w) A (do
        storeSet a fs t2
        if (!wd && t2.tooFull) = true then do
            g (relayAll t2 fs (SetTable.grown fs.size)).2.2
            storeSet a (relayAll t2 fs (SetTable.grown fs.size)).1 (relayAll t2 fs (SetTable.grown fs.size)).2.1
            pure (some true)
          else pure (some true)) R E s := by
  refine wpAny_bind (wpAny_storeSet_of g0 gd ?_ (fits_of_scanBound b1))
  have g02 := store_at (es' := fs) (t' := t2) g0 gd
  have sb := Heap.SameBut.update s.heap a (Obj.putSet fs t2)
  split
  · have pm := relayAll_perm t2 fs (SetTable.grown fs.size)
    have f3 := relayAll_fits t2 fs (SetTable.grown fs.size)
    have r3 := relayAll_ris t2 fs (SetTable.grown fs.size)
    have l3 := relayAll_led t2 fs (SetTable.grown fs.size)
    generalize relayAll t2 fs (SetTable.grown fs.size) = Z at pm f3 r3 l3 ⊢
    obtain ⟨gs, t3, gave⟩ := Z
    dsimp only at pm f3 r3 l3 ⊢
    have zs : gs.size = fs.size := by rw [← Array.length_toList, pm.length_eq, Array.length_toList]
    have b2 : gs.size < scanBound := zs ▸ b1
    refine wpAny_bind (hg _ _ _ (wpAny_bind (wpAny_storeSet_of g02 rfl ?_ (fits_of_scanBound b2))))
    have g03 := store_at (es' := gs) (t' := t3) g02 rfl
    refine wpAny_pure (hR _ (sb.trans (Heap.SameBut.update _ a _)) ⟨_, gs, _, t3, g03, gx, rfl, fun e m => g1 e (pm.mem_iff.mp m), (pm.map txE).trans pm1, nd1, b2, f3, r3, ?_⟩)
    rw [l3]
    exact l1
  · exact wpAny_pure (hR _ sb ⟨_, fs, _, t2, g02, gx, rfl, g1, pm1, nd1, b1, f1, r1, l1⟩)
theorem addL_in {z : Str} (m : z ∈ L) : addL L z = L := if_pos m
theorem addL_new {z : Str} (m : z ∉ L) : addL L z = L ++ [z] := if_neg m
theorem tx_add {z : Str} {tk : Tok} {Q : Bool → Shared → Prop} (R : SetTx w s.heap a L) (room : L.length + 1 < scanBound)
    (hQ : ∀ (b : Bool) h1, Heap.SameBut a s.heap h1 → SetTx w h1 a (addL L z) → Q b { s with heap := h1 }) :
    wpAny (model P w) A (setAddHashed a (.str z tk) ((PySem.strKind P w).hash z)) Q E s := by
  obtain ⟨ob, es, ep, tb, g0, gx, gd, g, pm0, nd, bb, ff, rr, ll⟩ := R
  have hkey : (PySem.strKind P w).is z (.str z tk) = true := strKind_is P w z tk
  have hsc : (Value.str z tk).scannable = true := rfl
  have hel : ElemsOf (PySem.strKind P w) es.toList := tx_elems g
  unfold setAddHashed setAddHashedIn
  refine wpAny_holding (wpAny_bind (wpAny_setState_of g0 gd ff ?_))
  dsimp only
  rw [byScan_of hsc bb hel]
  simp only [↓reduceIte]
  unfold setAddByScan
  refine wpAny_bind (wpAny_bind (wpAny_rule (wpAny_bind (wpAny_setScan_of hkey g0 gd ff hel ?_))))
  cases fi : List.findIdx? (fun e => (PySem.strKind P w).is z e.2) es.toList with
  | some j =>
    dsimp only
    obtain ⟨hj, pj, _⟩ := List.findIdx?_eq_some_iff_getElem.mp fi
    have m : z ∈ L := pm0.mem_iff.mp ((tx_mem (P := P) g z).2 ⟨es.toList[j], List.getElem_mem hj, pj⟩)
    refine wpAny_pure (wpAny_pure (hQ _ s.heap (Heap.SameBut.refl a s.heap) ?_))
    rw [addL_in m]
    exact ⟨ob, es, ep, tb, g0, gx, gd, g, pm0, nd, bb, ff, rr, ll⟩
  | none =>
    dsimp only
    have nz : z ∉ L := fun m => by
      obtain ⟨e, me, q⟩ := (tx_mem (P := P) g z).1 (pm0.mem_iff.mpr m)
      have c := List.findIdx?_eq_none_iff.mp fi e me
      rw [q] at c
      cases c
    have hgw : ∀ (b : Bool) {s1 : Shared} {Q1 : Unit → Shared → Prop}, Q1 () s1 → wpAny (model P w) A (match b with | true => rule "set.scan.the-table-gave-way" | false => pure ()) Q1 E s1 :=
      fun b s1 Q1 q => by cases b <;> first | exact wpAny_pure q | exact wpAny_rule q
    have pm := layNew_perm tb es ((PySem.strKind P w).hash z) (.str z tk)
    have f1 := layNew_fits tb es ((PySem.strKind P w).hash z) (.str z tk)
    have r1 := layNew_ris tb es ((PySem.strKind P w).hash z) (.str z tk) rr
    have l1 := layNew_led tb es ((PySem.strKind P w).hash z) (.str z tk)
    generalize layNew tb es ((PySem.strKind P w).hash z) (.str z tk) = Z at pm f1 r1 l1 ⊢
    obtain ⟨fs, t1, wd, gave⟩ := Z
    dsimp only at pm f1 r1 l1 ⊢
    rw [Array.toList_push] at pm
    have pk : (fs.toList.map txE).Perm (addL L z) := by
      rw [addL_new nz]
      refine (pm.map txE).trans ?_
      rw [List.map_append]
      exact pm0.append_right _
    have g1 : ∀ e ∈ fs.toList, TxE w e := fun e m => by
      rcases List.mem_append.mp (pm.mem_iff.mp m) with y | y
      · exact g e y
      · rw [List.mem_singleton.mp y]
        exact ⟨z, tk, rfl, rfl⟩
    have nd1 : (addL L z).Nodup := by
      rw [addL_new nz]
      exact List.nodup_append.mpr ⟨nd, by simp, fun x hx y hy e => by rw [List.mem_singleton] at hy; subst hy; subst e; exact nz hx⟩
    have zs : fs.size = L.length + 1 := by
      have q := pk.length_eq
      rw [addL_new nz, List.length_map, List.length_append, Array.length_toList] at q
      exact q
    have b1 : fs.size < scanBound := by rw [zs]; exact room
    have led : w.params.followText "set-order" = true ∨ t1.led = true := by rw [l1]; exact ll
    refine wpAny_bind (hgw _ ?_)
    split
    · refine wpAny_bind ?_
      rw [hashByValue_scannable 8 hsc]
      refine wpAny_pure (tx_tail ?_ g0 gx gd g1 pk nd1 b1 ?_ ?_ ?_ ?_)
      · intro b s1 Q1 q; cases b <;> first | exact wpAny_pure q | exact wpAny_rule q
      · first | (split <;> first | exact f1 | exact SetTable.fits_plain_off f1) | exact f1
      · first | (split <;> exact r1 rr) | exact r1 rr | (split <;> exact r1) | exact r1
      · first | (split <;> exact led) | exact led
      · intro h1 sb r; dsimp only; exact wpAny_pure (hQ true h1 sb r)
    · refine wpAny_bind (wpAny_pure ?_)
      simp only [↓reduceIte]
      refine tx_tail ?_ g0 gx gd g1 pk nd1 b1 f1 ?_ led ?_
      · intro b s1 Q1 q; cases b <;> first | exact wpAny_pure q | exact wpAny_rule q
      · first | exact r1 | exact r1 rr
      · intro h1 sb r; dsimp only; exact wpAny_pure (hQ true h1 sb r)
end
section
variable {P : Program} {w : World} {A : Around} {E : Value → Shared → Prop} {s : Shared}
def uniqL (zs : List Str) : List Str := zs.foldl addL []
theorem uniqL_snoc (zs : List Str) (z : Str) : uniqL (zs ++ [z]) = addL (uniqL zs) z := by unfold uniqL; rw [List.foldl_append]; rfl
theorem addL_len (l : List Str) (z : Str) : (addL l z).length ≤ l.length + 1 := by unfold addL; split <;> simp
theorem foldL_len : ∀ (zs l : List Str), (zs.foldl addL l).length ≤ l.length + zs.length
  | [], l => by simp
  | z :: zs, l => by
    have h1 := foldL_len zs (addL l z)
    have h2 := addL_len l z
    simp only [List.foldl_cons, List.length_cons]
    omega
theorem uniqL_len (zs : List Str) : (uniqL zs).length ≤ zs.length := by
  have h := foldL_len zs []
  simpa [uniqL] using h
theorem tx_loop {I : Addr} {fp wr : List Addr} {G : Array GenState → Array GenState → Prop} {n : Nat} {Pv : Nat → Value → Prop} {St : Nat → Shared → Prop} {R : Result → Shared → Prop}
    (W : WalksS P w A.in1 I fp wr G n Pv St) (D : Addr) (dfp : D ∉ fp) (zs : List Str) (en : n = zs.length) (hb : zs.length + 1 < scanBound) (hv : ∀ i v, Pv i v → ∃ z t, zs[i]? = some z ∧ v = .str z t) :
    ∀ (k i : Nat) (s : Shared), n - i = k → i ≤ n → St i s → SetTx w s.heap D (uniqL (zs.take i)) →
      (∀ s1, Moved (D :: wr) G s s1 → SetTx w s1.heap D (uniqL zs) → R (.ok (.ret .none)) s1) →
      codeAny (model P w) A (.builtin "set.update.loop" ⟨[.ref D, .ref I], []⟩) R s := by
  have dwr : D ∉ wr := fun m => dfp (W.sub _ m)
  have more : ∀ b ∈ wr, b ∈ D :: wr := fun b m => List.mem_cons_of_mem _ m
  intro k
  induction k with
  | zero =>
    intro i s ek hi st hD hR
    obtain rfl : i = n := by omega
    refine codeAny_builtin PyProof.Rows.F.entry_set_update_loop ?_
    rw [Around.under_plainId PyProof.Rows.F.plain_set_update_loop _]
    show wpAny _ A.in1 (pyNext (.ref I) >>= _) _ _ s
    refine wpAny_bind (W.done s _ _ st fun s1 mv => ?_)
    show wpAny _ A.in1 (ret Value.none) _ _ s1
    rw [List.take_of_length_le (by omega)] at hD
    exact wpAny_pure (hR s1 (mv.mono more) (hD.moves fun o e => mv.heap D o dwr e))
  | succ k ih =>
    intro i s ek hi st hD hR
    have lt : i < n := by omega
    refine codeAny_builtin PyProof.Rows.F.entry_set_update_loop ?_
    rw [Around.under_plainId PyProof.Rows.F.plain_set_update_loop _]
    show wpAny _ A.in1 (pyNext (.ref I) >>= _) _ _ s
    refine wpAny_bind (W.item i s _ _ lt st fun v s1 hp st1 mv => ?_)
    obtain ⟨z, t, hz, rfl⟩ := hv i v hp
    have hD1 : SetTx w s1.heap D (uniqL (zs.take i)) := hD.moves fun o e => mv.heap D o dwr e
    show wpAny _ A.in1 (holding [Value.str z t] (setAdd D (.str z t)) >>= _) _ _ s1
    refine wpAny_bind (wpAny_holding ?_)
    unfold setAdd
    refine wpAny_holding (wpAny_bind ((PySem.strKind P w).pyHash (k := z) (strKind_is _ _ _ _) ?_))
    have hl := uniqL_len (zs.take i)
    rw [List.length_take] at hl
    refine tx_add (s := { s1 with toks := s1.toks + 1 }) hD1 (by omega) fun b h1 sb hD2 => ?_
    rw [← uniqL_snoc, show zs.take i ++ [z] = zs.take (i + 1) by rw [List.take_add_one, hz]; rfl] at hD2
    refine wpAny_pure ⟨plainId_quiet PyProof.Rows.F.plain_set_update_loop _, ih (i + 1) _ (by omega) lt (W.frame _ s1 _ _ st1 (Nat.le_succ _) fun b m o e => ?_) hD2 fun s2 mv2 hD3 => ?_⟩
    · rw [sb.2 b (fun q : b = D => dfp (q ▸ m))]
      exact e
    · refine hR s2 (Moved.trans W.gtrans ((mv.mono more).then_heap (Nat.le_succ _) fun b o m e => ?_) mv2) hD3
      rw [sb.2 b (fun q : b = D => m (by rw [q]; exact List.mem_cons_self))]
      exact e
def freshSet (w : World) : Obj := { cls := .type "set", dict := none, data := .set #[] 0 (.fresh 0 0 (!w.params.followText "set-order")) }
theorem call_setTx {l : Addr} {items : Array Value} (zs : List Str) {Q : Value → Shared → Prop} (hh : A.handled = none) (hl : s.heap.IsList l items) (hit : StrsAre items.toList zs) (hb : zs.length + 1 < scanBound)
    (h : ∀ (h1 : Heap) (tk : Nat), SetTx w h1 s.heap.objs.size (uniqL zs) → (∀ b o, s.heap.get? b = some o → h1.get? b = some o) → Q (.ref s.heap.objs.size) { s with heap := h1, toks := tk }) :
    wpAny (model P w) A (call (.type "set") [.ref l]) Q E s := by
  have hisz : items.size = zs.length := by rw [← StrsAre.len_eq hit, Array.length_toList]
  obtain ⟨c, tl, hmro⟩ := PySem.F.called_set.mro
  have hmade := PySem.F.called_set.made
  have hsub := PySem.F.called_set.sub
  refine wpAny_call (codeAny_of_tree ?_)
  show wpAny _ _ (callAny (.type "set") _) _ _ _
  refine wpAny_pure ⟨Code.quiet_builtin _ (by decide +kernel), codeAny_builtin PySem.F.entry_type_call ?_⟩
  rw [Around.under_plain (weight_type_call_type "set" [.ref l] []) rfl]
  have h1 := PySem.F.called_set.notType
  have h2 := PySem.F.called_set.canCreate
  have hct := PySem.F.typeCall_set_1 (.ref l)
  repeat (any_goals (first | assumption | wp_step))
  refine codeAny_mono (code_set_led1 (.ref l) (E := E) (Q₁ := fun ov s1 => ov = .ref s.heap.objs.size ∧ s1 = { s with heap := s.heap.push (freshSet w) }) ⟨rfl, rfl⟩) fun r s1 hr => ?_
  cases r with
  | error e => exact hr
  | ok fl =>
    cases fl with
    | ret ov =>
      obtain ⟨rfl, rfl⟩ := hr
      have gS : (s.heap.push (freshSet w)).get? s.heap.objs.size = some (freshSet w) := Heap.get?_push_size _ rfl
      have gT : Shared.TypeIs { s with heap := s.heap.push (freshSet w) } (.ref s.heap.objs.size) "set" := ⟨_, gS, rfl⟩
      have hli := PySem.F.called_set.init.lookup
      have hbi := PySem.F.called_set.init.bind (.ref s.heap.objs.size)
      repeat (any_goals (first | assumption | wp_step))
      refine codeAny_mono (codeAny_call_builtin (R := wants (fun r s2 => r = .none ∧ ∃ h1 tk, s2 = { s with heap := h1, toks := tk } ∧ SetTx w h1 s.heap.objs.size (uniqL zs) ∧
          (∀ b o, s.heap.get? b = some o → h1.get? b = some o)) E) PySem.F.called_set.init.plain PySem.F.entry_set_init (check_set_init_1 gT ?_)) fun r2 s2 hr2 => ?_
      · obtain ⟨ol, hol, hcl, nl, hdl⟩ := hl
        obtain ⟨ocls, odict, odata, oslots⟩ := ol
        simp only at hcl hdl
        subst hcl; subst hdl
        have hol1 : (s.heap.push (freshSet w)).get? l = some { cls := .type "list", dict := odict, data := .seq items nl, slots := oslots } := Heap.get?_push_of_some _ hol
        have hsls := PySem.F.sub_list_set
        have hslf := PySem.F.sub_list_frozenset
        have hne : (Value.type "list" == Value.type "dict") = false := by decide
        have hl1 : (s.heap.push (freshSet w)).IsList l items := ⟨_, hol1, rfl, nl, rfl⟩
        unfold Builtin.«set.__init__» noKeywords Builtin.Frozenset.updateFrom
        generalize hPI : pyIter = PI
        wp_walk
        subst hPI
        refine wpAny_pyIter_list hl1 ?_
        refine wpAny_bind (wpAny_runValue ?_)
        have hlS : l < s.heap.objs.size := Heap.lt_size hol
        have hh3 : A.in1.in1.in1.handled = none := by simp [hh]
        have hneI : l ≠ (s.heap.push (freshSet w)).objs.size := by
          rw [Heap.size_push]; exact Nat.ne_of_lt (Nat.lt_succ_of_lt hlS)
        have hSf : s.heap.objs.size ∉ [(s.heap.push (freshSet w)).objs.size, l] := by
          rw [Heap.size_push]; simp only [List.mem_cons, List.mem_singleton, List.not_mem_nil, or_false, not_or]
          exact ⟨Nat.ne_of_lt (Nat.lt_succ_self _), Nat.ne_of_gt hlS⟩
        have hval : ∀ (i : Nat) (v : Value), items[i]? = some v → ∃ z t, zs[i]? = some z ∧ v = .str z t := fun i v hv => by
          have hi : i < zs.length := by rw [← hisz]; exact (Array.getElem?_eq_some_iff.mp hv).1
          obtain ⟨t, e⟩ := SS.strs_at hit i v (by rw [Array.getElem?_toList]; exact hv)
          refine ⟨zs[i], t, List.getElem?_eq_getElem hi, ?_⟩
          rw [e, List.getD_eq_getElem?_getD, List.getElem?_eq_getElem hi] <;> rfl
        refine tx_loop ((Walks.list hh3 _ l hneI items).toS) s.heap.objs.size hSf zs hisz hb hval (items.size - 0) 0 _ (by omega) (Nat.zero_le _)
          ⟨⟨_, Heap.get?_push_size _ rfl, rfl, rfl⟩, (hl1.push _)⟩ (tx_fresh (Heap.get?_push_of_some _ gS)) fun s3 hm hD => ?_
        obtain ⟨h3, g3, d3, tk3, os3⟩ := s3
        obtain rfl : g3 = s.gens := hm.gens
        obtain rfl : d3 = s.drawn := hm.drawn
        obtain rfl : os3 = s.os := hm.os
        show wpAny _ _ _ _ _ _
        refine wpAny_pure ?_
        show wpAny _ _ (ret Value.none) _ _ _
        refine wpAny_pure ⟨rfl, h3, tk3, rfl, hD, fun b o e => ?_⟩
        have hb0 : b < s.heap.objs.size := Heap.lt_size e
        refine hm.heap b o ?_ (Heap.get?_push_of_some _ (Heap.get?_push_of_some _ e))
        simp only [List.mem_cons, List.mem_singleton, List.not_mem_nil, or_false, not_or]
        exact ⟨Nat.ne_of_lt hb0, by rw [Heap.size_push]; exact Nat.ne_of_lt (Nat.lt_succ_of_lt hb0)⟩
      · cases r2 with
        | error e => exact hr2
        | ok fl2 =>
          cases fl2 with
          | ret r =>
            obtain ⟨rfl, h3, tk, rfl, hD, hk⟩ := hr2
            repeat (any_goals (first | assumption | wp_step))
            exact h _ _ hD hk
          | _ => exact hr2.elim
    | _ => exact hr.elim
end
end Wk

set_option maxHeartbeats 4000000
/-! My own layer: sorted of a set of texts, tuple(reversed(t)) of a tuple. -/
namespace Wk
open PySem PySem.Spec PyProof.Rows L2
section
variable {P : Program} {w : World} {A : Around} {E : Value → Shared → Prop} {s : Shared} {a : Addr} {L : List Str}
theorem sorted_setTx {Q : Value → Shared → Prop} (R : SetTx w s.heap a L) (hh : A.handled = none) (h64 : L.length < 64)
    (hQ : ∀ s1 p (out : Array Value) (c : Nat) (ys : List Str), (∀ b o, s.heap.get? b = some o → s1.heap.get? b = some o) → s1.gens = s.gens → s1.os = s.os → s.heap.objs.size ≤ p →
      s1.heap.get? p = some (seqObj "list" out c) → StrsAre out.toList ys → ys.Perm L → sortedS ys = true → Q (.ref p) s1) :
    wpAny (model P w) A (call (.builtin "sorted") [.ref a]) Q E s := by
  obtain ⟨ob, es, ep, tb, g0, gx, gd, g, pm0, nd, bb, ff, rr, ll⟩ := R
  refine Calls.call_function_entry kind_sorted plain_sorted entry_sorted (args_sorted1 _) ?_
  unfold Builtin.«sorted»
  refine wpAny_bind (m := checkCount "sorted" 1 1 _) (wpAny_pure ?_)
  refine wpAny_bind (collect_set (A := A.in1) hh ⟨ob, g0, gx.1, gd⟩ ff bb rr ll fun s1 vs k1 hz g1 o1 pm => ?_)
  have hI : StrsAre vs (vs.map strOf) := strsAre_map vs fun v hv => by
    obtain ⟨e, he, q⟩ := List.mem_map.mp (pm.mem_iff.mp hv)
    obtain ⟨z, tk, e1, _⟩ := g e he
    exact ⟨z, tk, q ▸ e1⟩
  have pk : (vs.map strOf).Perm L := by
    have q := pm.map strOf
    rw [List.map_map] at q
    exact q.trans pm0
  have hvl : vs.length = L.length := by have q := pk.length_eq; rwa [List.length_map] at q
  refine wpAny_bind (wpAny_newList ?_ (by rw [hvl, sizeLine_eq]; omega))
  have hoL : (s1.heap.push (seqObj "list" vs.toArray 0)).get? s1.heap.objs.size = some (seqObj "list" vs.toArray 0) := Heap.get?_push_size _ rfl
  refine wpAny_bind (wpAny_holding (wpAny_call_entry slot_list_sort ⟨_, hoL, rfl⟩ entry_list_sort (list_sort_treeK strKind_oneLt hoL hI.keysOf
    (fun v1 v2 rest e => keyKind_strs (ss := vs.map strOf) (by rw [← e]; exact hI)) (by rw [hvl]; exact h64) fun st hp hs => ⟨_, rfl, ?_⟩) (args_list_sort _)))
  obtain ⟨ys, y1, y2, y3⟩ := sorted_out_str hI hp hs
  obtain ⟨c, hc⟩ := sortedHeap_at (vs := vs) (out := (arrOf st).map (·.2)) hoL
  refine wpAny_pure ⟨_, rfl, hQ _ s1.heap.objs.size _ c ys (fun b u e => ?_) g1 o1 hz hc y1 (y2.trans pk) y3⟩
  have q := k1 b u e
  have lt := Heap.lt_size q
  show (sortedHeap (s1.heap.push (seqObj "list" vs.toArray 0)) s1.heap.objs.size vs ((arrOf st).map (·.2))).get? b = some u
  rw [sortedHeap_old (Nat.ne_of_lt lt) (by rw [size_push']; exact Nat.lt_succ_of_lt lt)]
  exact Heap.get?_push_of_some _ q
end
/-- the set of the texts L at a -/
def SetTO (w : World) (a : Addr) (L : List Str) : HO := .ext fun h => SetTx w h a L
section
variable {X : Cx}
theorem setTO_ok {w : World} {P : Program} {H : Hp} {h : Heap} {a : Addr} {L : List Str} (R : SetTx w h a L) : ObjOk P w H h a (SetTO w a L) := by
  have ⟨o, _, _, _, ho, _⟩ := R
  exact ⟨R, ⟨o, ho⟩, fun _ _ p k => SetTx.moves p k⟩
def rSetOfTx (w : World) (K : PySem.W.Frag) : List V → Hp → VK → Prop := fun xs H Q => ∃ (l : Addr) (zs : List Str), xs = [V.ref l] ∧ SqL K H l (zs.map V.str) ∧ zs.length + 1 < scanBound ∧ ∀ p, H p = none → Q (.ref p) (upd H p (SetTO w p (uniqL zs)))
theorem cr_setOfTx (hc : X.calm = true) : CallR X (.type "set") (rSetOfTx X.w X.K) := by
  intro pins s σ H xs us Q I r h
  obtain ⟨l, zs, rfl, hq, hb, q⟩ := h
  rw [Vals.ref1 r]
  obtain ⟨its, rv, pl, hz⟩ := I.list hq
  refine call_setTx zs (I.ok.hd hc) pl.isList (by simpa using strsAre_of rv) hb fun h1 tk hD k => ?_
  exact ⟨.ref _, upd H s.heap.objs.size (SetTO X.w s.heap.objs.size (uniqL zs)), I.laid (t' := tk) k (Nat.le_refl _) (setTO_ok hD), rfl, q _ (I.hok.fresh (Nat.le_refl _))⟩
def rSortedTx (w : World) : List V → Hp → VK → Prop := fun vs H Q => ∃ (a : Addr) (L : List Str), vs = [V.ref a] ∧ H a = some (SetTO w a L) ∧ L.length < 64 ∧
  ∀ (ys : List Str) (p : Addr), ys.Perm L → sortedS ys = true → H p = none → Q (.ref p) (upd H p (.lst (ys.map V.str)))
theorem cr_sortedTx (hc : X.calm = true) : CallR X (.builtin "sorted") (rSortedTx X.w) := by
  intro pins s σ H vs us Q I r h
  obtain ⟨a, L, rfl, ha, h64, q⟩ := h
  have R : SetTx X.w s.heap a L := (I.hok a _ ha).1
  rw [Vals.ref1 r]
  refine sorted_setTx R (I.ok.hd hc) h64 fun s1 p out c ys k g o hp hg hi pm hs => ?_
  have hlen : (ys.map V.str).length ≤ sizeLine := by rw [List.length_map, pm.length_eq, sizeLine_eq]; omega
  have hn : H p = none := I.hok.fresh hp
  have J : Inv X pins σ (upd H p (.lst (ys.map V.str))) { s with heap := s1.heap, gens := s1.gens, drawn := s1.drawn, toks := s1.toks } :=
    I.call (ch := []) (Un.laid k hp hn) (I.hok.laid k hp ⟨hlen, out.toList, c, vals_of_strs hi, hg⟩) (by rw [g]; exact I.bare) (fun _ z => nomatch z)
  have e : s1 = { s with heap := s1.heap, gens := s1.gens, drawn := s1.drawn, toks := s1.toks } := by
    cases s1
    cases s
    cases o
    rfl
  rw [e]
  exact ⟨.ref p, _, J, rfl, q ys p pm hs hn⟩
end
end Wk

set_option maxHeartbeats 4000000
/-! My own layer: tuple(reversed(t)) of a tuple. -/
namespace Wk
open PySem PySem.Spec PyProof.Rows L2 RT
theorem nolen_rt : typeLookup (.type "reversed") "__len__" = pure none := by rw [typeLookup_type, builtinLookup_eq_fast]; kernel_rfl
theorem hint_rt : typeLookup (.type "reversed") "__length_hint__" = pure (some (.builtin "reversed.__length_hint__")) := by rw [typeLookup_type, builtinLookup_eq_fast]; kernel_rfl
theorem slot_rt_hint : Slot "reversed" "__length_hint__" "reversed.__length_hint__" :=
  .of (owner := "reversed") (n := "__length_hint__") (by rw [typeLookup_type, builtinLookup_eq_fast]; kernel_rfl) (by decide +kernel) (by decide +kernel) (by decide +kernel)
    (by first | exact .inl (by decide +kernel) | exact .inr (by decide +kernel)) (by rw [isSubtype_type]; kernel_rfl)
theorem entry_rt_hint : entryFor table "reversed.__length_hint__" = some Builtin.«reversed.__length_hint__» := entryFor_of_tree (by kernel_rfl)
theorem args_rt_hint (a : Value) : argsOk "reversed.__length_hint__" ⟨[a], []⟩ := by
  unfold argsOk; rw [signature?_of (id := "reversed.__length_hint__") (n := ['_', '_', 't', 'n', 'i', 'h', '_', 'h', 't', 'g', 'n', 'e', 'l', '_', '_']) (o := ['d', 'e', 's', 'r', 'e', 'v', 'e', 'r']) (by kernel_rfl) owner_rt]; kernel_rfl
theorem bind_rt_hint (x : Value) : bindSpecial (.builtin "reversed.__length_hint__") x = pure (.builtin "reversed.__length_hint__", [x]) := by
  unfold bindSpecial
  rw [show typeOf (.builtin "reversed.__length_hint__") = pure (.type "method_descriptor") from by kernel_rfl]
  rfl
section
variable {prog : Program} {w : World} {A : Around} {E : Value → Shared → Prop} {s : Shared}
theorem walks_rt (hh : A.handled = none) (it t : Addr) (ne : t ≠ it) (items : Array Value) (hz : items.size ≤ sizeLine) :
    Walks prog w A it [it, t] [it] items.size (fun i v => items[items.size - 1 - i]? = some v) (fun i h => i ≤ items.size ∧ IsRt h it t ((items.size : Int) - 1 - (i : Int)) ∧ IsTup h t items) where
  sub := fun b m => by simp at m; simp [m]
  frame := fun _ _ _ x k => ⟨x.1, x.2.1.at fun o e => k it (by simp) o e, let ⟨o, e, z⟩ := x.2.2; ⟨o, k t (by simp) o e, z⟩⟩
  item := fun i s Q E hi x hQ => by
    have e1 : (items.size : Int) - 1 - (i : Int) = ((items.size - 1 - i : Nat) : Int) := by omega
    have hit := x.2.1
    rw [e1] at hit
    have hx : items[items.size - 1 - i]? = some (items[items.size - 1 - i]'(by omega)) := Array.getElem?_eq_getElem (by omega)
    refine next_rt_item hit x.2.2 hx hz fun h1 st sb => ?_
    have e2 : ((items.size - 1 - i : Nat) : Int) - 1 = (items.size : Int) - 1 - ((i + 1 : Nat) : Int) := by omega
    rw [e2] at st
    exact hQ _ h1 _ hx ⟨hi, st, let ⟨o, eo, z⟩ := x.2.2; ⟨o, (sb.2 t ne).trans eo, z⟩⟩ fun b o nb eo => sb.extBut b o (fun q => nb (by simp [q])) eo
  done := fun s Q E x hQ => by
    have e1 : (items.size : Int) - 1 - (items.size : Int) = -1 := by omega
    have hit := x.2.1
    rw [e1] at hit
    exact next_rt_end hh hit fun h1 he => hQ h1 s.toks fun b o nb eo => he b o (fun q => nb (by simp [q])) eo
  self := fun _ _ _ _ x hQ => iter_rt x.2.1 hQ
theorem call_rt_hint {it t : Addr} {items : Array Value} {Q : Value → Shared → Prop} (hit : IsRt s.heap it t ((items.size : Int) - 1)) (ht : IsTup s.heap t items) (hz : items.size ≤ sizeLine)
    (hQ : ∀ tk u, Q (.int items.size tk) { s with toks := u }) : wpAny (model prog w) A (call (.builtin "reversed.__length_hint__") [.ref it]) Q E s := by
  obtain ⟨o, ho, hc, hd⟩ := id hit
  have z2 := hz
  rw [sizeLine_eq] at z2
  refine wpAny_call_entry slot_rt_hint hit.typeIs entry_rt_hint ?_ (args_rt_hint _)
  unfold Builtin.«reversed.__length_hint__»
  refine wpAny_bind (wpAny_of_eq (a := Value.ref it) rfl ?_)
  try dsimp only
  refine wpAny_bind (wpAny_field ho hd (x := .ref t) rfl ?_)
  try dsimp only
  have nn : (Value.ref t == Value.none) = false := by
    first | rfl | exact beq_eq_false_iff_ne.mpr (fun z => nomatch z)
  rw [nn]
  simp only [Bool.false_eq_true, ↓reduceIte]
  refine wpAny_bind (len_tuple ht (by omega) ?_)
  refine wpAny_bind (wpAny_of_eq (a := some ((items.size : Nat) : Int)) rfl ?_)
  try dsimp only
  refine wpAny_bind (wpAny_field (s := { s with toks := s.toks + 1 + 1 }) ho hd (x := rawInt ((items.size : Int) - 1)) rfl ?_)
  show wpAny _ _ (if (items.size : Int) < (items.size : Int) - 1 + 1 then _ else _) _ _ _
  rw [if_neg (by omega)]
  have e1 : (items.size : Int) - 1 + 1 = items.size := by omega
  show wpAny _ _ (retInt ((items.size : Int) - 1 + 1)) _ _ _
  rw [e1]
  unfold retInt
  refine wpAny_bind (wpAny_mkInt ?_)
  exact wpAny_pure ⟨_, rfl, hQ _ _⟩
theorem collect_rt {it t : Addr} {items : Array Value} {Q : List Value → Shared → Prop} (hh : A.handled = none) (hit : IsRt s.heap it t ((items.size : Int) - 1)) (ht : IsTup s.heap t items) (ne : t ≠ it) (hz : items.size ≤ sizeLine)
    (hQ : ∀ (h1 : Heap) (tk : Nat) (acc : Array Value), (∀ b o, b ≠ it → s.heap.get? b = some o → h1.get? b = some o) → ItemsOf (fun i v => items[items.size - 1 - i]? = some v) acc items.size → Q acc.toList { s with heap := h1, toks := tk }) :
    wpAny (model prog w) A (collect (.ref it)) Q E s := by
  have W := (walks_rt (prog := prog) (w := w) (A := A.in1) hh it t ne items hz).toS
  obtain ⟨oi, hoi, _⟩ := id hit
  obtain ⟨ot, hot, _⟩ := id ht
  have nSi : s.heap.objs.size ≠ it := Nat.ne_of_gt (Heap.lt_size hoi)
  have nSt : s.heap.objs.size ≠ t := Nat.ne_of_gt (Heap.lt_size hot)
  have nSf : s.heap.objs.size ∉ [it, t] := by simp only [List.mem_cons, List.not_mem_nil, or_false, not_or]; exact ⟨nSi, nSt⟩
  unfold collect
  refine wpAny_bind (wpAny_runValue (codeAny_builtin F.entry_proto_collect ?_))
  rw [Around.under_plainId F.plain_proto_collect _]
  show wpAny _ A.in1 (newList [] >>= fun l' => again (.builtin "list.__iadd__" ⟨[l', .ref it], []⟩)) _ _ s
  refine wpAny_bind (wpAny_newObj_type ?_)
  refine wpAny_pure ⟨plainId_quiet F.plain_list_iadd _, codeAny_builtin F.entry_list_iadd ?_⟩
  rw [Around.under_plainId F.plain_list_iadd _]
  have gS : (s.heap.push { cls := .type "list", data := .seq ([] : List Value).toArray }).get? s.heap.objs.size = some { cls := .type "list", data := .seq ([] : List Value).toArray } := Heap.get?_push_size _ rfl
  have hit1 : IsRt (s.heap.push { cls := .type "list", data := .seq ([] : List Value).toArray }) it t ((items.size : Int) - 1) := hit.at fun o e => Heap.get?_push_of_some _ e
  have ht1 : IsTup (s.heap.push { cls := .type "list", data := .seq ([] : List Value).toArray }) t items := let ⟨o, e, z⟩ := ht; ⟨o, Heap.get?_push_of_some _ e, z⟩
  have hT : ({ s with heap := s.heap.push { cls := .type "list", data := .seq ([] : List Value).toArray } } : Shared).TypeIs (.ref it) "reversed" := IsRt.typeIs (s := { s with heap := s.heap.push { cls := .type "list", data := .seq ([] : List Value).toArray } }) hit1
  have q1 : Builtin.List.listSameRef (.ref s.heap.objs.size) (.ref it) = false := by simp [Builtin.List.listSameRef, nSi]
  show wpAny _ A.in1 (Builtin.List.listExtendWith (.ref s.heap.objs.size) (.ref it) (.ref s.heap.objs.size)) _ _ _
  unfold Builtin.List.listExtendWith
  refine wpAny_bind (wpAny_typeOf hT ?_)
  rw [if_neg (by rw [q1]; decide)]
  refine wpAny_bind (iter_rt (s := { s with heap := s.heap.push { cls := .type "list", data := .seq ([] : List Value).toArray } }) hit1 ?_)
  refine wpAny_bind (wpAny_holding ?_)
  unfold Builtin.List.listLengthHint
  refine wpAny_bind (wpAny_specialOf hT nolen_rt ?_)
  show wpAny _ A.in1 (specialOf (Value.ref it) (Str.ofString "__length_hint__") >>= _) _ _ _
  refine wpAny_bind (wpAny_specialOf hT hint_rt ?_)
  generalize hid : ("reversed.__length_hint__" : String) = id0
  wp_delta
  rw [show splitId id0 = some ("reversed", "__length_hint__") from by subst hid; decide +kernel]
  subst hid
  refine wpAny_bind (wpAny_isInstance (b := true) hT (by rw [isSubtype_type]; kernel_rfl) ?_)
  simp only [Bool.not_true, Bool.false_eq_true, ↓reduceIte]
  rw [if_neg (by decide +kernel)]
  refine wpAny_bind (wpAny_rule ?_)
  refine wpAny_bind (wpAny_of_eq (bind_rt_hint _) ?_)
  dsimp only
  have hh1 : A.in1.handled = none := hh
  refine wpAny_bind (wpAny_attempt (call_rt_hint hit1 ht1 hz fun tk u => ?_))
  have ea : asInt? (Value.int ((items.size : Nat) : Int) tk) = pure (some ((items.size : Nat) : Int)) := rfl
  simp only [ea, pure_bind]
  have z2 := hz
  rw [sizeLine_eq] at z2
  have f1 : Builtin.List.listFitsIndex ((items.size : Nat) : Int) = true := by
    unfold Builtin.List.listFitsIndex
    simp only [Bool.and_eq_true, decide_eq_true_eq]
    omega
  have f2 : ¬ (((items.size : Nat) : Int) < 0) := by omega
  have f3 : Builtin.List.listTooLong ((items.size : Nat) : Int).toNat = false := by
    unfold Builtin.List.listTooLong
    simp only [Int.toNat_natCast, decide_eq_false_iff_not]
    omega
  rw [f1]
  simp only [Bool.not_true, Bool.false_eq_true, ↓reduceIte]
  rw [if_neg f2, f3]
  simp only [Bool.false_eq_true, ↓reduceIte]
  refine wpAny_pure ?_
  have e0 : ((items.size : Nat) : Int) - 1 - ((0 : Nat) : Int) = (items.size : Int) - 1 := by omega
  split
  · refine wpAny_bind (wpAny_rule ?_)
    refine wpAny_bind ?_
    show wpAny _ A.in1 (updateSeq s.heap.objs.size (·.push .none) >>= fun _ => updateSeq s.heap.objs.size (·.pop)) _ _ _
    refine wpAny_bind (wpAny_updateSeq gS rfl ?_ (by rw [sizeLine_eq]; decide) (by rw [sizeLine_eq]; decide))
    have gS3 := Heap.get?_update_self (Obj.mapSeq (·.push Value.none)) gS rfl
    refine wpAny_updateSeq gS3 rfl ?_ (by rw [sizeLine_eq]; decide) (by rw [sizeLine_eq]; decide)
    have gS4 := Heap.get?_update_self (Obj.mapSeq (·.pop)) gS3 rfl
    have oth : ∀ b o, b ≠ s.heap.objs.size → (s.heap.push { cls := .type "list", data := .seq ([] : List Value).toArray }).get? b = some o → (((s.heap.push { cls := .type "list", data := .seq ([] : List Value).toArray }).update s.heap.objs.size (Obj.mapSeq (·.push Value.none))).update s.heap.objs.size (Obj.mapSeq (·.pop))).get? b = some o :=
      fun b o nb e => (Heap.get?_update_other _ _ (Ne.symm nb)).trans ((Heap.get?_update_other _ _ (Ne.symm nb)).trans e)
    refine wpAny_pure ⟨plainId_quiet F.plain_extend_loop _, codeAny_extend_loopS W hz _ nSf _ items.size 0 _ _ _ rfl (Nat.zero_le _) ⟨Nat.zero_le _, ?_, ?_⟩ gS4 (ItemsOf.nil _) fun s1 acc c1 hm hS1 hacc => ?_⟩
    · rw [e0]
      exact hit1.at fun o e => oth it o nSi.symm e
    · exact let ⟨o, e, z⟩ := ht1; ⟨o, oth t o nSt.symm e, z⟩
    · show wpAny _ A (load s.heap.objs.size >>= _) _ _ s1
      refine wpAny_bind (wpAny_load hS1 (wpAny_pure ?_))
      rw [Moved.eq_with hm]
      refine hQ s1.heap s1.toks acc (fun b o nb e => ?_) hacc
      have lt := Heap.lt_size e
      refine hm.heap b o (fun mm => ?_) (oth b o (Nat.ne_of_lt lt) (Heap.get?_push_of_some _ e))
      rcases List.mem_cons.mp mm with e' | mm
      · exact absurd lt (by rw [e']; exact Nat.lt_irrefl _)
      · exact nb (List.mem_singleton.mp mm)
  · have oth : ∀ b o, b ≠ s.heap.objs.size → (s.heap.push { cls := .type "list", data := .seq ([] : List Value).toArray }).get? b = some o → (s.heap.push { cls := .type "list", data := .seq ([] : List Value).toArray }).get? b = some o := fun b o _ e => e
    refine wpAny_pure ⟨plainId_quiet F.plain_extend_loop _, codeAny_extend_loopS W hz _ nSf _ items.size 0 _ _ _ rfl (Nat.zero_le _) ⟨Nat.zero_le _, ?_, ?_⟩ gS (ItemsOf.nil _) fun s1 acc c1 hm hS1 hacc => ?_⟩
    · rw [e0]
      exact hit1.at fun o e => oth it o nSi.symm e
    · exact let ⟨o, e, z⟩ := ht1; ⟨o, oth t o nSt.symm e, z⟩
    · show wpAny _ A (load s.heap.objs.size >>= _) _ _ s1
      refine wpAny_bind (wpAny_load hS1 (wpAny_pure ?_))
      rw [Moved.eq_with hm]
      refine hQ s1.heap s1.toks acc (fun b o nb e => ?_) hacc
      have lt := Heap.lt_size e
      refine hm.heap b o (fun mm => ?_) (oth b o (Nat.ne_of_lt lt) (Heap.get?_push_of_some _ e))
      rcases List.mem_cons.mp mm with e' | mm
      · exact absurd lt (by rw [e']; exact Nat.lt_irrefl _)
      · exact nb (List.mem_singleton.mp mm)
theorem code_tuple_rt {it t : Addr} {items : Array Value} {Q1 : Value → Shared → Prop} (hh : A.handled = none) (hit : IsRt s.heap it t ((items.size : Int) - 1)) (ht : IsTup s.heap t items) (ne : t ≠ it) (hz : items.size ≤ sizeLine)
    (hq : ∀ (h1 : Heap) (tk : Nat) (acc : Array Value), (∀ b o, b ≠ it → s.heap.get? b = some o → h1.get? b = some o) → ItemsOf (fun i v => items[items.size - 1 - i]? = some v) acc items.size →
      Q1 (.ref h1.objs.size) { s with heap := h1.push { cls := .type "tuple", data := .seq acc }, toks := tk }) :
    codeAny (model prog w) A (.call (.builtin "tuple.__new__") ⟨[.type "tuple", .ref it], []⟩) (wants Q1 E) s := by
  refine codeAny_of_tree ?_
  show wpAny _ A.in1 (do checkBuiltinCall "tuple.__new__" ⟨[.type "tuple", .ref it], []⟩; again (.builtin "tuple.__new__" ⟨[.type "tuple", .ref it], []⟩)) _ _ s
  refine wpAny_bind (wpAny_of_eq (F.newCall_tuple_1 _) (wpAny_pure ⟨plainId_quiet F.plain_tuple_new _, codeAny_builtin F.entry_tuple_new ?_⟩))
  rw [Around.under_plainId F.plain_tuple_new _]
  have hsub := sub_tuple_self
  have hinit := init_tuple_lookup
  have hmh := madeHere_tuple
  have hTI : s.TypeIs (.ref it) "reversed" := hit.typeIs
  have hh1 : A.in1.handled = none := hh
  wp_walk using wpAny_typeOf hTI, collect_rt (A := A.in1) hh1 hit ht ne hz
  intro h1 tk acc k hacc
  show wpAny _ _ (Builtin.Tuple.tupleExact acc.toList.toArray >>= fun v => ret v) _ _ _
  unfold Builtin.Tuple.tupleExact
  refine wpAny_bind (wpAny_newObj_type ?_ (by show acc.toList.toArray.size ≤ sizeLine; simp only [Array.toArray_toList]; rw [hacc.1]; exact hz))
  refine wpAny_pure ?_
  have e : acc.toList.toArray = acc := by simp
  rw [e]
  exact hq h1 tk acc k hacc
theorem call_tuple_rt {it t : Addr} {items : Array Value} {Q : Value → Shared → Prop} (hh : A.handled = none) (hit : IsRt s.heap it t ((items.size : Int) - 1)) (ht : IsTup s.heap t items) (ne : t ≠ it) (hz : items.size ≤ sizeLine)
    (hQ : ∀ (h1 : Heap) (tk : Nat) (acc : Array Value), (∀ b o, b ≠ it → s.heap.get? b = some o → h1.get? b = some o) → ItemsOf (fun i v => items[items.size - 1 - i]? = some v) acc items.size →
      Q (.ref h1.objs.size) { s with heap := h1.push { cls := .type "tuple", data := .seq acc }, toks := tk }) :
    wpAny (model prog w) A (call (.type "tuple") [.ref it]) Q E s := by
  refine callType_codes (Q₁ := fun ov s1 => s1.TypeIs ov "tuple" ∧ Q ov s1) F.called_tuple (F.typeCall_tuple_1 _) F.entry_object_init
    (code_tuple_rt (A := A.in1) hh hit ht ne hz fun h1 tk acc k hacc => ⟨⟨_, Heap.get?_push_size _ rfl, rfl⟩, hQ h1 tk acc k hacc⟩) fun ov s1 z => ?_
  exact ⟨z.1, F.args_object_init_2 ov _, object_init_meets F.called_tuple.init.lookup F.called_tuple.made (by decide) prog w A.in1 _ s1 ⟨z.1, rfl, z.2⟩⟩
end
section
variable {X : Cx}
/-- tuple(reversed(x)), x a tuple -/
def tTupRt (K : PySem.W.Frag) (te : TE) : TE := fun σ H Q => te σ H fun v H1 => ∃ (a : Addr) (xs : List V), v = .ref a ∧ SqT K H1 a xs ∧ ∀ q, H1 q = none → Q (.ref q) (upd H1 q (.tup xs.reverse))
theorem pe_tupRt {e : Expr} {te : TE} {p p2 pos pos2 : Pos} (hc : X.calm = true) (hg : Gl X "tuple") (hm : X.mg "tuple" = none) (hg2 : Gl X "reversed") (hm2 : X.mg "reversed" = none) (he : PE X e te)
    (hs : starEach [e] X.env = (false, eval e X.env) :: starEach [] X.env := by rfl)
    (hs2 : starEach [.Call (.Name "reversed" p2) [e] [] pos2] X.env = (false, eval (.Call (.Name "reversed" p2) [e] [] pos2) X.env) :: starEach [] X.env := by rfl) :
    PE X (.Call (.Name "tuple" p) [.Call (.Name "reversed" p2) [e] [] pos2] [] pos) (tTupRt X.K te) := by
  refine ⟨fun pins s σ H Q I h => ?_⟩
  refine Call_ (ld_blt I hg hm boot_tuple (PyProof.Rows.callWith_type1 (args_cons (Call_ (ld_blt I hg2 hm2 PyProof.Rows.boot_reversed (PyProof.Rows.callWith_type1 (args_cons (thn (he.run pins s σ H _ I h) fun u s1 ⟨v, H1, I1, r1, q1⟩ => args_nil ?_) hs) hs rfl))) hs2) hs2 rfl))
  obtain ⟨a, xs, ev, hq, q⟩ := q1
  subst ev
  obtain rfl : u = Value.ref a := r1
  obtain ⟨its, rv, p1, hz⟩ := I1.tuple hq
  have hn : its.toArray.size ≤ sizeLine := by rw [List.size_toArray, ← rv.length]; exact hz
  have hn2 := hn
  rw [sizeLine_eq] at hn2
  refine call_reversed_tup p1 (fun A E Q k => len_tuple p1 (by omega) k) (args_nil ?_)
  have I1' : Inv X pins σ H1 { s1 with toks := s1.toks + 1 + 1 } := I1.tok _
  have k0 : ∀ b o, s1.heap.get? b = some o → (s1.heap.push (rtObj a ((its.toArray.size : Int) - 1))).get? b = some o := fun b o e => Heap.get?_push_of_some _ e
  have I2 : Inv X pins σ H1 { s1 with heap := s1.heap.push (rtObj a ((its.toArray.size : Int) - 1)), toks := s1.toks + 1 + 1 } := I1.kept (t' := s1.toks + 1 + 1) k0
  obtain ⟨f0, f1, f2, f3, f4, f5⟩ := I1.fpOk (H' := H1) (b := s1.heap.objs.size) (Nat.le_refl _) (I1.hok.fresh (Nat.le_refl _))
  obtain ⟨ol, hol, hol2⟩ := id p1
  have ne : a ≠ s1.heap.objs.size := Nat.ne_of_lt (Heap.lt_size hol)
  refine call_tuple_rt (s := { s1 with heap := s1.heap.push (rtObj a ((its.toArray.size : Int) - 1)), toks := s1.toks + 1 + 1 }) (I1.ok.hd hc) ⟨_, Heap.get?_push_size _ rfl, rfl, rfl⟩ ⟨ol, k0 _ _ hol, hol2⟩ ne hn fun h1 tk acc hk hi => ?_
  have I3 : Inv X pins σ H1 { s1 with heap := h1, toks := tk } := I2.turned (t' := tk) (fun b o nb e => hk b o nb e) f0 f1 f3 f4 f5
  refine ⟨.ref h1.objs.size, upd H1 h1.objs.size (.tup xs.reverse), I3.laid (t' := tk) (fun c o e => Heap.get?_push_of_some _ e) (Nat.le_refl _) (show ObjOk X.prog X.w _ _ _ (.tup xs.reverse) from ⟨by rw [List.length_reverse]; exact hz, acc.toList, vals_rev rv hi, ?_⟩), rfl, q _ (I3.hok.fresh (Nat.le_refl _))⟩
  rw [Array.toArray_toList]
  exact IsTup.new _ _
end
end Wk

set_option maxHeartbeats 4000000
/-! My own layer: comprehensions with a test, over a list and over a dict; dict comprehensions; dicts; loops over tuples of three. -/
namespace Wk
open PySem PySem.Spec PyProof.Rows L2
section
variable {X : Cx} {e a b c elt kx vx : Expr} {es rest : List Expr} {σ : L2.St} {H : Hp} {Q : VK} {pos p0 : Pos} {N G G' : List Str} {Vn : List (Nat × Str)} {sc scope : Scope}
@[irreducible] def wBkT (X : Cx) (Vn : List (Nat × Str)) (G' : List Str) (c : Expr) (scope : Scope) : TT := fun σ H Q => ∀ s0 H0 C cl fp, InB (Bk X s0 H0 scope C cl fp) Vn G' → wT (Bk X s0 H0 scope C cl fp) c σ H Q
theorem pts_bk {s0 : Shared} {H0 : Hp} {C : Addr} {cl : List (Str × Addr)} {fp : List Addr} (I : InB (Bk X s0 H0 scope C cl fp) Vn G') : PTs (Bk X s0 H0 scope C cl fp) [c] (wBkT X Vn G' c scope) :=
  pts_one ⟨fun pins s σ H Q Iv h => by unfold wBkT at h; exact pt.run pins s σ H Q Iv (h s0 H0 C cl fp I)⟩
/-- what the turns ask where there is a test -/
def Turn1 (X : Cx) (Vn : List (Nat × Str)) (G' : List Str) (elt c : Expr) (scope : Scope) (i : Nat) (D : Addr) (σ : L2.St) (x : L2.V) (H2 : Hp) (Nx : Hp → Prop) : Prop :=
  ∀ s0 H0 C cl fp, InB (Bk X s0 H0 scope C cl fp) Vn G' → wT (Bk X s0 H0 scope C cl fp) c ((wipe σ [i]).set i (some x)) H2 fun b H3 =>
    if b = true then ∀ s0 H0 C cl fp, InB (Bk X s0 H0 scope C cl fp) Vn G' → wE (Bk X s0 H0 scope C cl fp) elt ((wipe σ [i]).set i (some x)) H3 fun y H4 => ∃ acc, H4 D = some (.lst acc) ∧ acc.length < sizeLine ∧ Nx (upd H4 D (.lst (acc ++ [y]))) else Nx H3
theorem turn1_of {i : Nat} {D : Addr} {x : L2.V} {H2 : Hp} {Nx : Hp → Prop} (q : Turn1 X Vn G' elt c scope i D σ x H2 Nx) : gName i x (wipe σ [i]) H2 fun σ2 H3 => wipe σ2 [i] = wipe σ [i] ∧ wBkT X Vn G' c scope σ2 H3 fun b H4 =>
    if b = true then wBk X Vn G' elt scope σ2 H4 fun y H5 => ∃ acc, H5 D = some (.lst acc) ∧ acc.length < sizeLine ∧ Nx (upd H5 D (.lst (acc ++ [y]))) else Nx H4 := by
  refine ⟨wipe_set σ i _, ?_⟩
  unfold wBkT
  intro s0 H0 C cl fp I
  refine t_mono (q s0 H0 C cl fp I) fun b H4 z => ?_
  cases b with
  | true =>
    unfold wBk
    exact iteT z
  | false => exact iteF z
def LcLf (X : Cx) (Vn : List (Nat × Str)) (G' : List Str) (elt c : Expr) (scope : Scope) (i : Nat) (ad : Addr) (xs : List L2.V) (D : Addr) (σ : L2.St) (H1 : Hp) (Qd : Hp → Prop) : Prop := ∃ Pv : Nat → Hp → Prop, Pv 0 (upd H1 D (.lst [])) ∧ (∀ k H2, k ≤ xs.length → Pv k H2 → SqL X.K H2 ad xs) ∧
  (∀ k x H2, xs[k]? = some x → Pv k H2 → Turn1 X Vn G' elt c scope i D σ x H2 (Pv (k + 1))) ∧ ∀ H2, Pv xs.length H2 → Qd H2
def LcDf (X : Cx) (Vn : List (Nat × Str)) (G' : List Str) (elt c : Expr) (scope : Scope) (i : Nat) (d : Addr) (o : Obj) (kvs : List (Key × L2.V)) (D : Addr) (σ : L2.St) (H1 : Hp) (Qd : Hp → Prop) : Prop := ∃ Pv : Nat → Hp → Prop, Pv 0 (upd H1 D (.lst [])) ∧ (∀ k H2, k ≤ kvs.length → Pv k H2 → H2 d = some (.frz o (.dK kvs))) ∧
  (∀ k y v H2, kvs[k]? = some (y, v) → Pv k H2 → Turn1 X Vn G' elt c scope i D σ (kV y) H2 (Pv (k + 1))) ∧ ∀ H2, Pv kvs.length H2 → Qd H2
theorem lcLf_of {i : Nat} {ad : Addr} {xs : List L2.V} {D : Addr} {H1 : Hp} {Qd : Hp → Prop} (q : LcLf X Vn G' elt c scope i ad xs D σ H1 Qd) : ∃ W : Nat → Nat → Hp → Prop, (∃ m, W 0 m (upd H1 D (.lst []))) ∧ ∀ k m H, W k m H →
    ((Itl X.K ad).stop k H ∧ Qd H) ∨ ((Itl X.K ad).go k H ∧ ∃ Nx : Hp → Prop, (∀ H', Nx H' → ∃ m', m' < m ∧ W (k + 1) m' H') ∧ ∀ x H', (Itl X.K ad).yld k H x H' → gName i x (wipe σ [i]) H' fun σ2 H2 => wipe σ2 [i] = wipe σ [i] ∧ wBkT X Vn G' c scope σ2 H2 fun b H3 =>
      if b = true then wBk X Vn G' elt scope σ2 H3 fun y H4 => ∃ acc, H4 D = some (.lst acc) ∧ acc.length < sizeLine ∧ Nx (upd H4 D (.lst (acc ++ [y]))) else Nx H3) := by
  obtain ⟨Pv, h0, hl, hs, hd⟩ := q
  exact lc_list Pv h0 hl (fun k x H hk p => turn1_of (hs k x H hk p)) hd
theorem lcDf_of {i : Nat} {d : Addr} {o : Obj} {kvs : List (Key × L2.V)} {D : Addr} {H1 : Hp} {Qd : Hp → Prop} (q : LcDf X Vn G' elt c scope i d o kvs D σ H1 Qd) : ∃ W : Nat → Nat → Hp → Prop, (∃ m, W 0 m (upd H1 D (.lst []))) ∧ ∀ k m H, W k m H →
    ((Itk d o kvs).stop k H ∧ Qd H) ∨ ((Itk d o kvs).go k H ∧ ∃ Nx : Hp → Prop, (∀ H', Nx H' → ∃ m', m' < m ∧ W (k + 1) m' H') ∧ ∀ x H', (Itk d o kvs).yld k H x H' → gName i x (wipe σ [i]) H' fun σ2 H2 => wipe σ2 [i] = wipe σ [i] ∧ wBkT X Vn G' c scope σ2 H2 fun b H3 =>
      if b = true then wBk X Vn G' elt scope σ2 H3 fun y H4 => ∃ acc, H4 D = some (.lst acc) ∧ acc.length < sizeLine ∧ Nx (upd H4 D (.lst (acc ++ [y]))) else Nx H3) := by
  obtain ⟨Pv, h0, hl, hs, hd⟩ := q
  refine ⟨fun k m H => m = kvs.length - k ∧ k ≤ kvs.length ∧ Pv k H, ⟨kvs.length, rfl, Nat.zero_le _, h0⟩, ?_⟩
  rintro k m H ⟨rfl, hk, p⟩
  have fz := hl k H hk p
  by_cases lt : k < kvs.length
  · refine .inr ⟨⟨fz, lt⟩, Pv (k + 1), fun H' p' => ⟨kvs.length - (k + 1), by omega, rfl, lt, p'⟩, fun x H' y => ?_⟩
    obtain ⟨rfl, ky, v, hkv, rfl⟩ := y
    exact turn1_of (hs k ky v _ hkv p)
  · have ek : k = kvs.length := by omega
    subst ek
    exact .inl ⟨⟨fz, Nat.le_refl _⟩, hd H p⟩
theorem e_lcLf {i : Nat} {x : Str} {px : Pos} (B : BkOk X.N Vn G' i x sc scope)
    (q : wE X a σ H fun v H1 => ∃ ad xs, v = .ref ad ∧ SqL X.K H1 ad xs ∧ ∀ D, H1 D = none → LcLf X Vn G' elt c scope i ad xs D σ H1 fun H2 => Q (.ref D) H2)
    (I : In X N G sc := by assumption) (hc : X.calm = true := by rfl) (hs2 : ∀ z, foldedSetIterable a X.env z = pure z := by intro _; rfl) :
    wE X (.ListComp elt [⟨.Name x px, a, [c], 0⟩] scope pos) σ H Q := by
  refine e_of (pe_lc (own := [(x, i)]) (g := gName i) (tt := wBkT X Vn G' c scope) (te := wBk X Vn G' elt scope) hc I.nd (pi_list pe) (B.ok I) (fun s H C cl fp => B.pg I s H C cl fp) (fun s H C cl fp => pts_bk (B.inB I s H C cl fp)) (fun s H C cl fp => pe_bk (B.inB I s H C cl fp)) hs2) (e_mono q fun v H1 q1 => ?_)
  obtain ⟨ad, xs, rfl, hl, q2⟩ := q1
  exact ⟨ad, rfl, ⟨xs, hl⟩, fun D hD => lcLf_of (q2 D hD)⟩
theorem s_lcLf {nx : L2.St → Hp → Prop} {rt : VK} {bk ct : L2.St → Hp → Prop} {i j : Nat} {x y : Str} {px py spos : Pos} (B : BkOk X.N Vn G' i x sc scope)
    (q : wE X a σ H fun v H1 => ∃ ad xs, v = .ref ad ∧ SqL X.K H1 ad xs ∧ ∀ D, H1 D = none → LcLf X Vn G' elt c scope i ad xs D σ H1 fun H2 => nx (σ.set j (some (.ref D))) H2)
    (I : In X N G sc := by assumption) (hc : X.calm = true := by rfl) (hA : At N j y := by repeat (first | with_reducible apply At.z | with_reducible apply At.s))
    (hk : X.env.scope.kind = .function := by rfl) (hy : X.env.scope.names.lookup y = some .local := by rfl) (hl : (py.line == pos.line) = true := by rfl) (ha : (scope.names.any fun (n, k) => n == y && (k == .local || k == .cell)) = false := by decide +kernel) (hs2 : ∀ z, foldedSetIterable a X.env z = pure z := by intro _; rfl) :
    wS X (.Assign [.Name y py] (.ListComp elt [⟨.Name x px, a, [c], 0⟩] scope pos) spos) ⟨nx, rt, bk, ct⟩ σ H := by
  refine s_of (ps_setLc (own := [(x, i)]) (g := gName i) (tt := wBkT X Vn G' c scope) (te := wBk X Vn G' elt scope) hc I.nd (I.hi hA) hy (sw_true hk hy hl ha) (pi_list pe) (B.ok I) (fun s H C cl fp => B.pg I s H C cl fp) (fun s H C cl fp => pts_bk (B.inB I s H C cl fp)) (fun s H C cl fp => pe_bk (B.inB I s H C cl fp)) hs2) (e_mono q fun v H1 q1 => ?_)
  obtain ⟨ad, xs, rfl, hl, q2⟩ := q1
  exact ⟨ad, rfl, ⟨xs, hl⟩, fun D hD => lcLf_of (q2 D hD)⟩
/-- [elt for x in d if c], d a dict that stands at ad -/
theorem e_lcDf {i : Nat} {x : Str} {px : Pos} {ad : Addr} {kvs : List (Key × L2.V)} (B : BkOk X.N Vn G' i x sc scope) (hd : H ad = some (.dK kvs))
    (q : ∀ o, wE X a σ (upd H ad (.frz o (.dK kvs))) fun v H1 => v = .ref ad ∧ H1 ad = some (.frz o (.dK kvs)) ∧ ∀ D, H1 D = none → LcDf X Vn G' elt c scope i ad o kvs D σ H1 fun H2 => H2 ad = some (.frz o (.dK kvs)) ∧ Q (.ref D) (upd H2 ad (.dK kvs)))
    (I : In X N G sc := by assumption) (hc : X.calm = true := by rfl) (hs2 : ∀ z, foldedSetIterable a X.env z = pure z := by intro _; rfl) :
    wE X (.ListComp elt [⟨.Name x px, a, [c], 0⟩] scope pos) σ H Q := by
  refine e_of (pe_lock (pe_lc (own := [(x, i)]) (g := gName i) (tt := wBkT X Vn G' c scope) (te := wBk X Vn G' elt scope) hc I.nd (pi_keys pe) (B.ok I) (fun s H C cl fp => B.pg I s H C cl fp) (fun s H C cl fp => pts_bk (B.inB I s H C cl fp)) (fun s H C cl fp => pe_bk (B.inB I s H C cl fp)) hs2)) ?_
  refine ⟨ad, .dK kvs, hd, trivial, fun o => e_mono (q o) fun v H1 q1 => ?_⟩
  obtain ⟨rfl, h1, q2⟩ := q1
  exact ⟨ad, o, rfl, .inl ⟨kvs, h1, fun D hD => lcDf_of (q2 D hD)⟩⟩
end
end Wk
namespace Wk
open PySem PySem.Spec PyProof.Rows L2
section
variable {X : Cx} {e a b c elt kx vx o : Expr} {es rest : List Expr} {σ : L2.St} {H : Hp} {Q : VK} {pos p0 apos : Pos} {N G G' : List Str} {Vn : List (Nat × Str)} {sc scope : Scope}
theorem sw_trueD {gs : List Comprehension} {py : Pos} {y : Str} {l : Nat} {env : Env} (hk : env.scope.kind = .function) (hy : env.scope.names.lookup y = some .local) (hl : (py.line == pos.line) = true)
    (ha : (scope.names.any fun (n, k) => n == y && (k == .local || k == .cell)) = false) : swapsWith (.DictComp kx vx gs scope pos) (some (.Name y py)) l env = pure true := by
  have ky : env.kindOf y = some .local := hy
  have hb : env.blockKind = .function := by unfold Env.blockKind; rw [hk]; rfl
  unfold swapsWith
  simp only [hb, ky, ha, Expr.pos, hl]
  rfl
theorem ps_setDc {i : Nat} {y : Str} {py : Pos} {tg iter : Expr} {ifs : List Expr} {own : List (Str × Nat)} {spos : Pos} {wi : TI} {g : TG} {tt : TT} {tk tv : TE} (hc : X.calm = true) (hN : X.N.Nodup) (hy : X.N[i]? = some y) (hyl : X.env.scope.names.lookup y = some .local)
    (hsw : swapsWith (.DictComp kx vx [⟨tg, iter, ifs, 0⟩] scope pos) (some (.Name y py)) spos.line X.env = pure true) (hi : PI X tg iter wi) (ok : BlkOk X.N X.env.scope scope own)
    (hg : ∀ (s : Shared) (H : Hp) (C : Addr) (cl : List (Str × Addr)) (fp : List Addr), PG (X.blk s H scope (compEnvC scope cl C X.env) fp) tg g) (ht : ∀ (s : Shared) (H : Hp) (C : Addr) (cl : List (Str × Addr)) (fp : List Addr), PTs (X.blk s H scope (compEnvC scope cl C X.env) fp) ifs tt)
    (hkx : ∀ (s : Shared) (H : Hp) (C : Addr) (cl : List (Str × Addr)) (fp : List Addr), PE (X.blk s H scope (compEnvC scope cl C X.env) fp) kx tk)
    (hvx : ∀ (s : Shared) (H : Hp) (C : Addr) (cl : List (Str × Addr)) (fp : List Addr), PE (X.blk s H scope (compEnvC scope cl C X.env) fp) vx tv) (hs : ∀ x, foldedSetIterable iter X.env x = pure x) :
    PS X (.Assign [.Name y py] (.DictComp kx vx [⟨tg, iter, ifs, 0⟩] scope pos) spos) (tAsg (tDc wi g tt tk tv (own.map (·.2))) (gName i)) := by
  refine ⟨fun pins s σ H D I h => ?_⟩
  rw [exec_Assign_Name_used _ _ _ _ hsw]
  refine wpAny_bind (wpAny_standAt (wpAny_bind ?_))
  show wpAny _ X.A (do let _ ← comprehension (.DictComp kx vx [⟨tg, iter, ifs, 0⟩] scope pos) scope X.env (firstIterPos [⟨tg, iter, ifs, 0⟩] pos) newDict false (eval iter X.env) (some (assign (.Name y py) X.env))) _ _ s
  have h : tDc wi g tt tk tv (own.map (·.2)) σ H (fun x H1 => gName i x σ H1 D.nx) := h
  refine wpAny_bind (thn (dc_core (Qf := fun _ s' => SP X pins D .next s') hc hN I hi ok hg ht hkx hvx hs h fun L C s' m H' I' q hn f => ?_) fun _ s' hq => wpAny_pure (wpAny_pure hq))
  show wpAny _ _ (assign (.Name y py) X.env (.ref L)) _ _ _
  refine wpAny_assign_Name (store_ok2 (v := V.ref L) I' hN hy (.inl hyl) rfl (fun s2 I2 ⟨ad, sb, had⟩ => ?_) (.inr hyl))
  obtain ⟨f0, f1, f2, f3, f4, f5⟩ := f
  have nC : C ≠ ad := by
    rcases had with z | z
    · rw [z]; exact f1
    · exact fun e => f4 y ad z e.symm
  exact ⟨m, hn.sameBut sb nC, fun h3 sb3 => ⟨_, H', I2.turned (t' := s2.toks) (fun b o hb e => (sb3.2 b hb).trans e) f0 f1 f3 f4 f5, q⟩⟩
/-- d = {k: v for x in a}, a a list that stays -/
def DcL (X : Cx) (Vn : List (Nat × Str)) (G' : List Str) (kx vx : Expr) (scope : Scope) (i : Nat) (ad : Addr) (xs : List L2.V) (D : Addr) (σ : L2.St) (H1 : Hp) (Qd : Hp → Prop) : Prop := ∃ Pv : Nat → Hp → Prop, Pv 0 (upd H1 D (.dK [])) ∧ (∀ k H2, k ≤ xs.length → Pv k H2 → SqL X.K H2 ad xs) ∧
  (∀ k x H2, xs[k]? = some x → Pv k H2 → ∀ s0 H0 C cl fp, InB (Bk X s0 H0 scope C cl fp) Vn G' → wE (Bk X s0 H0 scope C cl fp) kx ((wipe σ [i]).set i (some x)) H2 fun y H3 => ∀ s0 H0 C cl fp, InB (Bk X s0 H0 scope C cl fp) Vn G' →
    wE (Bk X s0 H0 scope C cl fp) vx ((wipe σ [i]).set i (some x)) H3 fun z H4 => ∃ kvs ky, y = kV ky ∧ H4 D = some (.dK kvs) ∧ kvs.length < sizeLine ∧ Pv (k + 1) (upd H4 D (.dK (putK kvs ky z)))) ∧
  ∀ H2, Pv xs.length H2 → Qd H2
theorem dcL_of {i : Nat} {ad : Addr} {xs : List L2.V} {D : Addr} {H1 : Hp} {Qd : Hp → Prop} (q : DcL X Vn G' kx vx scope i ad xs D σ H1 Qd) : ∃ W : Nat → Nat → Hp → Prop, (∃ m, W 0 m (upd H1 D (.dK []))) ∧ ∀ k m H, W k m H →
    ((Itl X.K ad).stop k H ∧ Qd H) ∨ ((Itl X.K ad).go k H ∧ ∃ Nx : Hp → Prop, (∀ H', Nx H' → ∃ m', m' < m ∧ W (k + 1) m' H') ∧ ∀ x H', (Itl X.K ad).yld k H x H' → gName i x (wipe σ [i]) H' fun σ2 H2 => wipe σ2 [i] = wipe σ [i] ∧ tYes σ2 H2 fun b H3 =>
      if b = true then wBk X Vn G' kx scope σ2 H3 fun y H4 => wBk X Vn G' vx scope σ2 H4 fun z H5 => ∃ kvs k, y = kV k ∧ H5 D = some (.dK kvs) ∧ kvs.length < sizeLine ∧ Nx (upd H5 D (.dK (putK kvs k z))) else Nx H3) := by
  obtain ⟨Pv, h0, hl, hs, hd⟩ := q
  refine ⟨fun k m H => m = xs.length - k ∧ k ≤ xs.length ∧ Pv k H, ⟨xs.length, rfl, Nat.zero_le _, h0⟩, ?_⟩
  rintro k m H ⟨rfl, hk, p⟩
  have sq := hl k H hk p
  by_cases lt : k < xs.length
  · refine .inr ⟨⟨xs, xs[k], sq, by simp [lt]⟩, Pv (k + 1), fun H' p' => ⟨xs.length - (k + 1), by omega, rfl, lt, p'⟩, fun x H' y => ?_⟩
    obtain ⟨rfl, y⟩ := y
    refine ⟨wipe_set σ i _, ?_⟩
    unfold tYes
    refine iteT ?_
    unfold wBk
    intro s0 H0 C cl fp I
    exact hs k x _ (y xs sq) p s0 H0 C cl fp I
  · have ek : k = xs.length := by omega
    subst ek
    exact .inl ⟨⟨xs, sq, Nat.le_refl _⟩, hd H p⟩
theorem s_dcL {nx : L2.St → Hp → Prop} {rt : VK} {bk ct : L2.St → Hp → Prop} {i j : Nat} {x y : Str} {px py spos : Pos} (B : BkOk X.N Vn G' i x sc scope)
    (q : wE X a σ H fun v H1 => ∃ ad xs, v = .ref ad ∧ SqL X.K H1 ad xs ∧ ∀ D, H1 D = none → DcL X Vn G' kx vx scope i ad xs D σ H1 fun H2 => nx (σ.set j (some (.ref D))) H2)
    (I : In X N G sc := by assumption) (hc : X.calm = true := by rfl) (hA : At N j y := by repeat (first | with_reducible apply At.z | with_reducible apply At.s))
    (hk : X.env.scope.kind = .function := by rfl) (hy : X.env.scope.names.lookup y = some .local := by rfl) (hl : (py.line == pos.line) = true := by rfl) (ha : (scope.names.any fun (n, k) => n == y && (k == .local || k == .cell)) = false := by decide +kernel) (hs2 : ∀ z, foldedSetIterable a X.env z = pure z := by intro _; rfl) :
    wS X (.Assign [.Name y py] (.DictComp kx vx [⟨.Name x px, a, [], 0⟩] scope pos) spos) ⟨nx, rt, bk, ct⟩ σ H := by
  refine s_of (ps_setDc (own := [(x, i)]) (g := gName i) (tt := tYes) (tk := wBk X Vn G' kx scope) (tv := wBk X Vn G' vx scope) hc I.nd (I.hi hA) hy (sw_trueD hk hy hl ha) (pi_list pe) (B.ok I) (fun s H C cl fp => B.pg I s H C cl fp) (fun _ _ _ _ _ => pts_nil) (fun s H C cl fp => pe_bk (B.inB I s H C cl fp)) (fun s H C cl fp => pe_bk (B.inB I s H C cl fp)) hs2) (e_mono q fun v H1 q1 => ?_)
  obtain ⟨ad, xs, rfl, hl, q2⟩ := q1
  exact ⟨ad, rfl, ⟨xs, hl⟩, fun D hD => dcL_of (q2 D hD)⟩
theorem e_dcL {i : Nat} {x : Str} {px : Pos} (B : BkOk X.N Vn G' i x sc scope)
    (q : wE X a σ H fun v H1 => ∃ ad xs, v = .ref ad ∧ SqL X.K H1 ad xs ∧ ∀ D, H1 D = none → DcL X Vn G' kx vx scope i ad xs D σ H1 fun H2 => Q (.ref D) H2)
    (I : In X N G sc := by assumption) (hc : X.calm = true := by rfl) (hs2 : ∀ z, foldedSetIterable a X.env z = pure z := by intro _; rfl) :
    wE X (.DictComp kx vx [⟨.Name x px, a, [], 0⟩] scope pos) σ H Q := by
  refine e_of (pe_dc (own := [(x, i)]) (g := gName i) (tt := tYes) (tk := wBk X Vn G' kx scope) (tv := wBk X Vn G' vx scope) hc I.nd (pi_list pe) (B.ok I) (fun s H C cl fp => B.pg I s H C cl fp) (fun _ _ _ _ _ => pts_nil) (fun s H C cl fp => pe_bk (B.inB I s H C cl fp)) (fun s H C cl fp => pe_bk (B.inB I s H C cl fp)) hs2) (e_mono q fun v H1 q1 => ?_)
  obtain ⟨ad, xs, rfl, hl, q2⟩ := q1
  exact ⟨ad, rfl, ⟨xs, hl⟩, fun D hD => dcL_of (q2 D hD)⟩
/-- for x, y, z in t, a tuple of triples -/
theorem s_forT3 {nx : L2.St → Hp → Prop} {rt : VK} {bk ct : L2.St → Hp → Prop} {x y z : Str} {i j k : Nat} {body : List Stmt} {px py pz pt : Pos} {kk : Nat}
    (q : wE X a σ H fun v H1 => ∃ ad xs, v = .ref ad ∧ SqT X.K H1 ad xs ∧ ∃ Pv : Nat → L2.St → Hp → Prop, Pv 0 σ H1 ∧ (∀ n σ H, n ≤ xs.length → Pv n σ H → SqT X.K H ad xs) ∧
      (∀ n u σ H, xs[n]? = some u → Pv n σ H → ∃ t u1 u2 u3, u = .ref t ∧ SqT X.K H t [u1, u2, u3] ∧ wL X body ⟨Pv (n + 1), rt, nx, Pv (n + 1)⟩ (((σ.set i (some u1)).set j (some u2)).set k (some u3)) H) ∧ ∀ σ H, Pv xs.length σ H → nx σ H)
    (I : In X N G sc := by assumption) (hc : X.calm = true := by rfl) (hA : At N i x := by repeat (first | with_reducible apply At.z | with_reducible apply At.s)) (hB : At N j y := by repeat (first | with_reducible apply At.z | with_reducible apply At.s)) (hC : At N k z := by repeat (first | with_reducible apply At.z | with_reducible apply At.s))
    (hs2 : ∀ z, foldedSetIterable a X.env z = pure z := by intro _; rfl) :
    wS X (.For (.Tuple [.Name x px, .Name y py, .Name z pz] kk pt) a body [] pos) ⟨nx, rt, bk, ct⟩ σ H := by
  refine s_of (ps_for I.never hc (pi_tup pe) (pg_tup hc (pgs_cons (pg_name I.nd (I.hi hA) (I.loc hA) I.f) (pgs_cons (pg_name I.nd (I.hi hB) (I.loc hB) I.f) (pgs_cons (pg_name I.nd (I.hi hC) (I.loc hC) I.f) pgs_nil)))) pl hs2) (e_mono q fun v H1 q1 => ?_)
  obtain ⟨ad, xs, rfl, hl, Pv, h0, hk, hb, hd⟩ := q1
  refine ⟨ad, rfl, ⟨xs, hl⟩, for_tup Pv h0 hk (fun n u σ H hu p => ?_) hd⟩
  obtain ⟨t, u1, u2, u3, rfl, hq, z⟩ := hb n u σ H hu p
  exact ⟨t, [u1, u2, u3], rfl, hq, rfl, u1, [u2, u3], rfl, u2, [u3], rfl, u3, [], rfl, rfl, z⟩
end
end Wk

set_option maxHeartbeats 4000000
/-! My own layer: dicts, membership, least and greatest of a list, and the like. -/
namespace Wk
open PySem PySem.Spec PyProof.Rows L2
section
variable {X : Cx} {e a b c f o i : Expr} {es rest : List Expr} {σ : L2.St} {H : Hp} {Q : VK} {pos p0 apos : Pos} {N G G' : List Str} {Vn : List (Nat × Str)} {sc scope : Scope} {n : Nat}
theorem e_dg (hr : Room n X.A) (q : wE X o σ H fun x H1 => wE X i σ H1 fun y H2 => ∃ a v, x = .ref a ∧ DGet H2 a y (some v) ∧ Q v H2) (hs : NoSl i := by intro _ _; rfl) : wE X (.Subscript o i pos) σ H Q := e_of (pe_dget (hu_of hr) pe pe hs) q
theorem dg_k {ad : Addr} {kvs : List (Key × L2.V)} {z : Str} {v : L2.V} (h : H ad = some (.dK kvs)) (e : valV kvs (Sum.inr z) = some v) : DGet H ad (.str z) (some v) := by
  have g := DGet.k (k := (Sum.inr z : Key)) h
  rw [e] at g
  exact g
theorem dg_f {ad : Addr} {ob : Obj} {kvs : List (Key × L2.V)} {z : Str} {v : L2.V} (h : H ad = some (.frz ob (.dK kvs))) (e : valV kvs (Sum.inr z) = some v) : DGet H ad (.str z) (some v) :=
  .inl ⟨kvs, Sum.inr z, .inr ⟨ob, h⟩, rfl, e.symm⟩
theorem e_dget2 (hr : Room n X.A) (q : wE X o σ H fun x H1 => ∃ a, x = .ref a ∧ IsD H1 a ∧ wE X e σ H1 fun y H2 => wE X f σ H2 fun z H3 => ∃ o, DGet H3 a y o ∧ Q (o.getD z) H3)
    (m : M2 X o "get" apos e f pos := by exact ⟨rfl, rfl, rfl, rfl⟩) : wE X (.Call (.Attribute o "get" apos) [e, f] [] pos) σ H Q := e_of (pe_dget2 (hu_of hr) pe pe pe m) q
theorem e_dnew (q : ∀ p, H p = none → Q (.ref p) (upd H p (.dK []))) : wE X (.Dict [] [] pos) σ H Q := e_of pe_dnewK q
theorem o_in {x : L2.V} {p : Addr} {xs : List L2.V} (h : SqL X.K H p xs) (hx : flatV x = true) (hs : xs.all flatV = true) (q : Q (.bl (inV x xs)) H) : wK X .In x (.ref p) H Q := k_of op_in_seq ⟨p, xs, rfl, .inl h, hx, hs, q⟩
theorem o_nin {x : L2.V} {p : Addr} {xs : List L2.V} (h : SqL X.K H p xs) (hx : flatV x = true) (hs : xs.all flatV = true) (q : Q (.bl (!inV x xs)) H) : wK X .NotIn x (.ref p) H Q := k_of op_notIn_seq ⟨p, xs, rfl, .inl h, hx, hs, q⟩
theorem o_inS {c : Nat} {z : Str} (q : Q (.bl (decide (c ∈ z.cps.toList))) H) : wK X .In (.str ⟨#[c]⟩) (.str z) H Q := k_of op_in_sign ⟨c, z, rfl, rfl, q⟩
theorem c_minL {p : Addr} {ns : List Int} (hc : X.calm = true) (h : SqL X.K H p (ns.map V.int)) (h0 : 0 < ns.length) {m0 : Int} (h1 : m0 ∈ ns) (h2 : ∀ y ∈ ns, m0 ≤ y) (q : Q (.int m0) H) : wC X (.builtin "min") [.ref p] H Q :=
  c_of (cr_min hc) ⟨p, ns, rfl, h, h0, fun m hm hle => by
    have e : m = m0 := Int.le_antisymm (hle m0 h1) (h2 m hm)
    rw [e]
    exact q⟩
theorem c_maxL {p : Addr} {ns : List Int} (hc : X.calm = true) (h : SqL X.K H p (ns.map V.int)) (h0 : 0 < ns.length) {m0 : Int} (h1 : m0 ∈ ns) (h2 : ∀ y ∈ ns, y ≤ m0) (q : Q (.int m0) H) : wC X (.builtin "max") [.ref p] H Q :=
  c_of (cr_max hc) ⟨p, ns, rfl, h, h0, fun m hm hle => by
    have e : m = m0 := Int.le_antisymm (h2 m hm) (hle m0 h1)
    rw [e]
    exact q⟩
theorem c_setTx {l : Addr} {zs : List Str} (hc : X.calm = true) (h : SqL X.K H l (zs.map V.str)) (hb : zs.length + 1 < scanBound) (q : ∀ p, H p = none → Q (.ref p) (upd H p (SetTO X.w p (uniqL zs)))) : wC X (.type "set") [.ref l] H Q := c_of (cr_setOfTx hc) ⟨l, zs, rfl, h, hb, q⟩
theorem c_sortedTx {p : Addr} {L : List Str} (hc : X.calm = true) (h : H p = some (SetTO X.w p L)) (h64 : L.length < 64) (q : ∀ (ys : List Str) (l : Addr) H2, ys.Perm L → sortedS ys = true → Same H H2 → H l = none → H2 l = some (.lst (ys.map V.str)) → Q (.ref l) H2) : wC X (.builtin "sorted") [.ref p] H Q :=
  c_of (cr_sortedTx hc) ⟨p, L, rfl, h, h64, fun ys l pm hs np => q ys l _ pm hs (fun b o eo => by rw [upd_ne (ne_of_none eo np)]; exact eo) np upd_same⟩
theorem c_sortedL {p : Addr} {zs : List Str} (h : SqL X.K H p (zs.map V.str)) (h64 : zs.length < 64) (q : ∀ (ys : List Str) (l : Addr) H2, ys.Perm zs → sortedS ys = true → Same H H2 → H l = none → H2 l = some (.lst (ys.map V.str)) → Q (.ref l) H2) : wC X (.builtin "sorted") [.ref p] H Q :=
  c_of cr_sortedS ⟨p, zs, rfl, h, h64, fun ys l pm hs np => q ys l _ pm hs (fun b o eo => by rw [upd_ne (ne_of_none eo np)]; exact eo) np upd_same⟩
theorem c_tupL {p : Addr} {xs : List L2.V} (h : SqL X.K H p xs) (q : ∀ l H2, Same H H2 → H l = none → H2 l = some (.tup xs) → Q (.ref l) H2) : wC X (.type "tuple") [.ref p] H Q :=
  c_of call_tuple_of ⟨p, xs, rfl, .inl ⟨h, fun l np => q l _ (fun b o eo => by rw [upd_ne (ne_of_none eo np)]; exact eo) np upd_same⟩⟩
theorem c_strI {k : Int} (h : k.natAbs.log2 < 1920) (q : Q (.str (toString k)) H) : wC X (.type "str") [.int k] H Q := c_of call_str_int ⟨k, rfl, h, q⟩
theorem c_intB {k : Bool} (q : Q (.int (if k then 1 else 0)) H) : wC X (.type "int") [.bl k] H Q := c_of call_int1 (.inr ⟨k, rfl, q⟩)
theorem e_tupRev {g1 g2 : Nat} {p p2 pos2 : Pos} (hm : X.mg "tuple" = none) (hm2 : X.mg "reversed" = none) (q : wE X e σ H fun v H1 => ∃ (a : Addr) (xs : List L2.V), v = .ref a ∧ SqT X.K H1 a xs ∧ ∀ q H2, Same H1 H2 → H1 q = none → H2 q = some (.tup xs.reverse) → Q (.ref q) H2)
    (I : In X N G sc := by assumption) (hc : X.calm = true := by rfl) (hG : At G g1 ("tuple" : Str) := by repeat (first | with_reducible apply At.z | with_reducible apply At.s)) (hG2 : At G g2 ("reversed" : Str) := by repeat (first | with_reducible apply At.z | with_reducible apply At.s))
    (hs : starEach [e] X.env = (false, eval e X.env) :: starEach [] X.env := by rfl) (hs2 : starEach [.Call (.Name "reversed" p2) [e] [] pos2] X.env = (false, eval (.Call (.Name "reversed" p2) [e] [] pos2) X.env) :: starEach [] X.env := by rfl) :
    wE X (.Call (.Name "tuple" p) [.Call (.Name "reversed" p2) [e] [] pos2] [] pos) σ H Q :=
  e_of (pe_tupRt hc (I.g hG) hm (I.g hG2) hm2 pe hs hs2) (e_mono q fun v H1 ⟨a, xs, ev, hq, z⟩ => ⟨a, xs, ev, hq, fun l np => z l _ (fun b o eo => by rw [upd_ne (ne_of_none eo np)]; exact eo) np upd_same⟩)
theorem e_clear (q : wE X o σ H fun x H1 => ∃ l xs, x = .ref l ∧ H1 l = some (.lst xs) ∧ Q .non (upd H1 l (.lst [])))
    (hbase : attributeBase o "clear" X.env (eval o X.env) = eval o X.env := by rfl) (hline : (apos.endLine == pos.line) = true := by rfl) : wE X (.Call (.Attribute o "clear" apos) [] [] pos) σ H Q := by
  refine e_of (pe_bm0 PySem.F.plainAttrs_list PySem.F.slot_list_clear PySem.F.type_list_clear mt_clear pe hbase hline) (e_mono q fun x H1 z => ?_)
  obtain ⟨l, xs, rfl, h1, h2⟩ := z
  exact ⟨.inl ⟨rfl, _, SqL.of h1⟩, l, xs, rfl, rfl, h1, h2⟩
theorem b_callTy {g : Nat} {x : Str} {T : String} (hm : X.mg x = none) (hv : bootBuiltins x = some (.type T)) (q : wA X (e :: es) σ H fun vs H1 => wC X (.type T) vs H1 Q) (I : InB X Vn G := by assumption) (hG : At G g x := by repeat (first | with_reducible apply At.z | with_reducible apply At.s))
    (he : starEach (e :: es) X.env = (false, eval e X.env) :: starEach es X.env := by rfl) (hpl : (backTo pos (starEach es X.env)).any (·.1) = false := by rfl) : wE X (.Call (.Name x p0) (e :: es) [] pos) σ H Q := e_of (pe_callTy cr (I.g hG) hm hv pa (I.gn hG) (I.gd hG) he hpl) q
theorem b_bltn {g : Nat} {x : Str} {v : L2.V} {u : Value} (hm : X.mg x = none) (hv : bootBuiltins x = some u) (r : RelV v u) (q : Q v H) (I : InB X Vn G := by assumption) (hG : At G g x := by repeat (first | with_reducible apply At.z | with_reducible apply At.s)) : wE X (.Name x pos) σ H Q := e_of (pe_bltn (I.g hG) hm hv r (I.gn hG) (I.gd hG)) q
theorem o_eqD {x y : L2.V} {d e : PyData} (hr : Room n X.A) (h1 : Dp X.K H x d) (h2 : Dp X.K H y e) (s1 : SeqAt.shaped d = true) (s2 : SeqAt.shaped e = true) (q : Q (.bl (PyData.eqv d e)) H) : wK X .Eq x y H Q := k_of (op_eqD hr.units) ⟨d, e, h1, h2, s1, s2, q⟩
theorem o_neD {x y : L2.V} {d e : PyData} (hr : Room n X.A) (h1 : Dp X.K H x d) (h2 : Dp X.K H y e) (s1 : SeqAt.shaped d = true) (s2 : SeqAt.shaped e = true) (q : Q (.bl (!PyData.eqv d e)) H) : wK X .NotEq x y H Q := k_of (op_neD hr.units) ⟨d, e, h1, h2, s1, s2, q⟩
theorem b_set : bootBuiltins "set" = some (.type "set") := by decide +kernel
theorem b_sorted : bootBuiltins "sorted" = some (.builtin "sorted") := by decide +kernel
theorem ixr_d (hu : X.A.units + 1 < cLine) : IxR X (fun x y H Q => ∃ a v, x = .ref a ∧ DGet H a y (some v) ∧ Q v H) := by
  intro value slice pins s σ H x y v u Q I rx ry h hs
  obtain ⟨ad, z, rfl, g, q⟩ := h
  cases rx
  have hT := dict_typeIs I g
  unfold subscriptTail
  refine wpAny_bind ?_
  rw [getitemInPython_of_ne hT.not_modules]
  refine wpAny_bind (wpAny_specialOf hT PySem.F.slot_dict_getitem.lookup ?_)
  have fin : wpAny (model X.prog X.w) X.A (subscripted slice false (.ref ad) u) (fun r s3 => wpAny (model X.prog X.w) X.A (letTemporaryGo value (.ref ad) r >>= fun _ => pure r) (EP X pins σ Q) X.xe s3) X.xe s := by
    rw [hs]
    refine wpAny_operating (d_getItem hu I g ry fun w2 s2 I2 r2 => wpAny_bind (wpAny_letTemporaryGo (wpAny_pure ?_)))
    exact ⟨z, H, I2, r2, q⟩
  first
    | exact wpAny_pure (wpAny_bind fin)
    | exact wpAny_bind fin
    | exact wpAny_pure fin
theorem ix_d {x y : L2.V} (hr : Room n X.A) (q : ∃ a v, x = .ref a ∧ DGet H a y (some v) ∧ Q v H) : wIx X x y H Q := ix_of (ixr_d (hu_of hr)) q
end
end Wk

set_option maxHeartbeats 4000000
/-! My own layer: dicts of the module's top, comprehensions over a tuple with a test, slices of tuples, xs[::-1], extend, reversed, displayed dicts, copies and == of dicts, walks over a dict. -/
namespace Wk
open PySem PySem.Spec PyProof.Rows L2
/-- a dict of the module's top, its keys ints and texts -/
def KDict (w : World) (K : PySem.W.Frag) (D : Addr) (kvs : List (Key × L2.V)) : Prop := ∃ (o : Obj) (vs : List (Key × Value)), K.lookup D = some o ∧ KV kvs vs ∧ ∀ P, PySem.Obj.IsDictOf (mixKind P w) o vs
theorem pairs_mk {P : Program} {w : World} : ∀ (ts : List (Str × Tok × Value)), Pairs (mixKind P w) (ts.map fun x => (⟨hashStr w x.1, .str x.1 x.2.1, x.2.2⟩ : DictEntry)) (ts.map fun x => ((Sum.inr x.1 : Key), x.2.2))
  | [] => .nil
  | t :: ts => .cons (mixKind_str P w _ _) rfl (pairs_mk ts)
theorem kdict_mk {w : World} {K : PySem.W.Frag} {D : Addr} {o : Obj} {n : Nat} {kvs : List (Key × L2.V)} (ts : List (Str × Tok × Value)) (l : K.lookup D = some o) (hx : o.ExactDict) (hd : o.data = .dict (ts.map fun x => (⟨hashStr w x.1, .str x.1 x.2.1, x.2.2⟩ : DictEntry)).toArray n)
    (hk : KV kvs (ts.map fun x => ((Sum.inr x.1 : Key), x.2.2))) (nd : (ts.map (·.1)).Nodup) : KDict w K D kvs := by
  refine ⟨o, _, l, hk, fun P => ⟨_, n, hx, hd, ?_, ?_, ?_⟩⟩
  · intro e he
    obtain ⟨t, ht, rfl⟩ := List.mem_map.mp (List.mem_toArray.mp he)
    exact ⟨Sum.inr t.1, mixKind_str P w _ _, rfl⟩
  · rw [List.toList_toArray]
    exact pairs_mk ts
  · rw [List.map_map]
    have e : (ts.map ((fun x : Key × Value => x.1) ∘ fun x : Str × Tok × Value => ((Sum.inr x.1 : Key), x.2.2))) = (ts.map (·.1)).map Sum.inr := by rw [List.map_map]; rfl
    rw [e]
    exact List.pairwise_map.mpr (List.Pairwise.imp (fun h e => h (Sum.inr.inj e)) nd)
section
variable {X : Cx} {e a b c elt : Expr} {es rest : List Expr} {σ : L2.St} {H : Hp} {Q : VK} {pos p0 : Pos} {N G G' : List Str} {Vn : List (Nat × Str)} {sc scope : Scope}
theorem ixr_kd : IxR X (fun x y H Q => ∃ a kvs z v, x = .ref a ∧ y = .str z ∧ KDict X.w X.K a kvs ∧ valV kvs (Sum.inr z) = some v ∧ Q v H) := by
  intro value slice pins s σ H x y v u Q I rx ry h hs
  obtain ⟨ad, kvs, z, v0, rfl, rfl, ⟨o, vs, hl, hkv, hd⟩, hv, q⟩ := h
  cases rx
  have dd : s.heap.DictOf (mixKind X.prog X.w) ad vs := Heap.dictOf_iff.mpr ⟨o, I.kIn ad o hl, hd X.prog⟩
  have hT := dd.typeIs
  unfold subscriptTail
  refine wpAny_bind ?_
  rw [getitemInPython_of_ne hT.not_modules]
  refine wpAny_bind (wpAny_specialOf hT PySem.F.slot_dict_getitem.lookup ?_)
  obtain ⟨w', hw, rw'⟩ := RelO.some_of (v := v0) (o := valueAt vs (Sum.inr z)) (by rw [← hv]; exact hkv.val (Sum.inr z))
  have fin : wpAny (model X.prog X.w) X.A (subscripted slice false (.ref ad) u) (fun r s3 => wpAny (model X.prog X.w) X.A (letTemporaryGo value (.ref ad) r >>= fun _ => pure r) (EP X pins σ Q) X.xe s3) X.xe s := by
    rw [hs]
    refine wpAny_operating (wpAny_getItem_of (knd := mixKind X.prog X.w) (k := (Sum.inr z : Key)) (kV_is (k := Sum.inr z) ry) dd.mapOf hw ?_)
    refine wpAny_bind (wpAny_letTemporaryGo (wpAny_pure ?_))
    exact ⟨v0, H, I.tok _, rw', q⟩
  first
    | exact wpAny_pure (wpAny_bind fin)
    | exact wpAny_bind fin
    | exact wpAny_pure fin
theorem ix_kd {D : Addr} {kvs : List (Key × L2.V)} {z : Str} {v : L2.V} (h : KDict X.w X.K D kvs) (e : valV kvs (Sum.inr z) = some v) (q : Q v H) : wIx X (.ref D) (.str z) H Q := ix_of ixr_kd ⟨D, kvs, z, v, rfl, rfl, h, e, q⟩
theorem o_inT {x : L2.V} {p : Addr} {xs : List L2.V} (h : SqT X.K H p xs) (hx : flatV x = true) (hs : xs.all flatV = true) (q : Q (.bl (inV x xs)) H) : wK X .In x (.ref p) H Q := k_of op_in_seq ⟨p, xs, rfl, .inr h, hx, hs, q⟩
theorem o_catA {p r : Addr} {xs ys : List L2.V} (h1 : H p = some (.tup xs)) (h2 : H r = some (.tup ys)) (hz : xs.length + ys.length ≤ 200000) (q : ∀ t H2, Same H H2 → H2 t = some (.tup (xs ++ ys)) → Q (.ref t) H2) : wB X .Add (.ref p) (.ref r) H Q := by
  refine b_of op_catA ⟨p, r, xs, ys, rfl, rfl, SqT.of h1, SqT.of h2, by show _ ≤ 2 ^ 24; omega, fun e => ?_, fun _ e => ?_, fun _ _ t ht => ?_⟩
  · subst e
    exact q r H (Same.refl H) h2
  · subst e
    refine q p H (Same.refl H) ?_
    rw [List.append_nil]
    exact h1
  · exact q t _ (fun c u eo => by rw [upd_ne (ne_of_none eo ht)]; exact eo) upd_same
theorem cut_hi {xs ys : List L2.V} : cutV (xs ++ ys) none (some (xs.length : Int)) = xs := by
  unfold cutV
  rw [HT.sIx_none, HT.sIx_nat, List.length_append, Nat.min_eq_left (by omega), List.drop_zero, Nat.sub_zero, List.take_left]
theorem cut_lo {xs ys : List L2.V} : cutV (xs ++ ys) (some (xs.length : Int)) none = ys := by
  unfold cutV
  rw [HT.sIx_none, HT.sIx_nat, List.length_append, Nat.min_eq_left (by omega), List.drop_left, Nat.add_sub_cancel_left, List.take_length]
/-- t[:k] of t = xs ++ ys, k the length of xs -/
theorem e_tHi (q : wE X e σ H fun x H1 => wE X b σ H1 fun y H2 => ∃ p xs ys, x = .ref p ∧ y = .int (xs.length : Int) ∧ H2 p = some (.tup (xs ++ ys)) ∧ ∀ t H3, Same H2 H3 → H3 t = some (.tup xs) → Q (.ref t) H3) {p2 : Pos} : wE X (.Subscript e (.Slice none (some b) none p2) pos) σ H Q := by
  refine e_slL1 sl_tupA (e_mono q fun x H1 z => e_mono z fun y H2 ⟨p, xs, ys, ex, ey, ht, q⟩ => ⟨_, ey, p, xs ++ ys, ex, SqT.of ht, fun hw => ?_, fun _ t nt => ?_⟩)
  · refine q p H2 (Same.refl H2) ?_
    have e : xs ++ ys = xs := by
      have h2 := hw.2
      rw [HT.sIx_nat, List.length_append] at h2
      have : ys = [] := by
        cases ys with
        | nil => rfl
        | cons y ys => simp only [List.length_cons] at h2; omega
      rw [this, List.append_nil]
    rw [e] at ht
    exact ht
  · refine q t _ (fun c u eo => by rw [upd_ne (ne_of_none eo nt)]; exact eo) ?_
    rw [cut_hi]
    exact upd_same
theorem e_tLo (q : wE X e σ H fun x H1 => wE X a σ H1 fun y H2 => ∃ p xs ys, x = .ref p ∧ y = .int (xs.length : Int) ∧ H2 p = some (.tup (xs ++ ys)) ∧ ∀ t H3, Same H2 H3 → H3 t = some (.tup ys) → Q (.ref t) H3) {p2 : Pos} : wE X (.Subscript e (.Slice (some a) none none p2) pos) σ H Q := by
  refine e_slL0 sl_tupA (e_mono q fun x H1 z => e_mono z fun y H2 ⟨p, xs, ys, ex, ey, ht, q⟩ => ⟨_, ey, p, xs ++ ys, ex, SqT.of ht, fun hw => ?_, fun _ t nt => ?_⟩)
  · refine q p H2 (Same.refl H2) ?_
    have e : xs ++ ys = ys := by
      have h2 := hw.1
      rw [HT.sIx_nat, List.length_append] at h2
      have : xs = [] := by
        cases xs with
        | nil => rfl
        | cons y xs => simp only [List.length_cons] at h2; omega
      rw [this, List.nil_append]
    rw [e] at ht
    exact ht
  · refine q t _ (fun c u eo => by rw [upd_ne (ne_of_none eo nt)]; exact eo) ?_
    rw [cut_lo]
    exact upd_same
theorem e_rev {k : Nat} {p1 p2 p3 : Pos} (q : wE X e σ H fun x H1 => ∃ p xs, x = .ref p ∧ SqL X.K H1 p xs ∧ ∀ t H2, Same H1 H2 → H1 t = none → H2 t = some (.lst xs.reverse) → Q (.ref t) H2) : wE X (.Subscript e (.Slice none none (some (.UnaryOp .USub (.Constant (.int 1) k p1) p2)) p3) pos) σ H Q :=
  e_of (pe_revL pe) (e_mono q fun x H1 ⟨p, xs, ex, h, q⟩ => ⟨p, xs, ex, h, fun t nt => q t _ (fun c u eo => by rw [upd_ne (ne_of_none eo nt)]; exact eo) nt upd_same⟩)
theorem e_ext {o : Expr} {apos : Pos} (q : wE X o σ H fun x H1 => ∃ l xs0, x = .ref l ∧ SqL X.K H1 l xs0 ∧ wE X e σ H1 fun y H2 => ∃ r xs zs, y = .ref r ∧ H2 l = some (.lst xs) ∧ H2 r = some (.lst zs) ∧ xs.length + zs.length ≤ 200000 ∧ Q .non (upd H2 l (.lst (xs ++ zs))))
    (hbase : attributeBase o "extend" X.env (eval o X.env) = eval o X.env := by rfl)
    (hfew : ((backTo pos (starEach (e :: []) X.env)).all (fun x => !x.1) && (backToKw pos (keywordEach [] X.env)).all (fun x => x.1.isSome)
      && decide ((e :: []).length + ([] : List Keyword).length + (if ([] : List Keyword).isEmpty then 0 else 1) < 30)) = true := by rfl)
    (hline : (apos.endLine == pos.line) = true := by rfl) (hs : starEach (e :: []) X.env = (false, eval e X.env) :: starEach [] X.env := by rfl) (hplain : (backTo pos (starEach [] X.env)).any (·.1) = false := by rfl) :
    wE X (.Call (.Attribute o "extend" apos) [e] [] pos) σ H Q := by
  refine e_of (pe_bm PySem.F.plainAttrs_list PySem.F.slot_list_extend PySem.F.type_list_extend mt_extend pe (pa_cons pe pa_nil hs) hbase hfew hline hs hplain) (e_mono q fun x H1 z => ?_)
  obtain ⟨l, xs0, rfl, hl, z⟩ := z
  refine ⟨.inl ⟨rfl, _, hl⟩, e_mono z fun y H2 z2 => ?_⟩
  obtain ⟨r, xs, zs, rfl, h1, h2, h3, h4⟩ := z2
  exact ⟨l, r, xs, zs, rfl, rfl, h1, h2, by show _ ≤ 2 ^ 24; omega, h4⟩
theorem c_dict {p : Addr} {kvs : List (Key × L2.V)} (h : H p = some (.dK kvs)) (q : ∀ t H2, Same H H2 → H t = none → H2 t = some (.dK kvs) → Q (.ref t) H2) : wC X (.type "dict") [.ref p] H Q :=
  c_of call_dictD ⟨p, kvs, rfl, .inl h, fun t nt => q t _ (fun c u eo => by rw [upd_ne (ne_of_none eo nt)]; exact eo) nt upd_same⟩
theorem c_listT {p : Addr} {xs : List L2.V} (h : H p = some (.tup xs)) (q : ∀ l H2, Same H H2 → H l = none → H2 l = some (.lst xs) → Q (.ref l) H2) : wC X (.type "list") [.ref p] H Q :=
  c_of call_list_of ⟨p, xs, rfl, .inr (SqT.of h), fun l np => q l _ (fun c u eo => by rw [upd_ne (ne_of_none eo np)]; exact eo) np upd_same⟩
theorem c_listDn {p : Addr} {kvs : List (Key × L2.V)} (hc : X.calm = true) (h : H p = some (.dK kvs)) (q : ∀ l H2, Same H H2 → H l = none → H2 l = some (.lst (kvs.map fun kv => kV kv.1)) → Q (.ref l) H2) : wC X (.type "list") [.ref p] H Q :=
  c_of (call_list_dK hc) ⟨p, kvs, rfl, h, fun l np => q l _ (fun c u eo => by rw [upd_ne (ne_of_none eo np)]; exact eo) np upd_same⟩
theorem o_eqDt {n : Nat} {p r : Addr} {ks ls : List (Key × L2.V)} (hr : Room n X.A) (h1 : H p = some (.dK ks)) (h2 : H r = some (.dK ls)) (hl : ks.length = ls.length) (hv : ∀ p ∈ ks, valV ls p.1 = some p.2 ∧ flatB p.2 = true) (q : Q (.bl true) H) : wK X .Eq (.ref p) (.ref r) H Q :=
  k_of (op_eq_dictA (by have := hr.units; omega)) ⟨p, r, ks, ls, rfl, rfl, h1, h2, hl, hv, q⟩
/-- {k: v} and {k: v, k2: v2} -/
theorem e_d1 {k v : Expr} (q : ∀ p, H p = none → wE X k σ (upd H p (.dK [])) fun x H1 => wE X v σ H1 fun y H2 => H2 p = some (.dK []) ∧ ∃ z, x = .str z ∧ Q (.ref p) (upd H2 p (.dK [(Sum.inr z, y)]))) : wE X (.Dict [some k] [v] pos) σ H Q := by
  refine e_of (pe_disp (pps_cons pe pe pps_nil) rfl rfl (by simp) (by simp)) fun p np => e_mono (q p np) fun x H1 q1 => e_mono q1 fun y H2 q2 => ?_
  obtain ⟨h, z, rfl, q3⟩ := q2
  exact ⟨h, [(Sum.inr z, y)], rfl, by simp, q3⟩
theorem e_d2 {k v k2 v2 : Expr} (q : ∀ p, H p = none → wE X k σ (upd H p (.dK [])) fun x H1 => wE X v σ H1 fun y H2 => wE X k2 σ H2 fun x2 H3 => wE X v2 σ H3 fun y2 H4 => H4 p = some (.dK []) ∧ ∃ z z2, x = .str z ∧ x2 = .str z2 ∧ z ≠ z2 ∧ Q (.ref p) (upd H4 p (.dK [(Sum.inr z, y), (Sum.inr z2, y2)]))) :
    wE X (.Dict [some k, some k2] [v, v2] pos) σ H Q := by
  refine e_of (pe_disp (pps_cons pe pe (pps_cons pe pe pps_nil)) rfl rfl (by simp) (by simp)) fun p np => e_mono (q p np) fun x H1 q1 => e_mono q1 fun y H2 q2 => e_mono q2 fun x2 H3 q3 => e_mono q3 fun y2 H4 q4 => ?_
  obtain ⟨h, z, z2, rfl, rfl, ne, q5⟩ := q4
  refine ⟨h, [(Sum.inr z, y), (Sum.inr z2, y2)], rfl, by simp, ?_⟩
  have e : mergeK [] [((Sum.inr z : Key), y), (Sum.inr z2, y2)] = [(Sum.inr z, y), (Sum.inr z2, y2)] := by
    show putK (putK [] (Sum.inr z) y) (Sum.inr z2) y2 = _
    unfold putK
    simp [ne]
  rw [e]
  exact q5
/-- for x in reversed(xs), xs a list -/
theorem s_forRv {nx : L2.St → Hp → Prop} {rt : VK} {bk ct : L2.St → Hp → Prop} {g : Nat} {x : Str} {i : Nat} {body : List Stmt} {px p cp pos : Pos} (hm : X.mg "reversed" = none)
    (q : wE X a σ H fun v H1 => ∃ ad xs, v = .ref ad ∧ SqL X.K H1 ad xs ∧ ∃ Pv : Nat → L2.St → Hp → Prop, Pv 0 σ H1 ∧ (∀ k σ H, k ≤ xs.length → Pv k σ H → SqL X.K H ad xs) ∧ (∀ k y σ H, xs.reverse[k]? = some y → Pv k σ H → wL X body ⟨Pv (k + 1), rt, nx, Pv (k + 1)⟩ (σ.set i (some y)) H) ∧ ∀ σ H, Pv xs.length σ H → nx σ H)
    (I : In X N G sc := by assumption) (hc : X.calm = true := by rfl) (hA : At N i x := by repeat (first | with_reducible apply At.z | with_reducible apply At.s)) (hG : At G g ("reversed" : Str) := by repeat (first | with_reducible apply At.z | with_reducible apply At.s))
    (hs : starEach [a] X.env = (false, eval a X.env) :: starEach [] X.env := by rfl) (hs2 : ∀ z, foldedSetIterable (.Call (.Name "reversed" p) [a] [] cp) X.env z = pure z := by intro _; rfl) :
    wS X (.For (.Name x px) (.Call (.Name "reversed" p) [a] [] cp) body [] pos) ⟨nx, rt, bk, ct⟩ σ H := by
  refine s_of (ps_for I.never hc (RT.pi_revA (I.g hG) hm pe hs) (pg_name I.nd (I.hi hA) (I.loc hA) I.f) pl hs2) (e_mono q fun v H1 q1 => ?_)
  obtain ⟨ad, xs, rfl, hl, Pv, h0, hk, hb, hd⟩ := q1
  refine ⟨ad, xs, rfl, .inl ⟨hl, fun k m σ H => m = xs.length - k ∧ k ≤ xs.length ∧ Pv k σ H, ⟨xs.length, by simp, Nat.zero_le _, h0⟩, ?_⟩⟩
  rintro k m σ H ⟨rfl, hi, p⟩
  have q := hk k σ H hi p
  by_cases hlt : k < xs.length
  · refine .inr ⟨⟨hlt, xs, xs[xs.length - 1 - k]'(by omega), q, by simp⟩, Pv (k + 1), fun σ' H' p' => ⟨xs.length - (k + 1), by omega, rfl, hlt, p'⟩, fun x H' y => ?_⟩
    obtain ⟨e, y⟩ := y
    subst e
    refine hb k x σ _ ?_ p
    rw [List.getElem?_reverse hlt]
    exact y xs q
  · have e : k = xs.length := by omega
    subst e
    exact .inl ⟨Nat.le_refl _, hd σ H p⟩
/-- for x in d, d a dict that stands at ad -/
theorem s_forD {nx : L2.St → Hp → Prop} {rt : VK} {bk ct : L2.St → Hp → Prop} {x : Str} {i : Nat} {body : List Stmt} {px pos : Pos} {ad : Addr} {kvs : List (Key × L2.V)} (h : H ad = some (.dK kvs))
    (q : ∀ o, wE X a σ (upd H ad (.frz o (.dK kvs))) fun v H1 => v = .ref ad ∧ H1 ad = some (.frz o (.dK kvs)) ∧ ∃ Pv : Nat → L2.St → Hp → Prop, Pv 0 σ H1 ∧ (∀ k σ H, k ≤ kvs.length → Pv k σ H → H ad = some (.frz o (.dK kvs))) ∧
      (∀ k y v σ H, kvs[k]? = some (y, v) → Pv k σ H → wL X body ⟨Pv (k + 1), fun v H' => H' ad = some (.frz o (.dK kvs)) ∧ rt v (upd H' ad (.dK kvs)), fun σ' H' => H' ad = some (.frz o (.dK kvs)) ∧ nx σ' (upd H' ad (.dK kvs)), Pv (k + 1)⟩ (σ.set i (some (kV y))) H) ∧ ∀ σ H, Pv kvs.length σ H → nx σ (upd H ad (.dK kvs)))
    (I : In X N G sc := by assumption) (hc : X.calm = true := by rfl) (hA : At N i x := by repeat (first | with_reducible apply At.z | with_reducible apply At.s)) (hs2 : ∀ z, foldedSetIterable a X.env z = pure z := by intro _; rfl) :
    wS X (.For (.Name x px) a body [] pos) ⟨nx, rt, bk, ct⟩ σ H := by
  refine s_of (ps_lock (ps_for I.never hc (pi_keys pe) (pg_name I.nd (I.hi hA) (I.loc hA) I.f) pl hs2)) ?_
  refine ⟨ad, .dK kvs, h, trivial, fun o => e_mono (q o) fun v H1 q1 => ?_⟩
  obtain ⟨rfl, h1, Pv, h0, hk, hb, hd⟩ := q1
  refine ⟨ad, o, rfl, .inl ⟨kvs, h1, fun k m σ H => m = kvs.length - k ∧ k ≤ kvs.length ∧ Pv k σ H, ⟨kvs.length, by simp, Nat.zero_le _, h0⟩, ?_⟩⟩
  rintro k m σ H ⟨rfl, hi, p⟩
  have q := hk k σ H hi p
  by_cases hlt : k < kvs.length
  · refine .inr ⟨⟨q, hlt⟩, Pv (k + 1), fun σ' H' p' => ⟨kvs.length - (k + 1), by omega, rfl, hlt, p'⟩, fun x H' y => ?_⟩
    obtain ⟨rfl, ky, v, hkv, rfl⟩ := y
    exact hb k ky v σ _ hkv p
  · have e : k = kvs.length := by omega
    subst e
    exact .inl ⟨⟨q, Nat.le_refl _⟩, q, hd σ H p⟩
/-- [elt for x in t if c], t a tuple -/
def LcTf (X : Cx) (Vn : List (Nat × Str)) (G' : List Str) (elt c : Expr) (scope : Scope) (i : Nat) (ad : Addr) (xs : List L2.V) (D : Addr) (σ : L2.St) (H1 : Hp) (Qd : Hp → Prop) : Prop := ∃ Pv : Nat → Hp → Prop, Pv 0 (upd H1 D (.lst [])) ∧ (∀ k H2, k ≤ xs.length → Pv k H2 → SqT X.K H2 ad xs) ∧
  (∀ k x H2, xs[k]? = some x → Pv k H2 → Turn1 X Vn G' elt c scope i D σ x H2 (Pv (k + 1))) ∧ ∀ H2, Pv xs.length H2 → Qd H2
theorem e_lcTf {i : Nat} {x : Str} {px : Pos} (B : BkOk X.N Vn G' i x sc scope)
    (q : wE X a σ H fun v H1 => ∃ ad xs, v = .ref ad ∧ SqT X.K H1 ad xs ∧ ∀ D, H1 D = none → LcTf X Vn G' elt c scope i ad xs D σ H1 fun H2 => Q (.ref D) H2)
    (I : In X N G sc := by assumption) (hc : X.calm = true := by rfl) (hs2 : ∀ z, foldedSetIterable a X.env z = pure z := by intro _; rfl) :
    wE X (.ListComp elt [⟨.Name x px, a, [c], 0⟩] scope pos) σ H Q := by
  refine e_of (pe_lc (own := [(x, i)]) (g := gName i) (tt := wBkT X Vn G' c scope) (te := wBk X Vn G' elt scope) hc I.nd (pi_tup pe) (B.ok I) (fun s H C cl fp => B.pg I s H C cl fp) (fun s H C cl fp => pts_bk (B.inB I s H C cl fp)) (fun s H C cl fp => pe_bk (B.inB I s H C cl fp)) hs2) (e_mono q fun v H1 q1 => ?_)
  obtain ⟨ad, xs, rfl, hl, q2⟩ := q1
  refine ⟨ad, rfl, ⟨xs, hl⟩, fun D hD => ?_⟩
  obtain ⟨Pv, h0, hk, hs, hd⟩ := q2 D hD
  exact lc_tup Pv h0 hk (fun k x H hx p => turn1_of (hs k x H hx p)) hd
/-- y = [elt for x in range(a) if c] -/
def LcRf (X : Cx) (Vn : List (Nat × Str)) (G' : List Str) (elt c : Expr) (scope : Scope) (i n : Nat) (D : Addr) (σ : L2.St) (H1 : Hp) (Qd : Hp → Prop) : Prop := ∃ Pv : Nat → Hp → Prop, Pv 0 (upd H1 D (.lst [])) ∧
  (∀ k H2, k < n → Pv k H2 → Turn1 X Vn G' elt c scope i D σ (.int (k : Int)) H2 (Pv (k + 1))) ∧ ∀ H2, Pv n H2 → Qd H2
theorem lcRf_of {i n : Nat} {D : Addr} {H1 : Hp} {Qd : Hp → Prop} (q : LcRf X Vn G' elt c scope i n D σ H1 Qd) : ∃ W : Nat → Nat → Hp → Prop, (∃ m, W 0 m (upd H1 D (.lst []))) ∧ ∀ k m H, W k m H →
    ((Itr 0 n).stop k H ∧ Qd H) ∨ ((Itr 0 n).go k H ∧ ∃ Nx : Hp → Prop, (∀ H', Nx H' → ∃ m', m' < m ∧ W (k + 1) m' H') ∧ ∀ x H', (Itr 0 n).yld k H x H' → gName i x (wipe σ [i]) H' fun σ2 H2 => wipe σ2 [i] = wipe σ [i] ∧ wBkT X Vn G' c scope σ2 H2 fun b H3 =>
      if b = true then wBk X Vn G' elt scope σ2 H3 fun y H4 => ∃ acc, H4 D = some (.lst acc) ∧ acc.length < sizeLine ∧ Nx (upd H4 D (.lst (acc ++ [y]))) else Nx H3) := by
  obtain ⟨Pv, h0, hs, hd⟩ := q
  refine lc_range Pv h0 (fun k H hk p => ?_) hd
  rw [Int.zero_add]
  exact turn1_of (hs k H hk p)
theorem s_lcRf {nx : L2.St → Hp → Prop} {rt : VK} {bk ct : L2.St → Hp → Prop} {i j g : Nat} {x y : Str} {px py p cp spos : Pos} (B : BkOk X.N Vn G' i x sc scope) (hm : X.mg "range" = none)
    (q : wE X a σ H fun v H1 => ∃ n : Nat, v = .int n ∧ n < 2 ^ 62 ∧ ∀ D, H1 D = none → LcRf X Vn G' elt c scope i n D σ H1 fun H2 => nx (σ.set j (some (.ref D))) H2)
    (I : In X N G sc := by assumption) (hc : X.calm = true := by rfl) (hA : At N j y := by repeat (first | with_reducible apply At.z | with_reducible apply At.s)) (hG : At G g ("range" : Str) := by repeat (first | with_reducible apply At.z | with_reducible apply At.s))
    (hk : X.env.scope.kind = .function := by rfl) (hy : X.env.scope.names.lookup y = some .local := by rfl) (hl : (py.line == pos.line) = true := by rfl) (ha : (scope.names.any fun (n, k) => n == y && (k == .local || k == .cell)) = false := by decide +kernel)
    (hs : starEach [a] X.env = [(false, eval a X.env)] := by rfl) (hs2 : ∀ z, foldedSetIterable (.Call (.Name "range" p) [a] [] cp) X.env z = pure z := by intro _; rfl) (hs1 : starEach (a :: []) X.env = (false, eval a X.env) :: starEach [] X.env := by rfl) :
    wS X (.Assign [.Name y py] (.ListComp elt [⟨.Name x px, .Call (.Name "range" p) [a] [] cp, [c], 0⟩] scope pos) spos) ⟨nx, rt, bk, ct⟩ σ H := by
  refine s_of (ps_setLc (own := [(x, i)]) (g := gName i) (tt := wBkT X Vn G' c scope) (te := wBk X Vn G' elt scope) hc I.nd (I.hi hA) hy (sw_true hk hy hl ha) (pi_range1 (I.g hG) hm (pa_cons pe pa_nil hs1) hs) (B.ok I) (fun s H C cl fp => B.pg I s H C cl fp) (fun s H C cl fp => pts_bk (B.inB I s H C cl fp)) (fun s H C cl fp => pe_bk (B.inB I s H C cl fp)) hs2) (e_mono q fun v H1 q1 => ?_)
  obtain ⟨n, rfl, hn, q2⟩ := q1
  refine ⟨(n : Int), rfl, by omega, by omega, ?_⟩
  rw [Int.toNat_natCast]
  exact fun D hD => lcRf_of (q2 D hD)
end
end Wk

set_option maxHeartbeats 4000000
/-! My own layer: a walk over zip(a, b), each of the two a list or a tuple. -/
namespace Wk
open PySem PySem.Spec PyProof.Rows L2
/-- what stands on one side of a zip -/
inductive Side where
  | l | t
def Side.con : Side → Heap → Addr → Array Value → Prop
  | .l => fun h a xs => h.IsList a xs
  | .t => fun h a xs => h.IsTuple a xs
def Side.itr : Side → Heap → Addr → Addr → Nat → Prop
  | .l => fun h it a i => h.IsListIter it a i
  | .t => fun h it a i => h.IsTupleIter it a i
def Side.ob : Side → Addr → Obj
  | .l => fun a => { cls := .type "list_iterator", data := .fields #[.ref a, .int 0 0] }
  | .t => fun a => { cls := .type "tuple_iterator", data := .fields #[.ref a, .int 0 0] }
def Side.sq (K : PySem.W.Frag) : Side → Hp → Addr → List V → Prop
  | .l => SqL K
  | .t => SqT K
theorem Side.begins (c : Side) (a : Addr) (xs : Array Value) : Begins (.ref a) (c.ob a) fun h => c.con h a xs := by
  cases c with
  | l => exact begins_list a xs
  | t => exact begins_tuple a xs
theorem Side.draws {P : Program} {w : World} {A : Around} (c : Side) (hh : A.handled = none) (it a : Addr) (ne : a ≠ it) (xs : Array Value) : Draws P w A it [it, a] xs.size (fun i v => xs[i]? = some v) (fun i h => c.itr h it a i ∧ c.con h a xs) := by
  cases c with
  | l => exact Draws.list hh it a ne xs
  | t => exact Draws.tuple hh it a ne xs
theorem Side.own {X : Cx} {pins : List (Addr × Obj)} {σ : L2.St} {H : Hp} {s : Shared} {a : Addr} {xs : List V} (I : Inv X pins σ H s) (c : Side) (h : c.sq X.K H a xs) : ∃ its : List Value, Vals xs its ∧ c.con s.heap a its.toArray := by
  cases c with
  | l => obtain ⟨its, r, p, _⟩ := I.list h; exact ⟨its, r, p.isList⟩
  | t => obtain ⟨its, r, p, _⟩ := I.tuple h; exact ⟨its, r, p⟩
theorem Side.inj {X : Cx} {pins : List (Addr × Obj)} {σ : L2.St} {H : Hp} {s : Shared} {a : Addr} {xs ys : List V} (I : Inv X pins σ H s) (c : Side) (h : c.sq X.K H a xs) (h' : c.sq X.K H a ys) : xs = ys := by
  cases c with
  | l => exact I.list_inj h h'
  | t => exact I.tuple_inj h h'
theorem Side.up {h h' : Heap} {it a : Addr} {i : Nat} (c : Side) (x : c.itr h it a i) (k : ∀ o, h.get? it = some o → h'.get? it = some o) : c.itr h' it a i := by
  cases c with
  | l => exact x.at k
  | t => exact x.at k
theorem Side.nocell {h : Heap} {it a : Addr} {i : Nat} (c : Side) (x : c.itr h it a i) : ∃ o, h.get? it = some o ∧ ∀ v, o.data ≠ .cell v := by
  cases c with
  | l => obtain ⟨o, e, _, d⟩ := x; exact ⟨o, e, fun v q => by rw [d] at q; cases q⟩
  | t => obtain ⟨o, e, _, d⟩ := x; exact ⟨o, e, fun v q => by rw [d] at q; cases q⟩
theorem Side.start {h : Heap} {it a : Addr} (c : Side) (e : h.get? it = some (c.ob a)) : c.itr h it a 0 := by
  cases c with
  | l => exact ⟨_, e, rfl, rfl⟩
  | t => exact ⟨_, e, rfl, rfl⟩
theorem Side.lt {h : Heap} {a : Addr} {xs : Array Value} (c : Side) (x : c.con h a xs) : a < h.objs.size := by
  cases c with
  | l => obtain ⟨o, e, _⟩ := x; exact Heap.lt_size e
  | t => obtain ⟨o, e, _⟩ := x; exact Heap.lt_size e
/-- pairs out of the two sides, as they stand at each turn -/
def ItM (K : PySem.W.Frag) (c d : Side) (a b : Addr) : It :=
  ⟨fun i H => ∃ (xs ys : List V) (x y : V), c.sq K H a xs ∧ d.sq K H b ys ∧ xs[i]? = some x ∧ ys[i]? = some y,
    fun i H v H' => ∃ T x y, v = .ref T ∧ H T = none ∧ H' = upd H T (.tup [x, y]) ∧ (∀ xs, c.sq K H a xs → xs[i]? = some x) ∧ ∀ ys, d.sq K H b ys → ys[i]? = some y,
    fun i H => ∃ xs ys : List V, c.sq K H a xs ∧ d.sq K H b ys ∧ i ≤ xs.length ∧ i ≤ ys.length ∧ (i = xs.length ∨ i = ys.length)⟩
theorem turn_zipM {P : Program} {w : World} {K : PySem.W.Frag} {es : List Expr} {kk : Nat} {tp : Pos} {c d : Side} {a b z TI TO i1 i2 : Addr} (S : ZipSep2 z TI TO i1 i2 [i1, a] [i2, b]) (na : a ≠ i1) (nb : b ≠ i2) :
    Turn P w K (.Tuple es kk tp) (ItM K c d a b) [z, TI, TO, i1, i2] z (fun i h => IsZip h z TI TO .none ∧ IsTupOf2 h TI (.ref i1) (.ref i2) ∧ (∃ u v, IsTupOf2 h TO u v) ∧ c.itr h i1 a i ∧ d.itr h i2 b i) where
  mem := List.mem_cons_self ..
  obj := fun i h ⟨q1, q2, ⟨u, v, q3⟩, q4, q5⟩ e he => by
    simp only [List.mem_cons, List.not_mem_nil, or_false] at he
    rcases he with rfl | rfl | rfl | rfl | rfl
    · exact ⟨_, q1, fun _ r => nomatch r⟩
    · exact ⟨_, q2, fun _ r => nomatch r⟩
    · exact ⟨_, q3, fun _ r => nomatch r⟩
    · exact c.nocell q4
    · exact d.nocell q5
  keep := fun i h h' ⟨q1, q2, ⟨u, v, q3⟩, q4, q5⟩ kp => ⟨kp z (by simp) _ q1, kp TI (by simp) _ q2, ⟨u, v, kp TO (by simp) _ q3⟩, c.up q4 (kp i1 (by simp)), d.up q5 (kp i2 (by simp))⟩
  item := by
    intro X hP hw hK hc i pins s σ H E I fpk ⟨q1, q2, ⟨u, v, q3⟩, q4, q5⟩ ⟨xs, ys, x, y, sx, sy, ex, ey⟩
    subst hP hw hK
    obtain ⟨us, rus, cx⟩ := c.own I sx
    obtain ⟨vs, rvs, cy⟩ := d.own I sy
    obtain ⟨g, eg, rg⟩ := rus.get ex
    obtain ⟨g2, eg2, rg2⟩ := rvs.get ey
    have hh : X.A.in1.handled = none := I.ok.hd hc
    refine wpAny_pyNext_zipD2_item S (c.draws hh i1 a na us.toArray) (d.draws hh i2 b nb vs.toArray) q1 q2 q3 ⟨q4, cx⟩ ⟨q5, cy⟩ ?_ ?_ fun x1 x2 h1 tk p1 p2 n1 n2 n3 n4 n5 _ n7 => ?_
    · rw [List.size_toArray]; exact (List.getElem?_eq_some_iff.mp eg).1
    · rw [List.size_toArray]; exact (List.getElem?_eq_some_iff.mp eg2).1
    rw [List.getElem?_toArray, eg] at p1
    rw [List.getElem?_toArray, eg2] at p2
    cases p1
    cases p2
    have zl : z < s.heap.objs.size := Heap.lt_size q1
    refine ⟨_, rfl, wpAny_letOwnedTupleGo_zip (s := { s with heap := h1, toks := tk }) n1 fun h2 m1 sb => ?_⟩
    have tup2 : h2.get? s.heap.objs.size = some { cls := .type "tuple", data := .seq #[g, g2] } := (sb.2 _ (Nat.ne_of_gt zl)).trans n5
    have I1 : Inv X pins σ (upd H s.heap.objs.size (.tup [x, y])) { s with heap := h2, toks := tk } := by
      refine I.turnedNew (t' := tk) (ch := [z, TI, TO, i1, i2]) (fun e o hb q => ?_) fpk (Nat.le_refl _) ⟨by show 2 ≤ 2 ^ 24; decide, [g, g2], .cons rg (.cons rg2 .nil), ⟨_, tup2, rfl, _, rfl⟩⟩
      simp only [List.mem_cons, List.not_mem_nil, or_false, not_or] at hb
      exact (sb.2 e hb.1).trans (n7 e o hb.1 hb.2.2.1 hb.2.2.2.1 hb.2.2.2.2 q)
    have up : ∀ {e : Addr} {o : Obj}, e ≠ z → h1.get? e = some o → h2.get? e = some o := fun ne q => (sb.2 _ ne).trans q
    refine ⟨.ref s.heap.objs.size, _, I1, rfl, ⟨_, x, y, rfl, I.hok.fresh (Nat.le_refl _), rfl, fun l hl => by rw [c.inj I hl sx]; exact ex, fun l hl => by rw [d.inj I hl sy]; exact ey⟩,
      ⟨m1, up S.TIz (n7 TI _ S.TIz S.TITO S.TIi1 S.TIi2 q2), ⟨g, g2, up S.TOz n2⟩, c.up n3.1 fun o q => up (Ne.symm S.zi1) q, d.up n4.1 fun o q => up (Ne.symm S.zi2) q⟩, fun e he => ?_⟩
    rw [upd_ne]
    · exact (fpk e he).1
    · have : e < s.heap.objs.size := by
        simp only [List.mem_cons, List.not_mem_nil, or_false] at he
        rcases he with rfl | rfl | rfl | rfl | rfl
        · exact zl
        · exact Heap.lt_size q2
        · exact Heap.lt_size q3
        · obtain ⟨o, eo, _⟩ := c.nocell q4; exact Heap.lt_size eo
        · obtain ⟨o, eo, _⟩ := d.nocell q5; exact Heap.lt_size eo
      exact Nat.ne_of_lt this
  done := by
    intro X hP hw hK hc i pins s σ H E I fpk ⟨q1, q2, ⟨u, v, q3⟩, q4, q5⟩ ⟨xs, ys, sx, sy, l1, l2, le⟩
    subst hP hw hK
    obtain ⟨us, rus, cx⟩ := c.own I sx
    obtain ⟨vs, rvs, cy⟩ := d.own I sy
    have g1 := rus.length
    have g2 := rvs.length
    have hh : X.A.in1.handled = none := I.ok.hd hc
    refine wpAny_pyNext_zipD2_end S (c.draws hh i1 a na us.toArray) (d.draws hh i2 b nb vs.toArray) q1 q2 q3 ⟨q4, cx⟩ ⟨q5, cy⟩ (by rw [List.size_toArray]; omega) (by rw [List.size_toArray]; omega) (by rw [List.size_toArray, List.size_toArray]; omega) fun h1 tk kp => ⟨rfl, ?_⟩
    refine I.turnedL (t' := tk) (ch := [z, TI, TO, i1, i2]) (fun e o hb q => ?_) fpk
    simp only [List.mem_cons, List.not_mem_nil, or_false, not_or] at hb
    exact kp e o hb.1 hb.2.2.1 hb.2.2.2.1 hb.2.2.2.2 q
  self := fun A i s Q E st h => wpAny_pyIter_zip st.1 h
/-- zip(e, e2) -/
def iZipM (K : PySem.W.Frag) (c d : Side) (ta : TA) : TI := fun σ H R => ta σ H fun vs H1 => ∃ a b xs ys, vs = [.ref a, .ref b] ∧ c.sq K H1 a xs ∧ d.sq K H1 b ys ∧ R (ItM K c d a b) H1
theorem pi_zipM {X : Cx} {e e2 : Expr} {ta : TA} {p pos tp : Pos} {es : List Expr} {kk : Nat} {c d : Side} (hg : Gl X "zip") (hm : X.mg "zip" = none) (ha : PA X [e, e2] ta)
    (hs : starEach [e, e2] X.env = (false, eval e X.env) :: starEach [e2] X.env := by rfl) (hpl : (backTo pos (starEach [e2] X.env)).any (·.1) = false := by rfl) :
    PI X (.Tuple es kk tp) (.Call (.Name "zip" p) [e, e2] [] pos) (iZipM X.K c d ta) := by
  refine ⟨fun pins s σ H R I h => Call_ (ld_blt I hg hm PyProof.Rows.boot_zip (PyProof.Rows.callWith_type1 (thn (ha.run pos pins s σ H _ I h) fun us s1 ⟨vs, H1, I1, r1, a, b, xs, ys, ev, sx, sy, q⟩ => ?_) hs hpl))⟩
  subst ev
  obtain ⟨u, v, rfl, ru, rv⟩ : ∃ u v, us = [u, v] ∧ RelV (.ref a) u ∧ RelV (.ref b) v := by
    cases r1 with
    | cons r t => cases t with
      | cons r' t => cases t; exact ⟨_, _, rfl, r, r'⟩
  cases ru
  cases rv
  obtain ⟨ws, rw1, cx⟩ := c.own I1 sx
  obtain ⟨zs, rw2, cy⟩ := d.own I1 sy
  have la := c.lt cx
  have lb := d.lt cy
  generalize hN : s1.heap.objs.size = N at la lb
  have nw : ∀ e ∈ [N + 4, N + 2, N + 3, N, N + 1], FpOk X pins H1 e := fun e he => by
    have hle : s1.heap.objs.size ≤ e := by
      rw [hN]
      simp only [List.mem_cons, List.not_mem_nil, or_false] at he
      rcases he with z | z | z | z | z <;> (rw [z]; first | exact Nat.le_refl _ | exact Nat.le_add_right _ _)
    exact I1.fpOk hle (I1.hok.fresh hle)
  refine zip_begins2 (c.begins a ws.toArray) (d.begins b zs.toArray) cx cy fun h1 g1 g2 g3 g4 g5 _ kp => wpAny_pyIter_zip g1 ?_
  rw [hN] at g1 g2 g3 g4 g5 ⊢
  have S : ZipSep2 (N + 4) (N + 2) (N + 3) N (N + 1) [N, a] [N + 1, b] := zip_sep2 (fun e he => by rw [List.mem_singleton.mp he]; exact la) (fun e he => by rw [List.mem_singleton.mp he]; exact lb)
  exact ⟨N + 4, [N + 4, N + 2, N + 3, N, N + 1], _, ItM X.K c d a b, H1, rfl, I1.kept (t' := s1.toks) kp, turn_zipM S (Nat.ne_of_lt la) (Nat.ne_of_lt (Nat.lt_succ_of_lt lb)), ⟨g1, g2, ⟨_, _, g3⟩, c.start g4, d.start g5⟩, nw, q⟩
section
variable {X : Cx} {e a b : Expr} {σ : L2.St} {H : Hp} {N G : List Str} {sc : Scope}
/-- for x, y in zip(a, b): both sides stay while the loop goes -/
theorem s_forZ {nx : L2.St → Hp → Prop} {rt : VK} {bk ct : L2.St → Hp → Prop} (c d : Side) {g : Nat} {x y : Str} {i j : Nat} {body : List Stmt} {px py pt p cp pos : Pos} {kk : Nat} (hm : X.mg "zip" = none)
    (q : wE X a σ H fun v H1 => wE X b σ H1 fun u H2 => ∃ va vb xs ys, v = .ref va ∧ u = .ref vb ∧ c.sq X.K H2 va xs ∧ d.sq X.K H2 vb ys ∧ ∃ Pv : Nat → L2.St → Hp → Prop, Pv 0 σ H2 ∧ (∀ k σ H, k ≤ min xs.length ys.length → Pv k σ H → c.sq X.K H va xs ∧ d.sq X.K H vb ys) ∧
      (∀ k u1 u2 T σ H, xs[k]? = some u1 → ys[k]? = some u2 → Pv k σ H → H T = none → wL X body ⟨Pv (k + 1), rt, nx, Pv (k + 1)⟩ ((σ.set i (some u1)).set j (some u2)) (upd H T (.tup [u1, u2]))) ∧ ∀ σ H, Pv (min xs.length ys.length) σ H → nx σ H)
    (I : In X N G sc := by assumption) (hc : X.calm = true := by rfl) (hA : At N i x := by repeat (first | with_reducible apply At.z | with_reducible apply At.s)) (hB : At N j y := by repeat (first | with_reducible apply At.z | with_reducible apply At.s))
    (hG : At G g ("zip" : Str) := by repeat (first | with_reducible apply At.z | with_reducible apply At.s)) (hs : starEach [a, b] X.env = (false, eval a X.env) :: starEach [b] X.env := by rfl) (hpl : (backTo cp (starEach [b] X.env)).any (·.1) = false := by rfl)
    (hs1 : starEach (b :: []) X.env = (false, eval b X.env) :: starEach [] X.env := by rfl) (hs2 : ∀ z, foldedSetIterable (.Call (.Name "zip" p) [a, b] [] cp) X.env z = pure z := by intro _; rfl) :
    wS X (.For (.Tuple [.Name x px, .Name y py] kk pt) (.Call (.Name "zip" p) [a, b] [] cp) body [] pos) ⟨nx, rt, bk, ct⟩ σ H := by
  refine s_of (ps_for I.never hc (pi_zipM (c := c) (d := d) (I.g hG) hm (pa_cons pe (pa_cons pe pa_nil hs1) hs) hs hpl) (pg_tup hc (pgs_cons (pg_name I.nd (I.hi hA) (I.loc hA) I.f) (pgs_cons (pg_name I.nd (I.hi hB) (I.loc hB) I.f) pgs_nil))) pl hs2) (e_mono q fun v H1 q1 => e_mono q1 fun u H2 q2 => ?_)
  obtain ⟨va, vb, xs, ys, rfl, rfl, sx, sy, Pv, h0, hk, hb, hd⟩ := q2
  refine ⟨va, vb, xs, ys, rfl, sx, sy, fun k m σ H => m = min xs.length ys.length - k ∧ k ≤ min xs.length ys.length ∧ Pv k σ H, ⟨_, rfl, Nat.zero_le _, h0⟩, ?_⟩
  rintro k m σ H ⟨rfl, hle, pv⟩
  obtain ⟨tx, ty⟩ := hk k σ H hle pv
  by_cases lt : k < min xs.length ys.length
  · have l1 : k < xs.length := by omega
    have l2 : k < ys.length := by omega
    refine .inr ⟨⟨xs, ys, xs[k], ys[k], tx, ty, List.getElem?_eq_getElem l1, List.getElem?_eq_getElem l2⟩, Pv (k + 1), fun σ' H' p' => ⟨_, by omega, rfl, lt, p'⟩, fun w H' yl => ?_⟩
    obtain ⟨T, u1, u2, rfl, nT, rfl, y1, y2⟩ := yl
    exact ⟨T, [u1, u2], rfl, SqT.of upd_same, rfl, u1, [u2], rfl, u2, [], rfl, rfl, hb k u1 u2 T σ H (y1 xs tx) (y2 ys ty) pv nT⟩
  · have ek : k = min xs.length ys.length := by omega
    subst ek
    refine .inl ⟨⟨xs, ys, tx, ty, by omega, by omega, by omega⟩, hd σ H pv⟩
/-- [elt for x in range(a) if c], as a value -/
theorem e_lcRf {X : Cx} {elt c a : Expr} {σ : L2.St} {H : Hp} {Q : VK} {pos : Pos} {N G G' : List Str} {Vn : List (Nat × Str)} {sc scope : Scope} {i g : Nat} {x : Str} {px p cp : Pos} (B : BkOk X.N Vn G' i x sc scope) (hm : X.mg "range" = none)
    (q : wE X a σ H fun v H1 => ∃ n : Nat, v = .int n ∧ n < 2 ^ 62 ∧ ∀ D, H1 D = none → LcRf X Vn G' elt c scope i n D σ H1 fun H2 => Q (.ref D) H2)
    (I : In X N G sc := by assumption) (hc : X.calm = true := by rfl) (hG : At G g ("range" : Str) := by repeat (first | with_reducible apply At.z | with_reducible apply At.s))
    (hs : starEach [a] X.env = [(false, eval a X.env)] := by rfl) (hs2 : ∀ z, foldedSetIterable (.Call (.Name "range" p) [a] [] cp) X.env z = pure z := by intro _; rfl) (hs1 : starEach (a :: []) X.env = (false, eval a X.env) :: starEach [] X.env := by rfl) :
    wE X (.ListComp elt [⟨.Name x px, .Call (.Name "range" p) [a] [] cp, [c], 0⟩] scope pos) σ H Q := by
  refine e_of (pe_lc (own := [(x, i)]) (g := gName i) (tt := wBkT X Vn G' c scope) (te := wBk X Vn G' elt scope) hc I.nd (pi_range1 (I.g hG) hm (pa_cons pe pa_nil hs1) hs) (B.ok I) (fun s H C cl fp => B.pg I s H C cl fp) (fun s H C cl fp => pts_bk (B.inB I s H C cl fp)) (fun s H C cl fp => pe_bk (B.inB I s H C cl fp)) hs2) (e_mono q fun v H1 q1 => ?_)
  obtain ⟨n, rfl, hn, q2⟩ := q1
  refine ⟨(n : Int), rfl, by omega, by omega, ?_⟩
  rw [Int.toNat_natCast]
  exact fun D hD => lcRf_of (q2 D hD)
/-- for x in reversed(range(a)) -/
theorem s_forRR {X : Cx} {a : Expr} {σ : L2.St} {H : Hp} {N G : List Str} {sc : Scope} {nx : L2.St → Hp → Prop} {rt : VK} {bk ct : L2.St → Hp → Prop} {g g2 : Nat} {x : Str} {i : Nat} {body : List Stmt} {px p p2 cp cp2 pos : Pos} (hm : X.mg "reversed" = none) (hm2 : X.mg "range" = none)
    (q : wE X a σ H fun v H1 => ∃ n : Nat, v = .int n ∧ n < 2 ^ 62 ∧ ∃ Pv : Nat → L2.St → Hp → Prop, Pv 0 σ H1 ∧ (∀ k σ H, k < n → Pv k σ H → wL X body ⟨Pv (k + 1), rt, nx, Pv (k + 1)⟩ (σ.set i (some (.int ((n - 1 - k : Nat) : Int)))) H) ∧ ∀ σ H, Pv n σ H → nx σ H)
    (I : In X N G sc := by assumption) (hc : X.calm = true := by rfl) (hA : At N i x := by repeat (first | with_reducible apply At.z | with_reducible apply At.s))
    (hG : At G g ("reversed" : Str) := by repeat (first | with_reducible apply At.z | with_reducible apply At.s)) (hG2 : At G g2 ("range" : Str) := by repeat (first | with_reducible apply At.z | with_reducible apply At.s))
    (hs : starEach [.Call (.Name "range" p2) [a] [] cp2] X.env = (false, eval (.Call (.Name "range" p2) [a] [] cp2) X.env) :: starEach [] X.env := by rfl) (hs1 : starEach [a] X.env = (false, eval a X.env) :: starEach [] X.env := by rfl)
    (hs2 : ∀ z, foldedSetIterable (.Call (.Name "reversed" p) [.Call (.Name "range" p2) [a] [] cp2] [] cp) X.env z = pure z := by intro _; rfl) :
    wS X (.For (.Name x px) (.Call (.Name "reversed" p) [.Call (.Name "range" p2) [a] [] cp2] [] cp) body [] pos) ⟨nx, rt, bk, ct⟩ σ H := by
  refine s_of (ps_for I.never hc (pi_revR (I.g hG) hm (prg_1 (I.g hG2) hm2 pe hs1) hs) (pg_name I.nd (I.hi hA) (I.loc hA) I.f) pl hs2) (e_mono q fun v H1 q1 => ?_)
  obtain ⟨n, rfl, hn, Pv, h0, hb, hd⟩ := q1
  refine ⟨(n : Int), rfl, by omega, by omega, by omega, by omega, ?_⟩
  rw [show ((n : Int) - 0).toNat = n by omega]
  refine for_rangeC (n := n) Pv h0 (fun k σ H hk pv => ?_) hd
  rw [show (0 : Int) + ((n : Nat) : Int) - 1 + ((k : Nat) : Int) * (-1) = ((n - 1 - k : Nat) : Int) by omega]
  exact hb k σ H hk pv
end
end Wk

set_option maxHeartbeats 4000000
/-! My own layer: list(zip(a, b)), whose pairs the list holds. -/
namespace Wk
open PySem PySem.Spec PyProof.Rows L2
section
variable {prog : Program} {w : World} {A : Around} {E : Value → Shared → Prop} {s : Shared} {z TI TO T i1 i2 : Addr} {fa fb : List Addr} {n1 n2 i : Nat} {Pa Pb : Nat → Value → Prop} {Sa Sb : Nat → Heap → Prop} {fl : Bool} {oT : Obj}
/-- a turn of a zip whose last tuple is still held -/
theorem zh_item {Q : Value → Shared → Prop} (Z : ZipSep2 z TI TO i1 i2 fa fb) (Da : Draws prog w A i1 fa n1 Pa Sa) (Db : Draws prog w A i2 fb n2 Pb Sb)
    (hz : IsZipHeld s.heap z TI TO T fl) (hT : s.heap.get? T = some oT) (hI : IsTupOf2 s.heap TI (.ref i1) (.ref i2)) (ta : Sa i s.heap) (tb : Sb i s.heap) (la : i < n1) (lb : i < n2)
    (k : ∀ x y g tk, Pa i x → Pb i y → IsZipHeld g z TI TO T true → Sa (i + 1) g → Sb (i + 1) g → IsTupOf2 g s.heap.objs.size x y → g.objs.size = s.heap.objs.size + 1 →
      (∀ e o, e ≠ z → e ≠ i1 → e ≠ i2 → s.heap.get? e = some o → g.get? e = some o) → Q (.ref s.heap.objs.size) { s with heap := g, toks := tk }) :
    wpAny (model prog w) A (Builtin.«zip.__next__» ⟨[.ref z], []⟩) (fun r s' => ∃ v, r = .done (.ret v) ∧ Q v s') E s := by
  obtain ⟨h0, gn, dr, t0, os⟩ := s
  show wpAny _ A (field (.ref z) 2 >>= _) _ E _
  refine wpAny_bind (wpAny_field hz rfl (x := Value.bool false) rfl ?_)
  show wpAny _ A (field (.ref z) 3 >>= _) _ E _
  refine wpAny_bind (wpAny_field hz rfl (x := Value.ref TI) rfl ?_)
  refine wpAny_bind (wpAny_seqItems (s := ⟨h0, gn, dr, t0, os⟩) hI rfl ?_)
  show wpAny _ A (Builtin.SmallTypes.ownedTupleIsFree (.ref z) >>= _) _ E _
  refine wpAny_bind (wpAny_tupleHeld_zip (s := ⟨h0, gn, dr, t0, os⟩) hz hT fun h1 z1 b1 => ?_)
  replace b1 : Heap.SameBut z h0 h1 := b1
  simp only [Bool.false_eq_true, if_false]
  refine wpAny_bind ?_
  rw [← Array.forIn_toList]
  simp only [List.forIn_cons, List.forIn_nil]
  refine wpAny_bind (wpAny_bind (wpAny_holding ?_))
  show wpAny _ A (Builtin.SmallTypes.nextOf (.ref i1) >>= _) _ E ⟨h1, gn, dr, t0, os⟩
  refine wpAny_bind (Da.item i _ _ _ la (Da.over ta b1 Z.zf1) fun x h2 t2 px sx b2 => wpAny_pure ?_)
  replace b2 : Heap.SameBut i1 h1 h2 := b2
  refine wpAny_pure ?_
  refine wpAny_bind (wpAny_bind (wpAny_holding ?_))
  show wpAny _ A (Builtin.SmallTypes.nextOf (.ref i2) >>= _) _ E ⟨h2, gn, dr, t2, os⟩
  refine wpAny_bind (Db.item i _ _ _ lb (Db.over (Db.over tb b1 Z.zf2) b2 Z.sep1_2) fun y h3 t3 py sy b3 => wpAny_pure ?_)
  replace b3 : Heap.SameBut i2 h2 h3 := b3
  refine wpAny_pure (wpAny_pure ?_)
  show wpAny _ A (newTuple [x, y] >>= _) _ E ⟨h3, gn, dr, t3, os⟩
  refine wpAny_bind (wpAny_newTuple ?_)
  have sz : h3.objs.size = h0.objs.size := by rw [b3.1, b2.1, b1.1]
  have z3 : IsZipHeld h3 z TI TO T true := b3.extBut _ _ Z.zi2 (b2.extBut _ _ Z.zi1 z1)
  have kp : ∀ e o, e ≠ z → e ≠ i1 → e ≠ i2 → h0.get? e = some o → h3.get? e = some o := fun e o c1 c2 c3 q => b3.extBut _ _ c3 (b2.extBut _ _ c2 (b1.extBut _ _ c1 q))
  have tp : IsTupOf2 (h3.push { cls := .type "tuple", data := .seq #[x, y] }) h3.objs.size x y := Heap.get?_push_size _ rfl
  have s4 : (h3.push { cls := .type "tuple", data := .seq #[x, y] }).objs.size = h3.objs.size + 1 := Heap.size_push ..
  refine wpAny_pure ⟨_, rfl, ?_⟩
  show Q (.ref h3.objs.size) _
  rw [sz] at tp s4 ⊢
  exact k x y _ t3 px py (Heap.get?_push_of_some _ z3) (Da.frame _ _ _ (Da.over sx b3 Z.sep2_1) fun e _ o q => Heap.get?_push_of_some _ q) (Db.frame _ _ _ sy fun e _ o q => Heap.get?_push_of_some _ q) tp s4 fun e o c1 c2 c3 q => Heap.get?_push_of_some _ (kp e o c1 c2 c3 q)
theorem zh_stop {Q : PySem.Fin → Shared → Prop} (Z : ZipSep2 z TI TO i1 i2 fa fb) (Da : Draws prog w A i1 fa n1 Pa Sa) (Db : Draws prog w A i2 fb n2 Pb Sb)
    (hz : IsZipHeld s.heap z TI TO T fl) (hT : s.heap.get? T = some oT) (hI : IsTupOf2 s.heap TI (.ref i1) (.ref i2)) (ta : Sa i s.heap) (tb : Sb i s.heap) (la : i ≤ n1) (lb : i ≤ n2) (hend : i = n1 ∨ i = n2)
    (k : ∀ g tk e, (∀ c o, c ≠ z → c ≠ i1 → c ≠ i2 → s.heap.get? c = some o → g.get? c = some o) → (∃ o, g.get? e = some o ∧ o.cls = .type "StopIteration") → E (.ref e) { s with heap := g, toks := tk }) :
    wpAny (model prog w) A (Builtin.«zip.__next__» ⟨[.ref z], []⟩) Q E s := by
  obtain ⟨h0, gn, dr, t0, os⟩ := s
  show wpAny _ A (field (.ref z) 2 >>= _) _ E _
  refine wpAny_bind (wpAny_field hz rfl (x := Value.bool false) rfl ?_)
  show wpAny _ A (field (.ref z) 3 >>= _) _ E _
  refine wpAny_bind (wpAny_field hz rfl (x := Value.ref TI) rfl ?_)
  refine wpAny_bind (wpAny_seqItems (s := ⟨h0, gn, dr, t0, os⟩) hI rfl ?_)
  show wpAny _ A (Builtin.SmallTypes.ownedTupleIsFree (.ref z) >>= _) _ E _
  refine wpAny_bind (wpAny_tupleHeld_zip (s := ⟨h0, gn, dr, t0, os⟩) hz hT fun h1 z1 b1 => ?_)
  replace b1 : Heap.SameBut z h0 h1 := b1
  simp only [Bool.false_eq_true, if_false]
  refine wpAny_bind ?_
  rw [← Array.forIn_toList]
  simp only [List.forIn_cons, List.forIn_nil]
  refine wpAny_bind (wpAny_bind (wpAny_holding ?_))
  show wpAny _ A (Builtin.SmallTypes.nextOf (.ref i1) >>= _) _ E ⟨h1, gn, dr, t0, os⟩
  by_cases lt : i < n1
  · have e2 : i = n2 := by omega
    refine wpAny_bind (Da.item i _ _ _ lt (Da.over ta b1 Z.zf1) fun x h2 t2 px sx b2 => wpAny_pure ?_)
    replace b2 : Heap.SameBut i1 h1 h2 := b2
    refine wpAny_pure ?_
    refine wpAny_bind (wpAny_bind (wpAny_holding ?_))
    show wpAny _ A (Builtin.SmallTypes.nextOf (.ref i2) >>= _) _ E ⟨h2, gn, dr, t2, os⟩
    refine wpAny_bind (Db.done ⟨h2, gn, dr, t2, os⟩ _ _ (by rw [← e2]; exact Db.over (Db.over tb b1 Z.zf2) b2 Z.sep1_2) fun h3 e b3 he => ?_)
    replace b3 : Heap.ExtBut i2 h2 h3 := b3
    exact k h3 t2 e (fun c o c1 c2 c3 q => b3 _ _ c3 (b2.extBut _ _ c2 (b1.extBut _ _ c1 q))) he
  · have e1 : i = n1 := by omega
    refine wpAny_bind (Da.done ⟨h1, gn, dr, t0, os⟩ _ _ (by rw [← e1]; exact Da.over ta b1 Z.zf1) fun h3 e b3 he => ?_)
    replace b3 : Heap.ExtBut i1 h1 h3 := b3
    exact k h3 t0 e (fun c o c1 c2 _ q => b3 _ _ c2 (b1.extBut _ _ c1 q)) he
/-- how a zip stands whose tuples the list at L holds -/
def ZS (z TI TO i1 i2 L : Addr) (Sa Sb : Nat → Heap → Prop) (i : Nat) (h : Heap) : Prop := IsTupOf2 h TI (.ref i1) (.ref i2) ∧ Sa i h ∧ Sb i h ∧
  ((IsZip h z TI TO .none ∧ ∃ u v, IsTupOf2 h TO u v) ∨ ∃ T fl oT, IsZipHeld h z TI TO T fl ∧ h.get? T = some oT ∧ T ≠ z ∧ T ≠ i1 ∧ T ≠ i2 ∧ T ≠ L)
theorem zs_item {L : Addr} {Q : Option Value → Shared → Prop} (Z : ZipSep2 z TI TO i1 i2 fa fb) (Da : Draws prog w A.in1 i1 fa n1 Pa Sa) (Db : Draws prog w A.in1 i2 fb n2 Pb Sb) (st : ZS z TI TO i1 i2 L Sa Sb i s.heap) (hL : L < s.heap.objs.size) (la : i < n1) (lb : i < n2)
    (k : ∀ x y g tk, Pa i x → Pb i y → ZS z TI TO i1 i2 L Sa Sb (i + 1) g → IsTupOf2 g s.heap.objs.size x y → g.objs.size = s.heap.objs.size + 1 →
      (∀ e o, e ≠ z → e ≠ TO → e ≠ i1 → e ≠ i2 → s.heap.get? e = some o → g.get? e = some o) → Q (some (.ref s.heap.objs.size)) { s with heap := g, toks := tk }) :
    wpAny (model prog w) A (pyNext (.ref z)) Q E s := by
  obtain ⟨hI, ta, tb, hz⟩ := st
  obtain ⟨o1, l1⟩ := Da.live _ _ ta
  obtain ⟨o2, l2⟩ := Db.live _ _ tb
  have n1' : s.heap.objs.size ≠ i1 := Nat.ne_of_gt (Heap.lt_size l1)
  have n2' : s.heap.objs.size ≠ i2 := Nat.ne_of_gt (Heap.lt_size l2)
  rcases hz with ⟨hz, u, v, hO⟩ | ⟨T, fl, oT, hz, hT, r1, r2, r3, r4⟩
  · have nz : s.heap.objs.size ≠ z := Nat.ne_of_gt (Heap.lt_size hz)
    refine wpAny_pyNext_zipD2_item Z Da Db hz hI hO ta tb la lb fun x y g tk px py z' O' sa sb tp sz kp => ?_
    exact k x y g tk px py ⟨kp _ _ Z.TIz Z.TITO Z.TIi1 Z.TIi2 hI, sa, sb, .inr ⟨_, false, _, z', tp, nz, n1', n2', Nat.ne_of_gt hL⟩⟩ tp sz kp
  · have tz : s.TypeIs (.ref z) "zip" := ⟨_, hz, rfl⟩
    unfold pyNext
    exact wpAny_bind (wpAny_attempt (wpAny_callSpecial?_slot (name := Str.ofString "__next__") tz F.slot_zip_next (wpAny_call_entry F.slot_zip_next tz F.entry_zip_next
      (zh_item Z Da Db hz hT hI ta tb la lb fun x y g tk px py z' sa sb tp sz kp => wpAny_pure (k x y g tk px py ⟨kp _ _ Z.TIz Z.TIi1 Z.TIi2 hI, sa, sb, .inr ⟨T, true, oT, z', kp _ _ r1 r2 r3 hT, r1, r2, r3, r4⟩⟩ tp sz fun e o c1 _ c2 c3 q => kp e o c1 c2 c3 q)) (F.args_zip_next_1 _))))
theorem zs_stop {L : Addr} {Q : Option Value → Shared → Prop} (Z : ZipSep2 z TI TO i1 i2 fa fb) (Da : Draws prog w A.in1 i1 fa n1 Pa Sa) (Db : Draws prog w A.in1 i2 fb n2 Pb Sb) (st : ZS z TI TO i1 i2 L Sa Sb i s.heap) (la : i ≤ n1) (lb : i ≤ n2) (hend : i = n1 ∨ i = n2)
    (k : ∀ g tk, (∀ e o, e ≠ z → e ≠ TO → e ≠ i1 → e ≠ i2 → s.heap.get? e = some o → g.get? e = some o) → Q none { s with heap := g, toks := tk }) :
    wpAny (model prog w) A (pyNext (.ref z)) Q E s := by
  obtain ⟨hI, ta, tb, hz⟩ := st
  rcases hz with ⟨hz, u, v, hO⟩ | ⟨T, fl, oT, hz, hT, r1, r2, r3, r4⟩
  · exact wpAny_pyNext_zipD2_end Z Da Db hz hI hO ta tb la lb hend fun g tk kp => k g tk kp
  · have tz : s.TypeIs (.ref z) "zip" := ⟨_, hz, rfl⟩
    unfold pyNext
    refine wpAny_bind (wpAny_attempt (wpAny_callSpecial?_slot (name := Str.ofString "__next__") tz F.slot_zip_next (wpAny_call_entry F.slot_zip_next tz F.entry_zip_next (zh_stop Z Da Db hz hT hI ta tb la lb hend fun g tk e kp he => ?_) (F.args_zip_next_1 _))))
    obtain ⟨o, ho, hc⟩ := he
    refine wpAny_bind (wpAny_isInstance (T := "StopIteration") (b := true) ⟨o, ho, hc⟩ isSubtype_stop ?_)
    exact wpAny_pure (k g tk fun e o c1 _ c2 c3 q => kp e o c1 c2 c3 q)
/-- the pairs in the list: at rising addresses above lo -/
structure ZG (Pa Pb : Nat → Value → Prop) (lo : Addr) (h : Heap) (as : List Addr) : Prop where
  rise : as.Pairwise (· < ·)
  above : ∀ a ∈ as, lo < a
  pr : ∀ (j : Nat) (a : Addr), as[j]? = some a → ∃ x y, Pa j x ∧ Pb j y ∧ IsTupOf2 h a x y
theorem ZG.there {lo : Addr} {h : Heap} {as : List Addr} (g : ZG Pa Pb lo h as) {a : Addr} (ha : a ∈ as) : a < h.objs.size := by
  obtain ⟨j, hj⟩ := List.mem_iff_getElem?.mp ha
  obtain ⟨_, _, _, _, e⟩ := g.pr j a hj
  exact Heap.lt_size e
end
section
variable {prog : Program} {w : World} {A : Around} {s : Shared} {R : Result → Shared → Prop} {z TI TO i1 i2 : Addr} {fa fb : List Addr} {n1 n2 : Nat} {Pa Pb : Nat → Value → Prop} {Sa Sb : Nat → Heap → Prop}
theorem zs_loop {L lo : Addr} (Z : ZipSep2 z TI TO i1 i2 fa fb) (Da : Draws prog w A.in1.in1 i1 fa n1 Pa Sa) (Db : Draws prog w A.in1.in1 i2 fb n2 Pb Sb) (cz : z ≤ lo) (cO : TO ≤ lo) (c1 : i1 ≤ lo) (c2 : i2 ≤ lo) (cL : L ≤ lo) (lz : L ≠ z) (lI : L ≠ TI) (lO : L ≠ TO) (l1 : L ≠ i1) (l2 : L ≠ i2) (la : L ∉ fa) (lb : L ∉ fb) (hn : min n1 n2 ≤ sizeLine) (res : Value) {hb : Heap}
    (hR : ∀ g tk acc c as, (∀ b o, b ≠ L → b ≠ z → b ≠ TO → b ≠ i1 → b ≠ i2 → hb.get? b = some o → g.get? b = some o) → g.get? L = some { cls := .type "list", dict := none, data := .seq acc c, slots := #[] } → as.length = min n1 n2 → ZG Pa Pb lo g as → acc.toList = as.map Value.ref → R (.ok (.ret res)) { s with heap := g, toks := tk }) :
    ∀ (k i : Nat) (h : Heap) (tk c : Nat) (acc : Array Value) (as : List Addr), min n1 n2 - i = k → i ≤ min n1 n2 → ZS z TI TO i1 i2 L Sa Sb i h → (∀ b o, b ≠ L → b ≠ z → b ≠ TO → b ≠ i1 → b ≠ i2 → hb.get? b = some o → h.get? b = some o) →
      h.get? L = some { cls := .type "list", dict := none, data := .seq acc c, slots := #[] } → acc.toList = as.map Value.ref → as.length = i → ZG Pa Pb lo h as → lo < h.objs.size →
      codeAny (model prog w) A (.builtin "list.extend.loop" ⟨[.ref L, .ref z, res], []⟩) R { s with heap := h, toks := tk } := by
  intro k
  induction k with
  | zero =>
    intro i h tk c acc as hk hi st hkp hL hacc hl hG hlo
    refine codeAny_builtin F.entry_extend_loop ?_
    rw [Around.under_plainId F.plain_extend_loop _]
    show wpAny _ A.in1 (pyNext (.ref z) >>= _) _ _ _
    refine wpAny_bind (zs_stop (s := { s with heap := h, toks := tk }) (A := A.in1) Z Da Db st (by omega) (by omega) (by omega) fun g t' kp => ?_)
    refine wpAny_pure (hR g t' acc c as (fun b o q0 q1 q2 q3 q4 e => kp b o q1 q2 q3 q4 (hkp b o q0 q1 q2 q3 q4 e)) (kp L _ lz lO l1 l2 hL) (by omega) ⟨hG.rise, hG.above, fun j a hj => ?_⟩ hacc)
    obtain ⟨x, y, p1, p2, p3⟩ := hG.pr j a hj
    have ab := hG.above a (List.mem_of_getElem? hj)
    exact ⟨x, y, p1, p2, kp a _ (Nat.ne_of_gt (Nat.lt_of_le_of_lt cz ab)) (Nat.ne_of_gt (Nat.lt_of_le_of_lt cO ab)) (Nat.ne_of_gt (Nat.lt_of_le_of_lt c1 ab)) (Nat.ne_of_gt (Nat.lt_of_le_of_lt c2 ab)) p3⟩
  | succ k ih =>
    intro i h tk c acc as hk hi st hkp hL hacc hl hG hlo
    have lt1 : i < n1 := by omega
    have lt2 : i < n2 := by omega
    have hsz : acc.size = i := by rw [← Array.length_toList, hacc, List.length_map, hl]
    refine codeAny_builtin F.entry_extend_loop ?_
    rw [Around.under_plainId F.plain_extend_loop _]
    show wpAny _ A.in1 (pyNext (.ref z) >>= _) _ _ _
    refine wpAny_bind (zs_item (s := { s with heap := h, toks := tk }) (A := A.in1) Z Da Db st (Heap.lt_size hL) lt1 lt2 fun x y g t' px py st' tp sz kp => ?_)
    dsimp only at tp sz kp ⊢
    have hL' := kp L _ lz lO l1 l2 hL
    have Llt : L < h.objs.size := Heap.lt_size hL
    have up : ∀ b o, b ≠ L → g.get? b = some o → (g.update L (Obj.mapSeq (·.push (Value.ref h.objs.size)))).get? b = some o := fun b o nb e => (Heap.get?_update_other _ _ (Ne.symm nb)).trans e
    show wpAny _ A.in1 (updateSeq L (·.push (Value.ref h.objs.size)) >>= _) _ _ _
    refine wpAny_bind ?_
    refine wpAny_updateSeq hL' rfl (wpAny_pure ⟨plainId_quiet F.plain_extend_loop _, ih (i + 1) _ t' _ (acc.push (Value.ref h.objs.size)) (as ++ [h.objs.size]) (by omega) (by omega) ?_
      (fun b o q0 q1 q2 q3 q4 e => up b o q0 (kp b o q1 q2 q3 q4 (hkp b o q0 q1 q2 q3 q4 e))) (Heap.get?_update_self _ hL' rfl) (by rw [Array.toList_push, hacc, List.map_append]; rfl) (by rw [List.length_append, hl]; rfl) ⟨?_, ?_, ?_⟩ ?_⟩) (by rw [hsz]; omega) (by show (acc.push (Value.ref h.objs.size)).size ≤ sizeLine + 1; rw [Array.size_push, hsz]; omega)
    · obtain ⟨q1, q2, q3, q4⟩ := st'
      refine ⟨up _ _ (Ne.symm lI) q1, Da.frame _ _ _ q2 fun b hb o e => up b o (fun q => la (q ▸ hb)) e, Db.frame _ _ _ q3 fun b hb o e => up b o (fun q => lb (q ▸ hb)) e, ?_⟩
      rcases q4 with ⟨q5, u, v, q6⟩ | ⟨T, fl, oT, q5, q6, r1, r2, r3, r4⟩
      · exact .inl ⟨up _ _ (Ne.symm lz) q5, u, v, up _ _ (Ne.symm lO) q6⟩
      · exact .inr ⟨T, fl, oT, up _ _ (Ne.symm lz) q5, up _ _ r4 q6, r1, r2, r3, r4⟩
    · refine List.pairwise_append.mpr ⟨hG.rise, List.pairwise_singleton _ _, fun a ha b hb' => ?_⟩
      rw [List.mem_singleton.mp hb']
      exact hG.there ha
    · intro a ha
      rcases List.mem_append.mp ha with ha | ha
      · exact hG.above a ha
      · rw [List.mem_singleton.mp ha]; exact hlo
    · intro j b hj
      rcases Nat.lt_trichotomy j as.length with q | q | q
      · rw [List.getElem?_append_left q] at hj
        obtain ⟨x', y', p1, p2, p3⟩ := hG.pr j b hj
        have ab := hG.above b (List.mem_of_getElem? hj)
        exact ⟨x', y', p1, p2, up b _ (Nat.ne_of_gt (Nat.lt_of_le_of_lt cL ab)) (kp b _ (Nat.ne_of_gt (Nat.lt_of_le_of_lt cz ab)) (Nat.ne_of_gt (Nat.lt_of_le_of_lt cO ab)) (Nat.ne_of_gt (Nat.lt_of_le_of_lt c1 ab)) (Nat.ne_of_gt (Nat.lt_of_le_of_lt c2 ab)) p3)⟩
      · subst q
        have eb : h.objs.size = b := by simpa using hj
        subst eb
        exact ⟨x, y, by rw [hl]; exact px, by rw [hl]; exact py, up _ _ (Nat.ne_of_gt Llt) tp⟩
      · rw [List.getElem?_eq_none (by rw [List.length_append, List.length_singleton]; omega)] at hj
        cases hj
    · have e : (g.update L (Obj.mapSeq (·.push (Value.ref h.objs.size)))).get? h.objs.size = _ := up _ _ (Nat.ne_of_gt Llt) tp
      exact Nat.lt_trans hlo (Heap.lt_size e)
end
theorem zip_nolen : typeLookup (.type "zip") "__len__" = pure none := by rw [typeLookup_type, builtinLookup_eq_fast]; kernel_rfl
theorem zip_nohint : typeLookup (.type "zip") "__length_hint__" = pure none := by rw [typeLookup_type, builtinLookup_eq_fast]; kernel_rfl
section
variable {prog : Program} {w : World} {A : Around} {E : Value → Shared → Prop} {s : Shared} {z TI TO i1 i2 : Addr} {fa fb : List Addr} {n1 n2 : Nat} {Pa Pb : Nat → Value → Prop} {Sa Sb : Nat → Heap → Prop}
/-- list(z), z a zip that has not begun -/
theorem list_zip {Q : Value → Shared → Prop} (Z : ZipSep2 z TI TO i1 i2 fa fb) (D4 : Draws prog w A.in1.in1.in1 i1 fa n1 Pa Sa) (D5 : Draws prog w A.in1.in1.in1 i2 fb n2 Pb Sb)
    (hz : IsZip s.heap z TI TO .none) (hI : IsTupOf2 s.heap TI (.ref i1) (.ref i2)) (hO : ∃ u v, IsTupOf2 s.heap TO u v) (ta : Sa 0 s.heap) (tb : Sb 0 s.heap) (fa1 : ∀ b ∈ fa, b < s.heap.objs.size) (fb1 : ∀ b ∈ fb, b < s.heap.objs.size) (hn : min n1 n2 ≤ sizeLine)
    (hQ : ∀ g tk acc c as, (∀ b o, b ≠ z → b ≠ TO → b ≠ i1 → b ≠ i2 → s.heap.get? b = some o → g.get? b = some o) → g.get? s.heap.objs.size = some { cls := .type "list", dict := none, data := .seq acc c, slots := #[] } → as.length = min n1 n2 → ZG Pa Pb s.heap.objs.size g as → acc.toList = as.map Value.ref → Q (.ref s.heap.objs.size) { s with heap := g, toks := tk }) :
    wpAny (model prog w) A (call (.type "list") [.ref z]) Q E s := by
  refine callType_codes (Q₁ := fun ob t => ob = .ref s.heap.objs.size ∧ t = { s with heap := s.heap.push { cls := .type "list", data := .seq #[] } }) F.called_list (F.typeCall_list_1 _) F.entry_list_init (code_list_new _ ⟨rfl, rfl⟩) fun ob t h => ?_
  obtain ⟨rfl, rfl⟩ := h
  have hS : (s.heap.push { cls := .type "list", data := .seq #[] }).get? s.heap.objs.size = some { cls := .type "list", data := .seq #[] } := Heap.get?_push_size _ rfl
  have zlt : z < s.heap.objs.size := Heap.lt_size hz
  have Olt : TO < s.heap.objs.size := let ⟨_, _, e⟩ := hO; Heap.lt_size e
  have Ilt : TI < s.heap.objs.size := Heap.lt_size hI
  have lt1 : i1 < s.heap.objs.size := fa1 _ Z.mem1
  have lt2 : i2 < s.heap.objs.size := fb1 _ Z.mem2
  refine ⟨⟨_, hS, rfl⟩, F.args_list_init_2 _ _, ?_⟩
  show wpAny _ A.in1.in1 (do let old ← Builtin.List.listItems (.ref s.heap.objs.size); Builtin.List.listUpdate (.ref s.heap.objs.size) (fun _ => #[]); letGo old.toList.reverse; Builtin.List.listExtendWith (.ref s.heap.objs.size) (.ref z) .none) _ _ _
  refine wpAny_bind ?_
  unfold Builtin.List.listItems
  refine wpAny_bind (wpAny_seqItems hS rfl (wpAny_pure ?_))
  show wpAny _ A.in1.in1 (updateSeq s.heap.objs.size (fun _ => #[]) >>= fun _ => letGo (#[] : Array Value).toList.reverse >>= fun _ => Builtin.List.listExtendWith (.ref s.heap.objs.size) (.ref z) .none) _ _ _
  refine wpAny_bind (wpAny_updateSeq hS rfl ?_)
  have hS2 := Heap.get?_update_self (Obj.mapSeq (fun _ => (#[] : Array Value))) hS rfl
  refine wpAny_bind (wpAny_letGo ?_)
  have up : ∀ (h : Heap) (f : Obj → Obj), (∀ b o, s.heap.get? b = some o → h.get? b = some o) → ∀ b o, s.heap.get? b = some o → (h.update s.heap.objs.size f).get? b = some o := fun h f q b o e => (Heap.get?_update_other _ _ (Ne.symm (Nat.ne_of_lt (Heap.lt_size e)))).trans (q b o e)
  have k1 : ∀ b o, s.heap.get? b = some o → (s.heap.push { cls := .type "list", data := .seq #[] }).get? b = some o := fun b o e => Heap.get?_push_of_some _ e
  have k2 := up _ (Obj.mapSeq (fun _ => (#[] : Array Value))) k1
  unfold Builtin.List.listExtendWith
  have zt : ∀ {h : Heap} {g : Array GenState} {d : Drawn} {tk : Nat} {os : OsState}, (∀ b o, s.heap.get? b = some o → h.get? b = some o) → Shared.TypeIs ⟨h, g, d, tk, os⟩ (.ref z) "zip" := fun {h g d tk os} q => ⟨_, q _ _ hz, rfl⟩
  refine wpAny_bind (wpAny_typeOf (T := "zip") (zt k2) ?_)
  have e1 : Builtin.List.listSameRef (.ref s.heap.objs.size) (.ref z) = false := by simp [Builtin.List.listSameRef, Nat.ne_of_gt zlt]
  have e2 : (Value.type "zip" == Value.type "list") = false := by decide
  have e3 : (Value.type "zip" == Value.type "tuple") = false := by decide
  simp only [e1, e2, e3, Bool.or_false, Bool.false_eq_true, if_false]
  refine wpAny_bind (wpAny_pyIter_zip (s := { s with heap := _ }) (k2 _ _ hz) ?_)
  refine wpAny_bind (wpAny_holding ?_)
  unfold Builtin.List.listLengthHint
  refine wpAny_bind (wpAny_specialOf (zt k2) zip_nolen ?_)
  show wpAny _ A.in1.in1 (specialOf (Value.ref z) (Str.ofString "__length_hint__") >>= _) _ _ _
  refine wpAny_bind (wpAny_specialOf (zt k2) zip_nohint ?_)
  refine wpAny_pure ?_
  show wpAny _ A.in1.in1 (rule "list.extend.makes-room" >>= fun _ => Builtin.List.listTouch (.ref s.heap.objs.size) >>= fun _ => again (.builtin "list.extend.loop" ⟨[.ref s.heap.objs.size, .ref z, .none], []⟩)) _ _ _
  refine wpAny_bind (wpAny_rule ?_)
  refine wpAny_bind ?_
  show wpAny _ A.in1.in1 (updateSeq s.heap.objs.size (·.push .none) >>= fun _ => updateSeq s.heap.objs.size (·.pop)) _ _ _
  refine wpAny_bind (wpAny_updateSeq hS2 rfl ?_)
  have hS3 := Heap.get?_update_self (Obj.mapSeq (·.push Value.none)) hS2 rfl
  refine wpAny_updateSeq (hz := by seq_fits) hS3 rfl ?_
  have hS4 := Heap.get?_update_self (Obj.mapSeq (·.pop)) hS3 rfl
  have k3 := up _ (Obj.mapSeq (·.push Value.none)) k2
  have k4 := up _ (Obj.mapSeq (·.pop)) k3
  refine wpAny_pure ⟨plainId_quiet F.plain_extend_loop _, zs_loop (A := A.in1) (s := s) (L := s.heap.objs.size) (lo := s.heap.objs.size) (hb := s.heap) Z D4 D5 (Nat.le_of_lt zlt) (Nat.le_of_lt Olt) (Nat.le_of_lt lt1) (Nat.le_of_lt lt2) (Nat.le_refl _) (Nat.ne_of_gt zlt) (Nat.ne_of_gt Ilt) (Nat.ne_of_gt Olt) (Nat.ne_of_gt lt1) (Nat.ne_of_gt lt2)
    (fun q => Nat.lt_irrefl _ (fa1 _ q)) (fun q => Nat.lt_irrefl _ (fb1 _ q)) hn .none (fun g tk acc c as kp hL hl hG hacc => ?_) (min n1 n2) 0 _ s.toks _ #[] [] (Nat.sub_zero _) (Nat.zero_le _)
    ⟨k4 _ _ hI, D4.frame _ _ _ ta fun b _ o e => k4 b o e, D5.frame _ _ _ tb fun b _ o e => k4 b o e, .inl ⟨k4 _ _ hz, let ⟨u, v, e⟩ := hO; ⟨u, v, k4 _ _ e⟩⟩⟩ (fun b o _ _ _ _ _ e => k4 b o e) hS4 rfl rfl ⟨List.Pairwise.nil, (fun a ha => by cases ha), fun j a hj => by simp at hj⟩ (Heap.lt_size hS4)⟩
  exact ⟨rfl, hQ g tk acc c as (fun b o q1 q2 q3 q4 e => kp b o (Nat.ne_of_lt (Heap.lt_size e)) q1 q2 q3 q4 e) hL hl hG hacc⟩
end
/-! ### in the abstract heap -/
def putP : Hp → List Addr → List (V × V) → Hp
  | H, a :: as, p :: ps => putP (upd H a (.tup [p.1, p.2])) as ps
  | H, [], _ => H
  | H, _ :: _, [] => H
theorem putP_off {b : Addr} : ∀ (as : List Addr) (ps : List (V × V)) (H : Hp), b ∉ as → putP H as ps b = H b
  | [], _, _, _ => by unfold putP; rfl
  | _ :: _, [], _, _ => by unfold putP; rfl
  | a :: as, p :: ps, H, h => by
    unfold putP
    rw [putP_off as ps _ (fun q => h (List.mem_cons_of_mem _ q)), upd_ne (fun q => h (by rw [q]; exact List.mem_cons_self))]
theorem putP_at : ∀ (as : List Addr) (ps : List (V × V)) (H : Hp), as.length = ps.length → as.Nodup → ∀ (j : Nat) (a : Addr), as[j]? = some a → ∃ q, ps[j]? = some q ∧ putP H as ps a = some (.tup [q.1, q.2])
  | [], _, _, _, _, j, a, h => by simp at h
  | _ :: _, [], _, h, _, _, _, _ => by simp at h
  | b :: as, p :: ps, H, h, nd, j, a, hj => by
    have nd' := List.nodup_cons.mp nd
    cases j with
    | zero =>
      have e : b = a := by simpa using hj
      subst e
      refine ⟨p, rfl, ?_⟩
      unfold putP
      rw [putP_off as ps _ nd'.1, upd_same]
    | succ j =>
      obtain ⟨q, h1, h2⟩ := putP_at as ps (upd H b (.tup [p.1, p.2])) (by simpa using h) nd'.2 j a (by simpa using hj)
      refine ⟨q, by simpa using h1, ?_⟩
      unfold putP
      exact h2
theorem refs_vals : ∀ as : List Addr, Vals (as.map V.ref) (as.map Value.ref)
  | [] => .nil
  | _ :: as => .cons rfl (refs_vals as)
/-- the list and its pairs are tracked -/
theorem pairs_laid {X : Cx} {pins : List (Addr × Obj)} {σ : L2.St} {H : Hp} {s : Shared} {g : Heap} {tk : Nat} {ps : List (V × V)} {acc : Array Value} {c : Nat} {as : List Addr} {L : Addr} (I : Inv X pins σ H s) (hz : ps.length ≤ sizeLine) (kp : ∀ b o, s.heap.get? b = some o → g.get? b = some o) (hL : s.heap.objs.size ≤ L)
    (hS : g.get? L = some { cls := .type "list", dict := none, data := .seq acc c, slots := #[] }) (hl : as.length = ps.length) (rise : as.Pairwise (· < ·)) (ab : ∀ a ∈ as, L < a) (hacc : acc.toList = as.map Value.ref)
    (pr : ∀ (j : Nat) (a : Addr) (q : V × V), as[j]? = some a → ps[j]? = some q → ∃ x y, RelV q.1 x ∧ RelV q.2 y ∧ IsTupOf2 g a x y) :
    ∃ H' : Hp, Same H H' ∧ H L = none ∧ H' L = some (.lst (as.map V.ref)) ∧ (∀ (j : Nat) (a : Addr), as[j]? = some a → ∃ q, ps[j]? = some q ∧ H' a = some (.tup [q.1, q.2])) ∧ Inv X pins σ H' { s with heap := g, toks := tk } := by
  have nL : L ∉ as := fun q => Nat.lt_irrefl _ (ab _ q)
  have nd : as.Nodup := List.Pairwise.imp (fun {a b} (h : a < b) => Nat.ne_of_lt h) rise
  have nw : ∀ t ∈ as, H t = none := fun t ht => I.hok.fresh (Nat.le_trans hL (Nat.le_of_lt (ab t ht)))
  have nwL : H L = none := I.hok.fresh hL
  have at' := putP_at as ps (upd H L (.lst (as.map V.ref))) hl nd
  have off : ∀ b, b ∉ as → b ≠ L → putP (upd H L (.lst (as.map V.ref))) as ps b = H b := fun b h1 h2 => by rw [putP_off as ps _ h1, upd_ne h2]
  have low : ∀ b o, s.heap.get? b = some o → b ∉ as ∧ b ≠ L := fun b o e => ⟨fun q => absurd (Nat.lt_trans (Nat.lt_of_lt_of_le (Heap.lt_size e) hL) (ab b q)) (Nat.lt_irrefl _), fun q => absurd (Nat.lt_of_lt_of_le (Heap.lt_size e) hL) (by rw [q]; exact Nat.lt_irrefl _)⟩
  have kH : ∀ b u, H b = some u → putP (upd H L (.lst (as.map V.ref))) as ps b = some u := fun b u e => by
    rw [off b (fun q => by rw [nw b q] at e; cases e) (fun q => by rw [q, nwL] at e; cases e)]
    exact e
  have eL : putP (upd H L (.lst (as.map V.ref))) as ps L = some (.lst (as.map V.ref)) := by rw [putP_off as ps _ nL, upd_same]
  refine ⟨_, kH, nwL, eL, at', ?_⟩
  refine I.call' (ch := []) rfl ⟨fun b o q _ _ _ => kp b o q, fun b o q _ _ _ => ⟨o.slots, kp b o q⟩, fun b o q n _ => ?_, fun b o q _ => ⟨o, kp b o q⟩, fun b xs q => kH b _ q, fun b o u q => kH b _ q, fun b qs q => ⟨#[], by rw [kH b _ q]; simp⟩⟩ (fun b u q => ?_) I.bare fun b q => by simp at q
  · obtain ⟨z1, z2⟩ := low b o q
    rw [off b z1 z2]
    exact n
  · by_cases hb : b ∈ as
    · obtain ⟨j, hj⟩ := List.mem_iff_getElem?.mp hb
      obtain ⟨pq, e1, e2⟩ := at' j b hj
      rw [e2] at q
      cases q
      obtain ⟨x, y, r1, r2, tp⟩ := pr j b pq hj e1
      exact ⟨by show 2 ≤ 2 ^ 24; decide, [x, y], .cons r1 (.cons r2 .nil), ⟨_, tp, rfl, _, rfl⟩⟩
    · by_cases hb2 : b = L
      · rw [hb2] at q ⊢
        rw [eL] at q
        cases q
        refine ⟨by rw [List.length_map]; omega, acc.toList, c, by rw [hacc]; exact refs_vals as, ?_⟩
        rw [Array.toArray_toList]
        exact hS
      · rw [off b hb hb2] at q
        exact (I.hok b u q).stay (fun d v _ y => kp d v y) (fun d y => kH d _ y) fun d xs y => kH d _ y
end Wk
namespace Wk
open PySem PySem.Spec PyProof.Rows L2
section
variable {X : Cx} {e a b c elt kx vx o : Expr} {es rest : List Expr} {σ : L2.St} {H : Hp} {Q : VK} {pos p0 apos : Pos} {N G G' : List Str} {Vn : List (Nat × Str)} {sc scope : Scope}
/-- list(zip(a, b)) -/
theorem e_listZ (c d : Side) {g g2 : Nat} {p p2 pos2 : Pos} (hm : X.mg "list" = none) (hmz : X.mg "zip" = none)
    (q : wE X a σ H fun v H1 => wE X b σ H1 fun u H2 => ∃ va vb xs ys, v = .ref va ∧ u = .ref vb ∧ c.sq X.K H2 va xs ∧ d.sq X.K H2 vb ys ∧ min xs.length ys.length ≤ 200000 ∧
      ∀ (L : Addr) (as : List Addr) (H3 : Hp), Same H2 H3 → H2 L = none → H3 L = some (.lst (as.map V.ref)) → as.length = min xs.length ys.length → (∀ (j : Nat) (t : Addr), as[j]? = some t → ∃ x y, xs[j]? = some x ∧ ys[j]? = some y ∧ H3 t = some (.tup [x, y])) → Q (.ref L) H3)
    (I : In X N G sc := by assumption) (hc : X.calm = true := by rfl) (hG : At G g ("list" : Str) := by repeat (first | with_reducible apply At.z | with_reducible apply At.s)) (hGz : At G g2 ("zip" : Str) := by repeat (first | with_reducible apply At.z | with_reducible apply At.s))
    (hs : starEach [.Call (.Name "zip" p2) [a, b] [] pos2] X.env = (false, eval (.Call (.Name "zip" p2) [a, b] [] pos2) X.env) :: starEach [] X.env := by rfl) (hs0 : starEach [a, b] X.env = (false, eval a X.env) :: starEach [b] X.env := by rfl) (hpl : (backTo pos2 (starEach [b] X.env)).any (·.1) = false := by rfl)
    (hs1 : starEach (b :: []) X.env = (false, eval b X.env) :: starEach [] X.env := by rfl) :
    wE X (.Call (.Name "list" p) [.Call (.Name "zip" p2) [a, b] [] pos2] [] pos) σ H Q := by
  unfold wE
  intro pins s I0
  refine wpAny_Call_Name_kw (ld_blt I0 (I.g hG) hm b_list ?_ (I.gn hG) (I.gd hG))
  refine PyProof.Rows.callWith_type1 ?_ hs rfl
  rw [hs]
  show wpAny _ _ (spliced ((false, eval (.Call (.Name "zip" p2) [a, b] [] pos2) X.env) :: backTo pos (starEach [] X.env))) _ _ s
  refine Calls.spliced_cons ?_
  refine Call_ (ld_blt I0 (I.g hGz) hmz PyProof.Rows.boot_zip (PyProof.Rows.callWith_type1 (thn ((pa_cons pe (pa_cons pe pa_nil hs1) hs0).run pos2 pins s σ H (fun vs H2 => ∃ va vb xs ys, vs = [.ref va, .ref vb] ∧ c.sq X.K H2 va xs ∧ d.sq X.K H2 vb ys ∧ min xs.length ys.length ≤ 200000 ∧
      ∀ (L : Addr) (as : List Addr) (H3 : Hp), Same H2 H3 → H2 L = none → H3 L = some (.lst (as.map V.ref)) → as.length = min xs.length ys.length → (∀ (j : Nat) (t : Addr), as[j]? = some t → ∃ x y, xs[j]? = some x ∧ ys[j]? = some y ∧ H3 t = some (.tup [x, y])) → Q (.ref L) H3) I0 (e_mono q fun v H1 q1 => e_mono q1 fun u H2 ⟨va, vb, xs, ys, e1, e2, z⟩ => ⟨va, vb, xs, ys, by rw [e1, e2], z⟩)) fun us s1 ⟨vs, H1, I1, r1, va, vb, xs, ys, ev, sx, sy, hz, k⟩ => ?_) hs0 hpl))
  subst ev
  obtain ⟨u, v, rfl, ru, rv⟩ : ∃ u v, us = [u, v] ∧ RelV (.ref va) u ∧ RelV (.ref vb) v := by
    cases r1 with
    | cons r t => cases t with
      | cons r' t => cases t; exact ⟨_, _, rfl, r, r'⟩
  cases ru
  cases rv
  obtain ⟨ws, rw1, cx⟩ := c.own I1 sx
  obtain ⟨zs, rw2, cy⟩ := d.own I1 sy
  have la := c.lt cx
  have lb := d.lt cy
  have hh : X.A.handled = none := I1.ok.hd hc
  have lw := rw1.length
  have lz := rw2.length
  generalize hN : s1.heap.objs.size = M at la lb
  refine zip_begins2 (c.begins va ws.toArray) (d.begins vb zs.toArray) cx cy fun h1 g1 g2 g3 g4 g5 gsz kp => ?_
  rw [hN] at g1 g2 g3 g4 g5 gsz ⊢
  refine Calls.spliced_nil ?_
  have S : ZipSep2 (M + 4) (M + 2) (M + 3) M (M + 1) [M, va] [M + 1, vb] := zip_sep2 (fun e he => by rw [List.mem_singleton.mp he]; exact la) (fun e he => by rw [List.mem_singleton.mp he]; exact lb)
  have cu : ∀ (cc : Side) (x : Addr) (us : Array Value), cc.con s1.heap x us → cc.con h1 x us := fun cc x us hx => by
    cases cc with
    | l => exact hx.at fun o q => kp _ o q
    | t => exact hx.at fun o q => kp _ o q
  refine list_zip (s := { s1 with heap := h1 }) S (c.draws (A := X.A.in1.in1.in1) hh M va (Nat.ne_of_lt la) ws.toArray) (d.draws (A := X.A.in1.in1.in1) hh (M + 1) vb (Nat.ne_of_lt (Nat.lt_succ_of_lt lb)) zs.toArray) g1 g2 ⟨_, _, g3⟩ ⟨c.start g4, cu c _ _ cx⟩ ⟨d.start g5, cu d _ _ cy⟩ (fun e he => ?_) (fun e he => ?_) ?_ fun g tk acc cc as kg hL hl hG hacc => ?_
  · show e < h1.objs.size
    rw [gsz]
    simp only [List.mem_cons, List.not_mem_nil, or_false] at he
    rcases he with rfl | rfl
    · exact Nat.lt_add_of_pos_right (by decide)
    · exact Nat.lt_of_lt_of_le la (Nat.le_add_right _ _)
  · show e < h1.objs.size
    rw [gsz]
    simp only [List.mem_cons, List.not_mem_nil, or_false] at he
    rcases he with rfl | rfl
    · exact Nat.add_lt_add_left (by decide) M
    · exact Nat.lt_of_lt_of_le lb (Nat.le_add_right _ _)
  · rw [List.size_toArray, List.size_toArray, ← lw, ← lz]
    show _ ≤ 2 ^ 24
    omega
  · dsimp only at kg hL hG
    have lo : ∀ b o, s1.heap.get? b = some o → b < M := fun b o q => hN ▸ Heap.lt_size q
    have lm : min xs.length ys.length = (xs.zip ys).length := by rw [List.length_zip]
    have hl2 : as.length = (xs.zip ys).length := by rw [hl, List.size_toArray, List.size_toArray, ← lw, ← lz, lm]
    obtain ⟨H', e1, e2, e3, e4, J⟩ := pairs_laid (tk := tk) (ps := xs.zip ys) (L := h1.objs.size) I1 (by rw [← lm]; show _ ≤ 2 ^ 24; omega) (fun b o q => kg b o (Nat.ne_of_lt (Nat.lt_of_lt_of_le (lo b o q) (Nat.le_add_right M 4))) (Nat.ne_of_lt (Nat.lt_of_lt_of_le (lo b o q) (Nat.le_add_right M 3))) (Nat.ne_of_lt (lo b o q)) (Nat.ne_of_lt (Nat.lt_of_lt_of_le (lo b o q) (Nat.le_add_right M 1))) (kp b o q)) (by omega) hL hl2 hG.rise hG.above hacc
      (fun j t pq hj hq => by
        obtain ⟨x', y', p1, p2, p3⟩ := hG.pr j t hj
        obtain ⟨q1, q2⟩ := List.getElem?_zip_eq_some.mp hq
        obtain ⟨w1, f1, f2⟩ := rw1.get q1
        obtain ⟨w2, f3, f4⟩ := rw2.get q2
        rw [List.getElem?_toArray, f1] at p1
        rw [List.getElem?_toArray, f3] at p2
        cases p1
        cases p2
        exact ⟨_, _, f2, f4, p3⟩)
    refine ⟨.ref h1.objs.size, H', J, rfl, k _ as H' e1 e2 e3 (by rw [hl2, lm]) fun j t hj => ?_⟩
    obtain ⟨pq, q1, q2⟩ := e4 j t hj
    obtain ⟨q3, q4⟩ := List.getElem?_zip_eq_some.mp q1
    exact ⟨pq.1, pq.2, q3, q4, q2⟩
/-- for x, y in reversed(xs), xs a list of pairs -/
theorem s_forRv2 {nx : L2.St → Hp → Prop} {rt : VK} {bk ct : L2.St → Hp → Prop} {g : Nat} {x y : Str} {i j : Nat} {body : List Stmt} {px py pt p cp pos : Pos} {kk : Nat} (hm : X.mg "reversed" = none)
    (q : wE X a σ H fun v H1 => ∃ ad xs, v = .ref ad ∧ SqL X.K H1 ad xs ∧ ∃ Pv : Nat → L2.St → Hp → Prop, Pv 0 σ H1 ∧ (∀ k σ H, k ≤ xs.length → Pv k σ H → SqL X.K H ad xs) ∧
      (∀ k y σ H, xs.reverse[k]? = some y → Pv k σ H → ∃ t u1 u2, y = .ref t ∧ SqT X.K H t [u1, u2] ∧ wL X body ⟨Pv (k + 1), rt, nx, Pv (k + 1)⟩ ((σ.set i (some u1)).set j (some u2)) H) ∧ ∀ σ H, Pv xs.length σ H → nx σ H)
    (I : In X N G sc := by assumption) (hc : X.calm = true := by rfl) (hA : At N i x := by repeat (first | with_reducible apply At.z | with_reducible apply At.s)) (hB : At N j y := by repeat (first | with_reducible apply At.z | with_reducible apply At.s)) (hG : At G g ("reversed" : Str) := by repeat (first | with_reducible apply At.z | with_reducible apply At.s))
    (hs : starEach [a] X.env = (false, eval a X.env) :: starEach [] X.env := by rfl) (hs2 : ∀ z, foldedSetIterable (.Call (.Name "reversed" p) [a] [] cp) X.env z = pure z := by intro _; rfl) :
    wS X (.For (.Tuple [.Name x px, .Name y py] kk pt) (.Call (.Name "reversed" p) [a] [] cp) body [] pos) ⟨nx, rt, bk, ct⟩ σ H := by
  refine s_of (ps_for I.never hc (RT.pi_revA (I.g hG) hm pe hs) (pg_tup hc (pgs_cons (pg_name I.nd (I.hi hA) (I.loc hA) I.f) (pgs_cons (pg_name I.nd (I.hi hB) (I.loc hB) I.f) pgs_nil))) pl hs2) (e_mono q fun v H1 q1 => ?_)
  obtain ⟨ad, xs, rfl, hl, Pv, h0, hk, hb, hd⟩ := q1
  refine ⟨ad, xs, rfl, .inl ⟨hl, fun k m σ H => m = xs.length - k ∧ k ≤ xs.length ∧ Pv k σ H, ⟨xs.length, by simp, Nat.zero_le _, h0⟩, ?_⟩⟩
  rintro k m σ H ⟨rfl, hi, p⟩
  have q := hk k σ H hi p
  by_cases hlt : k < xs.length
  · refine .inr ⟨⟨hlt, xs, xs[xs.length - 1 - k]'(by omega), q, by simp⟩, Pv (k + 1), fun σ' H' p' => ⟨xs.length - (k + 1), by omega, rfl, hlt, p'⟩, fun x H' y => ?_⟩
    obtain ⟨e, y⟩ := y
    subst e
    obtain ⟨t, u1, u2, rfl, hq, z⟩ := hb k x σ _ (by rw [List.getElem?_reverse hlt]; exact y xs q) p
    exact ⟨t, [u1, u2], rfl, hq, rfl, u1, [u2], rfl, u2, [], rfl, rfl, z⟩
  · have e : k = xs.length := by omega
    subst e
    exact .inl ⟨Nat.le_refl _, hd σ H p⟩
/-- what the turns of a dict's comprehension over a dict ask, with a test or without -/
def DTurn (X : Cx) (Vn : List (Nat × Str)) (G' : List Str) (kx vx : Expr) (scope : Scope) (i : Nat) (D : Addr) (σ : L2.St) (x : V) (H2 : Hp) (nxt : Hp → Prop) : Prop := ∀ s0 H0 C cl fp, InB (Bk X s0 H0 scope C cl fp) Vn G' →
  wE (Bk X s0 H0 scope C cl fp) kx ((wipe σ [i]).set i (some x)) H2 fun y H3 => ∀ s0 H0 C cl fp, InB (Bk X s0 H0 scope C cl fp) Vn G' →
    wE (Bk X s0 H0 scope C cl fp) vx ((wipe σ [i]).set i (some x)) H3 fun z H4 => ∃ kvs ky, y = kV ky ∧ H4 D = some (.dK kvs) ∧ kvs.length < sizeLine ∧ nxt (upd H4 D (.dK (putK kvs ky z)))
def DcD (X : Cx) (Vn : List (Nat × Str)) (G' : List Str) (kx vx : Expr) (scope : Scope) (i : Nat) (d : Addr) (o : Obj) (kvs : List (Key × V)) (D : Addr) (σ : L2.St) (H1 : Hp) (Qd : Hp → Prop) : Prop := ∃ Pv : Nat → Hp → Prop, Pv 0 (upd H1 D (.dK [])) ∧ (∀ k H2, k ≤ kvs.length → Pv k H2 → H2 d = some (.frz o (.dK kvs))) ∧
  (∀ k y v H2, kvs[k]? = some (y, v) → Pv k H2 → DTurn X Vn G' kx vx scope i D σ (kV y) H2 (Pv (k + 1))) ∧ ∀ H2, Pv kvs.length H2 → Qd H2
def DcDf (X : Cx) (Vn : List (Nat × Str)) (G' : List Str) (kx vx c : Expr) (scope : Scope) (i : Nat) (d : Addr) (o : Obj) (kvs : List (Key × V)) (D : Addr) (σ : L2.St) (H1 : Hp) (Qd : Hp → Prop) : Prop := ∃ Pv : Nat → Hp → Prop, Pv 0 (upd H1 D (.dK [])) ∧ (∀ k H2, k ≤ kvs.length → Pv k H2 → H2 d = some (.frz o (.dK kvs))) ∧
  (∀ k y v H2, kvs[k]? = some (y, v) → Pv k H2 → ∀ s0 H0 C cl fp, InB (Bk X s0 H0 scope C cl fp) Vn G' → wT (Bk X s0 H0 scope C cl fp) c ((wipe σ [i]).set i (some (kV y))) H2 fun t H3 => if t = true then DTurn X Vn G' kx vx scope i D σ (kV y) H3 (Pv (k + 1)) else Pv (k + 1) H3) ∧ ∀ H2, Pv kvs.length H2 → Qd H2
theorem dturn_of {i : Nat} {D : Addr} {x : V} {H2 : Hp} {nxt : Hp → Prop} (q : DTurn X Vn G' kx vx scope i D σ x H2 nxt) : wBk X Vn G' kx scope ((wipe σ [i]).set i (some x)) H2 fun y H4 => wBk X Vn G' vx scope ((wipe σ [i]).set i (some x)) H4 fun z H5 => ∃ kvs k, y = kV k ∧ H5 D = some (.dK kvs) ∧ kvs.length < sizeLine ∧ nxt (upd H5 D (.dK (putK kvs k z))) := by
  unfold wBk
  exact q
theorem dcD_of {i : Nat} {d : Addr} {ob : Obj} {kvs : List (Key × V)} {D : Addr} {H1 : Hp} {Qd : Hp → Prop} (q : DcD X Vn G' kx vx scope i d ob kvs D σ H1 Qd) : ∃ W : Nat → Nat → Hp → Prop, (∃ m, W 0 m (upd H1 D (.dK []))) ∧ ∀ k m H, W k m H →
    ((Itk d ob kvs).stop k H ∧ Qd H) ∨ ((Itk d ob kvs).go k H ∧ ∃ Nx : Hp → Prop, (∀ H', Nx H' → ∃ m', m' < m ∧ W (k + 1) m' H') ∧ ∀ x H', (Itk d ob kvs).yld k H x H' → gName i x (wipe σ [i]) H' fun σ2 H2 => wipe σ2 [i] = wipe σ [i] ∧ tYes σ2 H2 fun b H3 =>
      if b = true then wBk X Vn G' kx scope σ2 H3 fun y H4 => wBk X Vn G' vx scope σ2 H4 fun z H5 => ∃ kvs k, y = kV k ∧ H5 D = some (.dK kvs) ∧ kvs.length < sizeLine ∧ Nx (upd H5 D (.dK (putK kvs k z))) else Nx H3) := by
  obtain ⟨Pv, h0, hl, hs, hd⟩ := q
  refine ⟨fun k m H => m = kvs.length - k ∧ k ≤ kvs.length ∧ Pv k H, ⟨kvs.length, rfl, Nat.zero_le _, h0⟩, ?_⟩
  rintro k m H ⟨rfl, hk, p⟩
  have fz := hl k H hk p
  by_cases lt : k < kvs.length
  · refine .inr ⟨⟨fz, lt⟩, Pv (k + 1), fun H' p' => ⟨kvs.length - (k + 1), by omega, rfl, lt, p'⟩, fun x H' y => ?_⟩
    obtain ⟨rfl, ky, v, hkv, rfl⟩ := y
    refine ⟨wipe_set σ i _, ?_⟩
    unfold tYes
    exact iteT (dturn_of (hs k ky v _ hkv p))
  · have ek : k = kvs.length := by omega
    subst ek
    exact .inl ⟨⟨fz, Nat.le_refl _⟩, hd H p⟩
theorem dcDf_of {i : Nat} {d : Addr} {ob : Obj} {kvs : List (Key × V)} {D : Addr} {H1 : Hp} {Qd : Hp → Prop} (q : DcDf X Vn G' kx vx c scope i d ob kvs D σ H1 Qd) : ∃ W : Nat → Nat → Hp → Prop, (∃ m, W 0 m (upd H1 D (.dK []))) ∧ ∀ k m H, W k m H →
    ((Itk d ob kvs).stop k H ∧ Qd H) ∨ ((Itk d ob kvs).go k H ∧ ∃ Nx : Hp → Prop, (∀ H', Nx H' → ∃ m', m' < m ∧ W (k + 1) m' H') ∧ ∀ x H', (Itk d ob kvs).yld k H x H' → gName i x (wipe σ [i]) H' fun σ2 H2 => wipe σ2 [i] = wipe σ [i] ∧ wBkT X Vn G' c scope σ2 H2 fun b H3 =>
      if b = true then wBk X Vn G' kx scope σ2 H3 fun y H4 => wBk X Vn G' vx scope σ2 H4 fun z H5 => ∃ kvs k, y = kV k ∧ H5 D = some (.dK kvs) ∧ kvs.length < sizeLine ∧ Nx (upd H5 D (.dK (putK kvs k z))) else Nx H3) := by
  obtain ⟨Pv, h0, hl, hs, hd⟩ := q
  refine ⟨fun k m H => m = kvs.length - k ∧ k ≤ kvs.length ∧ Pv k H, ⟨kvs.length, rfl, Nat.zero_le _, h0⟩, ?_⟩
  rintro k m H ⟨rfl, hk, p⟩
  have fz := hl k H hk p
  by_cases lt : k < kvs.length
  · refine .inr ⟨⟨fz, lt⟩, Pv (k + 1), fun H' p' => ⟨kvs.length - (k + 1), by omega, rfl, lt, p'⟩, fun x H' y => ?_⟩
    obtain ⟨rfl, ky, v, hkv, rfl⟩ := y
    refine ⟨wipe_set σ i _, ?_⟩
    unfold wBkT
    intro s0 H0 C cl fp IB
    refine t_mono (hs k ky v _ hkv p s0 H0 C cl fp IB) fun t H3 z => ?_
    cases t with
    | true => exact iteT (dturn_of z)
    | false => exact z
  · have ek : k = kvs.length := by omega
    subst ek
    exact .inl ⟨⟨fz, Nat.le_refl _⟩, hd H p⟩
/-- {kx: vx for x in d}, d a dict that stands at ad -/
theorem e_dcD {i : Nat} {x : Str} {px : Pos} {ad : Addr} {kvs : List (Key × V)} (B : BkOk X.N Vn G' i x sc scope) (hd : H ad = some (.dK kvs))
    (q : ∀ o, wE X a σ (upd H ad (.frz o (.dK kvs))) fun v H1 => v = .ref ad ∧ H1 ad = some (.frz o (.dK kvs)) ∧ ∀ D, H1 D = none → DcD X Vn G' kx vx scope i ad o kvs D σ H1 fun H2 => H2 ad = some (.frz o (.dK kvs)) ∧ Q (.ref D) (upd H2 ad (.dK kvs)))
    (I : In X N G sc := by assumption) (hc : X.calm = true := by rfl) (hs2 : ∀ z, foldedSetIterable a X.env z = pure z := by intro _; rfl) :
    wE X (.DictComp kx vx [⟨.Name x px, a, [], 0⟩] scope pos) σ H Q := by
  refine e_of (pe_lock (pe_dc (own := [(x, i)]) (g := gName i) (tt := tYes) (tk := wBk X Vn G' kx scope) (tv := wBk X Vn G' vx scope) hc I.nd (pi_keys pe) (B.ok I) (fun s H C cl fp => B.pg I s H C cl fp) (fun _ _ _ _ _ => pts_nil) (fun s H C cl fp => pe_bk (B.inB I s H C cl fp)) (fun s H C cl fp => pe_bk (B.inB I s H C cl fp)) hs2)) ?_
  refine ⟨ad, .dK kvs, hd, trivial, fun o => e_mono (q o) fun v H1 q1 => ?_⟩
  obtain ⟨rfl, h1, q2⟩ := q1
  exact ⟨ad, o, rfl, .inl ⟨kvs, h1, fun D hD => dcD_of (q2 D hD)⟩⟩
theorem s_dcD {nx : L2.St → Hp → Prop} {rt : VK} {bk ct : L2.St → Hp → Prop} {i j : Nat} {x y : Str} {px py spos : Pos} {ad : Addr} {kvs : List (Key × V)} (B : BkOk X.N Vn G' i x sc scope) (hd : H ad = some (.dK kvs))
    (q : ∀ o, wE X a σ (upd H ad (.frz o (.dK kvs))) fun v H1 => v = .ref ad ∧ H1 ad = some (.frz o (.dK kvs)) ∧ ∀ D, H1 D = none → DcD X Vn G' kx vx scope i ad o kvs D σ H1 fun H2 => H2 ad = some (.frz o (.dK kvs)) ∧ nx (σ.set j (some (.ref D))) (upd H2 ad (.dK kvs)))
    (I : In X N G sc := by assumption) (hc : X.calm = true := by rfl) (hA : At N j y := by repeat (first | with_reducible apply At.z | with_reducible apply At.s))
    (hk : X.env.scope.kind = .function := by rfl) (hy : X.env.scope.names.lookup y = some .local := by rfl) (hl : (py.line == pos.line) = true := by rfl) (ha : (scope.names.any fun (n, k) => n == y && (k == .local || k == .cell)) = false := by decide +kernel) (hs2 : ∀ z, foldedSetIterable a X.env z = pure z := by intro _; rfl) :
    wS X (.Assign [.Name y py] (.DictComp kx vx [⟨.Name x px, a, [], 0⟩] scope pos) spos) ⟨nx, rt, bk, ct⟩ σ H := by
  refine s_of (ps_lock (ps_setDc (own := [(x, i)]) (g := gName i) (tt := tYes) (tk := wBk X Vn G' kx scope) (tv := wBk X Vn G' vx scope) hc I.nd (I.hi hA) hy (sw_trueD hk hy hl ha) (pi_keys pe) (B.ok I) (fun s H C cl fp => B.pg I s H C cl fp) (fun _ _ _ _ _ => pts_nil) (fun s H C cl fp => pe_bk (B.inB I s H C cl fp)) (fun s H C cl fp => pe_bk (B.inB I s H C cl fp)) hs2)) ?_
  refine ⟨ad, .dK kvs, hd, trivial, fun o => e_mono (q o) fun v H1 q1 => ?_⟩
  obtain ⟨rfl, h1, q2⟩ := q1
  exact ⟨ad, o, rfl, .inl ⟨kvs, h1, fun D hD => dcD_of (q2 D hD)⟩⟩
theorem s_dcDf {nx : L2.St → Hp → Prop} {rt : VK} {bk ct : L2.St → Hp → Prop} {i j : Nat} {x y : Str} {px py spos : Pos} {ad : Addr} {kvs : List (Key × V)} (B : BkOk X.N Vn G' i x sc scope) (hd : H ad = some (.dK kvs))
    (q : ∀ o, wE X a σ (upd H ad (.frz o (.dK kvs))) fun v H1 => v = .ref ad ∧ H1 ad = some (.frz o (.dK kvs)) ∧ ∀ D, H1 D = none → DcDf X Vn G' kx vx c scope i ad o kvs D σ H1 fun H2 => H2 ad = some (.frz o (.dK kvs)) ∧ nx (σ.set j (some (.ref D))) (upd H2 ad (.dK kvs)))
    (I : In X N G sc := by assumption) (hc : X.calm = true := by rfl) (hA : At N j y := by repeat (first | with_reducible apply At.z | with_reducible apply At.s))
    (hk : X.env.scope.kind = .function := by rfl) (hy : X.env.scope.names.lookup y = some .local := by rfl) (hl : (py.line == pos.line) = true := by rfl) (ha : (scope.names.any fun (n, k) => n == y && (k == .local || k == .cell)) = false := by decide +kernel) (hs2 : ∀ z, foldedSetIterable a X.env z = pure z := by intro _; rfl) :
    wS X (.Assign [.Name y py] (.DictComp kx vx [⟨.Name x px, a, [c], 0⟩] scope pos) spos) ⟨nx, rt, bk, ct⟩ σ H := by
  refine s_of (ps_lock (ps_setDc (own := [(x, i)]) (g := gName i) (tt := wBkT X Vn G' c scope) (tk := wBk X Vn G' kx scope) (tv := wBk X Vn G' vx scope) hc I.nd (I.hi hA) hy (sw_trueD hk hy hl ha) (pi_keys pe) (B.ok I) (fun s H C cl fp => B.pg I s H C cl fp) (fun s H C cl fp => pts_bk (B.inB I s H C cl fp)) (fun s H C cl fp => pe_bk (B.inB I s H C cl fp)) (fun s H C cl fp => pe_bk (B.inB I s H C cl fp)) hs2)) ?_
  refine ⟨ad, .dK kvs, hd, trivial, fun o => e_mono (q o) fun v H1 q1 => ?_⟩
  obtain ⟨rfl, h1, q2⟩ := q1
  exact ⟨ad, o, rfl, .inl ⟨kvs, h1, fun D hD => dcDf_of (q2 D hD)⟩⟩
/-- w, x, y, z = a tuple -/
theorem s_tup4 {nx : L2.St → Hp → Prop} {rt : VK} {bk ct : L2.St → Hp → Prop} {i1 i2 i3 i4 : Nat} {x1 x2 x3 x4 : Str} {k : Nat} {p1 p2 p3 p4 pt : Pos} (q : wE X e σ H fun v H1 => ∃ a u1 u2 u3 u4, v = .ref a ∧ SqT X.K H1 a [u1, u2, u3, u4] ∧ nx ((((σ.set i1 (some u1)).set i2 (some u2)).set i3 (some u3)).set i4 (some u4)) H1)
    (I : In X N G sc := by assumption) (hc : X.calm = true := by rfl) (h1 : At N i1 x1 := by repeat (first | with_reducible apply At.z | with_reducible apply At.s)) (h2 : At N i2 x2 := by repeat (first | with_reducible apply At.z | with_reducible apply At.s)) (h3 : At N i3 x3 := by repeat (first | with_reducible apply At.z | with_reducible apply At.s)) (h4 : At N i4 x4 := by repeat (first | with_reducible apply At.z | with_reducible apply At.s))
    (hs : swapsWithSole [.Tuple [.Name x1 p1, .Name x2 p2, .Name x3 p3, .Name x4 p4] k pt] e pos.line X.env = pure false := by rfl) (hw : swappedStores [.Tuple [.Name x1 p1, .Name x2 p2, .Name x3 p3, .Name x4 p4] k pt] e X.env = pure none := by rfl) (hp : (assignEach [.Tuple [.Name x1 p1, .Name x2 p2, .Name x3 p3, .Name x4 p4] k pt] X.env).map (·.2) = [assign (.Tuple [.Name x1 p1, .Name x2 p2, .Name x3 p3, .Name x4 p4] k pt) X.env] := by rfl) :
    wS X (.Assign [.Tuple [.Name x1 p1, .Name x2 p2, .Name x3 p3, .Name x4 p4] k pt] e pos) ⟨nx, rt, bk, ct⟩ σ H := by
  refine s_of (ps_asg pe (pg_tup hc (pgs_cons (pg_name I.nd (I.hi h1) (I.loc h1) I.f) (pgs_cons (pg_name I.nd (I.hi h2) (I.loc h2) I.f) (pgs_cons (pg_name I.nd (I.hi h3) (I.loc h3) I.f) (pgs_cons (pg_name I.nd (I.hi h4) (I.loc h4) I.f) pgs_nil))))) hs hw hp) (e_mono q fun v H1 q1 => ?_)
  obtain ⟨ad, u1, u2, u3, u4, ev, hq, q2⟩ := q1
  exact ⟨ad, [u1, u2, u3, u4], ev, hq, rfl, u1, [u2, u3, u4], rfl, u2, [u3, u4], rfl, u3, [u4], rfl, u4, [], rfl, rfl, q2⟩
theorem op_inDt (hu : X.A.units + 1 < cLine) : OpR X (compareOp .In) (fun x y H Q => ∃ a o, y = .ref a ∧ DGet H a x o ∧ Q (.bl o.isSome) H) := by
  intro pins s σ H x y v u Q I rx ry h
  obtain ⟨ad, ov, rfl, g, q⟩ := h
  cases ry
  exact d_in hu I g rx fun s3 I3 => ⟨.bl ov.isSome, H, I3, rfl, q⟩
theorem op_ninDt (hu : X.A.units + 1 < cLine) : OpR X (compareOp .NotIn) (fun x y H Q => ∃ a o, y = .ref a ∧ DGet H a x o ∧ Q (.bl (!o.isSome)) H) := by
  intro pins s σ H x y v u Q I rx ry h
  obtain ⟨ad, ov, rfl, g, q⟩ := h
  cases ry
  exact d_notIn hu I g rx fun s3 I3 => ⟨.bl (!ov.isSome), H, I3, rfl, q⟩
theorem o_inD {n : Nat} {x : V} {d : Addr} {ov : Option V} (hr : Room n X.A) (g : DGet H d x ov) (q : Q (.bl ov.isSome) H) : wK X .In x (.ref d) H Q := k_of (op_inDt (hu_of hr)) ⟨d, ov, rfl, g, q⟩
theorem o_ninD {n : Nat} {x : V} {d : Addr} {ov : Option V} (hr : Room n X.A) (g : DGet H d x ov) (q : Q (.bl (!ov.isSome)) H) : wK X .NotIn x (.ref d) H Q := k_of (op_ninDt (hu_of hr)) ⟨d, ov, rfl, g, q⟩
theorem dg_K {ad : Addr} {kvs : List (Key × V)} {k : Key} (h : H ad = some (.dK kvs)) : DGet H ad (kV k) (valV kvs k) := .inl ⟨kvs, k, .inl h, rfl, rfl⟩
theorem dg_F {ad : Addr} {ob : Obj} {kvs : List (Key × V)} {k : Key} (h : H ad = some (.frz ob (.dK kvs))) : DGet H ad (kV k) (valV kvs k) := .inl ⟨kvs, k, .inr ⟨ob, h⟩, rfl, rfl⟩
theorem c_lenD {d : Addr} {kvs : List (Key × V)} (h : H d = some (.dK kvs)) (q : Q (.int kvs.length) H) : wC X (.builtin "len") [.ref d] H Q := c_of call_lenD ⟨d, kvs, rfl, h, q⟩
theorem c_sumL {l : Addr} {ns : List Int} (hc : X.calm = true) (h : SqL X.K H l (ns.map V.int)) (q : Q (.int ns.sum) H) : wC X (.builtin "sum") [.ref l] H Q := c_of (cr_sum hc) ⟨l, ns, rfl, h, q⟩
theorem ty_dk {K : PySem.W.Frag} {H : Hp} {d : Addr} {kvs : List (Key × V)} (h : H d = some (.dK kvs)) : TyX K H (.ref d) (.type "dict") := .base (.dK h)
theorem e_dclr (q : wE X o σ H fun x H1 => ∃ d kvs, x = .ref d ∧ H1 d = some (.dK kvs) ∧ Q .non (upd H1 d (.dK [])))
    (hbase : attributeBase o "clear" X.env (eval o X.env) = eval o X.env := by rfl) (hline : (apos.endLine == pos.line) = true := by rfl) : wE X (.Call (.Attribute o "clear" apos) [] [] pos) σ H Q := by
  refine e_of (pe_dclear pe hbase hline) (e_mono q fun x H1 z => ?_)
  obtain ⟨d, kvs, rfl, h1, h2⟩ := z
  exact ⟨.inr (.inr (.inl ⟨rfl, .inl ⟨kvs, h1⟩⟩)), d, kvs, rfl, rfl, h1, h2⟩
/-- {k: v}, k a text or a number -/
theorem e_dk1 {k v : Expr} (q : ∀ p, H p = none → wE X k σ (upd H p (.dK [])) fun x H1 => wE X v σ H1 fun y H2 => H2 p = some (.dK []) ∧ ∃ z, x = kV z ∧ Q (.ref p) (upd H2 p (.dK [(z, y)]))) : wE X (.Dict [some k] [v] pos) σ H Q := by
  refine e_of (pe_disp (pps_cons pe pe pps_nil) rfl rfl (by simp) (by simp)) fun p np => e_mono (q p np) fun x H1 q1 => e_mono q1 fun y H2 q2 => ?_
  obtain ⟨h, z, rfl, q3⟩ := q2
  exact ⟨h, [(z, y)], rfl, by simp, q3⟩
end
end Wk
namespace Wk
open PySem PySem.Spec
/-! places in a text -/
def nE : Expr := .Name "" ⟨0, 0, 0, 0⟩
def exA : Expr → Nat → Expr
  | .BoolOp _ es _, n => es.getD n nE
  | .BinOp a _ b _, n => [a, b].getD n nE
  | .UnaryOp _ a _, _ => a
  | .IfExp c a b _, n => [c, a, b].getD n nE
  | .Dict _ vs _, n => vs.getD n nE
  | .ListComp e gs _ _, n => (e :: gs.flatMap fun g => g.iter :: g.ifs).getD n nE
  | .DictComp e f gs _ _, n => (e :: f :: gs.flatMap fun g => g.iter :: g.ifs).getD n nE
  | .Compare a _ bs _, n => (a :: bs).getD n nE
  | .Call f as ks _, n => (f :: as ++ ks.map (·.value)).getD n nE
  | .Attribute a _ _, _ => a
  | .Subscript a b _, n => [a, b].getD n nE
  | .List es _, n => es.getD n nE
  | .Tuple es _ _, n => es.getD n nE
  | e, _ => e
def stE : Stmt → Expr
  | .Return (some e) _ => e
  | .Assign _ e _ => e
  | .For _ e _ _ _ => e
  | .While e _ _ _ => e
  | .If e _ _ _ => e
  | .Expr e _ => e
  | _ => nE
def nS : Stmt := .Pass ⟨0, 0, 0, 0⟩
def stB : Stmt → Nat → Nat → Stmt
  | .For _ _ a b _, j, n => ((if j = 0 then a else b).getD n nS)
  | .While _ a b _, j, n => ((if j = 0 then a else b).getD n nS)
  | .If _ a b _, j, n => ((if j = 0 then a else b).getD n nS)
  | .Try a _ b _ _, j, n => ((if j = 0 then a else b).getD n nS)
  | _, _, _ => nS
def xSc : Expr → Scope
  | .ListComp _ _ sc _ => sc
  | .DictComp _ _ _ sc _ => sc
  | _ => { kind := .function, names := [], isGenerator := false, isCoroutine := false }
end Wk
namespace Wk
open PySem PySem.Spec PyProof.Rows L2
section
variable {X : Cx} {o e : Expr} {σ : L2.St} {H : Hp} {Q : VK} {pos apos : Pos}
/-- t.index(e), t a tuple of texts of the module's top -/
theorem e_tIx (q : wE X o σ H fun x H1 => ∃ p, x = .ref p ∧ (∃ ob, X.K.lookup p = some ob ∧ ob.cls = .type "tuple" ∧ ob.dict = none) ∧ wE X e σ H1 fun y H2 => ∃ (ys : List Str) (z : Str) (j : Nat), y = .str z ∧ SqT X.K H2 p (ys.map V.str) ∧ ys[j]? = some z ∧ (∀ m, m < j → ys[m]? ≠ some z) ∧ Q (.int (j : Int)) H2)
    (hbase : attributeBase o "index" X.env (eval o X.env) = eval o X.env := by rfl)
    (hfew : ((backTo pos (starEach (e :: []) X.env)).all (fun x => !x.1) && (backToKw pos (keywordEach [] X.env)).all (fun x => x.1.isSome)
      && decide ((e :: []).length + ([] : List Keyword).length + (if ([] : List Keyword).isEmpty then 0 else 1) < 30)) = true := by rfl)
    (hline : (apos.endLine == pos.line) = true := by rfl) (hs : starEach (e :: []) X.env = (false, eval e X.env) :: starEach [] X.env := by rfl) (hplain : (backTo pos (starEach [] X.env)).any (·.1) = false := by rfl) :
    wE X (.Call (.Attribute o "index" apos) [e] [] pos) σ H Q := by
  refine e_of (pe_bm PySem.F.plainAttrs_tuple PySem.F.slot_tuple_index PySem.F.type_tuple_index mt_tup_index pe (pa_cons pe pa_nil hs) hbase hfew hline hs hplain) (e_mono q fun x H1 z => ?_)
  obtain ⟨p, rfl, ho, z⟩ := z
  refine ⟨.inr (.inl ⟨rfl, ho⟩), e_mono z fun y H2 z2 => ?_⟩
  obtain ⟨ys, z, j, rfl, h1, h2, h3, h4⟩ := z2
  exact ⟨p, ys, z, j, rfl, rfl, h1, h2, h3, h4⟩
end
end Wk

set_option maxHeartbeats 4000000
/-! My own layer: enumerate, ranges that are held, list(range(..)), all of a list, dicts of lists compared, classes whose making may raise. -/
namespace Wk
open PySem PySem.Spec PyProof.Rows L2
section
variable {X : Cx} {e a b : Expr} {σ : L2.St} {H : Hp} {Q : VK} {N G G' : List Str} {sc scope : Scope} {Vn : List (Nat × Str)} {elt : Expr} {pos : Pos}
/-- for x, y in enumerate(a) -/
theorem s_forE {nx : L2.St → Hp → Prop} {rt : VK} {bk ct : L2.St → Hp → Prop} {g : Nat} {x y : Str} {i j : Nat} {body : List Stmt} {px py pt p cp pos : Pos} {kk : Nat} (hm : X.mg "enumerate" = none)
    (q : wE X a σ H fun v H1 => ∃ va xs, v = .ref va ∧ SqL X.K H1 va xs ∧ ∃ Pv : Nat → L2.St → Hp → Prop, Pv 0 σ H1 ∧ (∀ k σ H, k ≤ xs.length → Pv k σ H → SqL X.K H va xs) ∧
      (∀ k u T σ H, xs[k]? = some u → Pv k σ H → H T = none → wL X body ⟨Pv (k + 1), rt, nx, Pv (k + 1)⟩ ((σ.set i (some (.int (k : Nat)))).set j (some u)) (upd H T (.tup [.int (k : Nat), u]))) ∧ ∀ σ H, Pv xs.length σ H → nx σ H)
    (I : In X N G sc := by assumption) (hc : X.calm = true := by rfl) (hA : At N i x := by repeat (first | with_reducible apply At.z | with_reducible apply At.s)) (hB : At N j y := by repeat (first | with_reducible apply At.z | with_reducible apply At.s))
    (hG : At G g ("enumerate" : Str) := by repeat (first | with_reducible apply At.z | with_reducible apply At.s)) (hs : starEach [a] X.env = [(false, eval a X.env)] := by rfl)
    (hs1 : starEach (a :: []) X.env = (false, eval a X.env) :: starEach [] X.env := by rfl) (hs2 : ∀ z, foldedSetIterable (.Call (.Name "enumerate" p) [a] [] cp) X.env z = pure z := by intro _; rfl) :
    wS X (.For (.Tuple [.Name x px, .Name y py] kk pt) (.Call (.Name "enumerate" p) [a] [] cp) body [] pos) ⟨nx, rt, bk, ct⟩ σ H := by
  refine s_of (ps_for I.never hc (pi_enum (I.g hG) hm (pa_cons pe pa_nil hs1) hs) (pg_tup hc (pgs_cons (pg_name I.nd (I.hi hA) (I.loc hA) I.f) (pgs_cons (pg_name I.nd (I.hi hB) (I.loc hB) I.f) pgs_nil))) pl hs2) (e_mono q fun v H1 q1 => ?_)
  obtain ⟨va, xs, rfl, sx, Pv, h0, hk, hb, hd⟩ := q1
  refine ⟨va, xs, rfl, sx, fun k m σ H => m = xs.length - k ∧ k ≤ xs.length ∧ Pv k σ H, ⟨_, rfl, Nat.zero_le _, h0⟩, ?_⟩
  rintro k m σ H ⟨rfl, hle, pv⟩
  have tx := hk k σ H hle pv
  by_cases lt : k < xs.length
  · refine .inr ⟨⟨xs, xs[k], tx, List.getElem?_eq_getElem lt⟩, Pv (k + 1), fun σ' H' p' => ⟨_, by omega, rfl, lt, p'⟩, fun w H' yl => ?_⟩
    obtain ⟨T, u1, rfl, nT, rfl, y1⟩ := yl
    exact ⟨T, [.int (k : Nat), u1], rfl, SqT.of upd_same, rfl, .int (k : Nat), [u1], rfl, u1, [], rfl, rfl, hb k u1 T σ H (y1 xs tx) pv nT⟩
  · have ek : k = xs.length := by omega
    subst ek
    refine .inl ⟨⟨xs, tx, by omega⟩, hd σ H pv⟩
theorem cr_range1 : CallR X (.type "range") (fun vs H Q => ∃ j, vs = [V.int j] ∧ ∀ p, H p = none → Q (.ref p) (upd H p (.rng 0 j))) := by
  intro pins s σ H vs us Q I r h
  obtain ⟨j, rfl, q⟩ := h
  cases r with
  | cons r1 rr =>
    cases rr
    obtain ⟨t, rfl⟩ := r1
    exact call_range_1 ⟨.ref s.heap.objs.size, upd H s.heap.objs.size (.rng 0 j), I.laid (t' := s.toks + 1 + 1) (fun b o e => Heap.get?_push_of_some _ e) (Nat.le_refl _) ⟨_, _, _, Heap.get?_push_size _ rfl⟩, rfl, q _ (I.hok.fresh (Nat.le_refl _))⟩
theorem c_rng1 {j : Int} (q : ∀ p, H p = none → Q (.ref p) (upd H p (.rng 0 j))) : wC X (.type "range") [.int j] H Q := c_of cr_range1 ⟨j, rfl, q⟩
def iRngV (tl : TE) : TI := fun σ H R => tl σ H fun x H1 => ∃ ad lo hi, x = .ref ad ∧ H1 ad = some (.rng lo hi) ∧ (-(2 ^ 62) ≤ lo ∧ lo < 2 ^ 62 ∧ -(2 ^ 62) ≤ hi ∧ hi < 2 ^ 62) ∧ R (Itr lo (hi - lo).toNat) H1
/-- a range object that stands -/
theorem pi_rngV {tg l : Expr} {tl : TE} (hl : PE X l tl) : PI X tg l (iRngV tl) := by
  refine ⟨fun pins s σ H R I h => thn (hl.run pins s σ H _ I h) fun v s1 ⟨x, H1, I1, r1, ad, lo, hi, ex, had, ⟨b1, b2, b3, b4⟩, q⟩ => ?_⟩
  subst ex
  cases r1
  obtain ⟨t, u, w, ho⟩ := I1.hok ad _ had
  refine wpAny_pyIter_range (show IsRange s1.heap ad lo hi 1 t u w from ho) (small_one b1 b2 b3 b4) ?_
  refine ⟨s1.heap.objs.size, [s1.heap.objs.size], _, _, H1, rfl, I1.kept (t' := s1.toks) fun b o e => Heap.get?_push_of_some _ e, turn_range _ lo (hi - lo).toNat, ?_, fun b hb => ?_, q⟩
  · have z1 : lo + ((0 : Nat) : Int) * 1 = lo := by simp
    have z2 : (((hi - lo).toNat : Nat) : Int) - ((0 : Nat) : Int) = Builtin.Range.rangeSize lo hi 1 := by rw [rangeSize_one]; split <;> omega
    show IsRangeIter _ _ (lo + ((0 : Nat) : Int) * 1) ((((hi - lo).toNat : Nat) : Int) - ((0 : Nat) : Int)) 1
    rw [z1, z2]
    exact Heap.get?_push_size _ rfl
  · obtain rfl : b = s1.heap.objs.size := by simpa using hb
    exact I1.fpOk (Nat.le_refl _) (I1.hok.fresh (Nat.le_refl _))
/-- [elt for x in a], a holds range(n) -/
theorem e_lcRv {i : Nat} {x : Str} {px : Pos} (B : BkOk X.N Vn G' i x sc scope)
    (q : wE X a σ H fun v H1 => ∃ (ad : Addr) (n : Nat), v = .ref ad ∧ H1 ad = some (.rng 0 n) ∧ n < 2 ^ 62 ∧ ∀ D, H1 D = none → LcR X Vn G' elt scope i n D σ H1 fun H2 => Q (.ref D) H2)
    (I : In X N G sc := by assumption) (hc : X.calm = true := by rfl) (hs2 : ∀ z, foldedSetIterable a X.env z = pure z := by intro _; rfl) :
    wE X (.ListComp elt [⟨.Name x px, a, [], 0⟩] scope pos) σ H Q := by
  refine e_of (pe_lc (own := [(x, i)]) (g := gName i) (tt := tYes) (te := wBk X Vn G' elt scope) hc I.nd (pi_rngV pe) (B.ok I) (fun s H C cl fp => B.pg I s H C cl fp) (fun _ _ _ _ _ => pts_nil) (fun s H C cl fp => pe_bk (B.inB I s H C cl fp)) hs2) (e_mono q fun v H1 q1 => ?_)
  obtain ⟨ad, n, rfl, had, hn, q2⟩ := q1
  refine ⟨ad, 0, n, rfl, had, ⟨by omega, by omega, by omega, by omega⟩, ?_⟩
  rw [Int.sub_zero, Int.toNat_natCast]
  exact fun D hD => lcR_of (q2 D hD)
theorem c_allL {l : Addr} {bs : List Bool} (hc : X.calm = true) (h : SqL X.K H l (bs.map V.bl)) (q : Q (.bl (bs.all id)) H) : wC X (.builtin "all") [.ref l] H Q := c_of (cr_all hc) ⟨l, bs, rfl, h, q⟩
theorem b_all : bootBuiltins "all" = some (.builtin "all") := by decide +kernel
theorem b_range : bootBuiltins "range" = some (.type "range") := by decide +kernel
/-- list(range(a)) -/
theorem e_listRg {g g2 : Nat} {p p2 cp cp2 : Pos} (hm : X.mg "list" = none) (hm2 : X.mg "range" = none) (q : wE X a σ H fun v H1 => ∃ n : Nat, v = .int n ∧ n ≤ 100000 ∧ ∀ l, H1 l = none → Q (.ref l) (upd H1 l (.lst ((List.range n).map fun (k : Nat) => V.int (k : Int)))))
    (I : In X N G sc := by assumption) (hc : X.calm = true := by rfl) (hG : At G g ("list" : Str) := by repeat (first | with_reducible apply At.z | with_reducible apply At.s)) (hG2 : At G g2 ("range" : Str) := by repeat (first | with_reducible apply At.z | with_reducible apply At.s))
    (hs : starEach [a] X.env = (false, eval a X.env) :: starEach [] X.env := by rfl) (na : starEach [.Call (.Name "range" p2) [a] [] cp2] X.env = (false, eval (.Call (.Name "range" p2) [a] [] cp2) X.env) :: starEach [] X.env := by rfl) :
    wE X (.Call (.Name "list" p) [.Call (.Name "range" p2) [a] [] cp2] [] cp) σ H Q := by
  refine e_of (pe_listRg hc (I.g hG) hm (prg_1 (I.g hG2) hm2 pe hs) na) (e_mono q fun v H1 q1 => ?_)
  obtain ⟨n, rfl, hn, q2⟩ := q1
  refine ⟨n, rfl, ⟨by omega, by omega, by omega, by omega, by omega⟩, fun l nl => ?_⟩
  have := q2 l nl
  have e : rgV 0 (n : Int) = (List.range n).map fun (k : Nat) => V.int (k : Int) := by
    unfold rgV
    simp
  rw [e]
  exact this
end
/-! ### dicts of lists of numbers -/
abbrev iV (l : List Int) : List V := l.map V.int
theorem dp_ints {K : PySem.W.Frag} {H : Hp} : ∀ l : List Int, DpAll K H (iV l) (l.map PyData.int)
  | [] => .nil
  | i :: l => .cons (.int i) (dp_ints l)
theorem plain_ints : ∀ l : List Int, PyData.plainAll (l.map PyData.int) = true
  | [] => rfl
  | _ :: l => by show (true && PyData.plainAll _) = true; rw [plain_ints l]; rfl
theorem depth_ints : ∀ l : List Int, PyData.depthAll (l.map PyData.int) = 0
  | [] => rfl
  | _ :: l => by show max 0 (PyData.depthAll _) = 0; rw [depth_ints l]; rfl
/-- the same numbers, under each name -/
def rNeDL (K : PySem.W.Frag) : R2 := fun x y H Q => ∃ a b ks ls, x = .ref a ∧ y = .ref b ∧ H a = some (.dK ks) ∧ H b = some (.dK ls) ∧ ks.length = ls.length ∧ (∀ p ∈ ks, ∃ c d l, p.2 = .ref c ∧ valV ls p.1 = some (.ref d) ∧ SqL K H c (iV l) ∧ SqL K H d (iV l)) ∧ Q (.bl false) H
theorem op_neDL {X : Cx} (hu : X.A.units + 64 < cLine) : OpR X (compareOp .NotEq) (rNeDL X.K) := by
  intro pins s σ H x y v u Q I rx ry h
  obtain ⟨a, b, ks, ls, rfl, rfl, ea, eb, hlen, hp, q⟩ := h
  cases rx
  cases ry
  obtain ⟨_, ya, va, ra, da⟩ := (show ObjOk X.prog X.w H s.heap a (.dK ks) from I.hok a _ ea)
  obtain ⟨_, yb, vb, rb, db⟩ := (show ObjOk X.prog X.w H s.heap b (.dK ls) from I.hok b _ eb)
  have hits : ∀ {ks : List (Key × V)} {va : List (Key × Value)}, KV ks va → (∀ p ∈ ks, ∃ c d l, p.2 = .ref c ∧ valV ls p.1 = some (.ref d) ∧ SqL X.K H c (iV l) ∧ SqL X.K H d (iV l)) → PySem.W.KeqHits X.A.in1 s vb va true := by
    intro ks va ra
    unfold KV at ra
    induction ra with
    | nil => intro _; exact .nil
    | @cons p q ps qs h1 t ih =>
      intro hp
      obtain ⟨hk, hv⟩ := h1
      obtain ⟨c, d, l, e1, e2, s1, s2⟩ := hp p List.mem_cons_self
      have rr : RelO (some (V.ref d)) (valueAt vb p.1) := by rw [← e2]; exact rb.val p.1
      obtain ⟨y, hy, ry⟩ := rr.some_of
      obtain ⟨k, v⟩ := q
      have hk' : p.1 = k := hk
      rw [hk'] at hy
      rw [e1] at hv
      have hv' : RelV (.ref c) v := hv
      obtain ⟨as, r1⟩ := Dp.reads I (.list (l.map .int)) _ _ (.lst s1 (dp_ints l)) hv'
      obtain ⟨bs, r2⟩ := Dp.reads I (.list (l.map .int)) _ _ (.lst s2 (dp_ints l)) ry
      have hpl : (PyData.list (l.map .int)).plain = true := plain_ints l
      have hq := PySem.SeqAt.eqAt_plain _ _ X.A.in1 s _ _ as bs r1 r2 hpl hpl (by
        have : (PyData.list (l.map .int)).depth = 1 := by show PyData.depthAll _ + 1 = 1; rw [depth_ints]
        rw [this]
        have : X.A.in1.units ≤ X.A.units + 2 := by simp [Around.in1, Around.units] <;> omega
        omega)
      rw [PySem.SeqAt.eqv_refl_plain _ hpl] at hq
      show PySem.W.KeqHits _ s vb ((k, v) :: qs) (true && true)
      exact .hit hy hq (ih fun p' hm => hp p' (List.mem_cons_of_mem _ hm))
  have hl : va.length = vb.length := by rw [← ra.length, ← rb.length]; exact hlen
  exact PySem.W.keq_ne (knd := mixKind X.prog X.w) (r := true) ya yb da db (by omega) (fun _ => hits ra hp) (fin_bl I q (by simp [hl]))
/-! ### a class whose making may raise -/
section
variable {P : Program} {w : World} {K : PySem.W.Frag} {mg : Str → Option Value} {base : Heap}
theorem me_okN {x qual : Str} {C : Addr} {st : Stmt} {N D G ps : List Str} {k : Nat} {sp : Sp} (T : TopM K C x qual st) (S : FnScope (N ++ D) ps (defScope st)) (O : ScOk N G (defScope st)) (len : ∀ vs H Q E, sp vs H Q E → vs.length = ps.length)
    (hb : ∀ (kV doc pm : Value) (an : Option Addr) (cdv ct : Value) (us : List Value), us.length = ps.length → bindArgs (PySem.W.fnOf x qual (defArgs st) (defBody st) (defScope st) .none kV doc pm an cdv ct) ⟨us, []⟩ = pure (ps.zip us))
    (hbody : ∀ (f : Addr) (cdv : Value) (A : Around) (outer : List Env) (s : Shared) (H : Hp) (vs : List V) (Q : VK) (E : XK), Room k (A.deeper (envOfC qual (defScope st) s.heap.objs.size f cdv)) → sp vs H Q E → In (cxOf (L2N.CX P w) P w K mg base (N ++ D) qual (defScope st) f cdv A outer s H E) N G (defScope st) →
      L2N.Takes (cxOf (L2N.CX P w) P w K mg base (N ++ D) qual (defScope st) f cdv A outer s H E) (fun cls d _ H => E cls d H) →
      wL (cxOf (L2N.CX P w) P w K mg base (N ++ D) qual (defScope st) f cdv A outer s H E) (defBody st) { nx := fun _ H' => Q .non H', rt := Q } (start (N ++ D) vs) H) :
    ∃ (f : Addr) (fd : FuncData), FnOk P w K mg base (L2N.CX P w) (k + 1) f fd ps sp ∧ Binds K fd ps [] ∧ PySem.W.findIn K (.ref C) x = some (some (.ref f)) ∧ PySem.W.isFn K (.ref f) = true ∧ PySem.W.keepIn K (.ref f) = true := by
  obtain ⟨f, fd, F, hf, hi⟩ := T.ex
  obtain ⟨oc, od, kV, doc, pm, an, cdv, ct, osl, rfl, lk, hcd⟩ := id F.ex
  exact ⟨f, _, fn_of lk hcd S len (fun A outer s H vs Q E hr h => ⟨_, pl, hbody f cdv A outer s H vs Q E hr h ⟨O, ⟨D, rfl⟩, S.nd, rfl, rfl, passes_of rfl⟩ (L2N.takes_of rfl rfl rfl rfl)⟩), F.binds hb, hf, hi, F.kp⟩
structure KlN (P : Program) (w : World) (K : PySem.W.Frag) (mg : Str → Option Value) (base : Heap) (k : Nat) (x : Str) (C : Addr) (sp : Sp) : Prop where
  ex : ∃ (f : Addr) (fd : FuncData) (ps : List Str), FnOk P w K mg base (L2N.CX P w) k f fd ps sp ∧ mg x = some (.ref C) ∧ Mk K C f ∧ Binds K fd ps []
theorem cx_weak {outer : List Env} {H : Hp} {s s' : Shared} {E E' : XK} {u : Value} (h : L2N.CX P w outer H s E u s') (m : ∀ cls d H, E cls d H → E' cls d H) : L2N.CX P w outer H s E' u s' := by
  obtain ⟨a, B, H', cls, d, h1, h2, h3, h4, h5, h6, h7, h8⟩ := h
  exact ⟨a, B, H', cls, d, h1, h2, h3, h4, h5, h6, h7, m _ _ _ h8⟩
end
section
variable {X : Cx} {e : Expr} {es : List Expr} {pos p0 : Pos} {σ : L2.St} {H : Hp} {Q : VK} {N G : List Str} {sc : Scope}
theorem e_makeN {g k n : Nat} {x : Str} {C : Addr} {sp : Sp} {W : WX} (F : KlN X.prog X.w X.K X.mg X.base k x C sp) (tk : L2N.Takes X W) (hr : Room n X.A) (hk : k + 1 ≤ n)
    (q : wA X (e :: es) σ H fun vs H1 => ∀ x dx, H1 x = none → H1 dx = none → dx ≠ x → sp (.ref x :: vs) (upd (upd H1 dx (.own x)) x (.ins C dx [])) (fun v H2 => v = .non ∧ Q (.ref x) H2) (fun cls d H' => ∀ σ' : L2.St, σ'.length = X.N.length → W cls d σ' H'))
    (I : In X N G sc := by assumption) (hG : At G g x := by repeat (first | with_reducible apply At.z | with_reducible apply At.s)) (he : starEach (e :: es) X.env = (false, eval e X.env) :: starEach es X.env := by rfl) (hpl : (backTo pos (starEach es X.env)).any (·.1) = false := by rfl) : wE X (.Call (.Name x p0) (e :: es) [] pos) σ H Q := by
  obtain ⟨f, fd, ps, F0, hm, M, hb⟩ := F.ex
  have hx : Passes (L2N.CX X.prog X.w) X (fun cls d H' => ∀ σ' : L2.St, σ'.length = X.N.length → W cls d σ' H') := fun pins σ' H s e s' I0 c => L2N.passAt tk σ' pins H s e s' I0 (cx_weak c fun cls d H z => z σ' I0.len)
  refine e_of (pe_make M F0 (hr.mono hk) (I.g hG) hm hb .nil hx pa (I.gd hG) he hpl) ?_
  show wA X (e :: es) σ H fun vs H1 => ∀ x dx, H1 x = none → H1 dx = none → dx ≠ x → sp (.ref x :: (vs ++ [])) (upd (upd H1 dx (.own x)) x (.ins C dx [])) (fun v H2 => v = .non ∧ Q (.ref x) H2) _
  simp only [List.append_nil]
  exact q
end
/-! ### len of an instance whose class has its own __len__ -/
structure LnO (P : Program) (w : World) (K : PySem.W.Frag) (mg : Str → Option Value) (base : Heap) (k : Nat) (C : Addr) (sp : Sp) : Prop where
  ex : ∃ (f : Addr) (fd : FuncData) (pn : List Str), FnOk P w K mg base CX0 k f fd pn sp ∧ PySem.W.findIn K (.ref C) "__len__" = some (some (.ref f)) ∧ PySem.W.isFn K (.ref f) = true ∧ Binds K fd pn []
theorem c_lenO {X : Cx} {H : Hp} {Q : VK} {k n : Nat} {C a dx : Addr} {fs : List (Str × V)} {sp : Sp} (F : LnO X.prog X.w X.K X.mg X.base k C sp) (hr : Room (n + 1) X.A) (hk : k ≤ n) (ha : H a = some (.ins C dx fs))
    (q : sp [.ref a] H (fun v H' => ∃ m : Nat, v = .int (m : Int) ∧ m < 2 ^ 62 ∧ Q (.int (m : Int)) H') E0) : wC X (.builtin "len") [.ref a] H Q := by
  obtain ⟨f, fd, pn, F0, hs, hf, hb⟩ := F.ex
  refine c_of (r := fun xs H Q => xs = [.ref a] ∧ H a = some (.ins C dx fs) ∧ sp [.ref a] H (fun v H' => ∃ m : Nat, v = .int (m : Int) ∧ m < 2 ^ 62 ∧ Q (.int (m : Int)) H') E0) ?_ ⟨rfl, ha, q⟩
  intro pins s σ H xs us Q I r h
  obtain ⟨rfl, ha, q⟩ := h
  cases r with
  | cons r1 rr =>
    cases rr
    cases r1
    obtain ⟨mA, J, _⟩ := ins_get I.hok ha
    obtain ⟨od, J, _⟩ := J.look
    obtain ⟨m, hF⟩ := I.fr
    refine PySem.W.len_K hF I.ok.mod.kin J hs hf ?_
    have hl : ([Value.ref a] : List Value).length = pn.length := F0.len _ _ _ _ q
    refine wpAny_call (codeAny_mono (F0.run X.A.in1 X.stack s H ⟨[.ref a], []⟩ [.ref a] [.ref a] _ E0 (hr.in1.mono hk) I.env0.in1 (hb s [.ref a] I.kIn hl) (.cons rfl .nil) q) fun r s' hq => ?_)
    cases r with
    | error e => exact pass0 pins σ H s e s' I hq
    | ok fl =>
      cases fl with
      | ret u =>
        obtain ⟨v, H', I', rv, m, rfl, hm, q2⟩ := I.after hq
        obtain ⟨t, rfl⟩ := rv
        exact ⟨⟨by omega, by omega⟩, .int (m : Int), H', I'.tok _, ⟨_, rfl⟩, q2⟩
      | next => exact False.elim hq
      | brk => exact False.elim hq
      | cont => exact False.elim hq
section
variable {X : Cx} {σ : L2.St} {H : Hp}
/-- for x in range(a, b), a below b + 1 -/
theorem s_forR12 {nx : L2.St → Hp → Prop} {rt : VK} {bk ct : L2.St → Hp → Prop} {g : Nat} {N G : List Str} {sc : Scope} {x : Str} {i : Nat} {a b : Expr} {body : List Stmt} {px p cp pos : Pos} (hm : X.mg "range" = none)
    (q : wE X a σ H fun v H1 => wE X b σ H1 fun u H2 => ∃ lo n : Nat, v = .int (lo : Int) ∧ u = .int ((lo + n : Nat) : Int) ∧ lo + n < 2 ^ 62 ∧ ∃ Pv : Nat → L2.St → Hp → Prop, Pv 0 σ H2 ∧ (∀ k σ H, k < n → Pv k σ H → wL X body ⟨Pv (k + 1), rt, nx, Pv (k + 1)⟩ (σ.set i (some (.int ((lo + k : Nat) : Int)))) H) ∧ ∀ σ H, Pv n σ H → nx σ H)
    (I : In X N G sc := by assumption) (hc : X.calm = true := by rfl) (hA : At N i x := by repeat (first | with_reducible apply At.z | with_reducible apply At.s))
    (hG : At G g ("range" : Str) := by repeat (first | with_reducible apply At.z | with_reducible apply At.s)) (hs : starEach [a, b] X.env = [(false, eval a X.env), (false, eval b X.env)] := by rfl) (hsb : starEach [b] X.env = [(false, eval b X.env)] := by rfl)
    (hs2 : ∀ z, foldedSetIterable (.Call (.Name "range" p) [a, b] [] cp) X.env z = pure z := by intro _; rfl)
    (h1 : starEach (a :: [b]) X.env = (false, eval a X.env) :: starEach [b] X.env := by rfl) (h2 : starEach (b :: []) X.env = (false, eval b X.env) :: starEach [] X.env := by rfl) :
    wS X (.For (.Name x px) (.Call (.Name "range" p) [a, b] [] cp) body [] pos) ⟨nx, rt, bk, ct⟩ σ H := by
  refine s_of (ps_for I.never hc (pi_range2 (I.g hG) hm (pa_cons pe (pa_cons pe pa_nil h2) h1) hs hsb) (pg_name I.nd (I.hi hA) (I.loc hA) I.f) pl hs2) (e_mono q fun v H1 q1 => e_mono q1 fun u H2 q2 => ?_)
  obtain ⟨lo, n, rfl, rfl, hn, Pv, h0, hb, hd⟩ := q2
  refine ⟨(lo : Int), ((lo + n : Nat) : Int), rfl, ⟨by omega, by omega, by omega, by omega⟩, ?_⟩
  rw [show (((lo + n : Nat) : Int) - (lo : Int)).toNat = n by omega]
  refine for_range (n := n) Pv h0 (fun k σ H hk p => ?_) hd
  have := hb k σ H hk p
  rwa [show ((lo + k : Nat) : Int) = (lo : Int) + (k : Int) by omega] at this
theorem o_bor {X : Cx} {H : Hp} {Q : VK} {i j : Int} (q : Q (.int (Builtin.bitOr i j)) H) : wB X .BitOr (.int i) (.int j) H Q := b_of op_or ⟨i, j, rfl, rfl, q⟩
theorem bor_nn : ∀ a < 32, ∀ b < 32, 0 ≤ Builtin.bitOr ((a : Nat) : Int) ((b : Nat) : Int) := by decide +kernel
end
end Wk

/-! str of plain lists and tuples: it asks what is under way below (A.guards), so a def that shows them is promised where nothing is: FnG. -/
namespace Wk
open PySem PySem.Spec PyProof.Rows L2
section
variable {X : Cx} {H : Hp} {Q : VK}
/-- str of a list or a tuple of plain data, where nothing is being shown below -/
theorem call_strD (hg : X.A.guards = some []) (hu : X.A.units + 80 < cLine) :
    CallR X (.type "str") (fun xs H Q => ∃ a d, xs = [.ref a] ∧ Dp X.K H (.ref a) d ∧ d.showable = true ∧ d.hasDict = false ∧ d.depth ≤ 70 ∧ d.shown.length ≤ sizeLine ∧ Q (.str d.shown) H) := by
  intro pins s σ H xs us Q I r h
  obtain ⟨a, d, rfl, hd, h1, h2, h3, h4, q⟩ := h
  obtain ⟨u, rfl, rr⟩ := vals1 r
  obtain ⟨as, rd⟩ := Dp.reads I d _ _ hd rr
  cases rr
  exact PySem.str_of_reads rd h1 (fun z => by rw [h2] at z; cases z) hg (by omega) (fun _ _ e => e) (fun h' u tk hk => ⟨.str d.shown, H, I.turnedL (ch := []) (fun b o _ e => hk b o e) (fun b hb => by cases hb), ⟨_, rfl⟩, q⟩) h4
end
end Wk
namespace Wk
open PySem PySem.Spec PyProof.Rows L2
section
variable {P : Program} {w : World} {K : PySem.W.Frag} {mg : Str → Option Value} {base : Heap}
/-- a def that is promised where nothing is being shown below -/
structure FnG (P : Program) (w : World) (K : PySem.W.Frag) (mg : Str → Option Value) (base : Heap) (k : Nat) (f : Addr) (fd : FuncData) (ps : List Str) (sp : Sp) : Prop where
  len : ∀ vs H Q E, sp vs H Q E → vs.length = ps.length
  run : ∀ (A : Around) (outer : List Env) (s : Shared) (H : Hp) (args : Args) (us : List Value) (vs : List V) (Q : VK) (E : XK), A.guards = some [] → Room k A → Env0 P w K mg base A outer s H → BindsTo s fd args (ps.zip us) → Vals vs us → sp vs H Q E →
    codeAny (model P w) A (.call (.ref f) args) (CR CX0 outer P w H s Q E) s
theorem FnG.mono {j k : Nat} {f : Addr} {fd : FuncData} {ps : List Str} {sp : Sp} (F : FnG P w K mg base j f fd ps sp) (h : j ≤ k) : FnG P w K mg base k f fd ps sp :=
  ⟨F.len, fun A outer s H args us vs Q E hg hr => F.run A outer s H args us vs Q E hg (hr.mono h)⟩
/-- by its body, which knows that nothing is being shown below it -/
theorem fun_okG {x qual : Str} {st : Stmt} {f : Addr} {fd : FuncData} {N ps : List Str} {k : Nat} {sp : Sp} (F : Fun K x qual st f fd) (S : FnScope N ps (defScope st)) (len : ∀ vs H Q E, sp vs H Q E → vs.length = ps.length)
    (hbody : ∀ (cdv : Value) (A : Around) (outer : List Env) (s : Shared) (H : Hp) (vs : List V) (Q : VK) (E : XK), A.guards = some [] → Room k (A.deeper (envOfC qual (defScope st) s.heap.objs.size f cdv)) → sp vs H Q E →
      ∃ t, PSs (cxOf CX0 P w K mg base N qual (defScope st) f cdv A outer s H E).nox (defBody st) t ∧ t { nx := fun _ H' => Q .non H', rt := Q } (start N vs) H) : FnG P w K mg base (k + 1) f fd ps sp := by
  obtain ⟨oc, od, kV, doc, pm, an, cdv, ct, osl, rfl, lk, hcd⟩ := F.ex
  refine ⟨len, fun A outer s H args us vs Q E hg hr e0 hb r hsp => ?_⟩
  obtain ⟨t, ht, hq⟩ := hbody cdv A outer s H vs Q E hg (hr.deeper _) hsp
  have own : K.In s.heap := e0.mod.kin.keeps fun b o e => (e0.bs b o e).1
  have kinds : ∀ y ∈ ps.zip us, (defScope st).names.lookup y.1 = some .local ∨ ((defScope st).names.lookup y.1 = some .cell ∧ ((cellsFrom (s.heap.objs.size + 1) (defScope st).names []).lookup y.1).isSome = true) := by
    intro y hy
    obtain ⟨n, v⟩ := y
    cases S.par n (List.of_mem_zip hy).1 with
    | inl q => exact .inl q
    | inr q => exact .inr ⟨q, PySem.W.cellsFrom_some _ _ _ (.inl q)⟩
  refine codeAny_call_function hr.depth (own _ _ lk) rfl S.co S.gen rfl (PySem.W.codeRec_of own hcd) (hb _ _ _ _ (wpAny_newFunctionEnv_cells S.kind kinds fun env he s1 x => ?_))
  cases he
  refine ⟨(e0.mod.nolimit.keeps fun b o e => (e0.bs b o e).1).keeps x.toInCall.keep, codeAny_func (wpAny_mono (ht.nox.run [] s1 (start N vs) H _ (inv_start S hr.hd e0 (len _ _ _ _ hsp) r x) hq) (fun fl s' hs => ?_) fun e s' hs => hs)⟩
  cases fl with
  | next => exact let ⟨_, H', J, q⟩ := hs; ⟨.non, H', J.os, J.bare, J.base, J.hok, rfl, q⟩
  | ret u => exact let ⟨v, _, H', J, rv, q⟩ := hs; ⟨v, H', J.os, J.bare, J.base, J.hok, rv, q⟩
  | brk => exact (let ⟨_, _, _, q⟩ := hs; q : False).elim
  | cont => exact (let ⟨_, _, _, q⟩ := hs; q : False).elim
end
end Wk
namespace Wk
open PySem PySem.Spec PyProof.Rows L2
section
variable {X : Cx}
theorem run_fnG {k : Nat} {f : Addr} {fd : FuncData} {ps : List Str} {sp : Sp} {pins : List (Addr × Obj)} {σ : L2.St} {H : Hp} {s : Shared} {Q : VK} {us : List Value} {vs : List V} (F : FnG X.prog X.w X.K X.mg X.base k f fd ps sp) (hg : X.A.guards = some []) (hr : Room k X.A) (hb : Binds X.K fd ps [])
    (I : Inv X pins σ H s) (r : Vals vs us) (h : sp vs H Q E0) : wpAny (model X.prog X.w) X.A (call (.ref f) us) (EP X pins σ Q) X.xe s := by
  have hl : (us ++ []).length = ps.length := by rw [List.append_nil, ← r.length]; exact F.len _ _ _ _ h
  refine wpAny_call (codeAny_mono (F.run X.A X.stack s H ⟨us, []⟩ us vs Q E0 hg hr I.env0 (by have := hb s us I.kIn hl; rwa [List.append_nil] at this) r h) fun r s' hq => ?_)
  cases r with
  | error e => exact False.elim hq
  | ok fl =>
    cases fl with
    | ret u => exact I.after hq
    | next => exact False.elim hq
    | brk => exact False.elim hq
    | cont => exact False.elim hq
/-- a def of the module that is promised where nothing is being shown below -/
structure FnS (P : Program) (w : World) (K : PySem.W.Frag) (mg : Str → Option Value) (base : Heap) (k : Nat) (x : Str) (sp : Sp) : Prop where
  ex : ∃ (f : Addr) (fd : FuncData) (ps : List Str), FnG P w K mg base k f fd ps sp ∧ mg x = some (.ref f) ∧ PySem.W.keepIn K (.ref f) = true ∧ Binds K fd ps []
theorem pe_callG {x : Str} {p pos : Pos} {e : Expr} {es : List Expr} {t : TA} {k : Nat} {f : Addr} {fd : FuncData} {ps : List Str} {sp : Sp} (F : FnG X.prog X.w X.K X.mg X.base k f fd ps sp) (hgd : X.A.guards = some []) (hr : Room k X.A) (hg : Gl X x) (hm : X.mg x = some (.ref f)) (hk : PySem.W.keepIn X.K (.ref f) = true) (hb : Binds X.K fd ps [])
    (ha : PA X (e :: es) t) (hdb : (x == ("__debug__" : Str)) = false) (he : starEach (e :: es) X.env = (false, eval e X.env) :: starEach es X.env) (hpl : (backTo pos (starEach es X.env)).any (·.1) = false) :
    PE X (.Call (.Name x p) (e :: es) [] pos) (tCall sp [] E0 t) := by
  refine ⟨fun pins s σ H Q I h => wpAny_Call_Name_kw (ld_glob I hg hm (PySem.W.callWith_K (h₀ := X.base) I.ok.mod.kin hk (thn (ha.run pos pins s σ H _ I h) fun us s1 z => ?_) he hpl) hdb)⟩
  obtain ⟨vs, H1, I1, r, q⟩ := z
  exact ⟨I1.kIn, run_fnG F hgd hr hb I1 r (by rwa [List.append_nil] at q)⟩
theorem e_callG {N G : List Str} {sc : Scope} {e : Expr} {es : List Expr} {pos p0 : Pos} {σ : L2.St} {H : Hp} {Q : VK} {g : Nat} {k n : Nat} {x : Str} {sp : Sp} (F : FnS X.prog X.w X.K X.mg X.base k x sp) (hgd : X.A.guards = some []) (hr : Room n X.A) (hk : k ≤ n) (q : wA X (e :: es) σ H fun vs H1 => sp vs H1 Q E0)
    (I : In X N G sc := by assumption) (hG : At G g x := by repeat (first | with_reducible apply At.z | with_reducible apply At.s))
    (he : starEach (e :: es) X.env = (false, eval e X.env) :: starEach es X.env := by rfl) (hpl : (backTo pos (starEach es X.env)).any (·.1) = false := by rfl) : wE X (.Call (.Name x p0) (e :: es) [] pos) σ H Q := by
  obtain ⟨f, fd, ps, F0, hm, hkp, hb⟩ := F.ex
  refine e_of (pe_callG F0 hgd (hr.mono hk) (I.g hG) hm hkp hb pa (I.gd hG) he hpl) ?_
  show wA X (e :: es) σ H fun vs H1 => sp (vs ++ []) H1 Q E0
  simp only [List.append_nil]
  exact q
end
end Wk
namespace Wk
open PySem PySem.Spec PyProof.Rows L2
section
variable {P : Program} {w : World} {K : PySem.W.Frag}
/-- the heap in which the script alone is told (unless it is an object of the module) -/
def toldS (K : PySem.W.Frag) (a : Addr) (vs : List Value) (ns : List Int) : Hp := fun b =>
  if b = a ∧ (K.lookup a).isNone = true then some (.frz { cls := .type "list", data := .seq vs.toArray } (.lst (ns.map V.int))) else none
theorem toldS_some {a b : Addr} {vs : List Value} {ns : List Int} {u : HO} (h : toldS K a vs ns b = some u) : b = a ∧ K.lookup a = none ∧ u = .frz { cls := .type "list", data := .seq vs.toArray } (.lst (ns.map V.int)) := by
  unfold toldS at h
  split at h
  · rename_i hc
    cases h
    exact ⟨hc.1, Option.isNone_iff_eq_none.mp hc.2, rfl⟩
  · cases h
theorem toldS_none {a b : Addr} {vs : List Value} {ns : List Int} (h : ¬ (b = a ∧ K.lookup a = none)) : toldS K a vs ns b = none := by
  cases e : toldS K a vs ns b with
  | none => rfl
  | some u => exact absurd ⟨(toldS_some e).1, (toldS_some e).2.1⟩ h
theorem law_callG {mg mb : Str → Option Value} {k : Nat} {fa a : Addr} {fd : FuncData} {x : Str} {sp : Sp} {s : Shared} {vs : List Value} {ns : List Int}
    (KX : K.In s.heap) (hns : s.heap.Ns mainGlobals mg) (hb : s.heap.Ns builtinsNs mb) (hbb : ∀ x : Str, x ≠ "__name__" → mb x = bootBuiltins x) (hlim : s.heap.NoLimit) (hg : s.gens = #[])
    (ha : s.heap.get? a = some { cls := .type "list", data := .seq vs.toArray }) (hi : IntsAre vs ns) (hl : ns.length ≤ sizeLine) (hr : Room k callerA)
    (F : ∀ base : Heap, K.In base → base.Ns mainGlobals mg → FnG P w K mg base k fa fd [x] sp) (hbind : ∀ (s : Shared) (u : Value), BindsTo s fd ⟨[u], []⟩ [(x, u)])
    (hsp : ∀ H : Hp, Only H → SqL K H a (ns.map V.int) → sp [.ref a] H (fun v _ => v = .bl true) fun _ _ _ => False) :
    codeAny (model P w) callerA (.call (.ref fa) ⟨[.ref a], []⟩) (fun r s' => r = .ok (.ret (.bool true)) ∧ OldK s.heap s'.heap ∧ s'.os = s.os ∧ AllBare s'.gens) s := by
  have hT : ∀ {b : Addr} {u : HO}, toldS K a vs ns b = some u → b = a ∧ K.lookup a = none ∧ u = .frz { cls := .type "list", data := .seq vs.toArray } (.lst (ns.map V.int)) := toldS_some
  have hN : ∀ {b : Addr}, ¬ (b = a ∧ K.lookup a = none) → toldS K a vs ns b = none := toldS_none
  have hS : SqL K (toldS K a vs ns) a (ns.map V.int) := by
    cases hk : K.lookup a with
    | none => exact .inl (.inr ⟨_, if_pos ⟨rfl, by rw [hk]; rfl⟩⟩)
    | some o =>
      have e := KX a o hk
      rw [ha] at e
      cases e
      exact .inr ⟨_, vs.toArray, _, hk, rfl, rfl, rfl, by rw [List.size_toArray, hi.length]; exact hl, by simpa using vals_ints hi⟩
  generalize toldS K a vs ns = H at hT hN hS
  have only : Only H := fun b => by
    cases e : H b with
    | none => exact .inl rfl
    | some u => exact .inr ⟨_, _, by rw [(hT e).2.2]⟩
  have notDict : ∀ {b : Addr} {o : Obj} {es : Array DictEntry} {n : Nat}, s.heap.get? b = some o → o.data = .dict es n → H b = none := fun {b o es n} e d => hN fun z => by
    obtain ⟨rfl, _⟩ := z
    rw [ha] at e
    cases e
    cases (show Data.seq vs.toArray _ = Data.dict es n from d)
  have names : ∀ {b : Addr} {m : Str → Option Value}, s.heap.Ns b m → (hidT s.heap H).Ns b m := fun z => let ⟨o, es, n, e, d, r⟩ := z; ⟨o, es, n, hidT_get e (notDict e d), d, r⟩
  have inB : K.In (hidT s.heap H) := fun b o e => hidT_get (KX b o e) (hN fun z => by rw [← z.1, e] at z; cases z.2)
  have md : Mod K mg (hidT s.heap H) := ⟨inB, names hns, ⟨mb, names hb, hbb⟩, let ⟨m, z1, z2⟩ := hlim; ⟨m, names z1, z2⟩⟩
  have hok : HOk P w H s.heap := fun b u e => by
    obtain ⟨rfl, _, rfl⟩ := hT e
    exact ⟨ha, by rw [List.length_map]; exact hl, vs, _, vals_ints hi, ha⟩
  have env : Env0 P w K mg (hidT s.heap H) callerA [] s H := ⟨rfl, md, fun b o e => of_hidT e, Nat.le_of_eq (hidT_size _ _), trivial, fun b z => (List.not_mem_nil z).elim, hok, .of_eq hg⟩
  refine codeAny_mono ((F _ inB (names hns)).run callerA [] s H ⟨[.ref a], []⟩ [.ref a] [.ref a] _ _ rfl hr env (hbind s (.ref a)) (.cons rfl .nil) (hsp H only hS)) fun r s' z => ?_
  cases r with
  | error e => exact False.elim z
  | ok fl =>
    cases fl with
    | ret u =>
      obtain ⟨v, H', os, bare, un, hok', rv, q⟩ := z
      cases (show v = .bl true from q)
      cases (show u = Value.bool true from rv)
      refine ⟨rfl, OldK.of_keep fun b o e => ?_, os, bare⟩
      cases t : H b with
      | none => exact un.keep b o e t (List.not_mem_nil) (by simp)
      | some u =>
        obtain ⟨rfl, _, rfl⟩ := hT t
        have e2 := (hok' b _ (un.frzs b _ _ t)).1
        rw [ha] at e
        cases e
        exact e2
    | next => exact False.elim z
    | brk => exact False.elim z
    | cont => exact False.elim z
/-- the law's end, by a promise where nothing is being shown below -/
theorem walk_ofG {l : PySem.W.OpenLaw} {n k : Nat} {q : Program} {loose : List Str} {XP : (Str → Option Value) → Heap → Prop} {YP : World → Heap → Prop} {d : DefRec} {K : Params → PySem.W.Frag} {sp : World → Sp} {x : Str}
    (hn : l.most = some n) (hn2 : n ≤ sizeLine) (hdf : d.params.defaults = []) (hr : Room k callerA)
    (hY : ∀ (w : World) (h : Heap), YP w h → (K w.params).In h)
    (F : ∀ (w : World) (mg : Str → Option Value) (fa : Addr) (h : Heap), (K w.params).In h → h.Ns mainGlobals mg → mg d.name = some (.ref fa) →
      ∃ fd : FuncData, (∀ (s : Shared) (u : Value), BindsTo s fd ⟨[u], []⟩ [(x, u)]) ∧
        ∀ base : Heap, (K w.params).In base → base.Ns mainGlobals mg → FnG l.prog w (K w.params) mg base k fa fd [x] (sp w))
    (hsp : ∀ (w : World) (H : Hp) (a : Addr) (ns : List Int), ns.length ≤ n → Only H → SqL (K w.params) H a (ns.map V.int) → sp w [.ref a] H (fun v _ => v = .bl true) fun _ _ _ => False) :
    PySem.W.WalkO q loose XP YP l.row.toRowW d [] (fun f vs => PySem.call f vs) :=
  Att.attach_call hn hdf fun w s₀ s₁ mg mb fa o pm cd doc a vs ns G Y ho hd hcd hmg hobj hints hlen hg => by
    obtain ⟨fd, hb, hF⟩ := F w mg fa _ (hY w _ Y) G.T.g hmg
    exact law_callG (hY w _ Y) G.T.g G.T.b G.T.builtins G.T.nolimit hg hobj hints (Nat.le_trans hlen hn2) hr hF hb fun H hO hS => hsp w H a ns hlen hO hS
end
end Wk

set_option maxHeartbeats 4000000
/-! My own layer: comprehensions inside of comprehensions, comprehensions over zip, a loop over zip that unpacks triples, not of a list, methods that raise, errors without own __init__. -/
namespace Wk
open PySem PySem.Spec PyProof.Rows L2
/-- where a block's scope stands in -/
structure Sc (X : Cx) (sc : Scope) : Prop where
  nd : X.N.Nodup
  sc : X.env.scope = sc
section
variable {X : Cx} {e a b c elt o : Expr} {es rest : List Expr} {σ : L2.St} {H : Hp} {Q : VK} {pos p0 apos : Pos} {N G G' : List Str} {Vn : List (Nat × Str)} {sc scope : Scope}
theorem In.s (I : In X N G sc) : Sc X sc := ⟨I.nd, I.sc⟩
theorem Sc.bk (S : Sc X sc) {s : Shared} {H : Hp} {C : Addr} {cl : List (Str × Addr)} {fp : List Addr} : Sc (Bk X s H scope C cl fp) (relS scope sc) := ⟨S.nd, rel_eq S.sc C cl⟩
theorem BkOk.inS {i : Nat} {x : Str} (B : BkOk X.N Vn G' i x sc scope) (I : Sc X sc) (s : Shared) (H : Hp) (C : Addr) (cl : List (Str × Addr)) (fp : List Addr) : InB (Bk X s H scope C cl fp) Vn G' := by
  have e : (compEnvC scope cl C X.env).scope = relS scope sc := rel_eq I.sc C cl
  refine ⟨I.nd, fun p hp => ?_, fun y hy => ?_⟩
  · obtain ⟨h1, h2, h3, h4⟩ := B.lo p hp
    exact ⟨h1, by show Vis (compEnvC scope cl C X.env).scope p.2; rw [e]; exact h2, h3, h4⟩
  · obtain ⟨h1, h2, h3⟩ := B.gl y hy
    exact ⟨by show (compEnvC scope cl C X.env).scope.names.lookup y = _; rw [e]; exact h1, h2, h3⟩
theorem BkOk.pgS {i : Nat} {x : Str} {px : Pos} (B : BkOk X.N Vn G' i x sc scope) (I : Sc X sc) (s : Shared) (H : Hp) (C : Addr) (cl : List (Str × Addr)) (fp : List Addr) : PG (Bk X s H scope C cl fp) (.Name x px) (gName i) := by
  have e : (compEnvC scope cl C X.env).scope = relS scope sc := rel_eq I.sc C cl
  have l : (Bk X s H scope C cl fp).env.scope.names.lookup x = some .local := by
    show (compEnvC scope cl C X.env).scope.names.lookup x = _
    rw [e]
    exact B.own.2
  exact pg_name I.nd B.own.1 (.inl l) (.inr l)
theorem BkOk.okS {i : Nat} {x : Str} (B : BkOk X.N Vn G' i x sc scope) (I : Sc X sc) : BlkOk X.N X.env.scope scope [(x, i)] := by
  rw [I.sc]
  exact blkOk_by B.blk
/-- a block whose own name is captured by a block inside of it -/
structure BkOkC (N : List Str) (Vn : List (Nat × Str)) (G : List Str) (i : Nat) (x : Str) (sc scope : Scope) : Prop where
  lo : ∀ p ∈ Vn, N[p.1]? = some p.2 ∧ Vis (relS scope sc) p.2 ∧ (p.2 == ("__debug__" : Str)) = false ∧ (p.2 == ("__classdict__" : Str)) = false
  gl : ∀ x ∈ G, (relS scope sc).names.lookup x = some .globalImplicit ∧ (x == ("__debug__" : Str)) = false ∧ x ≠ "__name__"
  own : N[i]? = some x ∧ (relS scope sc).names.lookup x = some .cell
  cel : (scope.names.lookup x == some .cell) = true
  blk : blkC N sc scope [(x, i)] = true
theorem BkOkC.inS {i : Nat} {x : Str} (B : BkOkC X.N Vn G' i x sc scope) (I : Sc X sc) (s : Shared) (H : Hp) (C : Addr) (cl : List (Str × Addr)) (fp : List Addr) : InB (Bk X s H scope C cl fp) Vn G' := by
  have e : (compEnvC scope cl C X.env).scope = relS scope sc := rel_eq I.sc C cl
  refine ⟨I.nd, fun p hp => ?_, fun y hy => ?_⟩
  · obtain ⟨h1, h2, h3, h4⟩ := B.lo p hp
    exact ⟨h1, by show Vis (compEnvC scope cl C X.env).scope p.2; rw [e]; exact h2, h3, h4⟩
  · obtain ⟨h1, h2, h3⟩ := B.gl y hy
    exact ⟨by show (compEnvC scope cl C X.env).scope.names.lookup y = _; rw [e]; exact h1, h2, h3⟩
theorem BkOkC.pgS {i : Nat} {x : Str} {px : Pos} (B : BkOkC X.N Vn G' i x sc scope) (I : Sc X sc) (s : Shared) (H : Hp) (C : Addr) (cl : List (Str × Addr)) (fp : List Addr) : PG (Bk X s H scope C cl fp) (.Name x px) (gName i) := by
  have e : (compEnvC scope cl C X.env).scope = relS scope sc := rel_eq I.sc C cl
  have l : (Bk X s H scope C cl fp).env.scope.names.lookup x = some .cell := by
    show (compEnvC scope cl C X.env).scope.names.lookup x = _
    rw [e]
    exact B.own.2
  exact pg_name I.nd B.own.1 (.inr l) (.inl B.cel)
theorem BkOkC.okS {i : Nat} {x : Str} (B : BkOkC X.N Vn G' i x sc scope) (I : Sc X sc) : BlkOk X.N X.env.scope scope [(x, i)] := by
  rw [I.sc]
  exact blkOk_by B.blk
theorem e_lcLC {i : Nat} {x : Str} {px : Pos} (B : BkOkC X.N Vn G' i x sc scope)
    (q : wE X a σ H fun v H1 => ∃ ad xs, v = .ref ad ∧ SqL X.K H1 ad xs ∧ ∀ D, H1 D = none → LcL X Vn G' elt scope i ad xs D σ H1 fun H2 => Q (.ref D) H2)
    (I : In X N G sc := by assumption) (hc : X.calm = true := by rfl) (hs2 : ∀ z, foldedSetIterable a X.env z = pure z := by intro _; rfl) :
    wE X (.ListComp elt [⟨.Name x px, a, [], 0⟩] scope pos) σ H Q := by
  refine e_of (pe_lc (own := [(x, i)]) (g := gName i) (tt := tYes) (te := wBk X Vn G' elt scope) hc I.nd (pi_list pe) (B.okS I.s) (fun s H C cl fp => B.pgS I.s s H C cl fp) (fun _ _ _ _ _ => pts_nil) (fun s H C cl fp => pe_bk (B.inS I.s s H C cl fp)) hs2) (e_mono q fun v H1 q1 => ?_)
  obtain ⟨ad, xs, rfl, hl, q2⟩ := q1
  exact ⟨ad, rfl, ⟨xs, hl⟩, fun D hD => lcL_of (q2 D hD)⟩
theorem e_lcRC {i g : Nat} {x : Str} {px p cp : Pos} (B : BkOkC X.N Vn G' i x sc scope) (hm : X.mg "range" = none)
    (q : wE X a σ H fun v H1 => ∃ n : Nat, v = .int n ∧ n < 2 ^ 62 ∧ ∀ D, H1 D = none → LcR X Vn G' elt scope i n D σ H1 fun H2 => Q (.ref D) H2)
    (I : In X N G sc := by assumption) (hc : X.calm = true := by rfl) (hG : At G g ("range" : Str) := by repeat (first | with_reducible apply At.z | with_reducible apply At.s)) (hs : starEach [a] X.env = [(false, eval a X.env)] := by rfl) (hs2 : ∀ z, foldedSetIterable (.Call (.Name "range" p) [a] [] cp) X.env z = pure z := by intro _; rfl)
    (hs1 : starEach (a :: []) X.env = (false, eval a X.env) :: starEach [] X.env := by rfl) :
    wE X (.ListComp elt [⟨.Name x px, .Call (.Name "range" p) [a] [] cp, [], 0⟩] scope pos) σ H Q := by
  refine e_of (pe_lc (own := [(x, i)]) (g := gName i) (tt := tYes) (te := wBk X Vn G' elt scope) hc I.nd (pi_range1 (I.g hG) hm (pa_cons pe pa_nil hs1) hs) (B.okS I.s) (fun s H C cl fp => B.pgS I.s s H C cl fp) (fun _ _ _ _ _ => pts_nil) (fun s H C cl fp => pe_bk (B.inS I.s s H C cl fp)) hs2) (e_mono q fun v H1 q1 => ?_)
  obtain ⟨n, rfl, hn, q2⟩ := q1
  refine ⟨(n : Int), rfl, by omega, by omega, ?_⟩
  rw [Int.toNat_natCast]
  exact fun D hD => lcR_of (q2 D hD)
/-- [elt for x in a], a list, inside of a block -/
theorem n_lcL {i : Nat} {x : Str} {px : Pos} (S : Sc X sc) (B : BkOk X.N Vn G' i x sc scope)
    (q : wE X a σ H fun v H1 => ∃ ad xs, v = .ref ad ∧ SqL X.K H1 ad xs ∧ ∀ D, H1 D = none → LcL X Vn G' elt scope i ad xs D σ H1 fun H2 => Q (.ref D) H2)
    (hc : X.calm = true := by rfl) (hs2 : ∀ z, foldedSetIterable a X.env z = pure z := by intro _; rfl) :
    wE X (.ListComp elt [⟨.Name x px, a, [], 0⟩] scope pos) σ H Q := by
  refine e_of (pe_lc (own := [(x, i)]) (g := gName i) (tt := tYes) (te := wBk X Vn G' elt scope) hc S.nd (pi_list pe) (B.okS S) (fun s H C cl fp => B.pgS S s H C cl fp) (fun _ _ _ _ _ => pts_nil) (fun s H C cl fp => pe_bk (B.inS S s H C cl fp)) hs2) (e_mono q fun v H1 q1 => ?_)
  obtain ⟨ad, xs, rfl, hl, q2⟩ := q1
  exact ⟨ad, rfl, ⟨xs, hl⟩, fun D hD => lcL_of (q2 D hD)⟩
theorem n_lcLf {i : Nat} {x : Str} {px : Pos} (S : Sc X sc) (B : BkOk X.N Vn G' i x sc scope)
    (q : wE X a σ H fun v H1 => ∃ ad xs, v = .ref ad ∧ SqL X.K H1 ad xs ∧ ∀ D, H1 D = none → LcLf X Vn G' elt c scope i ad xs D σ H1 fun H2 => Q (.ref D) H2)
    (hc : X.calm = true := by rfl) (hs2 : ∀ z, foldedSetIterable a X.env z = pure z := by intro _; rfl) :
    wE X (.ListComp elt [⟨.Name x px, a, [c], 0⟩] scope pos) σ H Q := by
  refine e_of (pe_lc (own := [(x, i)]) (g := gName i) (tt := wBkT X Vn G' c scope) (te := wBk X Vn G' elt scope) hc S.nd (pi_list pe) (B.okS S) (fun s H C cl fp => B.pgS S s H C cl fp) (fun s H C cl fp => pts_bk (B.inS S s H C cl fp)) (fun s H C cl fp => pe_bk (B.inS S s H C cl fp)) hs2) (e_mono q fun v H1 q1 => ?_)
  obtain ⟨ad, xs, rfl, hl, q2⟩ := q1
  exact ⟨ad, rfl, ⟨xs, hl⟩, fun D hD => lcLf_of (q2 D hD)⟩
/-- [elt for x in a if c], a holds range(n) -/
theorem e_lcRvf {i : Nat} {x : Str} {px : Pos} (B : BkOk X.N Vn G' i x sc scope)
    (q : wE X a σ H fun v H1 => ∃ (ad : Addr) (n : Nat), v = .ref ad ∧ H1 ad = some (.rng 0 n) ∧ n < 2 ^ 62 ∧ ∀ D, H1 D = none → LcRf X Vn G' elt c scope i n D σ H1 fun H2 => Q (.ref D) H2)
    (I : In X N G sc := by assumption) (hc : X.calm = true := by rfl) (hs2 : ∀ z, foldedSetIterable a X.env z = pure z := by intro _; rfl) :
    wE X (.ListComp elt [⟨.Name x px, a, [c], 0⟩] scope pos) σ H Q := by
  refine e_of (pe_lc (own := [(x, i)]) (g := gName i) (tt := wBkT X Vn G' c scope) (te := wBk X Vn G' elt scope) hc I.nd (pi_rngV pe) (B.ok I) (fun s H C cl fp => B.pg I s H C cl fp) (fun s H C cl fp => pts_bk (B.inB I s H C cl fp)) (fun s H C cl fp => pe_bk (B.inB I s H C cl fp)) hs2) (e_mono q fun v H1 q1 => ?_)
  obtain ⟨ad, n, rfl, had, hn, q2⟩ := q1
  refine ⟨ad, 0, n, rfl, had, ⟨by omega, by omega, by omega, by omega⟩, ?_⟩
  rw [Int.sub_zero, Int.toNat_natCast]
  exact fun D hD => lcRf_of (q2 D hD)
/-- not a, by its truth -/
theorem e_notT (q : wE X a σ H fun x H1 => ∃ k, TruV X.K x H1 k ∧ Q (.bl (!k)) H1) : wE X (.UnaryOp .Not a pos) σ H Q := e_of (pe_notT pe) q
/-- [elt for x, y in zip(a, b)] -/
def LcZ (X : Cx) (Vn : List (Nat × Str)) (G' : List Str) (c d : Side) (elt : Expr) (scope : Scope) (i j : Nat) (va vb : Addr) (xs ys : List L2.V) (D : Addr) (σ : L2.St) (H1 : Hp) (Qd : Hp → Prop) : Prop := ∃ Pv : Nat → Hp → Prop, Pv 0 (upd H1 D (.lst [])) ∧ (∀ k H2, k ≤ min xs.length ys.length → Pv k H2 → c.sq X.K H2 va xs ∧ d.sq X.K H2 vb ys) ∧
  (∀ k u1 u2 T H2, xs[k]? = some u1 → ys[k]? = some u2 → Pv k H2 → H2 T = none → ∀ s0 H0 C cl fp, InB (Bk X s0 H0 scope C cl fp) Vn G' → wE (Bk X s0 H0 scope C cl fp) elt (((wipe σ [i, j]).set i (some u1)).set j (some u2)) (upd H2 T (.tup [u1, u2])) fun y H4 => ∃ acc, H4 D = some (.lst acc) ∧ acc.length < sizeLine ∧ Pv (k + 1) (upd H4 D (.lst (acc ++ [y])))) ∧
  ∀ H2, Pv (min xs.length ys.length) H2 → Qd H2
theorem e_lcZ (cs ds : Side) {i j g : Nat} {x y : Str} {px py pt p cp : Pos} {kt : Nat} (B : BkOk2 X.N Vn G' i j x y sc scope) (hm : X.mg "zip" = none)
    (q : wE X a σ H fun v H1 => wE X b σ H1 fun u H2 => ∃ va vb xs ys, v = .ref va ∧ u = .ref vb ∧ cs.sq X.K H2 va xs ∧ ds.sq X.K H2 vb ys ∧ ∀ D, H2 D = none → LcZ X Vn G' cs ds elt scope i j va vb xs ys D σ H2 fun H3 => Q (.ref D) H3)
    (I : In X N G sc := by assumption) (hc : X.calm = true := by rfl) (hG : At G g ("zip" : Str) := by repeat (first | with_reducible apply At.z | with_reducible apply At.s)) (hs : starEach [a, b] X.env = (false, eval a X.env) :: starEach [b] X.env := by rfl) (hpl : (backTo cp (starEach [b] X.env)).any (·.1) = false := by rfl)
    (hs1 : starEach (b :: []) X.env = (false, eval b X.env) :: starEach [] X.env := by rfl) (hs2 : ∀ z, foldedSetIterable (.Call (.Name "zip" p) [a, b] [] cp) X.env z = pure z := by intro _; rfl) :
    wE X (.ListComp elt [⟨.Tuple [.Name x px, .Name y py] kt pt, .Call (.Name "zip" p) [a, b] [] cp, [], 0⟩] scope pos) σ H Q := by
  refine e_of (pe_lc (own := [(x, i), (y, j)]) (g := gT2 X.K i j) (tt := tYes) (te := wBk X Vn G' elt scope) hc I.nd (pi_zipM (c := cs) (d := ds) (I.g hG) hm (pa_cons pe (pa_cons pe pa_nil hs1) hs) hs hpl) (B.ok I) (fun s H C cl fp => B.pg hc I s H C cl fp) (fun _ _ _ _ _ => pts_nil) (fun s H C cl fp => pe_bk (B.inB I s H C cl fp)) hs2) (e_mono q fun v H1 q1 => e_mono q1 fun u H2 q2 => ?_)
  obtain ⟨va, vb, xs, ys, rfl, rfl, sx, sy, q3⟩ := q2
  refine ⟨va, vb, xs, ys, rfl, sx, sy, fun D hD => ?_⟩
  obtain ⟨Pv, h0, hk, hb, hd⟩ := q3 D hD
  refine ⟨fun k m H => m = min xs.length ys.length - k ∧ k ≤ min xs.length ys.length ∧ Pv k H, ⟨_, rfl, Nat.zero_le _, h0⟩, ?_⟩
  rintro k m H ⟨rfl, hle, pv⟩
  obtain ⟨tx, ty⟩ := hk k H hle pv
  by_cases lt : k < min xs.length ys.length
  · have l1 : k < xs.length := by omega
    have l2 : k < ys.length := by omega
    refine .inr ⟨⟨xs, ys, xs[k], ys[k], tx, ty, List.getElem?_eq_getElem l1, List.getElem?_eq_getElem l2⟩, Pv (k + 1), fun H' p' => ⟨_, by omega, rfl, lt, p'⟩, fun w H' yl => ?_⟩
    obtain ⟨T, u1, u2, rfl, nT, rfl, y1, y2⟩ := yl
    refine ⟨T, u1, u2, rfl, SqT.of upd_same, wipe_set2 σ B.ne u1 u2, ?_⟩
    unfold tYes
    refine iteT ?_
    unfold wBk
    exact fun s0 H0 C cl fp I => hb k u1 u2 T H (y1 xs tx) (y2 ys ty) pv nT s0 H0 C cl fp I
  · have ek : k = min xs.length ys.length := by omega
    subst ek
    exact .inl ⟨⟨xs, ys, tx, ty, by omega, by omega, by omega⟩, hd H pv⟩
/-- for (x1, x2, x3), y in zip(a, b) -/
theorem s_forZ3 {nx : L2.St → Hp → Prop} {rt : VK} {bk ct : L2.St → Hp → Prop} (c d : Side) {g : Nat} {x1 x2 x3 y : Str} {i1 i2 i3 j : Nat} {body : List Stmt} {p1 p2 p3 py pt pt2 p cp pos : Pos} {kk kk2 : Nat} (hm : X.mg "zip" = none)
    (q : wE X a σ H fun v H1 => wE X b σ H1 fun u H2 => ∃ va vb xs ys, v = .ref va ∧ u = .ref vb ∧ c.sq X.K H2 va xs ∧ d.sq X.K H2 vb ys ∧ ∃ Pv : Nat → L2.St → Hp → Prop, Pv 0 σ H2 ∧ (∀ k σ H, k ≤ min xs.length ys.length → Pv k σ H → c.sq X.K H va xs ∧ d.sq X.K H vb ys) ∧
      (∀ k u1 u2 T σ H, xs[k]? = some u1 → ys[k]? = some u2 → Pv k σ H → H T = none → ∃ t v1 v2 v3, u1 = .ref t ∧ SqT X.K (upd H T (.tup [u1, u2])) t [v1, v2, v3] ∧ wL X body ⟨Pv (k + 1), rt, nx, Pv (k + 1)⟩ ((((σ.set i1 (some v1)).set i2 (some v2)).set i3 (some v3)).set j (some u2)) (upd H T (.tup [u1, u2]))) ∧ ∀ σ H, Pv (min xs.length ys.length) σ H → nx σ H)
    (I : In X N G sc := by assumption) (hc : X.calm = true := by rfl) (hA1 : At N i1 x1 := by repeat (first | with_reducible apply At.z | with_reducible apply At.s)) (hA2 : At N i2 x2 := by repeat (first | with_reducible apply At.z | with_reducible apply At.s)) (hA3 : At N i3 x3 := by repeat (first | with_reducible apply At.z | with_reducible apply At.s)) (hB : At N j y := by repeat (first | with_reducible apply At.z | with_reducible apply At.s))
    (hG : At G g ("zip" : Str) := by repeat (first | with_reducible apply At.z | with_reducible apply At.s)) (hs : starEach [a, b] X.env = (false, eval a X.env) :: starEach [b] X.env := by rfl) (hpl : (backTo cp (starEach [b] X.env)).any (·.1) = false := by rfl)
    (hs1 : starEach (b :: []) X.env = (false, eval b X.env) :: starEach [] X.env := by rfl) (hs2 : ∀ z, foldedSetIterable (.Call (.Name "zip" p) [a, b] [] cp) X.env z = pure z := by intro _; rfl) :
    wS X (.For (.Tuple [.Tuple [.Name x1 p1, .Name x2 p2, .Name x3 p3] kk2 pt2, .Name y py] kk pt) (.Call (.Name "zip" p) [a, b] [] cp) body [] pos) ⟨nx, rt, bk, ct⟩ σ H := by
  refine s_of (ps_for I.never hc (pi_zipM (c := c) (d := d) (I.g hG) hm (pa_cons pe (pa_cons pe pa_nil hs1) hs) hs hpl) (pg_tup hc (pgs_cons (pg_tup hc (pgs_cons (pg_name I.nd (I.hi hA1) (I.loc hA1) I.f) (pgs_cons (pg_name I.nd (I.hi hA2) (I.loc hA2) I.f) (pgs_cons (pg_name I.nd (I.hi hA3) (I.loc hA3) I.f) pgs_nil)))) (pgs_cons (pg_name I.nd (I.hi hB) (I.loc hB) I.f) pgs_nil))) pl hs2) (e_mono q fun v H1 q1 => e_mono q1 fun u H2 q2 => ?_)
  obtain ⟨va, vb, xs, ys, rfl, rfl, sx, sy, Pv, h0, hk, hb, hd⟩ := q2
  refine ⟨va, vb, xs, ys, rfl, sx, sy, fun k m σ H => m = min xs.length ys.length - k ∧ k ≤ min xs.length ys.length ∧ Pv k σ H, ⟨_, rfl, Nat.zero_le _, h0⟩, ?_⟩
  rintro k m σ H ⟨rfl, hle, pv⟩
  obtain ⟨tx, ty⟩ := hk k σ H hle pv
  by_cases lt : k < min xs.length ys.length
  · have l1 : k < xs.length := by omega
    have l2 : k < ys.length := by omega
    refine .inr ⟨⟨xs, ys, xs[k], ys[k], tx, ty, List.getElem?_eq_getElem l1, List.getElem?_eq_getElem l2⟩, Pv (k + 1), fun σ' H' p' => ⟨_, by omega, rfl, lt, p'⟩, fun w H' yl => ?_⟩
    obtain ⟨T, u1, u2, rfl, nT, rfl, y1, y2⟩ := yl
    obtain ⟨t, v1, v2, v3, rfl, ht, z⟩ := hb k u1 u2 T σ H (y1 xs tx) (y2 ys ty) pv nT
    exact ⟨T, [.ref t, u2], rfl, SqT.of upd_same, rfl, .ref t, [u2], rfl, t, [v1, v2, v3], rfl, ht, rfl, v1, [v2, v3], rfl, v2, [v3], rfl, v3, [], rfl, rfl, u2, [], rfl, rfl, z⟩
  · have ek : k = min xs.length ys.length := by omega
    subst ek
    exact .inl ⟨⟨xs, ys, tx, ty, by omega, by omega, by omega⟩, hd σ H pv⟩
/-! ### errors without own __init__, methods that raise -/
abbrev bmVE : List Value := [.type "ValueError", .type "Exception", .type "BaseException", .type "object"]
structure Ei (K : PySem.W.Frag) (mg : Str → Option Value) (x : Str) (C : Addr) : Prop where
  mgC : mg x = some (.ref C)
  kp : PySem.W.keepIn K (.ref C) = true
  ex : PySem.W.excIn K C bmVE "ValueError.__new__" = true
  sub : PySem.W.subIn K (.ref C) (.type "BaseException") = some true
  ty : PySem.W.typeIn K (.ref C) = some (.type "type")
theorem pmk0N {x : Str} {C : Addr} (R : Ei X.K X.mg x C) (hg : Gl X x) (hdb : (x == ("__debug__" : Str)) = false) : L2N.PMk X (.Call (.Name x p0) [] [] pos) (fun _ H Q => Q (.ref C) none H) := by
  intro pins s σ H Q I h
  refine wpAny_Call_Name_kw (ld_glob I hg R.mgC ?_ hdb)
  refine PySem.W.callWith_K0 I.kIn R.kp ?_
  obtain ⟨bm, N, nm, qn, bs, hdct, sn, sub, ab, col, dd, k0, k1, k2, k3, k5, mN, hC, hN, hni, T⟩ := exc_obj I.kIn R.ex
  refine wpAny_call_exc_subT F.excBase_ValueError T hC hN hni (fun h' e hm => ?_) (Nat.zero_le _)
  exact L2N.mk_of I hm (raises_own R.sub R.ty) h (I.hok.gone hm.new)
/-- raise C() -/
theorem s_raise0 {nx : L2.St → Hp → Prop} {rt : VK} {bk ct : L2.St → Hp → Prop} {g : Nat} {x : Str} {C : Addr} {W : WX} {pos' : Pos} (R : Ei X.K X.mg x C) (tk : L2N.Takes X W) (q : W (.ref C) none σ H)
    (I : In X N G sc := by assumption) (hG : At G g x := by repeat (first | with_reducible apply At.z | with_reducible apply At.s)) (hc : X.calm = true := by rfl) :
    wS X (.Raise (some (.Call (.Name x p0) [] [] pos)) none pos') ⟨nx, rt, bk, ct⟩ σ H :=
  s_of (L2N.ps_raise hc tk (pmk0N R (I.g hG) (I.gd hG))) q
structure MtN (P : Program) (w : World) (K : PySem.W.Frag) (mg : Str → Option Value) (base : Heap) (k : Nat) (C : Addr) (m : Str) (sp : Sp) : Prop where
  ex : ∃ (f : Addr) (fd : FuncData) (ps : List Str), FnOk P w K mg base (L2N.CX P w) k f fd ps sp ∧ Meth K C m f ∧ Binds K fd ps [] ∧ Cls K C
theorem e_methN {k n : Nat} {m : Str} {C : Addr} {pl : Sem Bool} {sp : Sp} {W : WX} (F : MtN X.prog X.w X.K X.mg X.base k C m sp) (tk : L2N.Takes X W) (hr : Room n X.A) (hk : k ≤ n)
    (q : wE X o σ H fun x H1 => ∃ a dx fs, x = .ref a ∧ H1 a = some (.ins C dx fs) ∧ fs.lookup m = none ∧ wA X (e :: es) σ H1 fun vs H2 => sp (x :: vs) H2 Q (fun cls d H' => W cls d σ H'))
    (hst : starEach (e :: es) X.env = (false, eval e X.env) :: starEach es X.env := by rfl) (hpl : (backTo pos (starEach es X.env)).any (·.1) = false := by rfl)
    (ht : eval (.Call (.Attribute o m apos) (e :: es) [] pos) X.env = (do let ov ← eval o X.env; standAt apos.atName; let (f, first) ← holding [ov] (getMethod ov m pl); callWith pos f first (backTo pos (starEach (e :: es) X.env)) (backToKw pos (keywordEach [] X.env))) := by rfl) :
    wE X (.Call (.Attribute o m apos) (e :: es) [] pos) σ H Q := by
  obtain ⟨f, fd, ps, F0, M, hb, c⟩ := F.ex
  refine e_of (t := fun σ H Q => wE X o σ H fun x H1 => ∃ a dx fs, x = .ref a ∧ H1 a = some (.ins C dx fs) ∧ fs.lookup m = none ∧ wA X (e :: es) σ H1 fun vs H2 => sp (x :: vs) H2 Q (fun cls d H' => W cls d σ H')) ⟨fun pins s σ H Q I h => ?_⟩ q
  refine PySem.W.methodCall_KW (pl := pl) (thn (pe.run pins s σ H _ I h) fun u s1 ⟨x, H1, I1, rx, a, dx, fs, ex, ea, l, q⟩ => ?_) ht
  subst ex
  obtain rfl : u = Value.ref a := rx
  refine getmeth_ok I1 ea c M l ?_
  refine PySem.W.callWith_K (first := [.ref a]) (h₀ := X.base) I.ok.mod.kin M.kp (thn (pa.run pos pins s1 σ H1 _ I1 q) fun us s2 ⟨vs, H2, I2, r, q2⟩ => ⟨I2.kIn, ?_⟩) hst hpl
  exact run_fnSD (us := .ref a :: us) (vs := .ref a :: vs) (E := fun σ cls d H' => W cls d σ H') F0 (hr.mono hk) hb .nil (L2N.passAt tk σ) I2 (.cons rfl r) (by rw [List.append_nil]; exact q2)
end
end Wk

set_option maxHeartbeats 4000000
/-! My own layer: errors as values: made, their fields read, asked by isinstance; repr of plain data. -/
namespace Wk
open PySem PySem.Spec PyProof.Rows L2
section
variable {X : Cx} {e o : Expr} {es : List Expr} {σ : L2.St} {H : Hp} {Q : VK} {pos p0 apos : Pos} {N G : List Str} {sc : Scope}
/-- an own class of errors with its own __init__ -/
structure Ec (P : Program) (w : World) (K : PySem.W.Frag) (mg : Str → Option Value) (base : Heap) (x : Str) (C : Addr) (sp : Sp) : Prop where
  o : OexC K C
  mgC : mg x = some (.ref C)
  ex : ∃ (fI : Addr) (fd : FuncData) (ps : List Str), FnOk P w K mg base CX0 1 fI fd ps sp ∧ PySem.W.findIn K (.ref C) "__init__" = some (some (.ref fI)) ∧ PySem.W.typeIn K (.ref fI) = some (.type "function") ∧ Binds K fd ps []
/-- C(e, ..) as a value -/
theorem e_mkX {g n : Nat} {x : Str} {C : Addr} {sp : Sp} (R : Ec X.prog X.w X.K X.mg X.base x C sp) (hr : Room n X.A) (hn : 2 ≤ n)
    (q : wA X (e :: es) σ H fun vs H1 => vs.length ≤ 1000 ∧ ∀ a, H1 a = none → sp (.ref a :: vs) (upd H1 a (exo a C none)) (fun v H2 => v = .non ∧ Q (.ref a) H2) (fun _ _ _ => False))
    (I : In X N G sc := by assumption) (hG : At G g x := by repeat (first | with_reducible apply At.z | with_reducible apply At.s))
    (he : starEach (e :: es) X.env = (false, eval e X.env) :: starEach es X.env := by rfl) (hpl : (backTo pos (starEach es X.env)).any (·.1) = false := by rfl) : wE X (.Call (.Name x p0) (e :: es) [] pos) σ H Q := by
  have hg := I.g hG
  have hdb := I.gd hG
  refine e_of (t := fun σ H Q => wA X (e :: es) σ H fun vs H1 => vs.length ≤ 1000 ∧ ∀ a, H1 a = none → sp (.ref a :: vs) (upd H1 a (exo a C none)) (fun v H2 => v = .non ∧ Q (.ref a) H2) (fun _ _ _ => False)) ⟨fun pins s σ H Q I h => ?_⟩ q
  obtain ⟨fI, fd, ps, F0, hi, ht, hb⟩ := R.ex
  obtain ⟨_, _, _, _, bm, _, _, _, _, _, _, _, _, _, _, hC, hbm⟩ := R.o.cls
  refine wpAny_Call_Name_kw (ld_glob I hg R.mgC ?_ hdb)
  refine PySem.W.callWith_K (h₀ := X.base) I.ok.mod.kin R.o.kC (thn (pa.run pos pins s σ H _ I h) fun us s1 ⟨vs, H1, I1, r1, hl, q1⟩ => ⟨I1.kIn, ?_⟩) he hpl
  show wpAny _ _ (call (.ref C) us) _ _ _
  obtain ⟨hp, g, dr, tk, os⟩ := s1
  have hget0 : ((hp.push (PySem.W.kdv_tup us)).push (PySem.HandSPX.excO C hp.objs.size)).get? (hp.objs.size + 1) = some (PySem.HandSPX.excO C hp.objs.size) := by heap_get
  let a := hp.objs.size + 1
  have na : H1 a = none := I1.hok.fresh (Nat.le_succ _)
  let hp2 := (hp.push (PySem.W.kdv_tup us)).push (PySem.HandSPX.excO C hp.objs.size)
  have kk : ∀ b o, hp.get? b = some o → hp2.get? b = some o := fun b o z => Heap.get?_push_of_some _ (Heap.get?_push_of_some _ z)
  have hget : hp2.get? a = some (PySem.HandSPX.excO C hp.objs.size) := hget0
  have I2 : Inv X pins σ (upd H1 a (exo a C none)) ⟨hp2, g, dr, tk, os⟩ := I1.laid (t' := tk) (h' := hp2) kk (Nat.le_succ _) (exo_ok hget)
  have r2 : Vals (V.ref a :: vs) (Value.ref a :: us) := .cons rfl r1
  have lu : us.length ≤ 1000 := by rw [← r1.length]; exact hl
  have hq := q1 a na
  have lp : (Value.ref a :: us).length = ps.length := by
    have z1 := r2.length
    rw [F0.len _ _ _ _ hq] at z1
    exact z1.symm
  have bind : BindsTo ⟨hp2, g, dr, tk, os⟩ fd ⟨Value.ref a :: us, []⟩ (ps.zip (Value.ref a :: us)) := by
    have z1 := hb ⟨hp2, g, dr, tk, os⟩ (Value.ref a :: us) I2.kIn (by rw [List.append_nil]; exact lp)
    rwa [List.append_nil] at z1
  have room : Room 1 (X.A.under (.builtin "type.__call__" ⟨.ref C :: us, []⟩)) := (hr.mono hn).make C us []
  have go := F0.run _ X.stack _ _ ⟨Value.ref a :: us, []⟩ (Value.ref a :: us) (V.ref a :: vs) _ (fun _ _ _ => False) room (I2.env0.make C us []) bind r2 hq
  refine wpAny_call (PySem.HandSPX.call_own F.excBase_ValueError (fun Y => PySem.HandSPX.refsVE_contains Y bm hbm) (I1.kIn _ _ hC) (PySem.W.looks_findIn I1.kIn hi) (fun self => PySem.W.bind_fn I1.kIn self ht) (by rw [sizeLine_eq]; omega) (codeAny_mono go fun r s' back => ?_))
  cases r with
  | error er => exact False.elim back
  | ok fl =>
    cases fl with
    | ret u =>
      obtain ⟨v', H', I', rz, e1, q2⟩ := I2.after back
      subst e1
      exact ⟨rz, .ref a, H', I', rfl, q2⟩
    | next => exact False.elim back
    | brk => exact False.elim back
    | cont => exact False.elim back
/-- C() as a value, C without own __init__ -/
theorem e_mk0 {g : Nat} {x : Str} {C : Addr} (R : Ei X.K X.mg x C) (q : ∀ a, H a = none → Q (.ref a) (upd H a (exo a C none)))
    (I : In X N G sc := by assumption) (hG : At G g x := by repeat (first | with_reducible apply At.z | with_reducible apply At.s)) : wE X (.Call (.Name x p0) [] [] pos) σ H Q := by
  have hg := I.g hG
  have hdb := I.gd hG
  refine e_of (t := fun σ H Q => ∀ a, H a = none → Q (.ref a) (upd H a (exo a C none))) ⟨fun pins s σ H Q I h => ?_⟩ q
  refine wpAny_Call_Name_kw (ld_glob I hg R.mgC ?_ hdb)
  refine PySem.W.callWith_K0 I.kIn R.kp ?_
  obtain ⟨bm, N, nm, qn, bs, hdct, sn, sub, ab, col, dd, k0, k1, k2, k3, k5, mN, hC, hN, hni, T⟩ := exc_obj I.kIn R.ex
  refine wpAny_call_exc_subT F.excBase_ValueError T hC hN hni (fun h' e hm => ?_) (Nat.zero_le _)
  obtain ⟨t, he, _, _⟩ := hm.there
  have na := I.hok.gone hm.new
  exact ⟨.ref e, _, I.laidN (t' := _) hm.keeps hm.new na (exo_ok he), rfl, h e na⟩
/-- e.f of an error that is held -/
theorem e_xA {C : Addr} {f : Str} (T : XfC X.K C) (hno : PySem.W.findIn X.K (.ref C) f = some none)
    (q : wE X e σ H fun x H1 => ∃ (a dd : Addr) (fs : List (Str × V)) (v : V), x = .ref a ∧ H1 a = some (exo a C (some dd)) ∧ H1 dd = some (exd dd fs) ∧ fs.lookup f = some v ∧ Q v H1) (hb : attributeBase e f X.env (eval e X.env) = eval e X.env := by rfl) :
    wE X (.Attribute e f pos) σ H Q := by
  refine e_of (t := fun σ H Q => wE X e σ H fun x H1 => ∃ (a dd : Addr) (fs : List (Str × V)) (v : V), x = .ref a ∧ H1 a = some (exo a C (some dd)) ∧ H1 dd = some (exd dd fs) ∧ fs.lookup f = some v ∧ Q v H1) ⟨fun pins s σ H Q I h => ?_⟩ q
  refine attr_of hb (thn (pe.run pins s σ H _ I h) fun u s1 hh => ?_)
  obtain ⟨x, H1, I1, rx, a, dd, fs, v, ex, ea, ed, l, q⟩ := hh
  subst ex
  obtain rfl : u = Value.ref a := rx
  obtain ⟨t1, ho⟩ := exo_at I1.hok ea
  obtain ⟨mA, hns, hr⟩ := exd_at I1.hok ed
  obtain ⟨od, hod, hl⟩ := lookIn_ns hns
  obtain ⟨u, hu, ru⟩ := RelO.some_of (v := v) (o := mA f) (by rw [← l]; exact hr f)
  have J : PySem.W.InstAt s1.heap a { cls := .ref C, dict := some dd, data := .fields #[.ref t1, .none, .none, .none, .bool false, .none] } C (some od) := ⟨ho, rfl, rfl, hod⟩
  exact HandSPX.exc_get I1.kIn J T.ga T.gg T.exC (PySem.W.findObj_own T.hdC hno rfl (by rw [hl, hu])) (handed_of ru) ⟨v, H1, I1.tok _, ru, q⟩
/-- an error that is held, with its fields -/
def ErrV (H : Hp) (a C : Addr) (fv : List (Str × V)) : Prop := (fv = [] ∧ H a = some (exo a C none)) ∨ ∃ dd fs, H a = some (exo a C (some dd)) ∧ H dd = some (exd dd fs) ∧ ∀ p ∈ fv, fs.lookup p.1 = some p.2
theorem ErrV.same {H H' : Hp} {a C : Addr} {fv : List (Str × V)} (h : ErrV H a C fv) (e : Same H H') : ErrV H' a C fv := by
  rcases h with ⟨h1, h2⟩ | ⟨dd, fs, h1, h2, h3⟩
  · exact .inl ⟨h1, e _ _ h2⟩
  · exact .inr ⟨dd, fs, e _ _ h1, e _ _ h2, h3⟩
/-- isinstance(e, c) of an error that is held -/
theorem c_isX {a C : Addr} {fv : List (Str × V)} {c : V} {cv : Value} {b : Bool} (T : EcC X.K C) (h : ErrV H a C fv) (k : ClsV c cv) (e : PySem.W.kitOne X.K (.ref C) cv = some b) (q : Q (.bl b) H) : wC X (.builtin "isinstance") [.ref a, c] H Q := by
  unfold wC
  intro pins s σ us I r
  obtain ⟨u1, u2, rfl, r1, r2⟩ := vals2 r
  cases (show u1 = Value.ref a from r1)
  have ec := k.eq r2
  subst ec
  have J : ∃ oe od, PySem.W.InstAt s.heap a oe C od := by
    rcases h with ⟨_, h⟩ | ⟨dd, fs, h, hd, _⟩
    · obtain ⟨t1, ho⟩ := exo_at I.hok h
      exact ⟨_, none, ho, rfl, rfl, trivial⟩
    · obtain ⟨t1, ho⟩ := exo_at I.hok h
      obtain ⟨mA, hns, _⟩ := exd_at I.hok hd
      obtain ⟨od, hod, _⟩ := lookIn_ns hns
      exact ⟨_, some od, ho, rfl, rfl, hod⟩
  obtain ⟨oe, od, J⟩ := J
  exact PySem.W.kia_one (PySem.W.kitx_exc (od := od) T.cl T.hg T.hk T.hs T.ha T.hn T.ht T.hm) I.kIn J e (fun z => nomatch z) fun tk => ⟨.bl b, H, I.tok tk, rfl, q⟩
/-- repr of a list or a tuple of plain data, where nothing is being shown below -/
theorem call_reprD (hg : X.A.guards = some []) (hu : X.A.units + 80 < cLine) :
    CallR X (.builtin "repr") (fun xs H Q => ∃ a d, xs = [.ref a] ∧ Dp X.K H (.ref a) d ∧ d.showable = true ∧ d.hasDict = false ∧ d.depth ≤ 70 ∧ d.shown.length ≤ sizeLine ∧ Q (.str d.shown) H) := by
  intro pins s σ H xs us Q I r h
  obtain ⟨a, d, rfl, hd, h1, h2, h3, h4, q⟩ := h
  obtain ⟨u, rfl, rr⟩ := vals1 r
  obtain ⟨as, rd⟩ := Dp.reads I d _ _ hd rr
  cases rr
  exact PySem.repr_of_reads' rd h1 (fun z => by rw [h2] at z; cases z) hg (by omega) (fun _ _ e => e) (fun h' u tk hk => ⟨.str d.shown, H, I.turnedL (ch := []) (fun b o _ e => hk b o e) (fun b hb => by cases hb), ⟨_, rfl⟩, q⟩) h4
theorem b_repr : bootBuiltins "repr" = some (.builtin "repr") := by decide +kernel
end
end Wk

set_option maxHeartbeats 4000000
namespace K65
open PySem PySem.Spec PyProof.Rows L2 Wk
def topS (i : Nat) : Stmt := PySem.Challenge.pw_heldproofs_k65_errors_made.main.body.getD i (.Pass ⟨0, 0, 0, 0⟩)
abbrev s_BadName___init : Stmt := inClass (topS 2) 0
abbrev N_BadName___init : List Str := ["self", "name"]
abbrev P_BadName___init : List Str := ["self", "name"]
abbrev G_BadName___init : List Str := []
theorem so_BadName___init : ScOk N_BadName___init G_BadName___init (defScope s_BadName___init) := ⟨by decide +kernel, by decide +kernel, by decide +kernel⟩
theorem sc_BadName___init : FnScope N_BadName___init P_BadName___init (defScope s_BadName___init) := ⟨rfl, rfl, rfl, by decide +kernel, rfl, by decide +kernel, by decide +kernel⟩
abbrev s_NameTaken___init : Stmt := inClass (topS 3) 0
abbrev N_NameTaken___init : List Str := ["self", "name"]
abbrev P_NameTaken___init : List Str := ["self", "name"]
abbrev G_NameTaken___init : List Str := []
theorem so_NameTaken___init : ScOk N_NameTaken___init G_NameTaken___init (defScope s_NameTaken___init) := ⟨by decide +kernel, by decide +kernel, by decide +kernel⟩
theorem sc_NameTaken___init : FnScope N_NameTaken___init P_NameTaken___init (defScope s_NameTaken___init) := ⟨rfl, rfl, rfl, by decide +kernel, rfl, by decide +kernel, by decide +kernel⟩
abbrev s_UnknownName___init : Stmt := inClass (topS 4) 0
abbrev N_UnknownName___init : List Str := ["self", "name"]
abbrev P_UnknownName___init : List Str := ["self", "name"]
abbrev G_UnknownName___init : List Str := []
theorem so_UnknownName___init : ScOk N_UnknownName___init G_UnknownName___init (defScope s_UnknownName___init) := ⟨by decide +kernel, by decide +kernel, by decide +kernel⟩
theorem sc_UnknownName___init : FnScope N_UnknownName___init P_UnknownName___init (defScope s_UnknownName___init) := ⟨rfl, rfl, rfl, by decide +kernel, rfl, by decide +kernel, by decide +kernel⟩
abbrev s_InUse___init : Stmt := inClass (topS 5) 0
abbrev N_InUse___init : List Str := ["self", "name"]
abbrev P_InUse___init : List Str := ["self", "name"]
abbrev G_InUse___init : List Str := []
theorem so_InUse___init : ScOk N_InUse___init G_InUse___init (defScope s_InUse___init) := ⟨by decide +kernel, by decide +kernel, by decide +kernel⟩
theorem sc_InUse___init : FnScope N_InUse___init P_InUse___init (defScope s_InUse___init) := ⟨rfl, rfl, rfl, by decide +kernel, rfl, by decide +kernel, by decide +kernel⟩
abbrev s_Circular___init : Stmt := inClass (topS 6) 0
abbrev N_Circular___init : List Str := ["self", "name"]
abbrev P_Circular___init : List Str := ["self", "name"]
abbrev G_Circular___init : List Str := []
theorem so_Circular___init : ScOk N_Circular___init G_Circular___init (defScope s_Circular___init) := ⟨by decide +kernel, by decide +kernel, by decide +kernel⟩
theorem sc_Circular___init : FnScope N_Circular___init P_Circular___init (defScope s_Circular___init) := ⟨rfl, rfl, rfl, by decide +kernel, rfl, by decide +kernel, by decide +kernel⟩
abbrev s_NoRoom___init : Stmt := inClass (topS 7) 0
abbrev N_NoRoom___init : List Str := ["self", "name"]
abbrev P_NoRoom___init : List Str := ["self", "name"]
abbrev G_NoRoom___init : List Str := []
theorem so_NoRoom___init : ScOk N_NoRoom___init G_NoRoom___init (defScope s_NoRoom___init) := ⟨by decide +kernel, by decide +kernel, by decide +kernel⟩
theorem sc_NoRoom___init : FnScope N_NoRoom___init P_NoRoom___init (defScope s_NoRoom___init) := ⟨rfl, rfl, rfl, by decide +kernel, rfl, by decide +kernel, by decide +kernel⟩
abbrev s_LeftOver___init : Stmt := inClass (topS 8) 0
abbrev N_LeftOver___init : List Str := ["self", "name"]
abbrev P_LeftOver___init : List Str := ["self", "name"]
abbrev G_LeftOver___init : List Str := []
theorem so_LeftOver___init : ScOk N_LeftOver___init G_LeftOver___init (defScope s_LeftOver___init) := ⟨by decide +kernel, by decide +kernel, by decide +kernel⟩
theorem sc_LeftOver___init : FnScope N_LeftOver___init P_LeftOver___init (defScope s_LeftOver___init) := ⟨rfl, rfl, rfl, by decide +kernel, rfl, by decide +kernel, by decide +kernel⟩
abbrev s_WrongHold___init : Stmt := inClass (topS 9) 0
abbrev N_WrongHold___init : List Str := ["self", "name"]
abbrev P_WrongHold___init : List Str := ["self", "name"]
abbrev G_WrongHold___init : List Str := []
theorem so_WrongHold___init : ScOk N_WrongHold___init G_WrongHold___init (defScope s_WrongHold___init) := ⟨by decide +kernel, by decide +kernel, by decide +kernel⟩
theorem sc_WrongHold___init : FnScope N_WrongHold___init P_WrongHold___init (defScope s_WrongHold___init) := ⟨rfl, rfl, rfl, by decide +kernel, rfl, by decide +kernel, by decide +kernel⟩
abbrev s_BadKind___init : Stmt := inClass (topS 10) 0
abbrev N_BadKind___init : List Str := ["self", "kind"]
abbrev P_BadKind___init : List Str := ["self", "kind"]
abbrev G_BadKind___init : List Str := []
theorem so_BadKind___init : ScOk N_BadKind___init G_BadKind___init (defScope s_BadKind___init) := ⟨by decide +kernel, by decide +kernel, by decide +kernel⟩
theorem sc_BadKind___init : FnScope N_BadKind___init P_BadKind___init (defScope s_BadKind___init) := ⟨rfl, rfl, rfl, by decide +kernel, rfl, by decide +kernel, by decide +kernel⟩
abbrev s_TextError___init : Stmt := inClass (topS 11) 0
abbrev N_TextError___init : List Str := ["self", "index"]
abbrev P_TextError___init : List Str := ["self", "index"]
abbrev G_TextError___init : List Str := []
theorem so_TextError___init : ScOk N_TextError___init G_TextError___init (defScope s_TextError___init) := ⟨by decide +kernel, by decide +kernel, by decide +kernel⟩
theorem sc_TextError___init : FnScope N_TextError___init P_TextError___init (defScope s_TextError___init) := ⟨rfl, rfl, rfl, by decide +kernel, rfl, by decide +kernel, by decide +kernel⟩
abbrev s_NoPart___init : Stmt := inClass (topS 12) 0
abbrev N_NoPart___init : List Str := ["self", "path"]
abbrev P_NoPart___init : List Str := ["self", "path"]
abbrev G_NoPart___init : List Str := []
theorem so_NoPart___init : ScOk N_NoPart___init G_NoPart___init (defScope s_NoPart___init) := ⟨by decide +kernel, by decide +kernel, by decide +kernel⟩
theorem sc_NoPart___init : FnScope N_NoPart___init P_NoPart___init (defScope s_NoPart___init) := ⟨rfl, rfl, rfl, by decide +kernel, rfl, by decide +kernel, by decide +kernel⟩
abbrev s_NotBare___init : Stmt := inClass (topS 13) 0
abbrev N_NotBare___init : List Str := ["self", "path"]
abbrev P_NotBare___init : List Str := ["self", "path"]
abbrev G_NotBare___init : List Str := []
theorem so_NotBare___init : ScOk N_NotBare___init G_NotBare___init (defScope s_NotBare___init) := ⟨by decide +kernel, by decide +kernel, by decide +kernel⟩
theorem sc_NotBare___init : FnScope N_NotBare___init P_NotBare___init (defScope s_NotBare___init) := ⟨rfl, rfl, rfl, by decide +kernel, rfl, by decide +kernel, by decide +kernel⟩
abbrev s_DerivationError___init : Stmt := inClass (topS 14) 0
abbrev N_DerivationError___init : List Str := ["self", "path", "reason"]
abbrev P_DerivationError___init : List Str := ["self", "path", "reason"]
abbrev G_DerivationError___init : List Str := []
theorem so_DerivationError___init : ScOk N_DerivationError___init G_DerivationError___init (defScope s_DerivationError___init) := ⟨by decide +kernel, by decide +kernel, by decide +kernel⟩
theorem sc_DerivationError___init : FnScope N_DerivationError___init P_DerivationError___init (defScope s_DerivationError___init) := ⟨rfl, rfl, rfl, by decide +kernel, rfl, by decide +kernel, by decide +kernel⟩
abbrev s_NoStep___init : Stmt := inClass (topS 15) 0
abbrev N_NoStep___init : List Str := ["self", "path", "way"]
abbrev P_NoStep___init : List Str := ["self", "path", "way"]
abbrev G_NoStep___init : List Str := []
theorem so_NoStep___init : ScOk N_NoStep___init G_NoStep___init (defScope s_NoStep___init) := ⟨by decide +kernel, by decide +kernel, by decide +kernel⟩
theorem sc_NoStep___init : FnScope N_NoStep___init P_NoStep___init (defScope s_NoStep___init) := ⟨rfl, rfl, rfl, by decide +kernel, rfl, by decide +kernel, by decide +kernel⟩
abbrev s_NoMeeting___init : Stmt := inClass (topS 16) 0
abbrev N_NoMeeting___init : List Str := ["self", "name", "make_index", "open_index"]
abbrev P_NoMeeting___init : List Str := ["self", "name", "make_index", "open_index"]
abbrev G_NoMeeting___init : List Str := []
theorem so_NoMeeting___init : ScOk N_NoMeeting___init G_NoMeeting___init (defScope s_NoMeeting___init) := ⟨by decide +kernel, by decide +kernel, by decide +kernel⟩
theorem sc_NoMeeting___init : FnScope N_NoMeeting___init P_NoMeeting___init (defScope s_NoMeeting___init) := ⟨rfl, rfl, rfl, by decide +kernel, rfl, by decide +kernel, by decide +kernel⟩
abbrev s_BadWorld___init : Stmt := inClass (topS 17) 0
abbrev N_BadWorld___init : List Str := ["self", "reason"]
abbrev P_BadWorld___init : List Str := ["self", "reason"]
abbrev G_BadWorld___init : List Str := []
theorem so_BadWorld___init : ScOk N_BadWorld___init G_BadWorld___init (defScope s_BadWorld___init) := ⟨by decide +kernel, by decide +kernel, by decide +kernel⟩
theorem sc_BadWorld___init : FnScope N_BadWorld___init P_BadWorld___init (defScope s_BadWorld___init) := ⟨rfl, rfl, rfl, by decide +kernel, rfl, by decide +kernel, by decide +kernel⟩
abbrev s_WorldTooLarge___init : Stmt := inClass (topS 18) 0
abbrev N_WorldTooLarge___init : List Str := ["self", "limit"]
abbrev P_WorldTooLarge___init : List Str := ["self", "limit"]
abbrev G_WorldTooLarge___init : List Str := []
theorem so_WorldTooLarge___init : ScOk N_WorldTooLarge___init G_WorldTooLarge___init (defScope s_WorldTooLarge___init) := ⟨by decide +kernel, by decide +kernel, by decide +kernel⟩
theorem sc_WorldTooLarge___init : FnScope N_WorldTooLarge___init P_WorldTooLarge___init (defScope s_WorldTooLarge___init) := ⟨rfl, rfl, rfl, by decide +kernel, rfl, by decide +kernel, by decide +kernel⟩
abbrev s_NoGoal___init : Stmt := inClass (topS 19) 0
abbrev N_NoGoal___init : List Str := ["self", "number"]
abbrev P_NoGoal___init : List Str := ["self", "number"]
abbrev G_NoGoal___init : List Str := []
theorem so_NoGoal___init : ScOk N_NoGoal___init G_NoGoal___init (defScope s_NoGoal___init) := ⟨by decide +kernel, by decide +kernel, by decide +kernel⟩
theorem sc_NoGoal___init : FnScope N_NoGoal___init P_NoGoal___init (defScope s_NoGoal___init) := ⟨rfl, rfl, rfl, by decide +kernel, rfl, by decide +kernel, by decide +kernel⟩
abbrev s_GoalsLeft___init : Stmt := inClass (topS 20) 0
abbrev N_GoalsLeft___init : List Str := ["self", "count"]
abbrev P_GoalsLeft___init : List Str := ["self", "count"]
abbrev G_GoalsLeft___init : List Str := []
theorem so_GoalsLeft___init : ScOk N_GoalsLeft___init G_GoalsLeft___init (defScope s_GoalsLeft___init) := ⟨by decide +kernel, by decide +kernel, by decide +kernel⟩
theorem sc_GoalsLeft___init : FnScope N_GoalsLeft___init P_GoalsLeft___init (defScope s_GoalsLeft___init) := ⟨rfl, rfl, rfl, by decide +kernel, rfl, by decide +kernel, by decide +kernel⟩
abbrev s_cell : Stmt := topS 29
abbrev N_cell : List Str := ["_law_script", "_law_k"]
abbrev P_cell : List Str := ["_law_script", "_law_k"]
abbrev G_cell : List Str := ["len", "abs"]
theorem so_cell : ScOk N_cell G_cell (defScope s_cell) := ⟨by decide +kernel, by decide +kernel, by decide +kernel⟩
theorem sc_cell : FnScope N_cell P_cell (defScope s_cell) := ⟨rfl, rfl, rfl, by decide +kernel, rfl, by decide +kernel, by decide +kernel⟩
abbrev s_pool : Stmt := topS 30
abbrev N_pool : List Str := ["_law_script", "_law_k", "_law_cell_here"]
abbrev P_pool : List Str := ["_law_script", "_law_k"]
abbrev G_pool : List Str := ["_law_cell", "int"]
theorem so_pool : ScOk N_pool G_pool (defScope s_pool) := ⟨by decide +kernel, by decide +kernel, by decide +kernel⟩
theorem sc_pool : FnScope N_pool P_pool (defScope s_pool) := ⟨rfl, rfl, rfl, by decide +kernel, rfl, by decide +kernel, by decide +kernel⟩
abbrev s_next : Stmt := topS 31
abbrev N_next : List Str := ["_law_pool_here", "_law_many", "_law_digit", "_law_mixed"]
abbrev P_next : List Str := ["_law_pool_here", "_law_many"]
abbrev G_next : List Str := ["int"]
theorem so_next : ScOk N_next G_next (defScope s_next) := ⟨by decide +kernel, by decide +kernel, by decide +kernel⟩
theorem sc_next : FnScope N_next P_next (defScope s_next) := ⟨rfl, rfl, rfl, by decide +kernel, rfl, by decide +kernel, by decide +kernel⟩
abbrev s_text : Stmt := topS 32
abbrev N_text : List Str := ["_law_pool_here", "_law_signs", "_law_text_here", "_law_k"]
abbrev P_text : List Str := ["_law_pool_here"]
abbrev G_text : List Str := ["range", "_law_next"]
theorem so_text : ScOk N_text G_text (defScope s_text) := ⟨by decide +kernel, by decide +kernel, by decide +kernel⟩
theorem sc_text : FnScope N_text P_text (defScope s_text) := ⟨rfl, rfl, rfl, by decide +kernel, rfl, by decide +kernel, by decide +kernel⟩
abbrev s_number : Stmt := topS 33
abbrev N_number : List Str := ["_law_pool_here"]
abbrev P_number : List Str := ["_law_pool_here"]
abbrev G_number : List Str := ["_law_next"]
theorem so_number : ScOk N_number G_number (defScope s_number) := ⟨by decide +kernel, by decide +kernel, by decide +kernel⟩
theorem sc_number : FnScope N_number P_number (defScope s_number) := ⟨rfl, rfl, rfl, by decide +kernel, rfl, by decide +kernel, by decide +kernel⟩
abbrev s_path : Stmt := topS 34
abbrev N_path : List Str := ["_law_pool_here"]
abbrev P_path : List Str := ["_law_pool_here"]
abbrev G_path : List Str := ["tuple", "range", "_law_next"]
theorem so_path : ScOk N_path G_path (defScope s_path) := ⟨by decide +kernel, by decide +kernel, by decide +kernel⟩
abbrev C_path : List Str := ["_law_k"]
theorem sc_path : FnScope (N_path ++ C_path) P_path (defScope s_path) := ⟨rfl, rfl, rfl, by decide +kernel, rfl, by decide +kernel, by decide +kernel⟩
abbrev s_kind : Stmt := topS 35
abbrev N_kind : List Str := ["_law_pool_here"]
abbrev P_kind : List Str := ["_law_pool_here"]
abbrev G_kind : List Str := ["_law_next", "_law_text", "_law_number"]
theorem so_kind : ScOk N_kind G_kind (defScope s_kind) := ⟨by decide +kernel, by decide +kernel, by decide +kernel⟩
theorem sc_kind : FnScope N_kind P_kind (defScope s_kind) := ⟨rfl, rfl, rfl, by decide +kernel, rfl, by decide +kernel, by decide +kernel⟩
abbrev s_values : Stmt := topS 36
abbrev N_values : List Str := ["_law_pool_here", "_law_which"]
abbrev P_values : List Str := ["_law_pool_here", "_law_which"]
abbrev G_values : List Str := ["_law_text", "_law_kind", "_law_number", "_law_path"]
theorem so_values : ScOk N_values G_values (defScope s_values) := ⟨by decide +kernel, by decide +kernel, by decide +kernel⟩
theorem sc_values : FnScope N_values P_values (defScope s_values) := ⟨rfl, rfl, rfl, by decide +kernel, rfl, by decide +kernel, by decide +kernel⟩
abbrev s_named : Stmt := topS 37
abbrev N_named : List Str := ["_law_which", "_law_name"]
abbrev P_named : List Str := ["_law_which", "_law_name"]
abbrev G_named : List Str := ["BadName", "NameTaken", "UnknownName", "InUse", "Circular", "NoRoom", "LeftOver", "WrongHold"]
theorem so_named : ScOk N_named G_named (defScope s_named) := ⟨by decide +kernel, by decide +kernel, by decide +kernel⟩
theorem sc_named : FnScope N_named P_named (defScope s_named) := ⟨rfl, rfl, rfl, by decide +kernel, rfl, by decide +kernel, by decide +kernel⟩
abbrev s_plain : Stmt := topS 38
abbrev N_plain : List Str := ["_law_which"]
abbrev P_plain : List Str := ["_law_which"]
abbrev G_plain : List Str := ["WrongGoal", "NotSimple", "NotAlike", "NotOnce", "NotPlain", "NothingToUndo", "NothingToRedo"]
theorem so_plain : ScOk N_plain G_plain (defScope s_plain) := ⟨by decide +kernel, by decide +kernel, by decide +kernel⟩
theorem sc_plain : FnScope N_plain P_plain (defScope s_plain) := ⟨rfl, rfl, rfl, by decide +kernel, rfl, by decide +kernel, by decide +kernel⟩
abbrev s_made : Stmt := topS 39
abbrev N_made : List Str := ["_law_which", "_law_values_here"]
abbrev P_made : List Str := ["_law_which", "_law_values_here"]
abbrev G_made : List Str := ["_law_named", "_law_plain", "BadKind", "TextError", "NoPart", "NotBare", "DerivationError", "NoStep", "NoMeeting", "BadWorld", "WorldTooLarge", "NoGoal", "GoalsLeft"]
theorem so_made : ScOk N_made G_made (defScope s_made) := ⟨by decide +kernel, by decide +kernel, by decide +kernel⟩
theorem sc_made : FnScope N_made P_made (defScope s_made) := ⟨rfl, rfl, rfl, by decide +kernel, rfl, by decide +kernel, by decide +kernel⟩
abbrev s_fields : Stmt := topS 40
abbrev N_fields : List Str := ["_law_which", "_law_e"]
abbrev P_fields : List Str := ["_law_which", "_law_e"]
abbrev G_fields : List Str := []
theorem so_fields : ScOk N_fields G_fields (defScope s_fields) := ⟨by decide +kernel, by decide +kernel, by decide +kernel⟩
theorem sc_fields : FnScope N_fields P_fields (defScope s_fields) := ⟨rfl, rfl, rfl, by decide +kernel, rfl, by decide +kernel, by decide +kernel⟩
abbrev s_marks : Stmt := topS 41
abbrev N_marks : List Str := ["_law_e", "_law_marks_here"]
abbrev P_marks : List Str := ["_law_e"]
abbrev G_marks : List Str := ["isinstance", "BadName", "NameTaken", "UnknownName", "InUse", "Circular", "NoRoom", "LeftOver", "WrongHold", "BadKind", "TextError", "NoPart", "NotBare", "DerivationError", "NoStep", "NoMeeting", "BadWorld", "WorldTooLarge", "NoGoal", "GoalsLeft", "WrongGoal", "NotSimple", "NotAlike", "NotOnce", "NotPlain", "NothingToUndo", "NothingToRedo"]
theorem so_marks : ScOk N_marks G_marks (defScope s_marks) := ⟨by decide +kernel, by decide +kernel, by decide +kernel⟩
theorem sc_marks : FnScope N_marks P_marks (defScope s_marks) := ⟨rfl, rfl, rfl, by decide +kernel, rfl, by decide +kernel, by decide +kernel⟩
abbrev s_is_due : Stmt := topS 42
abbrev N_is_due : List Str := ["_law_which", "_law_e", "_law_values_here", "_law_told"]
abbrev P_is_due : List Str := ["_law_which", "_law_e", "_law_values_here"]
abbrev G_is_due : List Str := ["isinstance", "HeldError", "ValueError", "_law_marks", "range", "_law_fields", "repr"]
theorem so_is_due : ScOk N_is_due G_is_due (defScope s_is_due) := ⟨by decide +kernel, by decide +kernel, by decide +kernel⟩
abbrev C_is_due : List Str := ["_law_k"]
theorem sc_is_due : FnScope (N_is_due ++ C_is_due) P_is_due (defScope s_is_due) := ⟨rfl, rfl, rfl, by decide +kernel, rfl, by decide +kernel, by decide +kernel⟩
abbrev s_law : Stmt := topS 43
abbrev N_law : List Str := ["_law_script", "_law_pool_here", "_law_which", "_law_values_here", "_law_e", "_law_other"]
abbrev P_law : List Str := ["_law_script"]
abbrev G_law : List Str := ["_law_pool", "range", "_law_values", "_law_made", "_law_is_due"]
theorem so_law : ScOk N_law G_law (defScope s_law) := ⟨by decide +kernel, by decide +kernel, by decide +kernel⟩
theorem sc_law : FnScope N_law P_law (defScope s_law) := ⟨rfl, rfl, rfl, by decide +kernel, rfl, by decide +kernel, by decide +kernel⟩
theorem bk_path0 : BkOk (N_path ++ C_path) [(0, "_law_pool_here")] ["_law_next"] 1 "_law_k" (defScope s_path) (xSc (exA (stE ((defBody s_path).getD 0 nS)) 1)) := ⟨by decide +kernel, by decide +kernel, by decide +kernel, by decide +kernel⟩
theorem bk_is_due0 : BkOk (N_is_due ++ C_is_due) [(4, "_law_k"), (0, "_law_which")] [] 4 "_law_k" (defScope s_is_due) (xSc (exA (stE ((defBody s_is_due).getD 1 nS)) 1)) := ⟨by decide +kernel, by decide +kernel, by decide +kernel, by decide +kernel⟩
local macro_rules | `(tactic| walk_at "bl") => `(tactic| first
  | refine e_callB (x := "len") (by assumption) b_len ?_
  | refine e_callB (x := "isinstance") (by assumption) b_isi ?_
  | refine e_callB (x := "abs") (by assumption) b_abs ?_
  | refine e_callB (x := "max") (by assumption) b_max ?_
  | refine e_callB (x := "min") (by assumption) b_min ?_
  | refine e_callTy (x := "str") (by assumption) b_str ?_
  | refine e_callTy (x := "int") (by assumption) b_int ?_)
local macro_rules | `(tactic| walk_at "gl") => `(tactic| first
  | refine e_bltn (x := "int") (v := .ty "int") (by assumption) b_int rfl ?_
  | refine e_bltn (x := "bool") (v := .ty "bool") (by assumption) b_bool rfl ?_
  | refine e_bltn (x := "str") (v := .ty "str") (by assumption) b_str rfl ?_
  | refine e_bltn (x := "tuple") (v := .ty "tuple") (by assumption) b_tuple rfl ?_
  | refine e_bltn (x := "list") (v := .ty "list") (by assumption) b_list rfl ?_)
local macro_rules | `(tactic| walk_at "st") => `(tactic| first
  | refine l_cons ?_
  | refine s_ret ?_
  | refine s_if ?_
  | refine s_set ?_
  | refine s_sub ?_
  | refine e_var ?_
  | refine e_int ?_
  | refine e_ix ?_
  | refine a_cons ?_
  | refine a_nil ?_
  | refine t_cmp ?_
  | refine t_not ?_
  | refine t_w (w_and ?_)
  | refine t_w (w_or ?_)
  | refine w_and ?_
  | refine w_or ?_
  | refine w_and1 ?_
  | refine w_or1 ?_
  | refine t_val ?_
  | refine e_str ?_
  | refine e_bl ?_
  | refine e_non ?_
  | refine e_bin ?_
  | refine e_cmp ?_
  | refine e_and ?_
  | refine e_or ?_
  | refine e_not ?_
  | refine e_one ?_
  | refine l_nil ?_
  | refine s_expr ?_
  | refine e_tup ?_
  | refine e_lst ?_
  | refine ⟨_, rfl, ?_⟩
  | ((with_reducible refine ite_t ?hc ?_); (case hc => exact rfl))
  | ((with_reducible refine ite_f ?hc ?_); (case hc => exact rfl))
  | refine o_add ?_
  | refine o_sub ?_
  | refine o_lt ?_
  | refine o_le ?_
  | refine o_gt ?_
  | refine o_ge ?_
  | refine o_eqI ?_
  | refine o_neI ?_
  | refine o_eqS ?_
  | refine o_neB ?_
  | refine o_isN ?_
  | refine o_nisB ?_
  | refine o_isB ?_
  | refine e_neg ?_
  | refine o_eqB ?_
  | refine c_int ?_
  | refine c_abs ?_
  | refine c_max rfl ?_
  | refine c_min rfl ?_
  | refine a_cons (e_fld ?_)
  | walk_at "bl"
  | walk_at "gl")
local macro_rules | `(tactic| walk_at "sts") => `(tactic| repeat walk_at "st")
section
variable {P : Program} {w : World} {K : PySem.W.Frag} {mg : Str → Option Value} {base : Heap}
def PoolAt (H : Hp) (a : Addr) : Prop := ∃ x y z : Int, H a = some (.lst [.int x, .int y, .int z])
def spCell (K : PySem.W.Frag) : Sp := fun vs H Q _ => ∃ (a : Addr) (ns : List Int) (k : Nat), vs = [.ref a, .int k] ∧ SqL K H a (ns.map V.int) ∧ ∀ z : Int, 0 ≤ z → Q (.int z) H
theorem ok_cell (T : Top K mg "_law_cell" s_cell) (mLen : mg "len" = none) (mAbs : mg "abs" = none) : Fn P w K mg base 1 "_law_cell" (spCell K) := by
  refine fn_ok T sc_cell so_cell (fun vs H Q E h => ?_) (fun _ _ _ _ _ _ us hl => match us, hl with | [_, _], _ => rfl) fun f cdv A outer s H vs Q E hr h nd => ?_
  · obtain ⟨a, ns, k, rfl, _⟩ := h
    rfl
  · obtain ⟨a, ns, k, rfl, hS, q⟩ := h
    walk_at "sts"
    refine c_lenL (by exact hS) ?_
    walk_at "sts"
    refine if2 (fun h => ?_) (fun h => ?_)
    · rw [List.length_map] at h
      have hk : k < ns.length := by omega
      walk_at "sts"
      refine ix_l (by exact hS) (atI_nat (v := .int ns[k]) (by simp [hk])) ?_
      walk_at "sts"
      exact q _ (by split <;> omega)
    · walk_at "sts"
      exact q _ (Int.le_refl _)
def spPool (K : PySem.W.Frag) : Sp := fun vs H Q _ => ∃ (a : Addr) (ns : List Int) (k : Nat), vs = [.ref a, .int k] ∧ SqL K H a (ns.map V.int) ∧ ∀ p H', Same H H' → H p = none → PoolAt H' p → Q (.ref p) H'
theorem ok_pool (T : Top K mg "_law_pool" s_pool) (F : Fn P w K mg base 1 "_law_cell" (spCell K)) (mInt : mg "int" = none) : Fn P w K mg base 2 "_law_pool" (spPool K) := by
  refine fn_ok T sc_pool so_pool (fun vs H Q E h => ?_) (fun _ _ _ _ _ _ us hl => match us, hl with | [_, _], _ => rfl) fun f cdv A outer s H vs Q E hr h nd => ?_
  · obtain ⟨a, ns, k, rfl, _⟩ := h
    rfl
  · obtain ⟨a, ns, k, rfl, hS, q⟩ := h
    walk_at "sts"
    refine e_call (by exact F) (by exact hr) (by decide) ?_
    walk_at "sts"
    refine ⟨a, ns, k, rfl, hS, fun z hz => ?_⟩
    walk_at "sts"
    refine o_pow ⟨by decide, by decide, by decide⟩ ?_
    walk_at "sts"
    refine if2 (fun h => ?_) (fun h => ?_)
    · walk_at "sts"
      refine o_mod (by decide) ?_
      walk_at "sts"
      refine ⟨by show 3 ≤ sizeLine; decide, fun p H2 e np hp => ?_⟩
      exact q p H2 e np ⟨_, _, _, hp⟩
    · walk_at "sts"
      refine ⟨by show 3 ≤ sizeLine; decide, fun p H2 e np hp => ?_⟩
      exact q p H2 e np ⟨_, _, _, hp⟩
def spNext : Sp := fun vs H Q _ => ∃ (a : Addr) (m : Int), vs = [.ref a, .int m] ∧ 0 < m ∧ m < 1073741824 ∧ PoolAt H a ∧ ∀ d H', 0 ≤ d → d < m → But a H H' → PoolAt H' a → Q (.int d) H'
theorem ok_next (T : Top K mg "_law_next" s_next) (mInt : mg "int" = none) : Fn P w K mg base 1 "_law_next" spNext := by
  refine fn_ok T sc_next so_next (fun vs H Q E h => ?_) (fun _ _ _ _ _ _ us hl => match us, hl with | [_, _], _ => rfl) fun f cdv A outer s H vs Q E hr h nd => ?_
  · obtain ⟨a, m, rfl, _⟩ := h
    rfl
  · obtain ⟨a, m, rfl, m0, m1, ⟨x, y, z, hp⟩, q⟩ := h
    walk_at "sts"
    refine ix_l (by exact SqL.of hp) rfl ?_
    walk_at "sts"
    refine if2 (fun h => ?_) (fun h => ?_)
    · walk_at "sts"
      refine ix_l (by exact SqL.of hp) rfl ?_
      walk_at "sts"
      refine o_mod m0 ?_
      walk_at "sts"
      refine ix_l (by exact SqL.of hp) rfl ?_
      walk_at "sts"
      refine o_fdiv ⟨m0, m1⟩ ?_
      walk_at "sts"
      refine set_l hp rfl ?_
      walk_at "sts"
      exact q _ _ (Int.emod_nonneg _ (by omega)) (Int.emod_lt_of_pos _ m0) (But.refl.upd) ⟨_, _, _, upd_same⟩
    · walk_at "sts"
      refine ix_l (by exact SqL.of hp) rfl ?_
      walk_at "sts"
      refine set_l hp rfl ?_
      walk_at "sts"
      refine ix_l (by exact SqL.of upd_same) rfl ?_
      walk_at "sts"
      refine ix_l (by exact SqL.of upd_same) rfl ?_
      walk_at "sts"
      refine o_mul (.inl (by decide)) ?_
      walk_at "sts"
      refine o_mod (by decide) ?_
      walk_at "sts"
      have b1 := Int.emod_nonneg (z + 7919 * (y + 1) + 13) (show (2147483647 : Int) ≠ 0 by decide)
      have b2 := Int.emod_lt_of_pos (z + 7919 * (y + 1) + 13) (show (0 : Int) < 2147483647 by decide)
      refine o_mul (.inl ⟨by omega, by omega⟩) ?_
      walk_at "sts"
      refine o_mod (by decide) ?_
      walk_at "sts"
      generalize (z + 7919 * (y + 1) + 13) % 2147483647 = u at *
      have c1 := Int.emod_nonneg (u * (u + 48271)) (show (2147483629 : Int) ≠ 0 by decide)
      have c2 := Int.emod_lt_of_pos (u * (u + 48271)) (show (0 : Int) < 2147483629 by decide)
      refine o_mul (.inl ⟨by omega, by omega⟩) ?_
      walk_at "sts"
      refine ix_l (by exact SqL.of upd_same) rfl ?_
      walk_at "sts"
      refine o_mul (.inl (by decide)) ?_
      walk_at "sts"
      refine o_mod (by decide) ?_
      walk_at "sts"
      refine o_fdiv (by decide) ?_
      walk_at "sts"
      refine o_mod m0 ?_
      walk_at "sts"
      exact q _ _ (Int.emod_nonneg _ (by omega)) (Int.emod_lt_of_pos _ m0) (But.refl.upd) ⟨_, _, _, upd_same⟩
end
theorem none_of {H H' : Hp} {p : Addr} (s : Same H H') (n : H' p = none) : H p = none := by
  cases hz : H p with
  | none => rfl
  | some o => exact absurd (s p o hz) (by rw [n]; intro z; cases z)
/-- all tuples stay -/
def TS (H H' : Hp) : Prop := ∀ t xs, H t = some (.tup xs) → H' t = some (.tup xs)
theorem Same.ts {H H' : Hp} (s : Same H H') : TS H H' := fun t xs h => s t _ h
theorem But.ts {a : Addr} {H H' : Hp} {l : List V} (b : But a H H') (ha : H a = some (.lst l)) : TS H H' := fun t xs h => b.tup ha h
theorem PoolAt.ts {a : Addr} {H H' : Hp} (h : PoolAt H a) (b : But a H H') : TS H H' := let ⟨_, _, _, e⟩ := h; But.ts b e
theorem TS.upd {a : Addr} {H : Hp} {l : List V} {o : HO} (ha : H a = some (.lst l)) : TS H (L2.upd H a o) := fun t xs h => by
  rw [upd_ne (ne_of h ha (by intro z; cases z))]
  exact h
theorem TS.trans {H H1 H2 : Hp} (a : TS H H1) (b : TS H1 H2) : TS H H2 := fun t xs h => b t xs (a t xs h)



section
variable {X : Cx} {o value : Expr} {σ : L2.St} {H : Hp} {pos : Pos}
/-- self.f = e of an error that is being made, a further field -/
theorem s_ost2 {nx : L2.St → Hp → Prop} {rt : VK} {bk ct : L2.St → Hp → Prop} {f : Str} {pos' : Pos} (q : wE X value σ H fun y H1 => wE X o σ H1 fun x H2 => ∃ (a C dx : Addr) (fs : List (Str × V)), x = .ref a ∧ OexC X.K C ∧ PySem.W.findIn X.K (.ref C) f = some none ∧ H2 a = some (exo a C (some dx)) ∧ H2 dx = some (exd dx fs) ∧ fs.length ≤ 900 ∧ nx σ (upd H2 dx (exd dx ((f, y) :: fs))))
    (hs : swapsWith value (some (.Attribute o f pos')) pos.line X.env = pure false := by rfl) : wS X (.Assign [.Attribute o f pos'] value pos) ⟨nx, rt, bk, ct⟩ σ H :=
  s_of (ps_ost pe pe hs) (e_mono q fun y H1 z => e_mono z fun x H2 ⟨a, C, dx, fs, h1, h2, h3, h4, h5, h6, h7⟩ => ⟨a, C, h1, h2, h3, .inr ⟨dx, fs, h4, h5, h6, h7⟩⟩)
end
/-- an __init__ that stores its arguments in the fields fl -/
def spX (C : Addr) (fl : List Str) : Sp := fun vs H Q _ => ∃ (a : Addr) (us : List V), vs = .ref a :: us ∧ us.length = fl.length ∧ H a = some (exo a C none) ∧ ∀ dx fs H', H dx = none → dx ≠ a → H' a = some (exo a C (some dx)) → H' dx = some (exd dx fs) → (∀ b, b ≠ a → b ≠ dx → H' b = H b) → (∀ p ∈ fl.zip us, fs.lookup p.1 = some p.2) → Q .non H'
section
variable {P : Program} {w : World} {K : PySem.W.Frag} {mg : Str → Option Value} {base : Heap} {C : Addr}
theorem ok_BadName (T : TopM K C "__init__" "BadName.__init__" s_BadName___init) (O : OexC K C) (no : PySem.W.findIn K (.ref C) "name" = some none) (hm : mg "BadName" = some (.ref C)) : Ec P w K mg base "BadName" C (spX C ["name"]) := by
  obtain ⟨f, fd, F, hb, hf, hi, hk⟩ := me_ok (P := P) (w := w) (mg := mg) (base := base) (k := 0) (sp := spX C ["name"]) T sc_BadName___init so_BadName___init (fun vs H Q E h => by obtain ⟨a, us, rfl, hl, _⟩ := h; rw [List.length_cons, hl]; rfl) (fun _ _ _ _ _ _ us hl => match us, hl with | [_, _], _ => rfl) fun f cdv A outer s H vs Q E hr h nd => by
    obtain ⟨a, us, rfl, hl, ha, q⟩ := h
    match us, hl with
    | [v], _ =>
      refine l_cons (s_ost ?_)
      walk_at "sts"
      refine ⟨a, C, rfl, O, no, ha, fun dx nd ne => ?_⟩
      refine l_nil ?_
      exact q dx [(Str.ofString "name", v)] _ nd ne upd_same (by rw [upd_ne ne]; exact upd_same) (fun b h1 h2 => by rw [upd_ne h1, upd_ne h2]) (fun p hp => by rw [List.mem_singleton.mp hp]; simp [List.lookup])
  exact ⟨O, hm, f, fd, _, F, hf, beq_iff_eq.mp hi, hb⟩
theorem ok_NameTaken (T : TopM K C "__init__" "NameTaken.__init__" s_NameTaken___init) (O : OexC K C) (no : PySem.W.findIn K (.ref C) "name" = some none) (hm : mg "NameTaken" = some (.ref C)) : Ec P w K mg base "NameTaken" C (spX C ["name"]) := by
  obtain ⟨f, fd, F, hb, hf, hi, hk⟩ := me_ok (P := P) (w := w) (mg := mg) (base := base) (k := 0) (sp := spX C ["name"]) T sc_NameTaken___init so_NameTaken___init (fun vs H Q E h => by obtain ⟨a, us, rfl, hl, _⟩ := h; rw [List.length_cons, hl]; rfl) (fun _ _ _ _ _ _ us hl => match us, hl with | [_, _], _ => rfl) fun f cdv A outer s H vs Q E hr h nd => by
    obtain ⟨a, us, rfl, hl, ha, q⟩ := h
    match us, hl with
    | [v], _ =>
      refine l_cons (s_ost ?_)
      walk_at "sts"
      refine ⟨a, C, rfl, O, no, ha, fun dx nd ne => ?_⟩
      refine l_nil ?_
      exact q dx [(Str.ofString "name", v)] _ nd ne upd_same (by rw [upd_ne ne]; exact upd_same) (fun b h1 h2 => by rw [upd_ne h1, upd_ne h2]) (fun p hp => by rw [List.mem_singleton.mp hp]; simp [List.lookup])
  exact ⟨O, hm, f, fd, _, F, hf, beq_iff_eq.mp hi, hb⟩
theorem ok_UnknownName (T : TopM K C "__init__" "UnknownName.__init__" s_UnknownName___init) (O : OexC K C) (no : PySem.W.findIn K (.ref C) "name" = some none) (hm : mg "UnknownName" = some (.ref C)) : Ec P w K mg base "UnknownName" C (spX C ["name"]) := by
  obtain ⟨f, fd, F, hb, hf, hi, hk⟩ := me_ok (P := P) (w := w) (mg := mg) (base := base) (k := 0) (sp := spX C ["name"]) T sc_UnknownName___init so_UnknownName___init (fun vs H Q E h => by obtain ⟨a, us, rfl, hl, _⟩ := h; rw [List.length_cons, hl]; rfl) (fun _ _ _ _ _ _ us hl => match us, hl with | [_, _], _ => rfl) fun f cdv A outer s H vs Q E hr h nd => by
    obtain ⟨a, us, rfl, hl, ha, q⟩ := h
    match us, hl with
    | [v], _ =>
      refine l_cons (s_ost ?_)
      walk_at "sts"
      refine ⟨a, C, rfl, O, no, ha, fun dx nd ne => ?_⟩
      refine l_nil ?_
      exact q dx [(Str.ofString "name", v)] _ nd ne upd_same (by rw [upd_ne ne]; exact upd_same) (fun b h1 h2 => by rw [upd_ne h1, upd_ne h2]) (fun p hp => by rw [List.mem_singleton.mp hp]; simp [List.lookup])
  exact ⟨O, hm, f, fd, _, F, hf, beq_iff_eq.mp hi, hb⟩
theorem ok_InUse (T : TopM K C "__init__" "InUse.__init__" s_InUse___init) (O : OexC K C) (no : PySem.W.findIn K (.ref C) "name" = some none) (hm : mg "InUse" = some (.ref C)) : Ec P w K mg base "InUse" C (spX C ["name"]) := by
  obtain ⟨f, fd, F, hb, hf, hi, hk⟩ := me_ok (P := P) (w := w) (mg := mg) (base := base) (k := 0) (sp := spX C ["name"]) T sc_InUse___init so_InUse___init (fun vs H Q E h => by obtain ⟨a, us, rfl, hl, _⟩ := h; rw [List.length_cons, hl]; rfl) (fun _ _ _ _ _ _ us hl => match us, hl with | [_, _], _ => rfl) fun f cdv A outer s H vs Q E hr h nd => by
    obtain ⟨a, us, rfl, hl, ha, q⟩ := h
    match us, hl with
    | [v], _ =>
      refine l_cons (s_ost ?_)
      walk_at "sts"
      refine ⟨a, C, rfl, O, no, ha, fun dx nd ne => ?_⟩
      refine l_nil ?_
      exact q dx [(Str.ofString "name", v)] _ nd ne upd_same (by rw [upd_ne ne]; exact upd_same) (fun b h1 h2 => by rw [upd_ne h1, upd_ne h2]) (fun p hp => by rw [List.mem_singleton.mp hp]; simp [List.lookup])
  exact ⟨O, hm, f, fd, _, F, hf, beq_iff_eq.mp hi, hb⟩
theorem ok_Circular (T : TopM K C "__init__" "Circular.__init__" s_Circular___init) (O : OexC K C) (no : PySem.W.findIn K (.ref C) "name" = some none) (hm : mg "Circular" = some (.ref C)) : Ec P w K mg base "Circular" C (spX C ["name"]) := by
  obtain ⟨f, fd, F, hb, hf, hi, hk⟩ := me_ok (P := P) (w := w) (mg := mg) (base := base) (k := 0) (sp := spX C ["name"]) T sc_Circular___init so_Circular___init (fun vs H Q E h => by obtain ⟨a, us, rfl, hl, _⟩ := h; rw [List.length_cons, hl]; rfl) (fun _ _ _ _ _ _ us hl => match us, hl with | [_, _], _ => rfl) fun f cdv A outer s H vs Q E hr h nd => by
    obtain ⟨a, us, rfl, hl, ha, q⟩ := h
    match us, hl with
    | [v], _ =>
      refine l_cons (s_ost ?_)
      walk_at "sts"
      refine ⟨a, C, rfl, O, no, ha, fun dx nd ne => ?_⟩
      refine l_nil ?_
      exact q dx [(Str.ofString "name", v)] _ nd ne upd_same (by rw [upd_ne ne]; exact upd_same) (fun b h1 h2 => by rw [upd_ne h1, upd_ne h2]) (fun p hp => by rw [List.mem_singleton.mp hp]; simp [List.lookup])
  exact ⟨O, hm, f, fd, _, F, hf, beq_iff_eq.mp hi, hb⟩
theorem ok_NoRoom (T : TopM K C "__init__" "NoRoom.__init__" s_NoRoom___init) (O : OexC K C) (no : PySem.W.findIn K (.ref C) "name" = some none) (hm : mg "NoRoom" = some (.ref C)) : Ec P w K mg base "NoRoom" C (spX C ["name"]) := by
  obtain ⟨f, fd, F, hb, hf, hi, hk⟩ := me_ok (P := P) (w := w) (mg := mg) (base := base) (k := 0) (sp := spX C ["name"]) T sc_NoRoom___init so_NoRoom___init (fun vs H Q E h => by obtain ⟨a, us, rfl, hl, _⟩ := h; rw [List.length_cons, hl]; rfl) (fun _ _ _ _ _ _ us hl => match us, hl with | [_, _], _ => rfl) fun f cdv A outer s H vs Q E hr h nd => by
    obtain ⟨a, us, rfl, hl, ha, q⟩ := h
    match us, hl with
    | [v], _ =>
      refine l_cons (s_ost ?_)
      walk_at "sts"
      refine ⟨a, C, rfl, O, no, ha, fun dx nd ne => ?_⟩
      refine l_nil ?_
      exact q dx [(Str.ofString "name", v)] _ nd ne upd_same (by rw [upd_ne ne]; exact upd_same) (fun b h1 h2 => by rw [upd_ne h1, upd_ne h2]) (fun p hp => by rw [List.mem_singleton.mp hp]; simp [List.lookup])
  exact ⟨O, hm, f, fd, _, F, hf, beq_iff_eq.mp hi, hb⟩
theorem ok_LeftOver (T : TopM K C "__init__" "LeftOver.__init__" s_LeftOver___init) (O : OexC K C) (no : PySem.W.findIn K (.ref C) "name" = some none) (hm : mg "LeftOver" = some (.ref C)) : Ec P w K mg base "LeftOver" C (spX C ["name"]) := by
  obtain ⟨f, fd, F, hb, hf, hi, hk⟩ := me_ok (P := P) (w := w) (mg := mg) (base := base) (k := 0) (sp := spX C ["name"]) T sc_LeftOver___init so_LeftOver___init (fun vs H Q E h => by obtain ⟨a, us, rfl, hl, _⟩ := h; rw [List.length_cons, hl]; rfl) (fun _ _ _ _ _ _ us hl => match us, hl with | [_, _], _ => rfl) fun f cdv A outer s H vs Q E hr h nd => by
    obtain ⟨a, us, rfl, hl, ha, q⟩ := h
    match us, hl with
    | [v], _ =>
      refine l_cons (s_ost ?_)
      walk_at "sts"
      refine ⟨a, C, rfl, O, no, ha, fun dx nd ne => ?_⟩
      refine l_nil ?_
      exact q dx [(Str.ofString "name", v)] _ nd ne upd_same (by rw [upd_ne ne]; exact upd_same) (fun b h1 h2 => by rw [upd_ne h1, upd_ne h2]) (fun p hp => by rw [List.mem_singleton.mp hp]; simp [List.lookup])
  exact ⟨O, hm, f, fd, _, F, hf, beq_iff_eq.mp hi, hb⟩
theorem ok_WrongHold (T : TopM K C "__init__" "WrongHold.__init__" s_WrongHold___init) (O : OexC K C) (no : PySem.W.findIn K (.ref C) "name" = some none) (hm : mg "WrongHold" = some (.ref C)) : Ec P w K mg base "WrongHold" C (spX C ["name"]) := by
  obtain ⟨f, fd, F, hb, hf, hi, hk⟩ := me_ok (P := P) (w := w) (mg := mg) (base := base) (k := 0) (sp := spX C ["name"]) T sc_WrongHold___init so_WrongHold___init (fun vs H Q E h => by obtain ⟨a, us, rfl, hl, _⟩ := h; rw [List.length_cons, hl]; rfl) (fun _ _ _ _ _ _ us hl => match us, hl with | [_, _], _ => rfl) fun f cdv A outer s H vs Q E hr h nd => by
    obtain ⟨a, us, rfl, hl, ha, q⟩ := h
    match us, hl with
    | [v], _ =>
      refine l_cons (s_ost ?_)
      walk_at "sts"
      refine ⟨a, C, rfl, O, no, ha, fun dx nd ne => ?_⟩
      refine l_nil ?_
      exact q dx [(Str.ofString "name", v)] _ nd ne upd_same (by rw [upd_ne ne]; exact upd_same) (fun b h1 h2 => by rw [upd_ne h1, upd_ne h2]) (fun p hp => by rw [List.mem_singleton.mp hp]; simp [List.lookup])
  exact ⟨O, hm, f, fd, _, F, hf, beq_iff_eq.mp hi, hb⟩
theorem ok_BadKind (T : TopM K C "__init__" "BadKind.__init__" s_BadKind___init) (O : OexC K C) (no : PySem.W.findIn K (.ref C) "kind" = some none) (hm : mg "BadKind" = some (.ref C)) : Ec P w K mg base "BadKind" C (spX C ["kind"]) := by
  obtain ⟨f, fd, F, hb, hf, hi, hk⟩ := me_ok (P := P) (w := w) (mg := mg) (base := base) (k := 0) (sp := spX C ["kind"]) T sc_BadKind___init so_BadKind___init (fun vs H Q E h => by obtain ⟨a, us, rfl, hl, _⟩ := h; rw [List.length_cons, hl]; rfl) (fun _ _ _ _ _ _ us hl => match us, hl with | [_, _], _ => rfl) fun f cdv A outer s H vs Q E hr h nd => by
    obtain ⟨a, us, rfl, hl, ha, q⟩ := h
    match us, hl with
    | [v], _ =>
      refine l_cons (s_ost ?_)
      walk_at "sts"
      refine ⟨a, C, rfl, O, no, ha, fun dx nd ne => ?_⟩
      refine l_nil ?_
      exact q dx [(Str.ofString "kind", v)] _ nd ne upd_same (by rw [upd_ne ne]; exact upd_same) (fun b h1 h2 => by rw [upd_ne h1, upd_ne h2]) (fun p hp => by rw [List.mem_singleton.mp hp]; simp [List.lookup])
  exact ⟨O, hm, f, fd, _, F, hf, beq_iff_eq.mp hi, hb⟩
theorem ok_TextError (T : TopM K C "__init__" "TextError.__init__" s_TextError___init) (O : OexC K C) (no : PySem.W.findIn K (.ref C) "index" = some none) (hm : mg "TextError" = some (.ref C)) : Ec P w K mg base "TextError" C (spX C ["index"]) := by
  obtain ⟨f, fd, F, hb, hf, hi, hk⟩ := me_ok (P := P) (w := w) (mg := mg) (base := base) (k := 0) (sp := spX C ["index"]) T sc_TextError___init so_TextError___init (fun vs H Q E h => by obtain ⟨a, us, rfl, hl, _⟩ := h; rw [List.length_cons, hl]; rfl) (fun _ _ _ _ _ _ us hl => match us, hl with | [_, _], _ => rfl) fun f cdv A outer s H vs Q E hr h nd => by
    obtain ⟨a, us, rfl, hl, ha, q⟩ := h
    match us, hl with
    | [v], _ =>
      refine l_cons (s_ost ?_)
      walk_at "sts"
      refine ⟨a, C, rfl, O, no, ha, fun dx nd ne => ?_⟩
      refine l_nil ?_
      exact q dx [(Str.ofString "index", v)] _ nd ne upd_same (by rw [upd_ne ne]; exact upd_same) (fun b h1 h2 => by rw [upd_ne h1, upd_ne h2]) (fun p hp => by rw [List.mem_singleton.mp hp]; simp [List.lookup])
  exact ⟨O, hm, f, fd, _, F, hf, beq_iff_eq.mp hi, hb⟩
theorem ok_NoPart (T : TopM K C "__init__" "NoPart.__init__" s_NoPart___init) (O : OexC K C) (no : PySem.W.findIn K (.ref C) "path" = some none) (hm : mg "NoPart" = some (.ref C)) : Ec P w K mg base "NoPart" C (spX C ["path"]) := by
  obtain ⟨f, fd, F, hb, hf, hi, hk⟩ := me_ok (P := P) (w := w) (mg := mg) (base := base) (k := 0) (sp := spX C ["path"]) T sc_NoPart___init so_NoPart___init (fun vs H Q E h => by obtain ⟨a, us, rfl, hl, _⟩ := h; rw [List.length_cons, hl]; rfl) (fun _ _ _ _ _ _ us hl => match us, hl with | [_, _], _ => rfl) fun f cdv A outer s H vs Q E hr h nd => by
    obtain ⟨a, us, rfl, hl, ha, q⟩ := h
    match us, hl with
    | [v], _ =>
      refine l_cons (s_ost ?_)
      walk_at "sts"
      refine ⟨a, C, rfl, O, no, ha, fun dx nd ne => ?_⟩
      refine l_nil ?_
      exact q dx [(Str.ofString "path", v)] _ nd ne upd_same (by rw [upd_ne ne]; exact upd_same) (fun b h1 h2 => by rw [upd_ne h1, upd_ne h2]) (fun p hp => by rw [List.mem_singleton.mp hp]; simp [List.lookup])
  exact ⟨O, hm, f, fd, _, F, hf, beq_iff_eq.mp hi, hb⟩
theorem ok_NotBare (T : TopM K C "__init__" "NotBare.__init__" s_NotBare___init) (O : OexC K C) (no : PySem.W.findIn K (.ref C) "path" = some none) (hm : mg "NotBare" = some (.ref C)) : Ec P w K mg base "NotBare" C (spX C ["path"]) := by
  obtain ⟨f, fd, F, hb, hf, hi, hk⟩ := me_ok (P := P) (w := w) (mg := mg) (base := base) (k := 0) (sp := spX C ["path"]) T sc_NotBare___init so_NotBare___init (fun vs H Q E h => by obtain ⟨a, us, rfl, hl, _⟩ := h; rw [List.length_cons, hl]; rfl) (fun _ _ _ _ _ _ us hl => match us, hl with | [_, _], _ => rfl) fun f cdv A outer s H vs Q E hr h nd => by
    obtain ⟨a, us, rfl, hl, ha, q⟩ := h
    match us, hl with
    | [v], _ =>
      refine l_cons (s_ost ?_)
      walk_at "sts"
      refine ⟨a, C, rfl, O, no, ha, fun dx nd ne => ?_⟩
      refine l_nil ?_
      exact q dx [(Str.ofString "path", v)] _ nd ne upd_same (by rw [upd_ne ne]; exact upd_same) (fun b h1 h2 => by rw [upd_ne h1, upd_ne h2]) (fun p hp => by rw [List.mem_singleton.mp hp]; simp [List.lookup])
  exact ⟨O, hm, f, fd, _, F, hf, beq_iff_eq.mp hi, hb⟩
theorem ok_BadWorld (T : TopM K C "__init__" "BadWorld.__init__" s_BadWorld___init) (O : OexC K C) (no : PySem.W.findIn K (.ref C) "reason" = some none) (hm : mg "BadWorld" = some (.ref C)) : Ec P w K mg base "BadWorld" C (spX C ["reason"]) := by
  obtain ⟨f, fd, F, hb, hf, hi, hk⟩ := me_ok (P := P) (w := w) (mg := mg) (base := base) (k := 0) (sp := spX C ["reason"]) T sc_BadWorld___init so_BadWorld___init (fun vs H Q E h => by obtain ⟨a, us, rfl, hl, _⟩ := h; rw [List.length_cons, hl]; rfl) (fun _ _ _ _ _ _ us hl => match us, hl with | [_, _], _ => rfl) fun f cdv A outer s H vs Q E hr h nd => by
    obtain ⟨a, us, rfl, hl, ha, q⟩ := h
    match us, hl with
    | [v], _ =>
      refine l_cons (s_ost ?_)
      walk_at "sts"
      refine ⟨a, C, rfl, O, no, ha, fun dx nd ne => ?_⟩
      refine l_nil ?_
      exact q dx [(Str.ofString "reason", v)] _ nd ne upd_same (by rw [upd_ne ne]; exact upd_same) (fun b h1 h2 => by rw [upd_ne h1, upd_ne h2]) (fun p hp => by rw [List.mem_singleton.mp hp]; simp [List.lookup])
  exact ⟨O, hm, f, fd, _, F, hf, beq_iff_eq.mp hi, hb⟩
theorem ok_WorldTooLarge (T : TopM K C "__init__" "WorldTooLarge.__init__" s_WorldTooLarge___init) (O : OexC K C) (no : PySem.W.findIn K (.ref C) "limit" = some none) (hm : mg "WorldTooLarge" = some (.ref C)) : Ec P w K mg base "WorldTooLarge" C (spX C ["limit"]) := by
  obtain ⟨f, fd, F, hb, hf, hi, hk⟩ := me_ok (P := P) (w := w) (mg := mg) (base := base) (k := 0) (sp := spX C ["limit"]) T sc_WorldTooLarge___init so_WorldTooLarge___init (fun vs H Q E h => by obtain ⟨a, us, rfl, hl, _⟩ := h; rw [List.length_cons, hl]; rfl) (fun _ _ _ _ _ _ us hl => match us, hl with | [_, _], _ => rfl) fun f cdv A outer s H vs Q E hr h nd => by
    obtain ⟨a, us, rfl, hl, ha, q⟩ := h
    match us, hl with
    | [v], _ =>
      refine l_cons (s_ost ?_)
      walk_at "sts"
      refine ⟨a, C, rfl, O, no, ha, fun dx nd ne => ?_⟩
      refine l_nil ?_
      exact q dx [(Str.ofString "limit", v)] _ nd ne upd_same (by rw [upd_ne ne]; exact upd_same) (fun b h1 h2 => by rw [upd_ne h1, upd_ne h2]) (fun p hp => by rw [List.mem_singleton.mp hp]; simp [List.lookup])
  exact ⟨O, hm, f, fd, _, F, hf, beq_iff_eq.mp hi, hb⟩
theorem ok_NoGoal (T : TopM K C "__init__" "NoGoal.__init__" s_NoGoal___init) (O : OexC K C) (no : PySem.W.findIn K (.ref C) "number" = some none) (hm : mg "NoGoal" = some (.ref C)) : Ec P w K mg base "NoGoal" C (spX C ["number"]) := by
  obtain ⟨f, fd, F, hb, hf, hi, hk⟩ := me_ok (P := P) (w := w) (mg := mg) (base := base) (k := 0) (sp := spX C ["number"]) T sc_NoGoal___init so_NoGoal___init (fun vs H Q E h => by obtain ⟨a, us, rfl, hl, _⟩ := h; rw [List.length_cons, hl]; rfl) (fun _ _ _ _ _ _ us hl => match us, hl with | [_, _], _ => rfl) fun f cdv A outer s H vs Q E hr h nd => by
    obtain ⟨a, us, rfl, hl, ha, q⟩ := h
    match us, hl with
    | [v], _ =>
      refine l_cons (s_ost ?_)
      walk_at "sts"
      refine ⟨a, C, rfl, O, no, ha, fun dx nd ne => ?_⟩
      refine l_nil ?_
      exact q dx [(Str.ofString "number", v)] _ nd ne upd_same (by rw [upd_ne ne]; exact upd_same) (fun b h1 h2 => by rw [upd_ne h1, upd_ne h2]) (fun p hp => by rw [List.mem_singleton.mp hp]; simp [List.lookup])
  exact ⟨O, hm, f, fd, _, F, hf, beq_iff_eq.mp hi, hb⟩
theorem ok_GoalsLeft (T : TopM K C "__init__" "GoalsLeft.__init__" s_GoalsLeft___init) (O : OexC K C) (no : PySem.W.findIn K (.ref C) "count" = some none) (hm : mg "GoalsLeft" = some (.ref C)) : Ec P w K mg base "GoalsLeft" C (spX C ["count"]) := by
  obtain ⟨f, fd, F, hb, hf, hi, hk⟩ := me_ok (P := P) (w := w) (mg := mg) (base := base) (k := 0) (sp := spX C ["count"]) T sc_GoalsLeft___init so_GoalsLeft___init (fun vs H Q E h => by obtain ⟨a, us, rfl, hl, _⟩ := h; rw [List.length_cons, hl]; rfl) (fun _ _ _ _ _ _ us hl => match us, hl with | [_, _], _ => rfl) fun f cdv A outer s H vs Q E hr h nd => by
    obtain ⟨a, us, rfl, hl, ha, q⟩ := h
    match us, hl with
    | [v], _ =>
      refine l_cons (s_ost ?_)
      walk_at "sts"
      refine ⟨a, C, rfl, O, no, ha, fun dx nd ne => ?_⟩
      refine l_nil ?_
      exact q dx [(Str.ofString "count", v)] _ nd ne upd_same (by rw [upd_ne ne]; exact upd_same) (fun b h1 h2 => by rw [upd_ne h1, upd_ne h2]) (fun p hp => by rw [List.mem_singleton.mp hp]; simp [List.lookup])
  exact ⟨O, hm, f, fd, _, F, hf, beq_iff_eq.mp hi, hb⟩
theorem ok_DerivationError (T : TopM K C "__init__" "DerivationError.__init__" s_DerivationError___init) (O : OexC K C) (no : PySem.W.findIn K (.ref C) "path" = some none) (no2 : PySem.W.findIn K (.ref C) "reason" = some none) (hm : mg "DerivationError" = some (.ref C)) : Ec P w K mg base "DerivationError" C (spX C ["path", "reason"]) := by
  obtain ⟨f, fd, F, hb, hf, hi, hk⟩ := me_ok (P := P) (w := w) (mg := mg) (base := base) (k := 0) (sp := spX C ["path", "reason"]) T sc_DerivationError___init so_DerivationError___init (fun vs H Q E h => by obtain ⟨a, us, rfl, hl, _⟩ := h; rw [List.length_cons, hl]; rfl) (fun _ _ _ _ _ _ us hl => match us, hl with | [_, _, _], _ => rfl) fun f cdv A outer s H vs Q E hr h nd => by
    obtain ⟨a, us, rfl, hl, ha, q⟩ := h
    match us, hl with
    | [v, u], _ =>
      refine l_cons (s_ost ?_)
      walk_at "sts"
      refine ⟨a, C, rfl, O, no, ha, fun dx nd ne => ?_⟩
      refine l_cons (s_ost2 ?_)
      walk_at "sts"
      refine ⟨a, C, dx, _, rfl, O, no2, upd_same, by rw [upd_ne ne]; exact upd_same, by simp, ?_⟩
      refine l_nil ?_
      exact q dx [(Str.ofString "reason", u), (Str.ofString "path", v)] _ nd ne (by rw [upd_ne (Ne.symm ne)]; exact upd_same) upd_same (fun b h1 h2 => by rw [upd_ne h2, upd_ne h1, upd_ne h2]) (fun p hp => by
        simp only [List.zip_cons_cons, List.zip_nil_right, List.mem_cons, List.not_mem_nil, or_false] at hp
        rcases hp with rfl | rfl
        · rw [lookup_put, if_neg (fun z => absurd (show Str.ofString "path" = Str.ofString "reason" from z) (by decide +kernel)), lookup_put, if_pos rfl]
        · rw [lookup_put, if_pos rfl])
  exact ⟨O, hm, f, fd, _, F, hf, beq_iff_eq.mp hi, hb⟩
theorem ok_NoStep (T : TopM K C "__init__" "NoStep.__init__" s_NoStep___init) (O : OexC K C) (no : PySem.W.findIn K (.ref C) "path" = some none) (no2 : PySem.W.findIn K (.ref C) "way" = some none) (hm : mg "NoStep" = some (.ref C)) : Ec P w K mg base "NoStep" C (spX C ["path", "way"]) := by
  obtain ⟨f, fd, F, hb, hf, hi, hk⟩ := me_ok (P := P) (w := w) (mg := mg) (base := base) (k := 0) (sp := spX C ["path", "way"]) T sc_NoStep___init so_NoStep___init (fun vs H Q E h => by obtain ⟨a, us, rfl, hl, _⟩ := h; rw [List.length_cons, hl]; rfl) (fun _ _ _ _ _ _ us hl => match us, hl with | [_, _, _], _ => rfl) fun f cdv A outer s H vs Q E hr h nd => by
    obtain ⟨a, us, rfl, hl, ha, q⟩ := h
    match us, hl with
    | [v, u], _ =>
      refine l_cons (s_ost ?_)
      walk_at "sts"
      refine ⟨a, C, rfl, O, no, ha, fun dx nd ne => ?_⟩
      refine l_cons (s_ost2 ?_)
      walk_at "sts"
      refine ⟨a, C, dx, _, rfl, O, no2, upd_same, by rw [upd_ne ne]; exact upd_same, by simp, ?_⟩
      refine l_nil ?_
      exact q dx [(Str.ofString "way", u), (Str.ofString "path", v)] _ nd ne (by rw [upd_ne (Ne.symm ne)]; exact upd_same) upd_same (fun b h1 h2 => by rw [upd_ne h2, upd_ne h1, upd_ne h2]) (fun p hp => by
        simp only [List.zip_cons_cons, List.zip_nil_right, List.mem_cons, List.not_mem_nil, or_false] at hp
        rcases hp with rfl | rfl
        · rw [lookup_put, if_neg (fun z => absurd (show Str.ofString "path" = Str.ofString "way" from z) (by decide +kernel)), lookup_put, if_pos rfl]
        · rw [lookup_put, if_pos rfl])
  exact ⟨O, hm, f, fd, _, F, hf, beq_iff_eq.mp hi, hb⟩
theorem ok_NoMeeting (T : TopM K C "__init__" "NoMeeting.__init__" s_NoMeeting___init) (O : OexC K C) (no : PySem.W.findIn K (.ref C) "name" = some none) (no2 : PySem.W.findIn K (.ref C) "make_index" = some none) (no3 : PySem.W.findIn K (.ref C) "open_index" = some none) (hm : mg "NoMeeting" = some (.ref C)) : Ec P w K mg base "NoMeeting" C (spX C ["name", "make_index", "open_index"]) := by
  obtain ⟨f, fd, F, hb, hf, hi, hk⟩ := me_ok (P := P) (w := w) (mg := mg) (base := base) (k := 0) (sp := spX C ["name", "make_index", "open_index"]) T sc_NoMeeting___init so_NoMeeting___init (fun vs H Q E h => by obtain ⟨a, us, rfl, hl, _⟩ := h; rw [List.length_cons, hl]; rfl) (fun _ _ _ _ _ _ us hl => match us, hl with | [_, _, _, _], _ => rfl) fun f cdv A outer s H vs Q E hr h nd => by
    obtain ⟨a, us, rfl, hl, ha, q⟩ := h
    match us, hl with
    | [v, u, x], _ =>
      refine l_cons (s_ost ?_)
      walk_at "sts"
      refine ⟨a, C, rfl, O, no, ha, fun dx nd ne => ?_⟩
      refine l_cons (s_ost2 ?_)
      walk_at "sts"
      refine ⟨a, C, dx, _, rfl, O, no2, upd_same, by rw [upd_ne ne]; exact upd_same, by simp, ?_⟩
      refine l_cons (s_ost2 ?_)
      walk_at "sts"
      refine ⟨a, C, dx, _, rfl, O, no3, by rw [upd_ne (Ne.symm ne)]; exact upd_same, upd_same, by simp, ?_⟩
      refine l_nil ?_
      exact q dx [(Str.ofString "open_index", x), (Str.ofString "make_index", u), (Str.ofString "name", v)] _ nd ne (by rw [upd_ne (Ne.symm ne), upd_ne (Ne.symm ne)]; exact upd_same) upd_same (fun b h1 h2 => by rw [upd_ne h2, upd_ne h2, upd_ne h1, upd_ne h2]) (fun p hp => by
        simp only [List.zip_cons_cons, List.zip_nil_right, List.mem_cons, List.not_mem_nil, or_false] at hp
        rcases hp with rfl | rfl | rfl
        · rw [lookup_put, if_neg (fun z => absurd (show Str.ofString "name" = Str.ofString "open_index" from z) (by decide +kernel)), lookup_put, if_neg (fun z => absurd (show Str.ofString "name" = Str.ofString "make_index" from z) (by decide +kernel)), lookup_put, if_pos rfl]
        · rw [lookup_put, if_neg (fun z => absurd (show Str.ofString "make_index" = Str.ofString "open_index" from z) (by decide +kernel)), lookup_put, if_pos rfl]
        · rw [lookup_put, if_pos rfl])
  exact ⟨O, hm, f, fd, _, F, hf, beq_iff_eq.mp hi, hb⟩
end



abbrev iV (l : List Int) : List V := l.map V.int
def But2 (a b : Addr) (H H' : Hp) : Prop := ∀ c o, c ≠ a → c ≠ b → H c = some o → H' c = some o
theorem PoolAt.up {H H' : Hp} {a : Addr} (e : Same H H') (h : PoolAt H a) : PoolAt H' a := let ⟨x, y, z, p⟩ := h; ⟨x, y, z, e _ _ p⟩
theorem PoolAt.ne {H : Hp} {a b : Addr} (h : PoolAt H a) (n : H b = none) : b ≠ a := fun e => by subst e; obtain ⟨_, _, _, q⟩ := h; rw [q] at n; cases n
theorem But.none {p l : Addr} {H H' : Hp} (b : But p H H') (n : H' l = none) (ne : l ≠ p) : H l = none := by
  cases hz : H l with
  | none => rfl
  | some u => rw [b _ _ ne hz] at n; cases n
/-- values that are drawn -/
inductive Vd where
  | tx (z : Str)
  | nm (i : Int)
  | pa (l : List Int)
  | kd (i j : Int)
def VdV (H : Hp) : V → Vd → Prop
  | v, .tx z => v = .str z
  | v, .nm i => v = .int i
  | v, .pa l => ∃ t, v = .ref t ∧ H t = some (.tup (iV l))
  | v, .kd i j => ∃ t, v = .ref t ∧ H t = some (.tup [.int i, .int j])
def okd : Vd → Prop
  | .tx z => PyData.strOk z = true ∧ z.length ≤ 12
  | .nm i => 0 ≤ i ∧ i < 1000000000
  | .pa l => l.length ≤ 4 ∧ ∀ x ∈ l, 0 ≤ x ∧ x < 3
  | .kd i j => (0 ≤ i ∧ i < 1000000000) ∧ 0 ≤ j ∧ j < 1000000000
theorem VdV.ts {H H' : Hp} (e : TS H H') {v : V} {d : Vd} (h : VdV H v d) : VdV H' v d := by
  cases d with
  | tx z => exact h
  | nm i => exact h
  | pa l => obtain ⟨t, h1, h2⟩ := h; exact ⟨t, h1, e _ _ h2⟩
  | kd i j => obtain ⟨t, h1, h2⟩ := h; exact ⟨t, h1, e _ _ h2⟩
def DsV (H : Hp) : List V → List Vd → Prop
  | [], [] => True
  | v :: vs, d :: ds => VdV H v d ∧ DsV H vs ds
  | _, _ => False
theorem DsV.ts {H H' : Hp} (e : TS H H') : ∀ {vs : List V} {ds : List Vd}, DsV H vs ds → DsV H' vs ds
  | [], [], _ => trivial
  | _ :: _, _ :: _, ⟨a, r⟩ => ⟨a.ts e, r.ts e⟩
/-- the fields of the k-th class -/
def fld (k : Nat) : List Str :=
  if k < 8 then ["name"] else if k = 8 then ["kind"] else if k = 9 then ["index"] else if k = 10 ∨ k = 11 then ["path"] else if k = 12 then ["path", "reason"] else if k = 13 then ["path", "way"]
  else if k = 14 then ["name", "make_index", "open_index"] else if k = 15 then ["reason"] else if k = 16 then ["limit"] else if k = 17 then ["number"] else if k = 18 then ["count"] else []
theorem eqI {a k : Int} : eqV (.int a) (.int k) = decide (k = a) := by
  show (a == k) = _
  rw [Bool.eq_iff_iff]
  simp only [beq_iff_eq, decide_eq_true_eq]
  exact eq_comm
theorem in2 {k a b : Int} : inV (.int k) [.int a, .int b] = decide (k = a ∨ k = b) := by
  simp only [inV, List.any_cons, List.any_nil, Bool.or_false, eqI, Bool.decide_or]
theorem in4 {k a b c d : Int} : inV (.int k) [.int a, .int b, .int c, .int d] = decide (k = a ∨ k = b ∨ k = c ∨ k = d) := by
  simp only [inV, List.any_cons, List.any_nil, Bool.or_false, eqI, Bool.decide_or]
theorem le1 : (1 : Nat) ≤ sizeLine := by decide
theorem le2 : (2 : Nat) ≤ sizeLine := by decide
theorem le3 : (3 : Nat) ≤ sizeLine := by decide
theorem le4 : (4 : Nat) ≤ sizeLine := by decide
theorem app_len (x y : Str) : (x ++ y).length = x.length + y.length := by
  show ((x ++ y).cps).size = x.cps.size + y.cps.size
  exact Array.size_append ..
theorem strOk_app {x : Str} {c : Nat} (h : PyData.strOk x = true) (hc : c < 0x110000) : PyData.strOk (x ++ sg c) = true := by
  unfold PyData.strOk at h ⊢
  show (x.cps ++ #[c]).all _ = true
  rw [Array.all_append, h]
  simp
  exact hc
abbrev sgns : Str := Str.ofString "abcdefghijklmnopqrstuvwxyz0123456789 AZ_"
theorem sgns_at {d : Int} (h0 : 0 ≤ d) (h1 : d < 40) : ∃ c, atI sgns.cps.toList d = some c ∧ c < 0x110000 := by
  obtain ⟨j, rfl⟩ := Int.eq_ofNat_of_zero_le h0
  have hl : sgns.cps.toList.length = 40 := by decide +kernel
  have hj : j < sgns.cps.toList.length := by rw [hl]; omega
  have ha : (sgns.cps.toList.all fun c => decide (c < 0x110000)) = true := by decide +kernel
  exact ⟨_, atI_nat (List.getElem?_eq_getElem hj), of_decide_eq_true (List.all_eq_true.mp ha _ (List.getElem_mem hj))⟩
theorem o_addS {X : Cx} {H : Hp} {Q : VK} {x y : Str} (hz : x.length + y.length ≤ 1000) (q : Q (.str (x ++ y)) H) : wB X .Add (.str x) (.str y) H Q := b_of op_add_str ⟨x, y, rfl, rfl, by show _ ≤ 2 ^ 24; omega, q⟩
theorem at0 {x : V} {l : List V} : atI (x :: l) 0 = some x := atI_nat (j := 0) rfl
theorem at1 {x y : V} {l : List V} : atI (x :: y :: l) 1 = some y := atI_nat (j := 1) rfl
theorem at2 {x y z : V} {l : List V} : atI (x :: y :: z :: l) 2 = some z := atI_nat (j := 2) rfl
section
variable {P : Program} {w : World} {K : PySem.W.Frag} {mg : Str → Option Value} {base : Heap}
def spText : Sp := fun vs H Q _ => ∃ p, vs = [.ref p] ∧ PoolAt H p ∧ ∀ z H', But p H H' → PoolAt H' p → PyData.strOk z = true → z.length ≤ 12 → Q (.str z) H'
theorem ok_text (T : Top K mg "_law_text" s_text) (mR : mg "range" = none) (FN : Fn P w K mg base 1 "_law_next" spNext) : Fn P w K mg base 2 "_law_text" spText := by
  refine fn_ok T sc_text so_text (fun vs H Q E h => by obtain ⟨p, rfl, _⟩ := h; rfl) (fun _ _ _ _ _ _ us hl => match us, hl with | [_], _ => rfl) fun f cdv A outer s H vs Q E hr h nd => ?_
  obtain ⟨p, rfl, hp, q⟩ := h
  refine l_cons (s_set (e_str ?_))
  refine l_cons (s_set (e_str ?_))
  show wL _ _ _ [some (.ref p), some (.str sgns), some (.str (Str.ofString "")), none] _
  refine l_cons (s_forR (by assumption) (e_ix (e_lst ?_)))
  walk_at "sts"
  refine ⟨by show 5 ≤ sizeLine; decide, fun l H1 e1 n1 h1 => ?_⟩
  have nlp := hp.ne n1
  refine e_call (by exact FN) (by exact hr) (by decide) ?_
  refine a_cons (e_var (a_cons (e_int (a_nil ⟨p, 5, rfl, by decide, by decide, hp.up e1, fun d H2 d0 d1 b2 p2 => ?_⟩))))
  have hl2 : H2 l = some (.lst (iV [0, 1, 2, 5, 12])) := b2 _ _ nlp h1
  obtain ⟨n, hn, hn2⟩ : ∃ n : Nat, atI (iV [0, 1, 2, 5, 12]) d = some (.int (n : Int)) ∧ n ≤ 12 := by
    obtain ⟨j, rfl⟩ := Int.eq_ofNat_of_zero_le d0
    match j, (show j < 5 by omega) with
    | 0, _ => exact ⟨0, atI_nat rfl, by decide⟩
    | 1, _ => exact ⟨1, atI_nat rfl, by decide⟩
    | 2, _ => exact ⟨2, atI_nat rfl, by decide⟩
    | 3, _ => exact ⟨5, atI_nat rfl, by decide⟩
    | 4, _ => exact ⟨12, atI_nat rfl, by decide⟩
  refine ix_l (by exact SqL.of hl2) hn ?_
  refine ⟨n, rfl, by omega, fun k σ H' => ∃ z y, σ = [some (.ref p), some (.str sgns), some (.str z), y] ∧ But p H H' ∧ PoolAt H' p ∧ PyData.strOk z = true ∧ z.length ≤ k, ⟨Str.ofString "", none, rfl, (But.of e1).trans b2, p2, by decide +kernel, by decide +kernel⟩, ?_, ?_⟩
  · intro k σ H' hk pp
    obtain ⟨z, y, rfl, b, p', hz, lz⟩ := pp
    show wL _ _ _ [some (.ref p), some (.str sgns), some (.str z), some (.int (k : Int))] _
    refine l_cons (s_set (e_bin (e_var (e_ix (e_var (e_call (by exact FN) (by exact hr) (by decide) ?_))))))
    refine a_cons (e_var (a_cons (e_int (a_nil ⟨p, 40, rfl, by decide, by decide, p', fun d3 H3 f0 f1 b3 p3 => ?_⟩))))
    obtain ⟨c, hc, hcl⟩ := sgns_at f0 f1
    have l1 : (sg c).length = 1 := rfl
    refine ix_s (by decide +kernel) hc (o_addS (by rw [l1]; omega) (l_nil ⟨_, _, rfl, b.trans b3, p3, strOk_app hz hcl, by rw [app_len, l1]; omega⟩))
  · intro σ H' pp
    obtain ⟨z, y, rfl, b, p', hz, lz⟩ := pp
    exact l_cons (s_ret (e_var (q z H' b p' hz (by omega))))
def spNum : Sp := fun vs H Q _ => ∃ p, vs = [.ref p] ∧ PoolAt H p ∧ ∀ i H', But p H H' → PoolAt H' p → 0 ≤ i → i < 1000000000 → Q (.int i) H'
theorem ok_num (T : Top K mg "_law_number" s_number) (FN : Fn P w K mg base 1 "_law_next" spNext) : Fn P w K mg base 2 "_law_number" spNum := by
  refine fn_ok T sc_number so_number (fun vs H Q E h => by obtain ⟨p, rfl, _⟩ := h; rfl) (fun _ _ _ _ _ _ us hl => match us, hl with | [_], _ => rfl) fun f cdv A outer s H vs Q E hr h nd => ?_
  obtain ⟨p, rfl, hp, q⟩ := h
  refine l_cons (s_if (t_cmp (e_call (by exact FN) (by exact hr) (by decide) ?_)))
  refine a_cons (e_var (a_cons (e_int (a_nil ⟨p, 2, rfl, by decide, by decide, hp, fun d H2 d0 d1 b2 p2 => e_int (o_eqI ⟨_, rfl, ?_⟩)⟩))))
  refine if2 (fun _ => ?_) (fun _ => l_nil ?_)
  · refine l_cons (s_ret (e_call (by exact FN) (by exact hr) (by decide) ?_))
    exact a_cons (e_var (a_cons (e_int (a_nil ⟨p, 10, rfl, by decide, by decide, p2, fun d H3 d0 d1 b3 p3 => q d H3 (b2.trans b3) p3 d0 (by omega)⟩))))
  · refine l_cons (s_ret (e_call (by exact FN) (by exact hr) (by decide) ?_))
    exact a_cons (e_var (a_cons (e_int (a_nil ⟨p, 1000000000, rfl, by decide, by decide, p2, fun d H3 d0 d1 b3 p3 => q d H3 (b2.trans b3) p3 d0 d1⟩))))
def spPath : Sp := fun vs H Q _ => ∃ p, vs = [.ref p] ∧ PoolAt H p ∧ ∀ v l H', But p H H' → PoolAt H' p → VdV H' v (.pa l) → okd (.pa l) → Q v H'
theorem ok_path (T : Top K mg "_law_path" s_path) (mR : mg "range" = none) (mTup : mg "tuple" = none) (FN : Fn P w K mg base 1 "_law_next" spNext) : Fn P w K mg base 2 "_law_path" spPath := by
  refine fn_okC T sc_path so_path (fun vs H Q E h => by obtain ⟨p, rfl, _⟩ := h; rfl) (fun _ _ _ _ _ _ us hl => match us, hl with | [_], _ => rfl) fun f cdv A outer s H vs Q E hr h nd => ?_
  obtain ⟨p, rfl, hp, q⟩ := h
  refine l_cons (s_ret (e_callTy (x := "tuple") (by assumption) b_tuple (a_cons (e_lcR (by exact bk_path0) (by assumption) (e_call (by exact FN) (by exact hr) (by decide) ?_)))))
  refine a_cons (e_var (a_cons (e_int (a_nil ⟨p, 5, rfl, by decide, by decide, hp, fun m H2 m0 m1 b2 p2 => ?_⟩))))
  obtain ⟨m, rfl⟩ := Int.eq_ofNat_of_zero_le m0
  refine ⟨m, rfl, by omega, fun D nD => ?_⟩
  have nDp := p2.ne nD
  refine ⟨fun j H6 => ∃ r, H6 D = some (.lst (iV r)) ∧ r.length = j ∧ (∀ y ∈ r, 0 ≤ y ∧ y < (3 : Int)) ∧ PoolAt H6 p ∧ But2 p D H2 H6, ⟨[], upd_same, rfl, by simp, let ⟨tx, ty, tz, ht⟩ := p2; ⟨tx, ty, tz, by rw [upd_ne (Ne.symm nDp)]; exact ht⟩, fun c o _ c2 hc => by rw [upd_ne c2]; exact hc⟩, ?_, ?_⟩
  · intro j H6 hj pp s0 H0 C0 cl fp IB
    obtain ⟨r, r1, r2, rz, r3, r4⟩ := pp
    refine b_call (by exact FN) (by exact hr) (by decide) (a_cons (b_var (a_cons (e_int (a_nil ?_)))))
    refine ⟨p, 3, rfl, by omega, by omega, r3, fun y H7 y0 y1 b7 p7 => ?_⟩
    obtain ⟨ux, uy, uz, hu⟩ := p7
    refine ⟨_, b7 _ _ nDp r1, by rw [List.length_map]; show _ < 2 ^ 24; omega, r ++ [y], by rw [upd_same, show iV (r ++ [y]) = iV r ++ iV [y] from List.map_append]; rfl, by rw [List.length_append, r2]; rfl, fun x hx => ?_, ⟨ux, uy, uz, by rw [upd_ne (Ne.symm nDp)]; exact hu⟩, fun c o c1 c2 hc => by rw [upd_ne c2]; exact b7 _ _ c1 (r4 c o c1 c2 hc)⟩
    rcases List.mem_append.mp hx with hx | hx
    · exact rz x hx
    · rw [List.mem_singleton.mp hx]; exact ⟨y0, y1⟩
  · intro H6 pp
    obtain ⟨r, r1, r2, rz, r3, r4⟩ := pp
    have b6 : But p H H6 := fun c u c1 hc => r4 c u c1 (fun e => by subst e; rw [b2 _ _ c1 hc] at nD; cases nD) (b2 _ _ c1 hc)
    exact a_nil (c_tupL (by exact SqL.of r1) fun t H7 e7 n7 h7 => q (.ref t) r H7 (b6.trans (But.of e7)) (r3.up e7) ⟨t, rfl, h7⟩ ⟨by omega, rz⟩)
def spKind : Sp := fun vs H Q _ => ∃ p, vs = [.ref p] ∧ PoolAt H p ∧ ∀ v d H', But p H H' → PoolAt H' p → VdV H' v d → okd d → Q v H'
theorem ok_kind (T : Top K mg "_law_kind" s_kind) (FN : Fn P w K mg base 1 "_law_next" spNext) (FT : Fn P w K mg base 2 "_law_text" spText) (FU : Fn P w K mg base 2 "_law_number" spNum) : Fn P w K mg base 3 "_law_kind" spKind := by
  refine fn_ok T sc_kind so_kind (fun vs H Q E h => by obtain ⟨p, rfl, _⟩ := h; rfl) (fun _ _ _ _ _ _ us hl => match us, hl with | [_], _ => rfl) fun f cdv A outer s H vs Q E hr h nd => ?_
  obtain ⟨p, rfl, hp, q⟩ := h
  refine l_cons (s_if (t_cmp (e_call (by exact FN) (by exact hr) (by decide) ?_)))
  refine a_cons (e_var (a_cons (e_int (a_nil ⟨p, 3, rfl, by decide, by decide, hp, fun d H2 d0 d1 b2 p2 => e_int (o_eqI ⟨_, rfl, ?_⟩)⟩))))
  refine if2 (fun _ => ?_) (fun _ => l_nil ?_)
  · refine l_cons (s_ret (e_call (by exact FT) (by exact hr) (by decide) ?_))
    exact a_cons (e_var (a_nil ⟨p, rfl, p2, fun z H3 b3 p3 z1 z2 => q (.str z) (.tx z) H3 (b2.trans b3) p3 rfl ⟨z1, z2⟩⟩))
  · refine l_cons (s_ret (e_tup (a_cons (e_call (by exact FU) (by exact hr) (by decide) ?_))))
    refine a_cons (e_var (a_nil ⟨p, rfl, p2, fun i H3 b3 p3 i0 i1 => a_cons (e_call (by exact FU) (by exact hr) (by decide) ?_)⟩))
    refine a_cons (e_var (a_nil ⟨p, rfl, p3, fun j H4 b4 p4 j0 j1 => a_nil ⟨le2, fun t H5 e5 n5 h5 => ?_⟩⟩))
    exact q (.ref t) (.kd i j) H5 (((b2.trans b3).trans b4).trans (But.of e5)) (p4.up e5) ⟨t, rfl, h5⟩ ⟨⟨i0, i1⟩, j0, j1⟩
def spVals : Sp := fun vs H Q _ => ∃ p, ∃ k : Nat, vs = [.ref p, .int (k : Int)] ∧ k < 26 ∧ PoolAt H p ∧ ∀ l us ds H', But p H H' → PoolAt H' p → H l = none → H' l = some (.lst us) → us.length = (fld k).length → DsV H' us ds → (∀ d ∈ ds, okd d) → Q (.ref l) H'
theorem ok_vals (T : Top K mg "_law_values" s_values) (FT : Fn P w K mg base 2 "_law_text" spText) (FU : Fn P w K mg base 2 "_law_number" spNum) (FP : Fn P w K mg base 2 "_law_path" spPath) (FK : Fn P w K mg base 3 "_law_kind" spKind) : Fn P w K mg base 4 "_law_values" spVals := by
  refine fn_ok T sc_values so_values (fun vs H Q E h => by obtain ⟨p, k, rfl, _⟩ := h; rfl) (fun _ _ _ _ _ _ us hl => match us, hl with | [_, _], _ => rfl) fun f cdv A outer s H vs Q E hr h nd => ?_
  obtain ⟨p, k, rfl, hk, hp, q⟩ := h
  -- one value
  have one : ∀ {H1 H2 : Hp} {v d l}, But p H H1 → PoolAt H1 p → VdV H1 v d → okd d → (fld k).length = 1 → Same H1 H2 → H1 l = none → H2 l = some (.lst [v]) → Q (.ref l) H2 := fun {H1 H2 v d l} b1 p1 hv hd hf e n h => q l [v] [d] H2 (b1.trans (But.of e)) (p1.up e) (But.none b1 n (p1.ne n)) h hf.symm ⟨hv.ts (Same.ts e), trivial⟩ (fun y hy => by rw [List.mem_singleton.mp hy]; exact hd)
  refine l_cons (s_if (t_cmp (e_var (e_int (o_lt ⟨_, rfl, ?_⟩)))))
  refine if2 (fun h0 => ?_) (fun h0 => l_nil ?_)
  · refine l_cons (s_ret (e_lst (a_cons (e_call (by exact FT) (by exact hr) (by decide) ?_))))
    exact a_cons (e_var (a_nil ⟨p, rfl, hp, fun z H1 b1 p1 z1 z2 => a_nil ⟨le1, fun l H2 e2 n2 h2 => one (d := .tx z) b1 p1 rfl ⟨z1, z2⟩ (by unfold fld; rw [if_pos (by omega)]; rfl) e2 n2 h2⟩⟩))
  refine l_cons (s_if (t_cmp (e_var (e_int (o_eqI ⟨_, rfl, ?_⟩)))))
  refine if2 (fun h1 => ?_) (fun h1 => l_nil ?_)
  · refine l_cons (s_ret (e_lst (a_cons (e_call (by exact FK) (by exact hr) (by decide) ?_))))
    exact a_cons (e_var (a_nil ⟨p, rfl, hp, fun v d H1 b1 p1 z1 z2 => a_nil ⟨le1, fun l H2 e2 n2 h2 => one b1 p1 z1 z2 (by unfold fld; rw [if_neg (by omega), if_pos (by omega)]; rfl) e2 n2 h2⟩⟩))
  refine l_cons (s_if (t_cmp (e_var (e_tup ?_))))
  walk_at "sts"
  refine ⟨le4, fun tp H1 e1 n1 h1t => o_inT (by exact SqT.of h1t) rfl rfl ⟨_, rfl, ?_⟩⟩
  rw [in4]
  have b1 : But p H H1 := But.of e1
  have p1 := hp.up e1
  refine if2 (fun h2 => ?_) (fun h2 => l_nil ?_)
  · refine l_cons (s_ret (e_lst (a_cons (e_call (by exact FU) (by exact hr) (by decide) ?_))))
    refine a_cons (e_var (a_nil ⟨p, rfl, p1, fun i H2 b2 p2 z1 z2 => a_nil ⟨le1, fun l H3 e3 n3 h3 => one (d := .nm i) (b1.trans b2) p2 rfl ⟨z1, z2⟩ ?_ e3 n3 h3⟩⟩))
    unfold fld
    rcases h2 with h2 | h2 | h2 | h2
    · rw [if_neg (by omega), if_neg (by omega), if_pos (by omega)]; rfl
    · rw [if_neg (by omega), if_neg (by omega), if_neg (by omega), if_neg (by omega), if_neg (by omega), if_neg (by omega), if_neg (by omega), if_neg (by omega), if_pos (by omega)]; rfl
    · rw [if_neg (by omega), if_neg (by omega), if_neg (by omega), if_neg (by omega), if_neg (by omega), if_neg (by omega), if_neg (by omega), if_neg (by omega), if_neg (by omega), if_pos (by omega)]; rfl
    · rw [if_neg (by omega), if_neg (by omega), if_neg (by omega), if_neg (by omega), if_neg (by omega), if_neg (by omega), if_neg (by omega), if_neg (by omega), if_neg (by omega), if_neg (by omega), if_pos (by omega)]; rfl
  refine l_cons (s_if (t_cmp (e_var (e_tup ?_))))
  walk_at "sts"
  refine ⟨le2, fun tp2 H2 e2 n2 h2t => o_inT (by exact SqT.of h2t) rfl rfl ⟨_, rfl, ?_⟩⟩
  rw [in2]
  have b2 : But p H H2 := b1.trans (But.of e2)
  have p2 := p1.up e2
  refine if2 (fun h3 => ?_) (fun h3 => l_nil ?_)
  · refine l_cons (s_ret (e_lst (a_cons (e_call (by exact FP) (by exact hr) (by decide) ?_))))
    exact a_cons (e_var (a_nil ⟨p, rfl, p2, fun v l H3 b3 p3 z1 z2 => a_nil ⟨le1, fun l H4 e4 n4 h4 => one (b2.trans b3) p3 z1 z2 (by unfold fld; rw [if_neg (by omega), if_neg (by omega), if_neg (by omega), if_pos (by omega)]; rfl) e4 n4 h4⟩⟩))
  refine l_cons (s_if (t_cmp (e_var (e_tup ?_))))
  walk_at "sts"
  refine ⟨le2, fun tp3 H3 e3 n3 h3t => o_inT (by exact SqT.of h3t) rfl rfl ⟨_, rfl, ?_⟩⟩
  rw [in2]
  have b3 : But p H H3 := b2.trans (But.of e3)
  have p3 := p2.up e3
  refine if2 (fun h4 => ?_) (fun h4 => l_nil ?_)
  · refine l_cons (s_ret (e_lst (a_cons (e_call (by exact FP) (by exact hr) (by decide) ?_))))
    refine a_cons (e_var (a_nil ⟨p, rfl, p3, fun v pl H4 b4 p4 z1 z2 => a_cons (e_call (by exact FT) (by exact hr) (by decide) ?_)⟩))
    refine a_cons (e_var (a_nil ⟨p, rfl, p4, fun z H5 b5 p5 y1 y2 => a_nil ⟨le2, fun l H6 e6 n6 h6 => ?_⟩⟩))
    have b35 := (b3.trans b4).trans b5
    refine q l [v, .str z] [.pa pl, .tx z] H6 (b35.trans (But.of e6)) (p5.up e6) (But.none b35 n6 (p5.ne n6)) h6 ?_ ⟨z1.ts ((p4.ts b5).trans (Same.ts e6)), rfl, trivial⟩ (fun y hy => ?_)
    · unfold fld
      rcases h4 with h4 | h4
      · rw [if_neg (by omega), if_neg (by omega), if_neg (by omega), if_neg (by omega), if_pos (by omega)]; rfl
      · rw [if_neg (by omega), if_neg (by omega), if_neg (by omega), if_neg (by omega), if_neg (by omega), if_pos (by omega)]; rfl
    · simp only [List.mem_cons, List.not_mem_nil, or_false] at hy
      rcases hy with rfl | rfl
      · exact z2
      · exact ⟨y1, y2⟩
  refine l_cons (s_if (t_cmp (e_var (e_int (o_eqI ⟨_, rfl, ?_⟩)))))
  refine if2 (fun h5 => ?_) (fun h5 => l_nil ?_)
  · refine l_cons (s_ret (e_lst (a_cons (e_call (by exact FT) (by exact hr) (by decide) ?_))))
    refine a_cons (e_var (a_nil ⟨p, rfl, p3, fun z H4 b4 p4 z1 z2 => a_cons (e_call (by exact FU) (by exact hr) (by decide) ?_)⟩))
    refine a_cons (e_var (a_nil ⟨p, rfl, p4, fun i H5 b5 p5 y1 y2 => a_cons (e_call (by exact FU) (by exact hr) (by decide) ?_)⟩))
    refine a_cons (e_var (a_nil ⟨p, rfl, p5, fun j H6 b6 p6 x1 x2 => a_nil ⟨le3, fun l H7 e7 n7 h7 => ?_⟩⟩))
    have b36 := ((b3.trans b4).trans b5).trans b6
    refine q l [.str z, .int i, .int j] [.tx z, .nm i, .nm j] H7 (b36.trans (But.of e7)) (p6.up e7) (But.none b36 n7 (p6.ne n7)) h7 ?_ ⟨rfl, rfl, rfl, trivial⟩ (fun y hy => ?_)
    · unfold fld
      rw [if_neg (by omega), if_neg (by omega), if_neg (by omega), if_neg (by omega), if_neg (by omega), if_neg (by omega), if_pos (by omega)]; rfl
    · simp only [List.mem_cons, List.not_mem_nil, or_false] at hy
      rcases hy with rfl | rfl | rfl
      · exact ⟨z1, z2⟩
      · exact ⟨y1, y2⟩
      · exact ⟨x1, x2⟩
  refine l_cons (s_if (t_cmp (e_var (e_int (o_eqI ⟨_, rfl, ?_⟩)))))
  refine if2 (fun h6 => ?_) (fun h6 => l_nil ?_)
  · refine l_cons (s_ret (e_lst (a_cons (e_call (by exact FT) (by exact hr) (by decide) ?_))))
    exact a_cons (e_var (a_nil ⟨p, rfl, p3, fun z H4 b4 p4 z1 z2 => a_nil ⟨le1, fun l H5 e5 n5 h5 => one (d := .tx z) (b3.trans b4) p4 rfl ⟨z1, z2⟩ (by unfold fld; rw [if_neg (by omega), if_neg (by omega), if_neg (by omega), if_neg (by omega), if_neg (by omega), if_neg (by omega), if_neg (by omega), if_pos (by omega)]; rfl) e5 n5 h5⟩⟩))
  · refine l_cons (s_ret (e_lst (a_nil ⟨by show 0 ≤ sizeLine; decide, fun l H4 e4 n4 h4 => ?_⟩)))
    refine q l [] [] H4 (b3.trans (But.of e4)) (p3.up e4) (But.none b3 n4 (p3.ne n4)) h4 ?_ trivial (by simp)
    unfold fld
    rw [if_neg (by omega), if_neg (by omega), if_neg (by omega), if_neg (by omega), if_neg (by omega), if_neg (by omega), if_neg (by omega), if_neg (by omega), if_neg (by omega), if_neg (by omega), if_neg (by omega)]; rfl
end



abbrev nms : List Str := ["BadName", "NameTaken", "UnknownName", "InUse", "Circular", "NoRoom", "LeftOver", "WrongHold", "BadKind", "TextError", "NoPart", "NotBare", "DerivationError", "NoStep", "NoMeeting", "BadWorld", "WorldTooLarge", "NoGoal", "GoalsLeft", "WrongGoal", "NotSimple", "NotAlike", "NotOnce", "NotPlain", "NothingToUndo", "NothingToRedo"]
structure Cs (P : Program) (w : World) (K : PySem.W.Frag) (mg : Str → Option Value) (base : Heap) (C : Nat → Addr) (CH : Addr) : Prop where
  e0 : Ec P w K mg base "BadName" (C 0) (spX (C 0) ["name"])
  e1 : Ec P w K mg base "NameTaken" (C 1) (spX (C 1) ["name"])
  e2 : Ec P w K mg base "UnknownName" (C 2) (spX (C 2) ["name"])
  e3 : Ec P w K mg base "InUse" (C 3) (spX (C 3) ["name"])
  e4 : Ec P w K mg base "Circular" (C 4) (spX (C 4) ["name"])
  e5 : Ec P w K mg base "NoRoom" (C 5) (spX (C 5) ["name"])
  e6 : Ec P w K mg base "LeftOver" (C 6) (spX (C 6) ["name"])
  e7 : Ec P w K mg base "WrongHold" (C 7) (spX (C 7) ["name"])
  e8 : Ec P w K mg base "BadKind" (C 8) (spX (C 8) ["kind"])
  e9 : Ec P w K mg base "TextError" (C 9) (spX (C 9) ["index"])
  e10 : Ec P w K mg base "NoPart" (C 10) (spX (C 10) ["path"])
  e11 : Ec P w K mg base "NotBare" (C 11) (spX (C 11) ["path"])
  e12 : Ec P w K mg base "DerivationError" (C 12) (spX (C 12) ["path", "reason"])
  e13 : Ec P w K mg base "NoStep" (C 13) (spX (C 13) ["path", "way"])
  e14 : Ec P w K mg base "NoMeeting" (C 14) (spX (C 14) ["name", "make_index", "open_index"])
  e15 : Ec P w K mg base "BadWorld" (C 15) (spX (C 15) ["reason"])
  e16 : Ec P w K mg base "WorldTooLarge" (C 16) (spX (C 16) ["limit"])
  e17 : Ec P w K mg base "NoGoal" (C 17) (spX (C 17) ["number"])
  e18 : Ec P w K mg base "GoalsLeft" (C 18) (spX (C 18) ["count"])
  n19 : Ei K mg "WrongGoal" (C 19)
  n20 : Ei K mg "NotSimple" (C 20)
  n21 : Ei K mg "NotAlike" (C 21)
  n22 : Ei K mg "NotOnce" (C 22)
  n23 : Ei K mg "NotPlain" (C 23)
  n24 : Ei K mg "NothingToUndo" (C 24)
  n25 : Ei K mg "NothingToRedo" (C 25)
  xf : ∀ k < 19, XfC K (C k)
  no : ∀ k < 19, ∀ f ∈ fld k, PySem.W.findIn K (.ref (C k)) f = some none
  ec : ∀ k < 26, EcC K (C k)
  kt : ∀ k < 26, ∀ j < 26, PySem.W.kitOne K (.ref (C k)) (.ref (C j)) = some (decide (k = j))
  mgs : ∀ j < 26, mg (nms.getD j "") = some (.ref (C j))
  mgH : mg "HeldError" = some (.ref CH)
  kH : ∀ k < 26, PySem.W.kitOne K (.ref (C k)) (.ref CH) = some true
  kV : ∀ k < 26, PySem.W.kitOne K (.ref (C k)) (.type "ValueError") = some true
theorem mkSame {H H' : Hp} {a dx C : Addr} (na : H a = none) (nd : (upd H a (exo a C none)) dx = none) (ne : dx ≠ a) (hb : ∀ b, b ≠ a → b ≠ dx → H' b = (upd H a (exo a C none)) b) : Same H H' := fun b o h => by
  have h1 : b ≠ a := ne_of_none h na
  have h2 : b ≠ dx := fun z => by subst z; rw [upd_ne h1, h] at nd; cases nd
  rw [hb b h1 h2, upd_ne h1]
  exact h
section
variable {P : Program} {w : World} {K : PySem.W.Frag} {mg : Str → Option Value} {base : Heap} {C : Nat → Addr} {CH : Addr}
def spNamed (C : Nat → Addr) : Sp := fun vs H Q _ => ∃ (k : Nat) (v : V), vs = [.int (k : Int), v] ∧ k < 8 ∧ ∀ a H', Same H H' → ErrV H' a (C k) ((fld k).zip [v]) → Q (.ref a) H'
theorem ok_named (T : Top K mg "_law_named" s_named) (R : Cs P w K mg base C CH) : Fn P w K mg base 3 "_law_named" (spNamed C) := by
  refine fn_ok T sc_named so_named (fun vs H Q E h => by obtain ⟨k, v, rfl, _⟩ := h; rfl) (fun _ _ _ _ _ _ us hl => match us, hl with | [_, _], _ => rfl) fun f cdv A outer s H vs Q E hr h nd => ?_
  obtain ⟨k, v, rfl, hk, q⟩ := h
  refine l_cons (s_if (t_cmp (e_var (e_int (o_eqI ⟨_, rfl, ?_⟩)))))
  refine if2 (fun h0 => ?_) (fun h0 => l_nil ?_)
  · obtain rfl : k = 0 := by omega
    refine l_cons (s_ret (e_mkX (by exact R.e0) (by exact hr) (by decide) ?_))
    exact a_cons (e_var (a_nil ⟨by simp, fun a na => ⟨a, [v], rfl, rfl, upd_same, fun dx fs H' nd ne ha hd hb hl => ⟨rfl, q a H' (mkSame na nd ne hb) (.inr ⟨dx, fs, ha, hd, hl⟩)⟩⟩⟩))
  refine l_cons (s_if (t_cmp (e_var (e_int (o_eqI ⟨_, rfl, ?_⟩)))))
  refine if2 (fun h1 => ?_) (fun h1 => l_nil ?_)
  · obtain rfl : k = 1 := by omega
    refine l_cons (s_ret (e_mkX (by exact R.e1) (by exact hr) (by decide) ?_))
    exact a_cons (e_var (a_nil ⟨by simp, fun a na => ⟨a, [v], rfl, rfl, upd_same, fun dx fs H' nd ne ha hd hb hl => ⟨rfl, q a H' (mkSame na nd ne hb) (.inr ⟨dx, fs, ha, hd, hl⟩)⟩⟩⟩))
  refine l_cons (s_if (t_cmp (e_var (e_int (o_eqI ⟨_, rfl, ?_⟩)))))
  refine if2 (fun h2 => ?_) (fun h2 => l_nil ?_)
  · obtain rfl : k = 2 := by omega
    refine l_cons (s_ret (e_mkX (by exact R.e2) (by exact hr) (by decide) ?_))
    exact a_cons (e_var (a_nil ⟨by simp, fun a na => ⟨a, [v], rfl, rfl, upd_same, fun dx fs H' nd ne ha hd hb hl => ⟨rfl, q a H' (mkSame na nd ne hb) (.inr ⟨dx, fs, ha, hd, hl⟩)⟩⟩⟩))
  refine l_cons (s_if (t_cmp (e_var (e_int (o_eqI ⟨_, rfl, ?_⟩)))))
  refine if2 (fun h3 => ?_) (fun h3 => l_nil ?_)
  · obtain rfl : k = 3 := by omega
    refine l_cons (s_ret (e_mkX (by exact R.e3) (by exact hr) (by decide) ?_))
    exact a_cons (e_var (a_nil ⟨by simp, fun a na => ⟨a, [v], rfl, rfl, upd_same, fun dx fs H' nd ne ha hd hb hl => ⟨rfl, q a H' (mkSame na nd ne hb) (.inr ⟨dx, fs, ha, hd, hl⟩)⟩⟩⟩))
  refine l_cons (s_if (t_cmp (e_var (e_int (o_eqI ⟨_, rfl, ?_⟩)))))
  refine if2 (fun h4 => ?_) (fun h4 => l_nil ?_)
  · obtain rfl : k = 4 := by omega
    refine l_cons (s_ret (e_mkX (by exact R.e4) (by exact hr) (by decide) ?_))
    exact a_cons (e_var (a_nil ⟨by simp, fun a na => ⟨a, [v], rfl, rfl, upd_same, fun dx fs H' nd ne ha hd hb hl => ⟨rfl, q a H' (mkSame na nd ne hb) (.inr ⟨dx, fs, ha, hd, hl⟩)⟩⟩⟩))
  refine l_cons (s_if (t_cmp (e_var (e_int (o_eqI ⟨_, rfl, ?_⟩)))))
  refine if2 (fun h5 => ?_) (fun h5 => l_nil ?_)
  · obtain rfl : k = 5 := by omega
    refine l_cons (s_ret (e_mkX (by exact R.e5) (by exact hr) (by decide) ?_))
    exact a_cons (e_var (a_nil ⟨by simp, fun a na => ⟨a, [v], rfl, rfl, upd_same, fun dx fs H' nd ne ha hd hb hl => ⟨rfl, q a H' (mkSame na nd ne hb) (.inr ⟨dx, fs, ha, hd, hl⟩)⟩⟩⟩))
  refine l_cons (s_if (t_cmp (e_var (e_int (o_eqI ⟨_, rfl, ?_⟩)))))
  refine if2 (fun h6 => ?_) (fun h6 => l_nil ?_)
  · obtain rfl : k = 6 := by omega
    refine l_cons (s_ret (e_mkX (by exact R.e6) (by exact hr) (by decide) ?_))
    exact a_cons (e_var (a_nil ⟨by simp, fun a na => ⟨a, [v], rfl, rfl, upd_same, fun dx fs H' nd ne ha hd hb hl => ⟨rfl, q a H' (mkSame na nd ne hb) (.inr ⟨dx, fs, ha, hd, hl⟩)⟩⟩⟩))
  obtain rfl : k = 7 := by omega
  refine l_cons (s_ret (e_mkX (by exact R.e7) (by exact hr) (by decide) ?_))
  exact a_cons (e_var (a_nil ⟨by simp, fun a na => ⟨a, [v], rfl, rfl, upd_same, fun dx fs H' nd ne ha hd hb hl => ⟨rfl, q a H' (mkSame na nd ne hb) (.inr ⟨dx, fs, ha, hd, hl⟩)⟩⟩⟩))
def spPlain (C : Nat → Addr) : Sp := fun vs H Q _ => ∃ (k : Nat), vs = [.int (k : Int)] ∧ 18 < k ∧ k < 26 ∧ ∀ a H', Same H H' → ErrV H' a (C k) [] → Q (.ref a) H'
theorem ok_plain (T : Top K mg "_law_plain" s_plain) (R : Cs P w K mg base C CH) : Fn P w K mg base 3 "_law_plain" (spPlain C) := by
  refine fn_ok T sc_plain so_plain (fun vs H Q E h => by obtain ⟨k, rfl, _⟩ := h; rfl) (fun _ _ _ _ _ _ us hl => match us, hl with | [_], _ => rfl) fun f cdv A outer s H vs Q E hr h nd => ?_
  obtain ⟨k, rfl, hk1, hk2, q⟩ := h
  refine l_cons (s_if (t_cmp (e_var (e_int (o_eqI ⟨_, rfl, ?_⟩)))))
  refine if2 (fun h19 => ?_) (fun h19 => l_nil ?_)
  · obtain rfl : k = 19 := by omega
    exact l_cons (s_ret (e_mk0 (by exact R.n19) fun a na => q a _ (fun b u hb => by rw [upd_ne (ne_of_none hb na)]; exact hb) (.inl ⟨rfl, upd_same⟩)))
  refine l_cons (s_if (t_cmp (e_var (e_int (o_eqI ⟨_, rfl, ?_⟩)))))
  refine if2 (fun h20 => ?_) (fun h20 => l_nil ?_)
  · obtain rfl : k = 20 := by omega
    exact l_cons (s_ret (e_mk0 (by exact R.n20) fun a na => q a _ (fun b u hb => by rw [upd_ne (ne_of_none hb na)]; exact hb) (.inl ⟨rfl, upd_same⟩)))
  refine l_cons (s_if (t_cmp (e_var (e_int (o_eqI ⟨_, rfl, ?_⟩)))))
  refine if2 (fun h21 => ?_) (fun h21 => l_nil ?_)
  · obtain rfl : k = 21 := by omega
    exact l_cons (s_ret (e_mk0 (by exact R.n21) fun a na => q a _ (fun b u hb => by rw [upd_ne (ne_of_none hb na)]; exact hb) (.inl ⟨rfl, upd_same⟩)))
  refine l_cons (s_if (t_cmp (e_var (e_int (o_eqI ⟨_, rfl, ?_⟩)))))
  refine if2 (fun h22 => ?_) (fun h22 => l_nil ?_)
  · obtain rfl : k = 22 := by omega
    exact l_cons (s_ret (e_mk0 (by exact R.n22) fun a na => q a _ (fun b u hb => by rw [upd_ne (ne_of_none hb na)]; exact hb) (.inl ⟨rfl, upd_same⟩)))
  refine l_cons (s_if (t_cmp (e_var (e_int (o_eqI ⟨_, rfl, ?_⟩)))))
  refine if2 (fun h23 => ?_) (fun h23 => l_nil ?_)
  · obtain rfl : k = 23 := by omega
    exact l_cons (s_ret (e_mk0 (by exact R.n23) fun a na => q a _ (fun b u hb => by rw [upd_ne (ne_of_none hb na)]; exact hb) (.inl ⟨rfl, upd_same⟩)))
  refine l_cons (s_if (t_cmp (e_var (e_int (o_eqI ⟨_, rfl, ?_⟩)))))
  refine if2 (fun h24 => ?_) (fun h24 => l_nil ?_)
  · obtain rfl : k = 24 := by omega
    exact l_cons (s_ret (e_mk0 (by exact R.n24) fun a na => q a _ (fun b u hb => by rw [upd_ne (ne_of_none hb na)]; exact hb) (.inl ⟨rfl, upd_same⟩)))
  obtain rfl : k = 25 := by omega
  exact l_cons (s_ret (e_mk0 (by exact R.n25) fun a na => q a _ (fun b u hb => by rw [upd_ne (ne_of_none hb na)]; exact hb) (.inl ⟨rfl, upd_same⟩)))
def spMade (C : Nat → Addr) : Sp := fun vs H Q _ => ∃ (k : Nat) (l : Addr) (us : List V), vs = [.int (k : Int), .ref l] ∧ k < 26 ∧ H l = some (.lst us) ∧ us.length = (fld k).length ∧ ∀ a H', Same H H' → ErrV H' a (C k) ((fld k).zip us) → Q (.ref a) H'
theorem ok_made (T : Top K mg "_law_made" s_made) (R : Cs P w K mg base C CH) (FA : Fn P w K mg base 3 "_law_named" (spNamed C)) (FB : Fn P w K mg base 3 "_law_plain" (spPlain C)) : Fn P w K mg base 4 "_law_made" (spMade C) := by
  refine fn_ok T sc_made so_made (fun vs H Q E h => by obtain ⟨k, l, us, rfl, _⟩ := h; rfl) (fun _ _ _ _ _ _ us hl => match us, hl with | [_, _], _ => rfl) fun f cdv A outer s H vs Q E hr h nd => ?_
  obtain ⟨k, l, us, rfl, hk, hl, hus, q⟩ := h
  refine l_cons (s_if (t_cmp (e_var (e_int (o_lt ⟨_, rfl, ?_⟩)))))
  refine if2 (fun h0 => ?_) (fun h0 => l_nil ?_)
  · have e8 : fld k = (["name"] : List Str) := by unfold fld; rw [if_pos (by omega)]
    rw [e8] at hus q
    match us, hus with
    | [v], _ =>
      refine l_cons (s_ret (e_call (by exact FA) (by exact hr) (by decide) ?_))
      exact a_cons (e_var (a_cons (e_ix (e_var (e_int (ix_l (by exact SqL.of hl) at0 (a_nil ⟨k, v, rfl, by omega, fun a H' e h => q a H' e (by rw [e8] at h; exact h)⟩)))))))
  refine l_cons (s_if (t_cmp (e_var (e_int (o_gt ⟨_, rfl, ?_⟩)))))
  refine if2 (fun h1 => ?_) (fun h1 => l_nil ?_)
  · have e18 : fld k = ([] : List Str) := by
      unfold fld
      rw [if_neg (by omega), if_neg (by omega), if_neg (by omega), if_neg (by omega), if_neg (by omega), if_neg (by omega), if_neg (by omega), if_neg (by omega), if_neg (by omega), if_neg (by omega), if_neg (by omega)]
    rw [e18] at q
    refine l_cons (s_ret (e_call (by exact FB) (by exact hr) (by decide) ?_))
    exact a_cons (e_var (a_nil ⟨k, rfl, by omega, hk, fun a H' e h => q a H' e h⟩))
  refine l_cons (s_if (t_cmp (e_var (e_int (o_eqI ⟨_, rfl, ?_⟩)))))
  refine if2 (fun h8 => ?_) (fun h8 => l_nil ?_)
  · obtain rfl : k = 8 := by omega
    match us, hus with
    | [v], _ =>
      refine l_cons (s_ret (e_mkX (by exact R.e8) (by exact hr) (by decide) ?_))
      exact a_cons (e_ix (e_var (e_int (ix_l (by exact SqL.of hl) at0 (a_nil ⟨by simp, fun a na => ⟨a, [v], rfl, rfl, upd_same, fun dx fs H' nd ne ha hd hb hlk => ⟨rfl, q a H' (mkSame na nd ne hb) (.inr ⟨dx, fs, ha, hd, hlk⟩)⟩⟩⟩)))))
  refine l_cons (s_if (t_cmp (e_var (e_int (o_eqI ⟨_, rfl, ?_⟩)))))
  refine if2 (fun h9 => ?_) (fun h9 => l_nil ?_)
  · obtain rfl : k = 9 := by omega
    match us, hus with
    | [v], _ =>
      refine l_cons (s_ret (e_mkX (by exact R.e9) (by exact hr) (by decide) ?_))
      exact a_cons (e_ix (e_var (e_int (ix_l (by exact SqL.of hl) at0 (a_nil ⟨by simp, fun a na => ⟨a, [v], rfl, rfl, upd_same, fun dx fs H' nd ne ha hd hb hlk => ⟨rfl, q a H' (mkSame na nd ne hb) (.inr ⟨dx, fs, ha, hd, hlk⟩)⟩⟩⟩)))))
  refine l_cons (s_if (t_cmp (e_var (e_int (o_eqI ⟨_, rfl, ?_⟩)))))
  refine if2 (fun h10 => ?_) (fun h10 => l_nil ?_)
  · obtain rfl : k = 10 := by omega
    match us, hus with
    | [v], _ =>
      refine l_cons (s_ret (e_mkX (by exact R.e10) (by exact hr) (by decide) ?_))
      exact a_cons (e_ix (e_var (e_int (ix_l (by exact SqL.of hl) at0 (a_nil ⟨by simp, fun a na => ⟨a, [v], rfl, rfl, upd_same, fun dx fs H' nd ne ha hd hb hlk => ⟨rfl, q a H' (mkSame na nd ne hb) (.inr ⟨dx, fs, ha, hd, hlk⟩)⟩⟩⟩)))))
  refine l_cons (s_if (t_cmp (e_var (e_int (o_eqI ⟨_, rfl, ?_⟩)))))
  refine if2 (fun h11 => ?_) (fun h11 => l_nil ?_)
  · obtain rfl : k = 11 := by omega
    match us, hus with
    | [v], _ =>
      refine l_cons (s_ret (e_mkX (by exact R.e11) (by exact hr) (by decide) ?_))
      exact a_cons (e_ix (e_var (e_int (ix_l (by exact SqL.of hl) at0 (a_nil ⟨by simp, fun a na => ⟨a, [v], rfl, rfl, upd_same, fun dx fs H' nd ne ha hd hb hlk => ⟨rfl, q a H' (mkSame na nd ne hb) (.inr ⟨dx, fs, ha, hd, hlk⟩)⟩⟩⟩)))))
  refine l_cons (s_if (t_cmp (e_var (e_int (o_eqI ⟨_, rfl, ?_⟩)))))
  refine if2 (fun h12 => ?_) (fun h12 => l_nil ?_)
  · obtain rfl : k = 12 := by omega
    match us, hus with
    | [v, u], _ =>
      refine l_cons (s_ret (e_mkX (by exact R.e12) (by exact hr) (by decide) ?_))
      exact a_cons (e_ix (e_var (e_int (ix_l (by exact SqL.of hl) at0 (a_cons (e_ix (e_var (e_int (ix_l (by exact SqL.of hl) at1 (a_nil ⟨by simp, fun a na => ⟨a, [v, u], rfl, rfl, upd_same, fun dx fs H' nd ne ha hd hb hlk => ⟨rfl, q a H' (mkSame na nd ne hb) (.inr ⟨dx, fs, ha, hd, hlk⟩)⟩⟩⟩))))))))))
  refine l_cons (s_if (t_cmp (e_var (e_int (o_eqI ⟨_, rfl, ?_⟩)))))
  refine if2 (fun h13 => ?_) (fun h13 => l_nil ?_)
  · obtain rfl : k = 13 := by omega
    match us, hus with
    | [v, u], _ =>
      refine l_cons (s_ret (e_mkX (by exact R.e13) (by exact hr) (by decide) ?_))
      exact a_cons (e_ix (e_var (e_int (ix_l (by exact SqL.of hl) at0 (a_cons (e_ix (e_var (e_int (ix_l (by exact SqL.of hl) at1 (a_nil ⟨by simp, fun a na => ⟨a, [v, u], rfl, rfl, upd_same, fun dx fs H' nd ne ha hd hb hlk => ⟨rfl, q a H' (mkSame na nd ne hb) (.inr ⟨dx, fs, ha, hd, hlk⟩)⟩⟩⟩))))))))))
  refine l_cons (s_if (t_cmp (e_var (e_int (o_eqI ⟨_, rfl, ?_⟩)))))
  refine if2 (fun h14 => ?_) (fun h14 => l_nil ?_)
  · obtain rfl : k = 14 := by omega
    match us, hus with
    | [v, u, x], _ =>
      refine l_cons (s_ret (e_mkX (by exact R.e14) (by exact hr) (by decide) ?_))
      exact a_cons (e_ix (e_var (e_int (ix_l (by exact SqL.of hl) at0 (a_cons (e_ix (e_var (e_int (ix_l (by exact SqL.of hl) at1 (a_cons (e_ix (e_var (e_int (ix_l (by exact SqL.of hl) at2 (a_nil ⟨by simp, fun a na => ⟨a, [v, u, x], rfl, rfl, upd_same, fun dx fs H' nd ne ha hd hb hlk => ⟨rfl, q a H' (mkSame na nd ne hb) (.inr ⟨dx, fs, ha, hd, hlk⟩)⟩⟩⟩)))))))))))))))
  refine l_cons (s_if (t_cmp (e_var (e_int (o_eqI ⟨_, rfl, ?_⟩)))))
  refine if2 (fun h15 => ?_) (fun h15 => l_nil ?_)
  · obtain rfl : k = 15 := by omega
    match us, hus with
    | [v], _ =>
      refine l_cons (s_ret (e_mkX (by exact R.e15) (by exact hr) (by decide) ?_))
      exact a_cons (e_ix (e_var (e_int (ix_l (by exact SqL.of hl) at0 (a_nil ⟨by simp, fun a na => ⟨a, [v], rfl, rfl, upd_same, fun dx fs H' nd ne ha hd hb hlk => ⟨rfl, q a H' (mkSame na nd ne hb) (.inr ⟨dx, fs, ha, hd, hlk⟩)⟩⟩⟩)))))
  refine l_cons (s_if (t_cmp (e_var (e_int (o_eqI ⟨_, rfl, ?_⟩)))))
  refine if2 (fun h16 => ?_) (fun h16 => l_nil ?_)
  · obtain rfl : k = 16 := by omega
    match us, hus with
    | [v], _ =>
      refine l_cons (s_ret (e_mkX (by exact R.e16) (by exact hr) (by decide) ?_))
      exact a_cons (e_ix (e_var (e_int (ix_l (by exact SqL.of hl) at0 (a_nil ⟨by simp, fun a na => ⟨a, [v], rfl, rfl, upd_same, fun dx fs H' nd ne ha hd hb hlk => ⟨rfl, q a H' (mkSame na nd ne hb) (.inr ⟨dx, fs, ha, hd, hlk⟩)⟩⟩⟩)))))
  refine l_cons (s_if (t_cmp (e_var (e_int (o_eqI ⟨_, rfl, ?_⟩)))))
  refine if2 (fun h17 => ?_) (fun h17 => l_nil ?_)
  · obtain rfl : k = 17 := by omega
    match us, hus with
    | [v], _ =>
      refine l_cons (s_ret (e_mkX (by exact R.e17) (by exact hr) (by decide) ?_))
      exact a_cons (e_ix (e_var (e_int (ix_l (by exact SqL.of hl) at0 (a_nil ⟨by simp, fun a na => ⟨a, [v], rfl, rfl, upd_same, fun dx fs H' nd ne ha hd hb hlk => ⟨rfl, q a H' (mkSame na nd ne hb) (.inr ⟨dx, fs, ha, hd, hlk⟩)⟩⟩⟩)))))
  obtain rfl : k = 18 := by omega
  match us, hus with
  | [v], _ =>
    refine l_cons (s_ret (e_mkX (by exact R.e18) (by exact hr) (by decide) ?_))
    exact a_cons (e_ix (e_var (e_int (ix_l (by exact SqL.of hl) at0 (a_nil ⟨by simp, fun a na => ⟨a, [v], rfl, rfl, upd_same, fun dx fs H' nd ne ha hd hb hlk => ⟨rfl, q a H' (mkSame na nd ne hb) (.inr ⟨dx, fs, ha, hd, hlk⟩)⟩⟩⟩)))))
theorem zip1 {f : Str} {us : List V} (h : us.length = 1) : ∃ v, us = [v] ∧ [f].zip us = [(f, v)] := by
  match us, h with
  | [v], _ => exact ⟨v, rfl, rfl⟩
theorem errv_get {H : Hp} {a C : Addr} {fv : List (Str × V)} {f : Str} {v : V} (h : ErrV H a C fv) (m : (f, v) ∈ fv) : ∃ (dd : Addr) (fs : List (Str × V)), H a = some (exo a C (some dd)) ∧ H dd = some (exd dd fs) ∧ fs.lookup f = some v := by
  rcases h with ⟨h1, _⟩ | ⟨dd, fs, h1, h2, h3⟩
  · rw [h1] at m; cases m
  · exact ⟨dd, fs, h1, h2, h3 _ m⟩
def spFields (C : Nat → Addr) : Sp := fun vs H Q _ => ∃ (k : Nat) (a : Addr) (us : List V), vs = [.int (k : Int), .ref a] ∧ k < 26 ∧ us.length = (fld k).length ∧ ErrV H a (C k) ((fld k).zip us) ∧ ∀ l H', Same H H' → H' l = some (.lst us) → Q (.ref l) H'
theorem ok_fields (T : Top K mg "_law_fields" s_fields) (R : Cs P w K mg base C CH) : Fn P w K mg base 3 "_law_fields" (spFields C) := by
  refine fn_ok T sc_fields so_fields (fun vs H Q E h => by obtain ⟨k, a, us, rfl, _⟩ := h; rfl) (fun _ _ _ _ _ _ us hl => match us, hl with | [_, _], _ => rfl) fun f cdv A outer s H vs Q E hr h nd => ?_
  obtain ⟨k, a, us, rfl, hk, hus, he, q⟩ := h
  refine l_cons (s_if (t_cmp (e_var (e_int (o_lt ⟨_, rfl, ?_⟩)))))
  refine if2 (fun h0 => ?_) (fun h0 => l_nil ?_)
  · have ef : fld k = (["name"] : List Str) := by unfold fld; rw [if_pos (by omega)]
    rw [ef] at hus he
    match us, hus with
    | [v], _ =>
      obtain ⟨g0d, g0f, g01, g02, g03⟩ := errv_get he (f := "name") (v := v) (by simp)
      exact l_cons (s_ret (e_lst (a_cons (e_xA (C := C k) (R.xf k (by omega)) (R.no k (by omega) _ (by rw [ef]; simp)) (e_var ⟨a, g0d, g0f, _, rfl, g01, g02, g03, a_nil ⟨le1, fun l H2 e2 n2 h2 => q l H2 e2 h2⟩⟩)))))
  refine l_cons (s_if (t_cmp (e_var (e_int (o_eqI ⟨_, rfl, ?_⟩)))))
  refine if2 (fun h1 => ?_) (fun h1 => l_nil ?_)
  · have ef : fld k = (["kind"] : List Str) := by unfold fld; rw [if_neg (by omega), if_pos (by omega)]
    rw [ef] at hus he
    match us, hus with
    | [v], _ =>
      obtain ⟨g0d, g0f, g01, g02, g03⟩ := errv_get he (f := "kind") (v := v) (by simp)
      exact l_cons (s_ret (e_lst (a_cons (e_xA (C := C k) (R.xf k (by omega)) (R.no k (by omega) _ (by rw [ef]; simp)) (e_var ⟨a, g0d, g0f, _, rfl, g01, g02, g03, a_nil ⟨le1, fun l H2 e2 n2 h2 => q l H2 e2 h2⟩⟩)))))
  refine l_cons (s_if (t_cmp (e_var (e_int (o_eqI ⟨_, rfl, ?_⟩)))))
  refine if2 (fun h2 => ?_) (fun h2 => l_nil ?_)
  · have ef : fld k = (["index"] : List Str) := by unfold fld; rw [if_neg (by omega), if_neg (by omega), if_pos (by omega)]
    rw [ef] at hus he
    match us, hus with
    | [v], _ =>
      obtain ⟨g0d, g0f, g01, g02, g03⟩ := errv_get he (f := "index") (v := v) (by simp)
      exact l_cons (s_ret (e_lst (a_cons (e_xA (C := C k) (R.xf k (by omega)) (R.no k (by omega) _ (by rw [ef]; simp)) (e_var ⟨a, g0d, g0f, _, rfl, g01, g02, g03, a_nil ⟨le1, fun l H2 e2 n2 h2 => q l H2 e2 h2⟩⟩)))))
  refine l_cons (s_if (t_cmp (e_var (e_tup ?_))))
  walk_at "sts"
  refine ⟨le2, fun tp H1 e1 n1 h1t => o_inT (by exact SqT.of h1t) rfl rfl ⟨_, rfl, ?_⟩⟩
  rw [in2]
  replace he := he.same e1
  replace q : ∀ l H', Same H1 H' → H' l = some (.lst us) → Q (.ref l) H' := fun l H' e h => q l H' (e1.trans e) h
  clear n1 h1t
  refine if2 (fun h3 => ?_) (fun h3 => l_nil ?_)
  · have ef : fld k = (["path"] : List Str) := by unfold fld; rw [if_neg (by omega), if_neg (by omega), if_neg (by omega), if_pos (by omega)]
    rw [ef] at hus he
    match us, hus with
    | [v], _ =>
      obtain ⟨g0d, g0f, g01, g02, g03⟩ := errv_get he (f := "path") (v := v) (by simp)
      exact l_cons (s_ret (e_lst (a_cons (e_xA (C := C k) (R.xf k (by omega)) (R.no k (by omega) _ (by rw [ef]; simp)) (e_var ⟨a, g0d, g0f, _, rfl, g01, g02, g03, a_nil ⟨le1, fun l H2 e2 n2 h2 => q l H2 e2 h2⟩⟩)))))
  refine l_cons (s_if (t_cmp (e_var (e_int (o_eqI ⟨_, rfl, ?_⟩)))))
  refine if2 (fun h4 => ?_) (fun h4 => l_nil ?_)
  · have ef : fld k = (["path", "reason"] : List Str) := by unfold fld; rw [if_neg (by omega), if_neg (by omega), if_neg (by omega), if_neg (by omega), if_pos (by omega)]
    rw [ef] at hus he
    match us, hus with
    | [v, u], _ =>
      obtain ⟨g0d, g0f, g01, g02, g03⟩ := errv_get he (f := "path") (v := v) (by simp)
      obtain ⟨g1d, g1f, g11, g12, g13⟩ := errv_get he (f := "reason") (v := u) (by simp)
      exact l_cons (s_ret (e_lst (a_cons (e_xA (C := C k) (R.xf k (by omega)) (R.no k (by omega) _ (by rw [ef]; simp)) (e_var ⟨a, g0d, g0f, _, rfl, g01, g02, g03, a_cons (e_xA (C := C k) (R.xf k (by omega)) (R.no k (by omega) _ (by rw [ef]; simp)) (e_var ⟨a, g1d, g1f, _, rfl, g11, g12, g13, a_nil ⟨le2, fun l H2 e2 n2 h2 => q l H2 e2 h2⟩⟩))⟩)))))
  refine l_cons (s_if (t_cmp (e_var (e_int (o_eqI ⟨_, rfl, ?_⟩)))))
  refine if2 (fun h5 => ?_) (fun h5 => l_nil ?_)
  · have ef : fld k = (["path", "way"] : List Str) := by unfold fld; rw [if_neg (by omega), if_neg (by omega), if_neg (by omega), if_neg (by omega), if_neg (by omega), if_pos (by omega)]
    rw [ef] at hus he
    match us, hus with
    | [v, u], _ =>
      obtain ⟨g0d, g0f, g01, g02, g03⟩ := errv_get he (f := "path") (v := v) (by simp)
      obtain ⟨g1d, g1f, g11, g12, g13⟩ := errv_get he (f := "way") (v := u) (by simp)
      exact l_cons (s_ret (e_lst (a_cons (e_xA (C := C k) (R.xf k (by omega)) (R.no k (by omega) _ (by rw [ef]; simp)) (e_var ⟨a, g0d, g0f, _, rfl, g01, g02, g03, a_cons (e_xA (C := C k) (R.xf k (by omega)) (R.no k (by omega) _ (by rw [ef]; simp)) (e_var ⟨a, g1d, g1f, _, rfl, g11, g12, g13, a_nil ⟨le2, fun l H2 e2 n2 h2 => q l H2 e2 h2⟩⟩))⟩)))))
  refine l_cons (s_if (t_cmp (e_var (e_int (o_eqI ⟨_, rfl, ?_⟩)))))
  refine if2 (fun h6 => ?_) (fun h6 => l_nil ?_)
  · have ef : fld k = (["name", "make_index", "open_index"] : List Str) := by unfold fld; rw [if_neg (by omega), if_neg (by omega), if_neg (by omega), if_neg (by omega), if_neg (by omega), if_neg (by omega), if_pos (by omega)]
    rw [ef] at hus he
    match us, hus with
    | [v, u, x], _ =>
      obtain ⟨g0d, g0f, g01, g02, g03⟩ := errv_get he (f := "name") (v := v) (by simp)
      obtain ⟨g1d, g1f, g11, g12, g13⟩ := errv_get he (f := "make_index") (v := u) (by simp)
      obtain ⟨g2d, g2f, g21, g22, g23⟩ := errv_get he (f := "open_index") (v := x) (by simp)
      exact l_cons (s_ret (e_lst (a_cons (e_xA (C := C k) (R.xf k (by omega)) (R.no k (by omega) _ (by rw [ef]; simp)) (e_var ⟨a, g0d, g0f, _, rfl, g01, g02, g03, a_cons (e_xA (C := C k) (R.xf k (by omega)) (R.no k (by omega) _ (by rw [ef]; simp)) (e_var ⟨a, g1d, g1f, _, rfl, g11, g12, g13, a_cons (e_xA (C := C k) (R.xf k (by omega)) (R.no k (by omega) _ (by rw [ef]; simp)) (e_var ⟨a, g2d, g2f, _, rfl, g21, g22, g23, a_nil ⟨le3, fun l H2 e2 n2 h2 => q l H2 e2 h2⟩⟩))⟩))⟩)))))
  refine l_cons (s_if (t_cmp (e_var (e_int (o_eqI ⟨_, rfl, ?_⟩)))))
  refine if2 (fun h7 => ?_) (fun h7 => l_nil ?_)
  · have ef : fld k = (["reason"] : List Str) := by unfold fld; rw [if_neg (by omega), if_neg (by omega), if_neg (by omega), if_neg (by omega), if_neg (by omega), if_neg (by omega), if_neg (by omega), if_pos (by omega)]
    rw [ef] at hus he
    match us, hus with
    | [v], _ =>
      obtain ⟨g0d, g0f, g01, g02, g03⟩ := errv_get he (f := "reason") (v := v) (by simp)
      exact l_cons (s_ret (e_lst (a_cons (e_xA (C := C k) (R.xf k (by omega)) (R.no k (by omega) _ (by rw [ef]; simp)) (e_var ⟨a, g0d, g0f, _, rfl, g01, g02, g03, a_nil ⟨le1, fun l H2 e2 n2 h2 => q l H2 e2 h2⟩⟩)))))
  refine l_cons (s_if (t_cmp (e_var (e_int (o_eqI ⟨_, rfl, ?_⟩)))))
  refine if2 (fun h8 => ?_) (fun h8 => l_nil ?_)
  · have ef : fld k = (["limit"] : List Str) := by unfold fld; rw [if_neg (by omega), if_neg (by omega), if_neg (by omega), if_neg (by omega), if_neg (by omega), if_neg (by omega), if_neg (by omega), if_neg (by omega), if_pos (by omega)]
    rw [ef] at hus he
    match us, hus with
    | [v], _ =>
      obtain ⟨g0d, g0f, g01, g02, g03⟩ := errv_get he (f := "limit") (v := v) (by simp)
      exact l_cons (s_ret (e_lst (a_cons (e_xA (C := C k) (R.xf k (by omega)) (R.no k (by omega) _ (by rw [ef]; simp)) (e_var ⟨a, g0d, g0f, _, rfl, g01, g02, g03, a_nil ⟨le1, fun l H2 e2 n2 h2 => q l H2 e2 h2⟩⟩)))))
  refine l_cons (s_if (t_cmp (e_var (e_int (o_eqI ⟨_, rfl, ?_⟩)))))
  refine if2 (fun h9 => ?_) (fun h9 => l_nil ?_)
  · have ef : fld k = (["number"] : List Str) := by unfold fld; rw [if_neg (by omega), if_neg (by omega), if_neg (by omega), if_neg (by omega), if_neg (by omega), if_neg (by omega), if_neg (by omega), if_neg (by omega), if_neg (by omega), if_pos (by omega)]
    rw [ef] at hus he
    match us, hus with
    | [v], _ =>
      obtain ⟨g0d, g0f, g01, g02, g03⟩ := errv_get he (f := "number") (v := v) (by simp)
      exact l_cons (s_ret (e_lst (a_cons (e_xA (C := C k) (R.xf k (by omega)) (R.no k (by omega) _ (by rw [ef]; simp)) (e_var ⟨a, g0d, g0f, _, rfl, g01, g02, g03, a_nil ⟨le1, fun l H2 e2 n2 h2 => q l H2 e2 h2⟩⟩)))))
  refine l_cons (s_if (t_cmp (e_var (e_int (o_eqI ⟨_, rfl, ?_⟩)))))
  refine if2 (fun h10 => ?_) (fun h10 => l_nil ?_)
  · have ef : fld k = (["count"] : List Str) := by unfold fld; rw [if_neg (by omega), if_neg (by omega), if_neg (by omega), if_neg (by omega), if_neg (by omega), if_neg (by omega), if_neg (by omega), if_neg (by omega), if_neg (by omega), if_neg (by omega), if_pos (by omega)]
    rw [ef] at hus he
    match us, hus with
    | [v], _ =>
      obtain ⟨g0d, g0f, g01, g02, g03⟩ := errv_get he (f := "count") (v := v) (by simp)
      exact l_cons (s_ret (e_lst (a_cons (e_xA (C := C k) (R.xf k (by omega)) (R.no k (by omega) _ (by rw [ef]; simp)) (e_var ⟨a, g0d, g0f, _, rfl, g01, g02, g03, a_nil ⟨le1, fun l H2 e2 n2 h2 => q l H2 e2 h2⟩⟩)))))
  have ef : fld k = ([] : List Str) := by unfold fld; rw [if_neg (by omega), if_neg (by omega), if_neg (by omega), if_neg (by omega), if_neg (by omega), if_neg (by omega), if_neg (by omega), if_neg (by omega), if_neg (by omega), if_neg (by omega), if_neg (by omega)]
  rw [ef] at hus
  match us, hus with
  | [], _ => exact l_cons (s_ret (e_lst (a_nil ⟨by show 0 ≤ sizeLine; decide, fun l H2 e2 n2 h2 => q l H2 e2 h2⟩)))
end



section
variable {P : Program} {w : World} {K : PySem.W.Frag} {mg : Str → Option Value} {base : Heap} {C : Nat → Addr} {CH : Addr}
theorem o_cat' {X : Cx} {H : Hp} {Q : VK} {l b : Addr} {xs zs : List V} (h1 : H l = some (.lst xs)) (h2 : H b = some (.lst zs)) (hz : xs.length + zs.length ≤ 100) (q : ∀ p H2, Same H H2 → H2 p = some (.lst (xs ++ zs)) → Q (.ref p) H2) : wB X .Add (.ref l) (.ref b) H Q := o_cat h1 h2 (Nat.le_trans hz (by decide)) q
def mrk (k : Nat) : List V := (List.range 26).map fun j => V.bl (decide (k = j))
def spMarks (C : Nat → Addr) : Sp := fun vs H Q _ => ∃ (k : Nat) (a : Addr) (fv : List (Str × V)), vs = [.ref a] ∧ k < 26 ∧ ErrV H a (C k) fv ∧ ∀ l H', Same H H' → H' l = some (.lst (mrk k)) → Q (.ref l) H'
theorem ok_marks (T : Top K mg "_law_marks" s_marks) (R : Cs P w K mg base C CH) (mIs : mg "isinstance" = none) : Fn P w K mg base 3 "_law_marks" (spMarks C) := by
  refine fn_ok T sc_marks so_marks (fun vs H Q E h => by obtain ⟨k, a, fv, rfl, _⟩ := h; rfl) (fun _ _ _ _ _ _ us hl => match us, hl with | [_], _ => rfl) fun f cdv A outer s H vs Q E hr h nd => ?_
  obtain ⟨k, a, fv, rfl, hk, he, q⟩ := h
  refine l_cons (s_set (e_lst (a_cons (e_callB (x := "isinstance") (by assumption) b_isi (a_cons (e_var (a_cons (e_glob (x := "BadName") (v := .ref (C 0)) (by exact R.mgs 0 (by decide)) rfl (a_nil (c_isX (R.ec k hk) he (.own _) (R.kt k hk 0 (by decide)) (a_cons (e_callB (x := "isinstance") (by assumption) b_isi (a_cons (e_var (a_cons (e_glob (x := "NameTaken") (v := .ref (C 1)) (by exact R.mgs 1 (by decide)) rfl (a_nil (c_isX (R.ec k hk) he (.own _) (R.kt k hk 1 (by decide)) (a_cons (e_callB (x := "isinstance") (by assumption) b_isi (a_cons (e_var (a_cons (e_glob (x := "UnknownName") (v := .ref (C 2)) (by exact R.mgs 2 (by decide)) rfl (a_nil (c_isX (R.ec k hk) he (.own _) (R.kt k hk 2 (by decide)) (a_cons (e_callB (x := "isinstance") (by assumption) b_isi (a_cons (e_var (a_cons (e_glob (x := "InUse") (v := .ref (C 3)) (by exact R.mgs 3 (by decide)) rfl (a_nil (c_isX (R.ec k hk) he (.own _) (R.kt k hk 3 (by decide)) (a_nil ⟨by show 4 ≤ sizeLine; decide, fun m0 H0 e0 n0 h0 => ?_⟩)))))))))))))))))))))))))))))))))))
  have s0 : Same H H0 := e0
  show wL _ _ _ [some (.ref a), some (.ref m0)] _
  refine l_cons (s_set (e_bin (e_var (e_lst (a_cons (e_callB (x := "isinstance") (by assumption) b_isi (a_cons (e_var (a_cons (e_glob (x := "Circular") (v := .ref (C 4)) (by exact R.mgs 4 (by decide)) rfl (a_nil (c_isX (R.ec k hk) (he.same s0) (.own _) (R.kt k hk 4 (by decide)) (a_cons (e_callB (x := "isinstance") (by assumption) b_isi (a_cons (e_var (a_cons (e_glob (x := "NoRoom") (v := .ref (C 5)) (by exact R.mgs 5 (by decide)) rfl (a_nil (c_isX (R.ec k hk) (he.same s0) (.own _) (R.kt k hk 5 (by decide)) (a_cons (e_callB (x := "isinstance") (by assumption) b_isi (a_cons (e_var (a_cons (e_glob (x := "LeftOver") (v := .ref (C 6)) (by exact R.mgs 6 (by decide)) rfl (a_nil (c_isX (R.ec k hk) (he.same s0) (.own _) (R.kt k hk 6 (by decide)) (a_cons (e_callB (x := "isinstance") (by assumption) b_isi (a_cons (e_var (a_cons (e_glob (x := "WrongHold") (v := .ref (C 7)) (by exact R.mgs 7 (by decide)) rfl (a_nil (c_isX (R.ec k hk) (he.same s0) (.own _) (R.kt k hk 7 (by decide)) (a_nil ⟨by show 4 ≤ sizeLine; decide, fun b1 G1 f1 _ g1 => ?_⟩)))))))))))))))))))))))))))))))))))))
  refine o_cat' (f1 _ _ h0) g1 (by simp) fun m1 H1 e1 h1 => ?_
  have s1 : Same H H1 := (s0.trans f1).trans e1
  show wL _ _ _ [some (.ref a), some (.ref m1)] _
  refine l_cons (s_set (e_bin (e_var (e_lst (a_cons (e_callB (x := "isinstance") (by assumption) b_isi (a_cons (e_var (a_cons (e_glob (x := "BadKind") (v := .ref (C 8)) (by exact R.mgs 8 (by decide)) rfl (a_nil (c_isX (R.ec k hk) (he.same s1) (.own _) (R.kt k hk 8 (by decide)) (a_cons (e_callB (x := "isinstance") (by assumption) b_isi (a_cons (e_var (a_cons (e_glob (x := "TextError") (v := .ref (C 9)) (by exact R.mgs 9 (by decide)) rfl (a_nil (c_isX (R.ec k hk) (he.same s1) (.own _) (R.kt k hk 9 (by decide)) (a_cons (e_callB (x := "isinstance") (by assumption) b_isi (a_cons (e_var (a_cons (e_glob (x := "NoPart") (v := .ref (C 10)) (by exact R.mgs 10 (by decide)) rfl (a_nil (c_isX (R.ec k hk) (he.same s1) (.own _) (R.kt k hk 10 (by decide)) (a_cons (e_callB (x := "isinstance") (by assumption) b_isi (a_cons (e_var (a_cons (e_glob (x := "NotBare") (v := .ref (C 11)) (by exact R.mgs 11 (by decide)) rfl (a_nil (c_isX (R.ec k hk) (he.same s1) (.own _) (R.kt k hk 11 (by decide)) (a_nil ⟨by show 4 ≤ sizeLine; decide, fun b2 G2 f2 _ g2 => ?_⟩)))))))))))))))))))))))))))))))))))))
  refine o_cat' (f2 _ _ h1) g2 (by simp) fun m2 H2 e2 h2 => ?_
  have s2 : Same H H2 := (s1.trans f2).trans e2
  show wL _ _ _ [some (.ref a), some (.ref m2)] _
  refine l_cons (s_set (e_bin (e_var (e_lst (a_cons (e_callB (x := "isinstance") (by assumption) b_isi (a_cons (e_var (a_cons (e_glob (x := "DerivationError") (v := .ref (C 12)) (by exact R.mgs 12 (by decide)) rfl (a_nil (c_isX (R.ec k hk) (he.same s2) (.own _) (R.kt k hk 12 (by decide)) (a_cons (e_callB (x := "isinstance") (by assumption) b_isi (a_cons (e_var (a_cons (e_glob (x := "NoStep") (v := .ref (C 13)) (by exact R.mgs 13 (by decide)) rfl (a_nil (c_isX (R.ec k hk) (he.same s2) (.own _) (R.kt k hk 13 (by decide)) (a_cons (e_callB (x := "isinstance") (by assumption) b_isi (a_cons (e_var (a_cons (e_glob (x := "NoMeeting") (v := .ref (C 14)) (by exact R.mgs 14 (by decide)) rfl (a_nil (c_isX (R.ec k hk) (he.same s2) (.own _) (R.kt k hk 14 (by decide)) (a_nil ⟨by show 3 ≤ sizeLine; decide, fun b3 G3 f3 _ g3 => ?_⟩)))))))))))))))))))))))))))))
  refine o_cat' (f3 _ _ h2) g3 (by simp) fun m3 H3 e3 h3 => ?_
  have s3 : Same H H3 := (s2.trans f3).trans e3
  show wL _ _ _ [some (.ref a), some (.ref m3)] _
  refine l_cons (s_set (e_bin (e_var (e_lst (a_cons (e_callB (x := "isinstance") (by assumption) b_isi (a_cons (e_var (a_cons (e_glob (x := "BadWorld") (v := .ref (C 15)) (by exact R.mgs 15 (by decide)) rfl (a_nil (c_isX (R.ec k hk) (he.same s3) (.own _) (R.kt k hk 15 (by decide)) (a_cons (e_callB (x := "isinstance") (by assumption) b_isi (a_cons (e_var (a_cons (e_glob (x := "WorldTooLarge") (v := .ref (C 16)) (by exact R.mgs 16 (by decide)) rfl (a_nil (c_isX (R.ec k hk) (he.same s3) (.own _) (R.kt k hk 16 (by decide)) (a_cons (e_callB (x := "isinstance") (by assumption) b_isi (a_cons (e_var (a_cons (e_glob (x := "NoGoal") (v := .ref (C 17)) (by exact R.mgs 17 (by decide)) rfl (a_nil (c_isX (R.ec k hk) (he.same s3) (.own _) (R.kt k hk 17 (by decide)) (a_nil ⟨by show 3 ≤ sizeLine; decide, fun b4 G4 f4 _ g4 => ?_⟩)))))))))))))))))))))))))))))
  refine o_cat' (f4 _ _ h3) g4 (by simp) fun m4 H4 e4 h4 => ?_
  have s4 : Same H H4 := (s3.trans f4).trans e4
  show wL _ _ _ [some (.ref a), some (.ref m4)] _
  refine l_cons (s_set (e_bin (e_var (e_lst (a_cons (e_callB (x := "isinstance") (by assumption) b_isi (a_cons (e_var (a_cons (e_glob (x := "GoalsLeft") (v := .ref (C 18)) (by exact R.mgs 18 (by decide)) rfl (a_nil (c_isX (R.ec k hk) (he.same s4) (.own _) (R.kt k hk 18 (by decide)) (a_cons (e_callB (x := "isinstance") (by assumption) b_isi (a_cons (e_var (a_cons (e_glob (x := "WrongGoal") (v := .ref (C 19)) (by exact R.mgs 19 (by decide)) rfl (a_nil (c_isX (R.ec k hk) (he.same s4) (.own _) (R.kt k hk 19 (by decide)) (a_cons (e_callB (x := "isinstance") (by assumption) b_isi (a_cons (e_var (a_cons (e_glob (x := "NotSimple") (v := .ref (C 20)) (by exact R.mgs 20 (by decide)) rfl (a_nil (c_isX (R.ec k hk) (he.same s4) (.own _) (R.kt k hk 20 (by decide)) (a_nil ⟨by show 3 ≤ sizeLine; decide, fun b5 G5 f5 _ g5 => ?_⟩)))))))))))))))))))))))))))))
  refine o_cat' (f5 _ _ h4) g5 (by simp) fun m5 H5 e5 h5 => ?_
  have s5 : Same H H5 := (s4.trans f5).trans e5
  show wL _ _ _ [some (.ref a), some (.ref m5)] _
  refine l_cons (s_set (e_bin (e_var (e_lst (a_cons (e_callB (x := "isinstance") (by assumption) b_isi (a_cons (e_var (a_cons (e_glob (x := "NotAlike") (v := .ref (C 21)) (by exact R.mgs 21 (by decide)) rfl (a_nil (c_isX (R.ec k hk) (he.same s5) (.own _) (R.kt k hk 21 (by decide)) (a_cons (e_callB (x := "isinstance") (by assumption) b_isi (a_cons (e_var (a_cons (e_glob (x := "NotOnce") (v := .ref (C 22)) (by exact R.mgs 22 (by decide)) rfl (a_nil (c_isX (R.ec k hk) (he.same s5) (.own _) (R.kt k hk 22 (by decide)) (a_cons (e_callB (x := "isinstance") (by assumption) b_isi (a_cons (e_var (a_cons (e_glob (x := "NotPlain") (v := .ref (C 23)) (by exact R.mgs 23 (by decide)) rfl (a_nil (c_isX (R.ec k hk) (he.same s5) (.own _) (R.kt k hk 23 (by decide)) (a_nil ⟨by show 3 ≤ sizeLine; decide, fun b6 G6 f6 _ g6 => ?_⟩)))))))))))))))))))))))))))))
  refine o_cat' (f6 _ _ h5) g6 (by simp) fun m6 H6 e6 h6 => ?_
  have s6 : Same H H6 := (s5.trans f6).trans e6
  show wL _ _ _ [some (.ref a), some (.ref m6)] _
  refine l_cons (s_ret (e_bin (e_var (e_lst (a_cons (e_callB (x := "isinstance") (by assumption) b_isi (a_cons (e_var (a_cons (e_glob (x := "NothingToUndo") (v := .ref (C 24)) (by exact R.mgs 24 (by decide)) rfl (a_nil (c_isX (R.ec k hk) (he.same s6) (.own _) (R.kt k hk 24 (by decide)) (a_cons (e_callB (x := "isinstance") (by assumption) b_isi (a_cons (e_var (a_cons (e_glob (x := "NothingToRedo") (v := .ref (C 25)) (by exact R.mgs 25 (by decide)) rfl (a_nil (c_isX (R.ec k hk) (he.same s6) (.own _) (R.kt k hk 25 (by decide)) (a_nil ⟨by show 2 ≤ sizeLine; decide, fun b7 G7 f7 _ g7 => ?_⟩)))))))))))))))))))))
  refine o_cat' (f7 _ _ h6) g7 (by simp) fun m7 H7 e7 h7 => ?_
  have s7 : Same H H7 := (s6.trans f7).trans e7
  exact q m7 H7 s7 h7
end
/-! ### the values as data -/
def dat : Vd → PyData
  | .tx z => .str z
  | .nm i => .int i
  | .pa l => .tuple (l.map .int)
  | .kd i j => .tuple [.int i, .int j]
theorem dp_ints {K : PySem.W.Frag} {H : Hp} : ∀ l : List Int, DpAll K H (iV l) (l.map PyData.int)
  | [] => .nil
  | i :: l => .cons (.int i) (dp_ints l)
theorem dp_dat {K : PySem.W.Frag} {H : Hp} {v : V} {d : Vd} (h : VdV H v d) : Dp K H v (dat d) := by
  cases d with
  | tx z => cases (show v = .str z from h); exact .str z
  | nm i => cases (show v = .int i from h); exact .int i
  | pa l => obtain ⟨t, rfl, ht⟩ := h; exact .tup (SqT.of ht) (dp_ints l)
  | kd i j => obtain ⟨t, rfl, ht⟩ := h; exact .tup (SqT.of ht) (.cons (.int i) (.cons (.int j) .nil))
theorem dp_all {K : PySem.W.Frag} {H : Hp} : ∀ {vs : List V} {ds : List Vd}, DsV H vs ds → DpAll K H vs (ds.map dat)
  | [], [], _ => .nil
  | _ :: _, _ :: _, ⟨a, r⟩ => .cons (dp_dat a) (dp_all r)
theorem DsV.len {H : Hp} : ∀ {vs : List V} {ds : List Vd}, DsV H vs ds → vs.length = ds.length
  | [], [], _ => rfl
  | _ :: _, _ :: _, ⟨_, r⟩ => by simp [r.len]
theorem all_of {f : PyData → Bool} {g : List PyData → Bool} (h0 : g [] = true) (h1 : ∀ x xs, g (x :: xs) = (f x && g xs)) : ∀ l : List PyData, (∀ x ∈ l, f x = true) → g l = true
  | [], _ => h0
  | x :: l, h => by rw [h1, h x List.mem_cons_self, all_of h0 h1 l fun y hy => h y (List.mem_cons_of_mem _ hy)]; rfl
theorem mem_int {l : List Int} {x : PyData} (h : x ∈ l.map PyData.int) : ∃ i ∈ l, x = .int i := let ⟨i, hi, e⟩ := List.mem_map.mp h; ⟨i, hi, e.symm⟩
theorem lay_dat {d : Vd} (h : okd d) : (dat d).canLay0 = true := by
  cases d with
  | tx z => exact h.1
  | nm i => rfl
  | pa l => exact all_of (f := PyData.canLay0) (g := PyData.canLayAll0) rfl (fun _ _ => rfl) _ fun x hx => by obtain ⟨i, _, rfl⟩ := mem_int hx; rfl
  | kd i j => rfl
theorem pl_dat (d : Vd) : (dat d).plain = true := by
  cases d with
  | tx z => rfl
  | nm i => rfl
  | pa l => exact all_of (f := PyData.plain) (g := PyData.plainAll) rfl (fun _ _ => rfl) _ fun x hx => by obtain ⟨i, _, rfl⟩ := mem_int hx; rfl
  | kd i j => rfl
theorem log_s {i : Int} (h0 : 0 ≤ i) (h1 : i < 1000000000) : i.natAbs.log2 < 30 := by
  rcases Nat.eq_zero_or_pos i.natAbs with z | z
  · rw [z]; decide
  · exact (Nat.log2_lt (by omega)).mpr (by omega)
theorem sh_int {i : Int} (h0 : 0 ≤ i) (h1 : i < 1000000000) : (PyData.int i).showable = true := decide_eq_true (by have := log_s h0 h1; omega)
theorem sh_dat {d : Vd} (h : okd d) : (dat d).showable = true := by
  cases d with
  | tx z => rfl
  | nm i => exact sh_int h.1 h.2
  | pa l => exact all_of (f := PyData.showable) (g := PyData.showableAll) rfl (fun _ _ => rfl) _ fun x hx => by obtain ⟨i, hi, rfl⟩ := mem_int hx; have := h.2 i hi; exact sh_int this.1 (by omega)
  | kd i j =>
    exact all_of (f := PyData.showable) (g := PyData.showableAll) rfl (fun _ _ => rfl) _ fun x hx => by
      simp only [List.mem_cons, List.not_mem_nil, or_false] at hx
      rcases hx with rfl | rfl
      · exact sh_int h.1.1 h.1.2
      · exact sh_int h.2.1 h.2.2
theorem hd_dat (d : Vd) : (dat d).hasDict = false := by
  cases d with
  | tx z => rfl
  | nm i => rfl
  | pa l =>
    show PyData.hasDictAll _ = false
    induction l with
    | nil => rfl
    | cons i l ih => exact ih
  | kd i j => rfl
theorem dep_dat (d : Vd) : (dat d).depth ≤ 1 := by
  cases d with
  | tx z => exact Nat.zero_le _
  | nm i => exact Nat.zero_le _
  | pa l =>
    show PyData.depthAll _ + 1 ≤ 1
    induction l with
    | nil => exact Nat.le_refl _
    | cons i l ih => show max 0 (PyData.depthAll _) + 1 ≤ 1; omega
  | kd i j => exact Nat.le_refl _
theorem is_int {i : Int} (h0 : 0 ≤ i) (h1 : i < 1000000000) : (PyData.int i).intsShort 13 = true := decide_eq_true (PyData.shown_int_le (by omega))
theorem is_dat {d : Vd} (h : okd d) : (dat d).intsShort 13 = true := by
  cases d with
  | tx z => rfl
  | nm i => exact is_int h.1 h.2
  | pa l => exact all_of (f := PyData.intsShort 13) (g := PyData.intsShortAll 13) rfl (fun _ _ => rfl) _ fun x hx => by obtain ⟨i, hi, rfl⟩ := mem_int hx; have := h.2 i hi; exact is_int this.1 (by omega)
  | kd i j =>
    exact all_of (f := PyData.intsShort 13) (g := PyData.intsShortAll 13) rfl (fun _ _ => rfl) _ fun x hx => by
      simp only [List.mem_cons, List.not_mem_nil, or_false] at hx
      rcases hx with rfl | rfl
      · exact is_int h.1.1 h.1.2
      · exact is_int h.2.1 h.2.2
theorem w_int {i : Int} (h0 : 0 ≤ i) (h1 : i < 1000000000) : (PyData.int i).weight ≤ 30 := by
  show (if i == 0 then 0 else i.natAbs.log2 + 1) ≤ 30
  have := log_s h0 h1
  split <;> omega
theorem w_ints : ∀ l : List Int, (∀ x ∈ l, 0 ≤ x ∧ x < 3) → PyData.weightAll (l.map .int) ≤ 31 * l.length
  | [], _ => Nat.le_refl _
  | i :: l, h => by
    have h1 := h i List.mem_cons_self
    have h2 := w_int h1.1 (show i < 1000000000 by omega)
    have h3 := w_ints l fun x hx => h x (List.mem_cons_of_mem _ hx)
    show (PyData.int i).weight + 1 + PyData.weightAll (l.map .int) ≤ 31 * (l.length + 1)
    omega
theorem w_dat {d : Vd} (h : okd d) : (dat d).weight ≤ 200 := by
  cases d with
  | tx z => show z.cps.size ≤ 200; have : z.cps.size ≤ 12 := h.2; omega
  | nm i => have := w_int h.1 h.2; show (PyData.int i).weight ≤ 200; omega
  | pa l => have := w_ints l h.2; have h4 := h.1; show PyData.weightAll _ ≤ 200; omega
  | kd i j =>
    have h1 := w_int h.1.1 h.1.2
    have h2 := w_int h.2.1 h.2.2
    show (PyData.int i).weight + 1 + ((PyData.int j).weight + 1 + 0) ≤ 200
    omega
abbrev dL (ds : List Vd) : PyData := .list (ds.map dat)
theorem mem_dat {ds : List Vd} (h : ∀ d ∈ ds, okd d) {x : PyData} (hx : x ∈ ds.map dat) : ∃ d, okd d ∧ x = dat d := let ⟨d, hd, e⟩ := List.mem_map.mp hx; ⟨d, h d hd, e.symm⟩
theorem dep_all (ds : List Vd) : PyData.depthAll (ds.map dat) ≤ 1 := by
  induction ds with
  | nil => exact Nat.zero_le _
  | cons d ds ih => show max (dat d).depth (PyData.depthAll (ds.map dat)) ≤ 1; have := dep_dat d; omega
theorem shaped_dL {ds : List Vd} (h : ∀ d ∈ ds, okd d) : SeqAt.shaped (dL ds) = true := by
  unfold SeqAt.shaped
  rw [Bool.and_eq_true]
  refine ⟨all_of (f := PyData.canLay0) (g := PyData.canLayAll0) rfl (fun _ _ => rfl) _ fun x hx => by obtain ⟨d, hd, rfl⟩ := mem_dat h hx; exact lay_dat hd, decide_eq_true ?_⟩
  show PyData.depthAll (ds.map dat) + 1 ≤ 64
  have := dep_all ds
  omega
theorem plain_dL (ds : List Vd) : (dL ds).plain = true := all_of (f := PyData.plain) (g := PyData.plainAll) rfl (fun _ _ => rfl) _ fun x hx => by obtain ⟨d, _, e⟩ := List.mem_map.mp hx; rw [← e]; exact pl_dat d
theorem shown_dL {ds : List Vd} (h : ∀ d ∈ ds, okd d) (hl : ds.length ≤ 3) : (dL ds).showable = true ∧ (dL ds).hasDict = false ∧ (dL ds).depth ≤ 70 ∧ (dL ds).shown.length ≤ sizeLine := by
  have hw : ∀ ds : List Vd, (∀ d ∈ ds, okd d) → PyData.weightAll (ds.map dat) ≤ 201 * ds.length := by
    intro ds
    induction ds with
    | nil => intro _; exact Nat.le_refl _
    | cons d ds ih =>
      intro h
      have h1 := w_dat (h d List.mem_cons_self)
      have h2 := ih fun x hx => h x (List.mem_cons_of_mem _ hx)
      show (dat d).weight + 1 + PyData.weightAll (ds.map dat) ≤ 201 * (ds.length + 1)
      omega
  have hd := dep_all ds
  have hs := shaped_dL h
  refine ⟨all_of (f := PyData.showable) (g := PyData.showableAll) rfl (fun _ _ => rfl) _ fun x hx => by obtain ⟨d, hd, rfl⟩ := mem_dat h hx; exact sh_dat hd, ?_, by show PyData.depthAll (ds.map dat) + 1 ≤ 70; omega, PyData.shown_fits_of_layable0 (B := 13) (by decide) (by decide) ?_ (all_of (f := PyData.intsShort 13) (g := PyData.intsShortAll 13) rfl (fun _ _ => rfl) _ fun x hx => by obtain ⟨d, hd, rfl⟩ := mem_dat h hx; exact is_dat hd)⟩
  · show PyData.hasDictAll (ds.map dat) = false
    clear hl hd hs h
    induction ds with
    | nil => rfl
    | cons d ds ih => show ((dat d).hasDict || PyData.hasDictAll (ds.map dat)) = false; rw [hd_dat, ih]; rfl
  · unfold PyData.layable0
    unfold SeqAt.shaped at hs
    rw [hs, Bool.true_and]
    refine decide_eq_true ?_
    have := hw ds h
    show PyData.weightAll (ds.map dat) ≤ 2 ^ 20
    omega
def dM (k : Nat) : PyData := .list ((List.range 26).map fun j => .bool (decide (k = j)))
theorem dp_bools {K : PySem.W.Frag} {H : Hp} : ∀ l : List Bool, DpAll K H (l.map V.bl) (l.map PyData.bool)
  | [] => .nil
  | b :: l => .cons (.bl b) (dp_bools l)
theorem dp_M {K : PySem.W.Frag} {H : Hp} {l : Addr} {k : Nat} (h : H l = some (.lst (mrk k))) : Dp K H (.ref l) (dM k) := by
  have := dp_bools (K := K) (H := H) ((List.range 26).map fun j => decide (k = j))
  rw [List.map_map, List.map_map] at this
  exact .lst (SqL.of h) this
theorem sh_M (k : Nat) : SeqAt.shaped (dM k) = true := rfl
theorem pl_M (k : Nat) : (dM k).plain = true := rfl



section
variable {P : Program} {w : World} {K : PySem.W.Frag} {mg : Str → Option Value} {base : Heap}
/-- a def that is promised where nothing is being shown below, by its body -/
theorem fn_okS {x : Str} {st : Stmt} {N C G ps : List Str} {k : Nat} {sp : Sp} (T : Top K mg x st) (S : FnScope (N ++ C) ps (defScope st)) (O : ScOk N G (defScope st)) (len : ∀ vs H Q E, sp vs H Q E → vs.length = ps.length)
    (hb : ∀ (kV doc pm : Value) (an : Option Addr) (cdv ct : Value) (us : List Value), us.length = ps.length → bindArgs (PySem.W.fnOf x x (defArgs st) (defBody st) (defScope st) .none kV doc pm an cdv ct) ⟨us, []⟩ = pure (ps.zip us))
    (hbody : ∀ (f : Addr) (cdv : Value) (A : Around) (outer : List Env) (s : Shared) (H : Hp) (vs : List V) (Q : VK) (E : XK), A.guards = some [] → Room k (A.deeper (envOfC x (defScope st) s.heap.objs.size f cdv)) → sp vs H Q E → In (cxOf CX0 P w K mg base (N ++ C) x (defScope st) f cdv A outer s H E).nox N G (defScope st) →
      wL (cxOf CX0 P w K mg base (N ++ C) x (defScope st) f cdv A outer s H E).nox (defBody st) { nx := fun _ H' => Q .non H', rt := Q } (start (N ++ C) vs) H) : FnS P w K mg base (k + 1) x sp := by
  obtain ⟨f, fd, F, hm⟩ := T.ex
  exact ⟨f, fd, ps, fun_okG F S len (fun cdv A outer s H vs Q E hg hr h => ⟨_, pl, hbody f cdv A outer s H vs Q E hg hr h ⟨O, ⟨C, rfl⟩, S.nd, rfl, rfl, PassesOwn.never⟩⟩), hm, F.kp, F.binds hb⟩
end
theorem b_VE : bootBuiltins "ValueError" = some (.type "ValueError") := by decide +kernel
theorem fld_len (k : Nat) : (fld k).length ≤ 3 := by
  unfold fld
  repeat (first | (split; · decide) | decide)
section
variable {P : Program} {w : World} {K : PySem.W.Frag} {mg : Str → Option Value} {base : Heap} {C : Nat → Addr} {CH : Addr}
theorem c_reprL {X : Cx} {H : Hp} {Q : VK} {n : Nat} {l : Addr} {us : List V} {ds : List Vd} (hg : X.A.guards = some []) (hr : Room n X.A) (h : H l = some (.lst us)) (hd : DsV H us ds) (ho : ∀ d ∈ ds, okd d) (h3 : ds.length ≤ 3) (q : Q (.str (dL ds).shown) H) : wC X (.builtin "repr") [.ref l] H Q := by
  obtain ⟨a1, a2, a3, a4⟩ := shown_dL ho h3
  exact c_of (call_reprD hg (by have := hr.un; omega)) ⟨l, dL ds, rfl, .lst (SqL.of h) (dp_all hd), a1, a2, a3, a4, q⟩
def spDue (C : Nat → Addr) : Sp := fun vs H Q _ => ∃ (k : Nat) (a l : Addr) (us : List V) (ds : List Vd), vs = [.int (k : Int), .ref a, .ref l] ∧ k < 26 ∧ us.length = (fld k).length ∧ ErrV H a (C k) ((fld k).zip us) ∧ H l = some (.lst us) ∧ DsV H us ds ∧ (∀ d ∈ ds, okd d) ∧ ∀ H', Same H H' → Q (.bl true) H'
theorem ok_due (T : Top K mg "_law_is_due" s_is_due) (R : Cs P w K mg base C CH) (mIs : mg "isinstance" = none) (mVE : mg "ValueError" = none) (mR : mg "range" = none) (mRp : mg "repr" = none) (FM : Fn P w K mg base 3 "_law_marks" (spMarks C)) (FF : Fn P w K mg base 3 "_law_fields" (spFields C)) : FnS P w K mg base 4 "_law_is_due" (spDue C) := by
  refine fn_okS T sc_is_due so_is_due (fun vs H Q E h => by obtain ⟨k, a, l, us, ds, rfl, _⟩ := h; rfl) (fun _ _ _ _ _ _ us hl => match us, hl with | [_, _, _], _ => rfl) fun f cdv A outer s H vs Q E hg hr h nd => ?_
  obtain ⟨k, a, l, us, ds, rfl, hk, lus, he, hl, hds, hok, q⟩ := h
  have lds : ds.length ≤ 3 := by rw [← hds.len, lus]; exact fld_len k
  refine l_cons (s_if (t_w (w_or (t_not (t_val (e_callB (x := "isinstance") (by assumption) b_isi (a_cons (e_var (a_cons (e_glob (x := "HeldError") (v := .ref CH) (by exact R.mgH) rfl (a_nil (c_isX (R.ec k hk) he (.own _) (R.kH k hk) ⟨_, rfl, ?_⟩))))))))))))
  refine iteF (w_or1 (t_not (t_val (e_callB (x := "isinstance") (by assumption) b_isi (a_cons (e_var (a_cons (e_bltn (x := "ValueError") (v := .ty "ValueError") (by assumption) b_VE rfl (a_nil (c_isX (R.ec k hk) he (.ty "ValueError") (R.kV k hk) ⟨_, rfl, ?_⟩))))))))))
  refine iteF (l_nil ?_)
  refine l_cons (s_if (t_cmp (e_call (by exact FM) (by exact hr) (by decide) ?_)))
  refine a_cons (e_var (a_nil ⟨k, a, _, rfl, hk, he, fun m H1 e1 h1 => ?_⟩))
  refine e_lcR (by exact bk_is_due0) (by assumption) (e_int ⟨26, rfl, by decide, fun D nD => ?_⟩)
  refine ⟨fun j H2 => H2 D = some (.lst ((List.range j).map fun j => V.bl (decide (k = j)))) ∧ Same H1 H2, ⟨upd_same, fun c u hc => by rw [upd_ne (ne_of_none hc nD)]; exact hc⟩, ?_, ?_⟩
  · intro j H2 hj p s0 H0 C0 cl fp IB
    obtain ⟨p1, p2⟩ := p
    refine e_cmp (b_var (b_var (o_eqI ⟨_, p1, by rw [List.length_map, List.length_range]; show _ < 2 ^ 24; omega, ?_, fun c u hc => by rw [upd_ne (ne_of_none hc nD)]; exact p2 _ _ hc⟩)))
    rw [List.range_succ, List.map_append, upd_same]
    have : decide ((j : Int) = (k : Int)) = decide (k = j) := decide_eq_decide.mpr ⟨fun z => by omega, fun z => by omega⟩
    rw [this]
    rfl
  intro H2 p
  obtain ⟨p1, e2⟩ := p
  have e12 := e1.trans e2
  refine o_neD (n := 3) (by exact hr) (dp_M (e2 _ _ h1)) (dp_M p1) (sh_M k) (sh_M k) ⟨_, rfl, ?_⟩
  rw [PySem.SeqAt.eqv_refl_plain _ (pl_M k)]
  refine iteF (l_nil ?_)
  refine l_cons (s_set (e_call (by exact FF) (by exact hr) (by decide) ?_))
  refine a_cons (e_var (a_cons (e_var (a_nil ⟨k, a, us, rfl, hk, lus, he.same e12, fun l2 H3 e3 h3 => ?_⟩))))
  have e13 := e12.trans e3
  have hd3 := hds.ts (Same.ts e13)
  show wL _ _ _ [some (.int (k : Int)), some (.ref a), some (.ref l), some (.ref l2), none] _
  refine l_cons (s_ret (e_and (e_cmp (e_var (e_var (o_eqD (n := 3) (by exact hr) (.lst (SqL.of h3) (dp_all hd3)) (.lst (SqL.of (e13 _ _ hl)) (dp_all hd3)) (shaped_dL hok) (shaped_dL hok) ⟨_, rfl, ?_⟩))))))
  rw [PySem.SeqAt.eqv_refl_plain _ (plain_dL ds)]
  refine iteT (e_one (e_cmp (e_callB (x := "repr") (by assumption) b_repr (a_cons (e_var (a_nil (c_reprL (by exact hg) (by exact hr) h3 hd3 hok lds ?_)))))))
  refine e_callB (x := "repr") (by assumption) b_repr (a_cons (e_var (a_nil (c_reprL (by exact hg) (by exact hr) (e13 _ _ hl) hd3 hok lds (o_eqS ?_)))))
  rw [decide_eq_true rfl]
  exact q H3 e13
theorem exo_lst {e C : Addr} {d : Option Addr} {xs : List V} : exo e C d ≠ .lst xs := fun z => by
  have z' : HO.ext _ = HO.lst xs := z
  cases z'
theorem exd_lst {e : Addr} {fs : List (Str × V)} {xs : List V} : exd e fs ≠ .lst xs := fun z => by
  have z' : HO.ext _ = HO.lst xs := z
  cases z'
theorem errv_but {H H' : Hp} {p a C : Addr} {fv : List (Str × V)} (hp : PoolAt H p) (b : But p H H') (h : ErrV H a C fv) : ErrV H' a C fv := by
  obtain ⟨x, y, z, hp⟩ := hp
  rcases h with ⟨h1, h2⟩ | ⟨dd, fs, h1, h2, h3⟩
  · exact .inl ⟨h1, b _ _ (ne_of h2 hp exo_lst) h2⟩
  · exact .inr ⟨dd, fs, b _ _ (ne_of h1 hp exo_lst) h1, b _ _ (ne_of h2 hp exd_lst) h2, h3⟩
def spLaw (K : PySem.W.Frag) : Sp := fun vs H Q _ => ∃ (a : Addr) (ns : List Int), vs = [.ref a] ∧ SqL K H a (ns.map V.int) ∧ ns.length ≤ 63 ∧ ∀ H', Q (.bl true) H'
theorem ok_law {fa : Addr} {fd : FuncData} (FL : Fun K "law" "law" s_law fa fd) (mR : mg "range" = none) (FPo : Fn P w K mg base 2 "_law_pool" (spPool K)) (FV : Fn P w K mg base 4 "_law_values" spVals) (FMd : Fn P w K mg base 4 "_law_made" (spMade C)) (FD : FnS P w K mg base 4 "_law_is_due" (spDue C)) :
    FnG P w K mg base 84 fa fd ["_law_script"] (spLaw K) := by
  refine fun_okG FL sc_law (fun vs H Q E h => by obtain ⟨a, ns, rfl, _⟩ := h; rfl) fun cdv A outer s H vs Q E hg hr h => ?_
  refine ⟨_, pl, ?_⟩
  have nd : In (cxOf CX0 P w K mg base N_law "law" (defScope s_law) fa cdv A outer s H E).nox N_law G_law (defScope s_law) := ⟨so_law, ⟨[], (List.append_nil _).symm⟩, sc_law.nd, rfl, rfl, PassesOwn.never⟩
  obtain ⟨sc, ns, rfl, hS, hz, q⟩ := h
  refine l_cons (s_set (e_call (by exact FPo) (by exact hr) (by decide) ?_))
  refine a_cons (e_var (a_cons (e_int (a_nil ⟨sc, ns, 0, rfl, hS, fun p H1 e1 np p1 => ?_⟩))))
  show wL _ _ _ [some (.ref sc), some (.ref p), none, none, none, none] _
  refine l_cons (s_forR (by assumption) (e_int ⟨26, rfl, by decide, fun k σ H' => ∃ x2 x3 x4 x5, σ = [some (.ref sc), some (.ref p), x2, x3, x4, x5] ∧ PoolAt H' p, ⟨none, none, none, none, rfl, p1⟩, ?_, ?_⟩))
  · intro k σ H2 hk pp
    obtain ⟨x2, x3, x4, x5, rfl, p2⟩ := pp
    show wL _ _ _ [some (.ref sc), some (.ref p), some (.int (k : Int)), x3, x4, x5] _
    refine l_cons (s_set (e_call (by exact FV) (by exact hr) (by decide) ?_))
    refine a_cons (e_var (a_cons (e_var (a_nil ⟨p, k, rfl, hk, p2, fun l us ds H3 b3 p3 nl h3 lus hds hok => ?_⟩))))
    have nlp : l ≠ p := p2.ne nl
    show wL _ _ _ [some (.ref sc), some (.ref p), some (.int (k : Int)), some (.ref l), x4, x5] _
    refine l_cons (s_set (e_call (by exact FMd) (by exact hr) (by decide) ?_))
    refine a_cons (e_var (a_cons (e_var (a_nil ⟨k, l, us, rfl, hk, h3, lus, fun a H4 e4 ha => ?_⟩))))
    show wL _ _ _ [some (.ref sc), some (.ref p), some (.int (k : Int)), some (.ref l), some (.ref a), x5] _
    refine l_cons (s_if (t_not (t_val (e_callG (by exact FD) (by exact hg) (by exact hr) (by decide) ?_))))
    refine a_cons (e_var (a_cons (e_var (a_cons (e_var (a_nil ⟨k, a, l, us, ds, rfl, hk, lus, ha, e4 _ _ h3, hds.ts (Same.ts e4), hok, fun H5 e5 => ⟨_, rfl, iteF (l_nil ?_)⟩⟩))))))
    have e45 := e4.trans e5
    have p5 := p3.up e45
    refine l_cons (s_set (e_call (by exact FV) (by exact hr) (by decide) ?_))
    refine a_cons (e_var (a_cons (e_var (a_nil ⟨p, k, rfl, hk, p5, fun l2 us2 ds2 H6 b6 p6 nl2 h6 lus2 hds2 hok2 => ?_⟩))))
    have ha6 := errv_but p5 b6 (ha.same e5)
    have hl6 : H6 l = some (.lst us) := b6 _ _ nlp (e45 _ _ h3)
    have hd6 : DsV H6 us ds := hds.ts ((Same.ts e45).trans (p5.ts b6))
    show wL _ _ _ [some (.ref sc), some (.ref p), some (.int (k : Int)), some (.ref l), some (.ref a), some (.ref l2)] _
    refine l_cons (s_if (t_w (w_or (t_not (t_val (e_callG (by exact FD) (by exact hg) (by exact hr) (by decide) ?_))))))
    refine a_cons (e_var (a_cons (e_call (by exact FMd) (by exact hr) (by decide) ?_)))
    refine a_cons (e_var (a_cons (e_var (a_nil ⟨k, l2, us2, rfl, hk, h6, lus2, fun a2 H7 e7 ha2 => ?_⟩))))
    refine a_cons (e_var (a_nil ⟨k, a2, l2, us2, ds2, rfl, hk, lus2, ha2, e7 _ _ h6, hds2.ts (Same.ts e7), hok2, fun H8 e8 => ⟨_, rfl, iteF ?_⟩⟩))
    have e78 := e7.trans e8
    refine w_or1 (t_not (t_val (e_callG (by exact FD) (by exact hg) (by exact hr) (by decide) ?_)))
    refine a_cons (e_var (a_cons (e_var (a_cons (e_var (a_nil ⟨k, a, l, us, ds, rfl, hk, lus, ha6.same e78, e78 _ _ hl6, hd6.ts (Same.ts e78), hok, fun H9 e9 => ⟨_, rfl, iteF (l_nil (l_nil ?_))⟩⟩))))))
    exact ⟨_, _, _, _, rfl, (p6.up e78).up e9⟩
  · intro σ H' pp
    obtain ⟨x2, x3, x4, x5, rfl, p2⟩ := pp
    exact l_cons (s_ret (e_bl (q H')))
end



theorem kit_sub {K : PySem.W.Frag} {D C : Addr} (hd : PySem.W.hasDictIn K C = true) (ht : PySem.W.typeIn K (.ref C) = some (.type "type")) (h : PySem.W.subIn K (.ref D) (.ref C) = some true) : PySem.W.kitOne K (.ref D) (.ref C) = some true := by
  obtain ⟨cd, hc, _⟩ := PySem.W.any_some hd
  unfold PySem.W.kitOne
  split
  · rfl
  · show (if ((PySem.W.clsIn K C).isSome && PySem.W.typeIn K (.ref C) == some (.type "type")) = true then PySem.W.subIn K (.ref D) (.ref C) else none) = some true
    rw [hc, ht, h]
    rfl
theorem kit_not {K : PySem.W.Frag} {D C : Addr} (hd : PySem.W.hasDictIn K C = true) (ht : PySem.W.typeIn K (.ref C) = some (.type "type")) (h : PySem.W.subIn K (.ref D) (.ref C) = some false) (hs : PySem.W.subIn K (.ref D) (.ref D) = some true) : PySem.W.kitOne K (.ref D) (.ref C) = some false := by
  obtain ⟨cd, hc, _⟩ := PySem.W.any_some hd
  have ne : D ≠ C := fun z => by
    subst z
    rw [hs] at h
    cases h
  unfold PySem.W.kitOne
  rw [if_neg (fun z => ne (Value.ref.inj (beq_iff_eq.mp z)))]
  show (if ((PySem.W.clsIn K C).isSome && PySem.W.typeIn K (.ref C) == some (.type "type")) = true then PySem.W.subIn K (.ref D) (.ref C) else none) = some false
  rw [hc, ht, h]
  rfl
theorem kit_typ {K : PySem.W.Frag} {D : Addr} (h : PySem.W.subIn K (.ref D) (.type "ValueError") = some true) : PySem.W.kitOne K (.ref D) (.type "ValueError") = some true := by
  unfold PySem.W.kitOne
  rw [if_neg (by simp)]
  show (if PySem.W.kitMeta "ValueError" = true then PySem.W.subIn K (.ref D) (.type "ValueError") else none) = some true
  rw [if_pos (by decide +kernel), h]
/-! ### the classes as they stand -/
abbrev bmH (CH : Addr) : List Value := [.ref CH, .type "ValueError", .type "Exception", .type "BaseException", .type "object"]
def ClL (K : PySem.W.Frag) (x : Str) (C : Addr) (bm : List Value) : Prop := ∃ q N bs sn sub ab col dd k0 k1 k2 k3 k5, K.lookup C = some (excClassObj x q C N bs bm true sn sub ab col dd k0 k1 k2 k3 k5 "ValueError.__new__")
section
variable {K : PySem.W.Frag} {x y : Str} {C D CH : Addr} {bm bm' : List Value}
theorem ClL.cls (h : ClL K x C bm) : ∃ cd, PySem.W.clsIn K C = some cd ∧ cd.mro = .ref C :: bm ∧ cd.hasDict = true := by
  obtain ⟨q, N, bs, sn, sub, ab, col, dd, k0, k1, k2, k3, k5, h⟩ := h
  refine ⟨_, by unfold PySem.W.clsIn; rw [h], rfl, rfl⟩
theorem ClL.sub (h : ClL K x C bm) (v : Value) : PySem.W.subIn K (.ref C) v = some ((Value.ref C :: bm).contains v) := by
  obtain ⟨cd, h1, h2, _⟩ := h.cls
  show PySem.W.mroIn K C v = _
  unfold PySem.W.mroIn
  rw [h1, Option.bind_some, h2]
  rfl
theorem ClL.ty (h : ClL K x C bm) : PySem.W.typeIn K (.ref C) = some (.type "type") := by
  obtain ⟨q, N, bs, sn, sub, ab, col, dd, k0, k1, k2, k3, k5, h⟩ := h
  show (K.lookup C).map (·.cls) = _
  rw [h]
  rfl
theorem ClL.hd (h : ClL K x C bm) : PySem.W.hasDictIn K C = true := by
  obtain ⟨cd, h1, _, h3⟩ := h.cls
  unfold PySem.W.hasDictIn
  rw [h1]
  exact h3
theorem ClL.ne (h : ClL K x C bm) (h' : ClL K y D bm') (n : x ≠ y) : C ≠ D := fun e => by
  subst e
  obtain ⟨q, N, bs, sn, sub, ab, col, dd, k0, k1, k2, k3, k5, h⟩ := h
  obtain ⟨q', N', bs', sn', sub', ab', col', dd', l0, l1, l2, l3, l5, h'⟩ := h'
  rw [h] at h'
  unfold excClassObj at h'
  simp only [Option.some.injEq, Obj.mk.injEq, Data.cls.injEq, ClassData.mk.injEq] at h'
  exact n h'.2.2.1.1
theorem sub_no (h : ClL K x C (bmH CH)) (n1 : C ≠ D) (n2 : CH ≠ D) : PySem.W.subIn K (.ref C) (.ref D) = some false := by
  rw [h.sub]
  have e1 : (Value.ref D == Value.ref C) = false := by rw [beq_eq_false_iff_ne]; exact fun z => n1 (Value.ref.inj z).symm
  have e2 : (Value.ref D == Value.ref CH) = false := by rw [beq_eq_false_iff_ne]; exact fun z => n2 (Value.ref.inj z).symm
  simp [List.contains_cons, e1, e2]
  exact ⟨fun z => n1 z.symm, fun z => n2 z.symm⟩
theorem sub_typ (h : ClL K x C (bmH CH)) {T : String} (m : T ∈ ["ValueError", "Exception", "BaseException", "object"]) : PySem.W.subIn K (.ref C) (.type T) = some true := by
  rw [h.sub]
  simp only [List.mem_cons, List.not_mem_nil, or_false] at m
  rcases m with rfl | rfl | rfl | rfl <;> simp
theorem sub_H (h : ClL K x C (bmH CH)) : PySem.W.subIn K (.ref C) (.ref CH) = some true := by
  rw [h.sub]; simp
theorem sub_self (h : ClL K x C bm) : PySem.W.subIn K (.ref C) (.ref C) = some true := by
  rw [h.sub]; simp
theorem oex_of (h : ClL K x C (bmH CH)) (sa : PySem.W.findIn K (.ref C) "__setattr__" = some (some (.builtin "object.__setattr__"))) (kC : PySem.W.keepIn K (.ref C) = true) : OexC K C := by
  obtain ⟨q, N, bs, sn, sub, ab, col, dd, k0, k1, k2, k3, k5, l⟩ := id h
  exact ⟨⟨_, _, _, _, _, _, _, _, _, _, _, _, _, _, _, l, by first | rfl | simp [PySem.HandSPX.refsVE]⟩, sa, sub_typ h (by simp), h.ty, kC⟩
end
/-- what else is read of a class -/
structure Fx (K : PySem.W.Frag) (C : Addr) : Prop where
  ga : PySem.W.findIn K (.ref C) "__getattribute__" = some (some (.builtin "BaseException.__getattribute__"))
  gg : PySem.W.findIn K (.ref C) "__getattr__" = some none
  ha : PySem.W.findIn K (.ref C) "__class__" = some (some (.builtin "object.__class__"))
theorem nms_ne : ∀ k < 26, ∀ j < 26, k ≠ j → nms.getD k "" ≠ nms.getD j "" := by
  have h : ((List.range 26).all fun k => (List.range 26).all fun j => decide (k ≠ j → nms.getD k "" ≠ nms.getD j "")) = true := by decide +kernel
  intro k hk j hj
  exact of_decide_eq_true (List.all_eq_true.mp (List.all_eq_true.mp h k (List.mem_range.mpr hk)) j (List.mem_range.mpr hj))
theorem nms_H : ∀ k < 26, nms.getD k "" ≠ ("HeldError" : Str) := by
  have h : ((List.range 26).all fun k => decide (nms.getD k "" ≠ ("HeldError" : Str))) = true := by decide +kernel
  exact fun k hk => of_decide_eq_true (List.all_eq_true.mp h k (List.mem_range.mpr hk))
section
variable {K : PySem.W.Frag} {C : Nat → Addr} {CH : Addr}
theorem kt_of (hL : ∀ k < 26, ClL K (nms.getD k "") (C k) (bmH CH)) {bm : List Value} (hH : ClL K "HeldError" CH bm) : ∀ k < 26, ∀ j < 26, PySem.W.kitOne K (.ref (C k)) (.ref (C j)) = some (decide (k = j)) := by
  intro k hk j hj
  by_cases e : k = j
  · subst e
    rw [decide_eq_true rfl]
    unfold PySem.W.kitOne
    rw [if_pos (by simp)]
  · rw [decide_eq_false e]
    exact kit_not (hL j hj).hd (hL j hj).ty (sub_no (hL k hk) ((hL k hk).ne (hL j hj) (nms_ne k hk j hj e)) (fun z => (hL j hj).ne hH (nms_H j hj) z.symm)) (sub_self (hL k hk))
theorem ec_of (hn : PySem.W.specialIn K (.builtin "object.__class__") "__get__" = some (some (.builtin "getset_descriptor.__get__"))) (ht : PySem.W.takesIn K (.builtin "object.__class__") = some true) (hL : ∀ k < 26, ClL K (nms.getD k "") (C k) (bmH CH)) (fx : ∀ k < 26, Fx K (C k)) : ∀ k < 26, EcC K (C k) := by
  intro k hk
  obtain ⟨cd, h1, _⟩ := (hL k hk).cls
  exact ⟨by rw [h1]; rfl, (fx k hk).ga, (fx k hk).gg, sub_typ (hL k hk) (by simp), (fx k hk).ha, hn, ht, sub_typ (hL k hk) (by simp)⟩
end


section
theorem all_mk {l : PySem.W.OpenLaw} {w : World} {K : PySem.W.Frag} {h : Heap} {mg : Str → Option Value} {fa : Addr} (X : K.In h) (G : h.Ns mainGlobals mg) (hfa : mg "law" = some (.ref fa))
    {f0 : Addr} {od0 an0 : Option Addr} {sl0 : Array (Option Value)} {oc0 kV0 dc0 pm0 cd0 ct0 : Value}
    {f1 : Addr} {od1 an1 : Option Addr} {sl1 : Array (Option Value)} {oc1 kV1 dc1 pm1 cd1 ct1 : Value}
    {f2 : Addr} {od2 an2 : Option Addr} {sl2 : Array (Option Value)} {oc2 kV2 dc2 pm2 cd2 ct2 : Value}
    {f3 : Addr} {od3 an3 : Option Addr} {sl3 : Array (Option Value)} {oc3 kV3 dc3 pm3 cd3 ct3 : Value}
    {f4 : Addr} {od4 an4 : Option Addr} {sl4 : Array (Option Value)} {oc4 kV4 dc4 pm4 cd4 ct4 : Value}
    {f5 : Addr} {od5 an5 : Option Addr} {sl5 : Array (Option Value)} {oc5 kV5 dc5 pm5 cd5 ct5 : Value}
    {f6 : Addr} {od6 an6 : Option Addr} {sl6 : Array (Option Value)} {oc6 kV6 dc6 pm6 cd6 ct6 : Value}
    {f7 : Addr} {od7 an7 : Option Addr} {sl7 : Array (Option Value)} {oc7 kV7 dc7 pm7 cd7 ct7 : Value}
    {f8 : Addr} {od8 an8 : Option Addr} {sl8 : Array (Option Value)} {oc8 kV8 dc8 pm8 cd8 ct8 : Value}
    {f9 : Addr} {od9 an9 : Option Addr} {sl9 : Array (Option Value)} {oc9 kV9 dc9 pm9 cd9 ct9 : Value}
    {f10 : Addr} {od10 an10 : Option Addr} {sl10 : Array (Option Value)} {oc10 kV10 dc10 pm10 cd10 ct10 : Value}
    {f11 : Addr} {od11 an11 : Option Addr} {sl11 : Array (Option Value)} {oc11 kV11 dc11 pm11 cd11 ct11 : Value}
    {f12 : Addr} {od12 an12 : Option Addr} {sl12 : Array (Option Value)} {oc12 kV12 dc12 pm12 cd12 ct12 : Value}
    {f13 : Addr} {od13 an13 : Option Addr} {sl13 : Array (Option Value)} {oc13 kV13 dc13 pm13 cd13 ct13 : Value}
    {f14 : Addr} {od14 an14 : Option Addr} {sl14 : Array (Option Value)} {oc14 kV14 dc14 pm14 cd14 ct14 : Value}
    {CH C0 C1 C2 C3 C4 C5 C6 C7 C8 C9 C10 C11 C12 C13 C14 C15 C16 C17 C18 C19 C20 C21 C22 C23 C24 C25 : Addr}
    {qnCH : Str} {NaCH : Addr} {bsCH : List Value} {snCH : List Str} {subCH : List Value} {abCH : Bool} {colCH : Option Bool} {ddCH : Option Addr} {x0CH x1CH x2CH x3CH x5CH : Option Value}
    {qnC0 : Str} {NaC0 : Addr} {bsC0 : List Value} {snC0 : List Str} {subC0 : List Value} {abC0 : Bool} {colC0 : Option Bool} {ddC0 : Option Addr} {x0C0 x1C0 x2C0 x3C0 x5C0 : Option Value}
    {f15 : Addr} {od15 an15 : Option Addr} {sl15 : Array (Option Value)} {oc15 kV15 dc15 pm15 cd15 ct15 : Value}
    {qnC1 : Str} {NaC1 : Addr} {bsC1 : List Value} {snC1 : List Str} {subC1 : List Value} {abC1 : Bool} {colC1 : Option Bool} {ddC1 : Option Addr} {x0C1 x1C1 x2C1 x3C1 x5C1 : Option Value}
    {f16 : Addr} {od16 an16 : Option Addr} {sl16 : Array (Option Value)} {oc16 kV16 dc16 pm16 cd16 ct16 : Value}
    {qnC2 : Str} {NaC2 : Addr} {bsC2 : List Value} {snC2 : List Str} {subC2 : List Value} {abC2 : Bool} {colC2 : Option Bool} {ddC2 : Option Addr} {x0C2 x1C2 x2C2 x3C2 x5C2 : Option Value}
    {f17 : Addr} {od17 an17 : Option Addr} {sl17 : Array (Option Value)} {oc17 kV17 dc17 pm17 cd17 ct17 : Value}
    {qnC3 : Str} {NaC3 : Addr} {bsC3 : List Value} {snC3 : List Str} {subC3 : List Value} {abC3 : Bool} {colC3 : Option Bool} {ddC3 : Option Addr} {x0C3 x1C3 x2C3 x3C3 x5C3 : Option Value}
    {f18 : Addr} {od18 an18 : Option Addr} {sl18 : Array (Option Value)} {oc18 kV18 dc18 pm18 cd18 ct18 : Value}
    {qnC4 : Str} {NaC4 : Addr} {bsC4 : List Value} {snC4 : List Str} {subC4 : List Value} {abC4 : Bool} {colC4 : Option Bool} {ddC4 : Option Addr} {x0C4 x1C4 x2C4 x3C4 x5C4 : Option Value}
    {f19 : Addr} {od19 an19 : Option Addr} {sl19 : Array (Option Value)} {oc19 kV19 dc19 pm19 cd19 ct19 : Value}
    {qnC5 : Str} {NaC5 : Addr} {bsC5 : List Value} {snC5 : List Str} {subC5 : List Value} {abC5 : Bool} {colC5 : Option Bool} {ddC5 : Option Addr} {x0C5 x1C5 x2C5 x3C5 x5C5 : Option Value}
    {f20 : Addr} {od20 an20 : Option Addr} {sl20 : Array (Option Value)} {oc20 kV20 dc20 pm20 cd20 ct20 : Value}
    {qnC6 : Str} {NaC6 : Addr} {bsC6 : List Value} {snC6 : List Str} {subC6 : List Value} {abC6 : Bool} {colC6 : Option Bool} {ddC6 : Option Addr} {x0C6 x1C6 x2C6 x3C6 x5C6 : Option Value}
    {f21 : Addr} {od21 an21 : Option Addr} {sl21 : Array (Option Value)} {oc21 kV21 dc21 pm21 cd21 ct21 : Value}
    {qnC7 : Str} {NaC7 : Addr} {bsC7 : List Value} {snC7 : List Str} {subC7 : List Value} {abC7 : Bool} {colC7 : Option Bool} {ddC7 : Option Addr} {x0C7 x1C7 x2C7 x3C7 x5C7 : Option Value}
    {f22 : Addr} {od22 an22 : Option Addr} {sl22 : Array (Option Value)} {oc22 kV22 dc22 pm22 cd22 ct22 : Value}
    {qnC8 : Str} {NaC8 : Addr} {bsC8 : List Value} {snC8 : List Str} {subC8 : List Value} {abC8 : Bool} {colC8 : Option Bool} {ddC8 : Option Addr} {x0C8 x1C8 x2C8 x3C8 x5C8 : Option Value}
    {f23 : Addr} {od23 an23 : Option Addr} {sl23 : Array (Option Value)} {oc23 kV23 dc23 pm23 cd23 ct23 : Value}
    {qnC9 : Str} {NaC9 : Addr} {bsC9 : List Value} {snC9 : List Str} {subC9 : List Value} {abC9 : Bool} {colC9 : Option Bool} {ddC9 : Option Addr} {x0C9 x1C9 x2C9 x3C9 x5C9 : Option Value}
    {f24 : Addr} {od24 an24 : Option Addr} {sl24 : Array (Option Value)} {oc24 kV24 dc24 pm24 cd24 ct24 : Value}
    {qnC10 : Str} {NaC10 : Addr} {bsC10 : List Value} {snC10 : List Str} {subC10 : List Value} {abC10 : Bool} {colC10 : Option Bool} {ddC10 : Option Addr} {x0C10 x1C10 x2C10 x3C10 x5C10 : Option Value}
    {f25 : Addr} {od25 an25 : Option Addr} {sl25 : Array (Option Value)} {oc25 kV25 dc25 pm25 cd25 ct25 : Value}
    {qnC11 : Str} {NaC11 : Addr} {bsC11 : List Value} {snC11 : List Str} {subC11 : List Value} {abC11 : Bool} {colC11 : Option Bool} {ddC11 : Option Addr} {x0C11 x1C11 x2C11 x3C11 x5C11 : Option Value}
    {f26 : Addr} {od26 an26 : Option Addr} {sl26 : Array (Option Value)} {oc26 kV26 dc26 pm26 cd26 ct26 : Value}
    {qnC12 : Str} {NaC12 : Addr} {bsC12 : List Value} {snC12 : List Str} {subC12 : List Value} {abC12 : Bool} {colC12 : Option Bool} {ddC12 : Option Addr} {x0C12 x1C12 x2C12 x3C12 x5C12 : Option Value}
    {f27 : Addr} {od27 an27 : Option Addr} {sl27 : Array (Option Value)} {oc27 kV27 dc27 pm27 cd27 ct27 : Value}
    {qnC13 : Str} {NaC13 : Addr} {bsC13 : List Value} {snC13 : List Str} {subC13 : List Value} {abC13 : Bool} {colC13 : Option Bool} {ddC13 : Option Addr} {x0C13 x1C13 x2C13 x3C13 x5C13 : Option Value}
    {f28 : Addr} {od28 an28 : Option Addr} {sl28 : Array (Option Value)} {oc28 kV28 dc28 pm28 cd28 ct28 : Value}
    {qnC14 : Str} {NaC14 : Addr} {bsC14 : List Value} {snC14 : List Str} {subC14 : List Value} {abC14 : Bool} {colC14 : Option Bool} {ddC14 : Option Addr} {x0C14 x1C14 x2C14 x3C14 x5C14 : Option Value}
    {f29 : Addr} {od29 an29 : Option Addr} {sl29 : Array (Option Value)} {oc29 kV29 dc29 pm29 cd29 ct29 : Value}
    {qnC15 : Str} {NaC15 : Addr} {bsC15 : List Value} {snC15 : List Str} {subC15 : List Value} {abC15 : Bool} {colC15 : Option Bool} {ddC15 : Option Addr} {x0C15 x1C15 x2C15 x3C15 x5C15 : Option Value}
    {f30 : Addr} {od30 an30 : Option Addr} {sl30 : Array (Option Value)} {oc30 kV30 dc30 pm30 cd30 ct30 : Value}
    {qnC16 : Str} {NaC16 : Addr} {bsC16 : List Value} {snC16 : List Str} {subC16 : List Value} {abC16 : Bool} {colC16 : Option Bool} {ddC16 : Option Addr} {x0C16 x1C16 x2C16 x3C16 x5C16 : Option Value}
    {f31 : Addr} {od31 an31 : Option Addr} {sl31 : Array (Option Value)} {oc31 kV31 dc31 pm31 cd31 ct31 : Value}
    {qnC17 : Str} {NaC17 : Addr} {bsC17 : List Value} {snC17 : List Str} {subC17 : List Value} {abC17 : Bool} {colC17 : Option Bool} {ddC17 : Option Addr} {x0C17 x1C17 x2C17 x3C17 x5C17 : Option Value}
    {f32 : Addr} {od32 an32 : Option Addr} {sl32 : Array (Option Value)} {oc32 kV32 dc32 pm32 cd32 ct32 : Value}
    {qnC18 : Str} {NaC18 : Addr} {bsC18 : List Value} {snC18 : List Str} {subC18 : List Value} {abC18 : Bool} {colC18 : Option Bool} {ddC18 : Option Addr} {x0C18 x1C18 x2C18 x3C18 x5C18 : Option Value}
    {f33 : Addr} {od33 an33 : Option Addr} {sl33 : Array (Option Value)} {oc33 kV33 dc33 pm33 cd33 ct33 : Value}
    {qnC19 : Str} {NaC19 : Addr} {bsC19 : List Value} {snC19 : List Str} {subC19 : List Value} {abC19 : Bool} {colC19 : Option Bool} {ddC19 : Option Addr} {x0C19 x1C19 x2C19 x3C19 x5C19 : Option Value}
    {qnC20 : Str} {NaC20 : Addr} {bsC20 : List Value} {snC20 : List Str} {subC20 : List Value} {abC20 : Bool} {colC20 : Option Bool} {ddC20 : Option Addr} {x0C20 x1C20 x2C20 x3C20 x5C20 : Option Value}
    {qnC21 : Str} {NaC21 : Addr} {bsC21 : List Value} {snC21 : List Str} {subC21 : List Value} {abC21 : Bool} {colC21 : Option Bool} {ddC21 : Option Addr} {x0C21 x1C21 x2C21 x3C21 x5C21 : Option Value}
    {qnC22 : Str} {NaC22 : Addr} {bsC22 : List Value} {snC22 : List Str} {subC22 : List Value} {abC22 : Bool} {colC22 : Option Bool} {ddC22 : Option Addr} {x0C22 x1C22 x2C22 x3C22 x5C22 : Option Value}
    {qnC23 : Str} {NaC23 : Addr} {bsC23 : List Value} {snC23 : List Str} {subC23 : List Value} {abC23 : Bool} {colC23 : Option Bool} {ddC23 : Option Addr} {x0C23 x1C23 x2C23 x3C23 x5C23 : Option Value}
    {qnC24 : Str} {NaC24 : Addr} {bsC24 : List Value} {snC24 : List Str} {subC24 : List Value} {abC24 : Bool} {colC24 : Option Bool} {ddC24 : Option Addr} {x0C24 x1C24 x2C24 x3C24 x5C24 : Option Value}
    {qnC25 : Str} {NaC25 : Addr} {bsC25 : List Value} {snC25 : List Str} {subC25 : List Value} {abC25 : Bool} {colC25 : Option Bool} {ddC25 : Option Addr} {x0C25 x1C25 x2C25 x3C25 x5C25 : Option Value}
    (a0 : PySem.W.nsIn K mainGlobals "_law_cell" = some (some (.ref f0)))
    (l0 : K.lookup f0 = some ⟨oc0, od0, .func (PySem.W.fnOf "_law_cell" "_law_cell" (defArgs s_cell) (defBody s_cell) (defScope s_cell) .none kV0 dc0 pm0 an0 cd0 ct0), sl0⟩)
    (c0 : PySem.W.codeIn K cd0 "_law_cell" = true)
    (k0 : PySem.W.keepIn K (.ref f0) = true)
    (a1 : PySem.W.nsIn K mainGlobals "_law_pool" = some (some (.ref f1)))
    (l1 : K.lookup f1 = some ⟨oc1, od1, .func (PySem.W.fnOf "_law_pool" "_law_pool" (defArgs s_pool) (defBody s_pool) (defScope s_pool) .none kV1 dc1 pm1 an1 cd1 ct1), sl1⟩)
    (c1 : PySem.W.codeIn K cd1 "_law_pool" = true)
    (k1 : PySem.W.keepIn K (.ref f1) = true)
    (a2 : PySem.W.nsIn K mainGlobals "_law_next" = some (some (.ref f2)))
    (l2 : K.lookup f2 = some ⟨oc2, od2, .func (PySem.W.fnOf "_law_next" "_law_next" (defArgs s_next) (defBody s_next) (defScope s_next) .none kV2 dc2 pm2 an2 cd2 ct2), sl2⟩)
    (c2 : PySem.W.codeIn K cd2 "_law_next" = true)
    (k2 : PySem.W.keepIn K (.ref f2) = true)
    (a3 : PySem.W.nsIn K mainGlobals "_law_text" = some (some (.ref f3)))
    (l3 : K.lookup f3 = some ⟨oc3, od3, .func (PySem.W.fnOf "_law_text" "_law_text" (defArgs s_text) (defBody s_text) (defScope s_text) .none kV3 dc3 pm3 an3 cd3 ct3), sl3⟩)
    (c3 : PySem.W.codeIn K cd3 "_law_text" = true)
    (k3 : PySem.W.keepIn K (.ref f3) = true)
    (a4 : PySem.W.nsIn K mainGlobals "_law_number" = some (some (.ref f4)))
    (l4 : K.lookup f4 = some ⟨oc4, od4, .func (PySem.W.fnOf "_law_number" "_law_number" (defArgs s_number) (defBody s_number) (defScope s_number) .none kV4 dc4 pm4 an4 cd4 ct4), sl4⟩)
    (c4 : PySem.W.codeIn K cd4 "_law_number" = true)
    (k4 : PySem.W.keepIn K (.ref f4) = true)
    (a5 : PySem.W.nsIn K mainGlobals "_law_path" = some (some (.ref f5)))
    (l5 : K.lookup f5 = some ⟨oc5, od5, .func (PySem.W.fnOf "_law_path" "_law_path" (defArgs s_path) (defBody s_path) (defScope s_path) .none kV5 dc5 pm5 an5 cd5 ct5), sl5⟩)
    (c5 : PySem.W.codeIn K cd5 "_law_path" = true)
    (k5 : PySem.W.keepIn K (.ref f5) = true)
    (a6 : PySem.W.nsIn K mainGlobals "_law_kind" = some (some (.ref f6)))
    (l6 : K.lookup f6 = some ⟨oc6, od6, .func (PySem.W.fnOf "_law_kind" "_law_kind" (defArgs s_kind) (defBody s_kind) (defScope s_kind) .none kV6 dc6 pm6 an6 cd6 ct6), sl6⟩)
    (c6 : PySem.W.codeIn K cd6 "_law_kind" = true)
    (k6 : PySem.W.keepIn K (.ref f6) = true)
    (a7 : PySem.W.nsIn K mainGlobals "_law_values" = some (some (.ref f7)))
    (l7 : K.lookup f7 = some ⟨oc7, od7, .func (PySem.W.fnOf "_law_values" "_law_values" (defArgs s_values) (defBody s_values) (defScope s_values) .none kV7 dc7 pm7 an7 cd7 ct7), sl7⟩)
    (c7 : PySem.W.codeIn K cd7 "_law_values" = true)
    (k7 : PySem.W.keepIn K (.ref f7) = true)
    (a8 : PySem.W.nsIn K mainGlobals "_law_named" = some (some (.ref f8)))
    (l8 : K.lookup f8 = some ⟨oc8, od8, .func (PySem.W.fnOf "_law_named" "_law_named" (defArgs s_named) (defBody s_named) (defScope s_named) .none kV8 dc8 pm8 an8 cd8 ct8), sl8⟩)
    (c8 : PySem.W.codeIn K cd8 "_law_named" = true)
    (k8 : PySem.W.keepIn K (.ref f8) = true)
    (a9 : PySem.W.nsIn K mainGlobals "_law_plain" = some (some (.ref f9)))
    (l9 : K.lookup f9 = some ⟨oc9, od9, .func (PySem.W.fnOf "_law_plain" "_law_plain" (defArgs s_plain) (defBody s_plain) (defScope s_plain) .none kV9 dc9 pm9 an9 cd9 ct9), sl9⟩)
    (c9 : PySem.W.codeIn K cd9 "_law_plain" = true)
    (k9 : PySem.W.keepIn K (.ref f9) = true)
    (a10 : PySem.W.nsIn K mainGlobals "_law_made" = some (some (.ref f10)))
    (l10 : K.lookup f10 = some ⟨oc10, od10, .func (PySem.W.fnOf "_law_made" "_law_made" (defArgs s_made) (defBody s_made) (defScope s_made) .none kV10 dc10 pm10 an10 cd10 ct10), sl10⟩)
    (c10 : PySem.W.codeIn K cd10 "_law_made" = true)
    (k10 : PySem.W.keepIn K (.ref f10) = true)
    (a11 : PySem.W.nsIn K mainGlobals "_law_fields" = some (some (.ref f11)))
    (l11 : K.lookup f11 = some ⟨oc11, od11, .func (PySem.W.fnOf "_law_fields" "_law_fields" (defArgs s_fields) (defBody s_fields) (defScope s_fields) .none kV11 dc11 pm11 an11 cd11 ct11), sl11⟩)
    (c11 : PySem.W.codeIn K cd11 "_law_fields" = true)
    (k11 : PySem.W.keepIn K (.ref f11) = true)
    (a12 : PySem.W.nsIn K mainGlobals "_law_marks" = some (some (.ref f12)))
    (l12 : K.lookup f12 = some ⟨oc12, od12, .func (PySem.W.fnOf "_law_marks" "_law_marks" (defArgs s_marks) (defBody s_marks) (defScope s_marks) .none kV12 dc12 pm12 an12 cd12 ct12), sl12⟩)
    (c12 : PySem.W.codeIn K cd12 "_law_marks" = true)
    (k12 : PySem.W.keepIn K (.ref f12) = true)
    (a13 : PySem.W.nsIn K mainGlobals "_law_is_due" = some (some (.ref f13)))
    (l13 : K.lookup f13 = some ⟨oc13, od13, .func (PySem.W.fnOf "_law_is_due" "_law_is_due" (defArgs s_is_due) (defBody s_is_due) (defScope s_is_due) .none kV13 dc13 pm13 an13 cd13 ct13), sl13⟩)
    (c13 : PySem.W.codeIn K cd13 "_law_is_due" = true)
    (k13 : PySem.W.keepIn K (.ref f13) = true)
    (a14 : PySem.W.nsIn K mainGlobals "law" = some (some (.ref f14)))
    (l14 : K.lookup f14 = some ⟨oc14, od14, .func (PySem.W.fnOf "law" "law" (defArgs s_law) (defBody s_law) (defScope s_law) .none kV14 dc14 pm14 an14 cd14 ct14), sl14⟩)
    (c14 : PySem.W.codeIn K cd14 "law" = true)
    (k14 : PySem.W.keepIn K (.ref f14) = true)
    (z_isinstance : PySem.W.nsIn K mainGlobals "isinstance" = some none)
    (z_int : PySem.W.nsIn K mainGlobals "int" = some none)
    (z_tuple : PySem.W.nsIn K mainGlobals "tuple" = some none)
    (z_len : PySem.W.nsIn K mainGlobals "len" = some none)
    (z_range : PySem.W.nsIn K mainGlobals "range" = some none)
    (z_abs : PySem.W.nsIn K mainGlobals "abs" = some none)
    (z_repr : PySem.W.nsIn K mainGlobals "repr" = some none)
    (z_ValueError : PySem.W.nsIn K mainGlobals "ValueError" = some none)
    (mCH : PySem.W.nsIn K mainGlobals "HeldError" = some (some (.ref CH)))
    (xLCH : K.lookup CH = some (excClassObj "HeldError" qnCH CH NaCH bsCH [.type "ValueError", .type "Exception", .type "BaseException", .type "object"] true snCH subCH abCH colCH ddCH x0CH x1CH x2CH x3CH x5CH "ValueError.__new__"))
    (mC0 : PySem.W.nsIn K mainGlobals "BadName" = some (some (.ref C0)))
    (xLC0 : K.lookup C0 = some (excClassObj "BadName" qnC0 C0 NaC0 bsC0 [.ref CH, .type "ValueError", .type "Exception", .type "BaseException", .type "object"] true snC0 subC0 abC0 colC0 ddC0 x0C0 x1C0 x2C0 x3C0 x5C0 "ValueError.__new__"))
    (gaC0 : PySem.W.findIn K (.ref C0) "__getattribute__" = some (some (.builtin "BaseException.__getattribute__")))
    (ggC0 : PySem.W.findIn K (.ref C0) "__getattr__" = some none)
    (haC0 : PySem.W.findIn K (.ref C0) "__class__" = some (some (.builtin "object.__class__")))
    (kCC0 : PySem.W.keepIn K (.ref C0) = true)
    (saC0 : PySem.W.findIn K (.ref C0) "__setattr__" = some (some (.builtin "object.__setattr__")))
    (no_name_C0 : PySem.W.findIn K (.ref C0) "name" = some none)
    (a15 : PySem.W.findIn K (.ref C0) "__init__" = some (some (.ref f15)))
    (i15 : PySem.W.isFn K (.ref f15) = true)
    (l15 : K.lookup f15 = some ⟨oc15, od15, .func (PySem.W.fnOf "__init__" "BadName.__init__" (defArgs s_BadName___init) (defBody s_BadName___init) (defScope s_BadName___init) .none kV15 dc15 pm15 an15 cd15 ct15), sl15⟩)
    (c15 : PySem.W.codeIn K cd15 "BadName.__init__" = true)
    (k15 : PySem.W.keepIn K (.ref f15) = true)
    (mC1 : PySem.W.nsIn K mainGlobals "NameTaken" = some (some (.ref C1)))
    (xLC1 : K.lookup C1 = some (excClassObj "NameTaken" qnC1 C1 NaC1 bsC1 [.ref CH, .type "ValueError", .type "Exception", .type "BaseException", .type "object"] true snC1 subC1 abC1 colC1 ddC1 x0C1 x1C1 x2C1 x3C1 x5C1 "ValueError.__new__"))
    (gaC1 : PySem.W.findIn K (.ref C1) "__getattribute__" = some (some (.builtin "BaseException.__getattribute__")))
    (ggC1 : PySem.W.findIn K (.ref C1) "__getattr__" = some none)
    (haC1 : PySem.W.findIn K (.ref C1) "__class__" = some (some (.builtin "object.__class__")))
    (kCC1 : PySem.W.keepIn K (.ref C1) = true)
    (saC1 : PySem.W.findIn K (.ref C1) "__setattr__" = some (some (.builtin "object.__setattr__")))
    (no_name_C1 : PySem.W.findIn K (.ref C1) "name" = some none)
    (a16 : PySem.W.findIn K (.ref C1) "__init__" = some (some (.ref f16)))
    (i16 : PySem.W.isFn K (.ref f16) = true)
    (l16 : K.lookup f16 = some ⟨oc16, od16, .func (PySem.W.fnOf "__init__" "NameTaken.__init__" (defArgs s_NameTaken___init) (defBody s_NameTaken___init) (defScope s_NameTaken___init) .none kV16 dc16 pm16 an16 cd16 ct16), sl16⟩)
    (c16 : PySem.W.codeIn K cd16 "NameTaken.__init__" = true)
    (k16 : PySem.W.keepIn K (.ref f16) = true)
    (mC2 : PySem.W.nsIn K mainGlobals "UnknownName" = some (some (.ref C2)))
    (xLC2 : K.lookup C2 = some (excClassObj "UnknownName" qnC2 C2 NaC2 bsC2 [.ref CH, .type "ValueError", .type "Exception", .type "BaseException", .type "object"] true snC2 subC2 abC2 colC2 ddC2 x0C2 x1C2 x2C2 x3C2 x5C2 "ValueError.__new__"))
    (gaC2 : PySem.W.findIn K (.ref C2) "__getattribute__" = some (some (.builtin "BaseException.__getattribute__")))
    (ggC2 : PySem.W.findIn K (.ref C2) "__getattr__" = some none)
    (haC2 : PySem.W.findIn K (.ref C2) "__class__" = some (some (.builtin "object.__class__")))
    (kCC2 : PySem.W.keepIn K (.ref C2) = true)
    (saC2 : PySem.W.findIn K (.ref C2) "__setattr__" = some (some (.builtin "object.__setattr__")))
    (no_name_C2 : PySem.W.findIn K (.ref C2) "name" = some none)
    (a17 : PySem.W.findIn K (.ref C2) "__init__" = some (some (.ref f17)))
    (i17 : PySem.W.isFn K (.ref f17) = true)
    (l17 : K.lookup f17 = some ⟨oc17, od17, .func (PySem.W.fnOf "__init__" "UnknownName.__init__" (defArgs s_UnknownName___init) (defBody s_UnknownName___init) (defScope s_UnknownName___init) .none kV17 dc17 pm17 an17 cd17 ct17), sl17⟩)
    (c17 : PySem.W.codeIn K cd17 "UnknownName.__init__" = true)
    (k17 : PySem.W.keepIn K (.ref f17) = true)
    (mC3 : PySem.W.nsIn K mainGlobals "InUse" = some (some (.ref C3)))
    (xLC3 : K.lookup C3 = some (excClassObj "InUse" qnC3 C3 NaC3 bsC3 [.ref CH, .type "ValueError", .type "Exception", .type "BaseException", .type "object"] true snC3 subC3 abC3 colC3 ddC3 x0C3 x1C3 x2C3 x3C3 x5C3 "ValueError.__new__"))
    (gaC3 : PySem.W.findIn K (.ref C3) "__getattribute__" = some (some (.builtin "BaseException.__getattribute__")))
    (ggC3 : PySem.W.findIn K (.ref C3) "__getattr__" = some none)
    (haC3 : PySem.W.findIn K (.ref C3) "__class__" = some (some (.builtin "object.__class__")))
    (kCC3 : PySem.W.keepIn K (.ref C3) = true)
    (saC3 : PySem.W.findIn K (.ref C3) "__setattr__" = some (some (.builtin "object.__setattr__")))
    (no_name_C3 : PySem.W.findIn K (.ref C3) "name" = some none)
    (a18 : PySem.W.findIn K (.ref C3) "__init__" = some (some (.ref f18)))
    (i18 : PySem.W.isFn K (.ref f18) = true)
    (l18 : K.lookup f18 = some ⟨oc18, od18, .func (PySem.W.fnOf "__init__" "InUse.__init__" (defArgs s_InUse___init) (defBody s_InUse___init) (defScope s_InUse___init) .none kV18 dc18 pm18 an18 cd18 ct18), sl18⟩)
    (c18 : PySem.W.codeIn K cd18 "InUse.__init__" = true)
    (k18 : PySem.W.keepIn K (.ref f18) = true)
    (mC4 : PySem.W.nsIn K mainGlobals "Circular" = some (some (.ref C4)))
    (xLC4 : K.lookup C4 = some (excClassObj "Circular" qnC4 C4 NaC4 bsC4 [.ref CH, .type "ValueError", .type "Exception", .type "BaseException", .type "object"] true snC4 subC4 abC4 colC4 ddC4 x0C4 x1C4 x2C4 x3C4 x5C4 "ValueError.__new__"))
    (gaC4 : PySem.W.findIn K (.ref C4) "__getattribute__" = some (some (.builtin "BaseException.__getattribute__")))
    (ggC4 : PySem.W.findIn K (.ref C4) "__getattr__" = some none)
    (haC4 : PySem.W.findIn K (.ref C4) "__class__" = some (some (.builtin "object.__class__")))
    (kCC4 : PySem.W.keepIn K (.ref C4) = true)
    (saC4 : PySem.W.findIn K (.ref C4) "__setattr__" = some (some (.builtin "object.__setattr__")))
    (no_name_C4 : PySem.W.findIn K (.ref C4) "name" = some none)
    (a19 : PySem.W.findIn K (.ref C4) "__init__" = some (some (.ref f19)))
    (i19 : PySem.W.isFn K (.ref f19) = true)
    (l19 : K.lookup f19 = some ⟨oc19, od19, .func (PySem.W.fnOf "__init__" "Circular.__init__" (defArgs s_Circular___init) (defBody s_Circular___init) (defScope s_Circular___init) .none kV19 dc19 pm19 an19 cd19 ct19), sl19⟩)
    (c19 : PySem.W.codeIn K cd19 "Circular.__init__" = true)
    (k19 : PySem.W.keepIn K (.ref f19) = true)
    (mC5 : PySem.W.nsIn K mainGlobals "NoRoom" = some (some (.ref C5)))
    (xLC5 : K.lookup C5 = some (excClassObj "NoRoom" qnC5 C5 NaC5 bsC5 [.ref CH, .type "ValueError", .type "Exception", .type "BaseException", .type "object"] true snC5 subC5 abC5 colC5 ddC5 x0C5 x1C5 x2C5 x3C5 x5C5 "ValueError.__new__"))
    (gaC5 : PySem.W.findIn K (.ref C5) "__getattribute__" = some (some (.builtin "BaseException.__getattribute__")))
    (ggC5 : PySem.W.findIn K (.ref C5) "__getattr__" = some none)
    (haC5 : PySem.W.findIn K (.ref C5) "__class__" = some (some (.builtin "object.__class__")))
    (kCC5 : PySem.W.keepIn K (.ref C5) = true)
    (saC5 : PySem.W.findIn K (.ref C5) "__setattr__" = some (some (.builtin "object.__setattr__")))
    (no_name_C5 : PySem.W.findIn K (.ref C5) "name" = some none)
    (a20 : PySem.W.findIn K (.ref C5) "__init__" = some (some (.ref f20)))
    (i20 : PySem.W.isFn K (.ref f20) = true)
    (l20 : K.lookup f20 = some ⟨oc20, od20, .func (PySem.W.fnOf "__init__" "NoRoom.__init__" (defArgs s_NoRoom___init) (defBody s_NoRoom___init) (defScope s_NoRoom___init) .none kV20 dc20 pm20 an20 cd20 ct20), sl20⟩)
    (c20 : PySem.W.codeIn K cd20 "NoRoom.__init__" = true)
    (k20 : PySem.W.keepIn K (.ref f20) = true)
    (mC6 : PySem.W.nsIn K mainGlobals "LeftOver" = some (some (.ref C6)))
    (xLC6 : K.lookup C6 = some (excClassObj "LeftOver" qnC6 C6 NaC6 bsC6 [.ref CH, .type "ValueError", .type "Exception", .type "BaseException", .type "object"] true snC6 subC6 abC6 colC6 ddC6 x0C6 x1C6 x2C6 x3C6 x5C6 "ValueError.__new__"))
    (gaC6 : PySem.W.findIn K (.ref C6) "__getattribute__" = some (some (.builtin "BaseException.__getattribute__")))
    (ggC6 : PySem.W.findIn K (.ref C6) "__getattr__" = some none)
    (haC6 : PySem.W.findIn K (.ref C6) "__class__" = some (some (.builtin "object.__class__")))
    (kCC6 : PySem.W.keepIn K (.ref C6) = true)
    (saC6 : PySem.W.findIn K (.ref C6) "__setattr__" = some (some (.builtin "object.__setattr__")))
    (no_name_C6 : PySem.W.findIn K (.ref C6) "name" = some none)
    (a21 : PySem.W.findIn K (.ref C6) "__init__" = some (some (.ref f21)))
    (i21 : PySem.W.isFn K (.ref f21) = true)
    (l21 : K.lookup f21 = some ⟨oc21, od21, .func (PySem.W.fnOf "__init__" "LeftOver.__init__" (defArgs s_LeftOver___init) (defBody s_LeftOver___init) (defScope s_LeftOver___init) .none kV21 dc21 pm21 an21 cd21 ct21), sl21⟩)
    (c21 : PySem.W.codeIn K cd21 "LeftOver.__init__" = true)
    (k21 : PySem.W.keepIn K (.ref f21) = true)
    (mC7 : PySem.W.nsIn K mainGlobals "WrongHold" = some (some (.ref C7)))
    (xLC7 : K.lookup C7 = some (excClassObj "WrongHold" qnC7 C7 NaC7 bsC7 [.ref CH, .type "ValueError", .type "Exception", .type "BaseException", .type "object"] true snC7 subC7 abC7 colC7 ddC7 x0C7 x1C7 x2C7 x3C7 x5C7 "ValueError.__new__"))
    (gaC7 : PySem.W.findIn K (.ref C7) "__getattribute__" = some (some (.builtin "BaseException.__getattribute__")))
    (ggC7 : PySem.W.findIn K (.ref C7) "__getattr__" = some none)
    (haC7 : PySem.W.findIn K (.ref C7) "__class__" = some (some (.builtin "object.__class__")))
    (kCC7 : PySem.W.keepIn K (.ref C7) = true)
    (saC7 : PySem.W.findIn K (.ref C7) "__setattr__" = some (some (.builtin "object.__setattr__")))
    (no_name_C7 : PySem.W.findIn K (.ref C7) "name" = some none)
    (a22 : PySem.W.findIn K (.ref C7) "__init__" = some (some (.ref f22)))
    (i22 : PySem.W.isFn K (.ref f22) = true)
    (l22 : K.lookup f22 = some ⟨oc22, od22, .func (PySem.W.fnOf "__init__" "WrongHold.__init__" (defArgs s_WrongHold___init) (defBody s_WrongHold___init) (defScope s_WrongHold___init) .none kV22 dc22 pm22 an22 cd22 ct22), sl22⟩)
    (c22 : PySem.W.codeIn K cd22 "WrongHold.__init__" = true)
    (k22 : PySem.W.keepIn K (.ref f22) = true)
    (mC8 : PySem.W.nsIn K mainGlobals "BadKind" = some (some (.ref C8)))
    (xLC8 : K.lookup C8 = some (excClassObj "BadKind" qnC8 C8 NaC8 bsC8 [.ref CH, .type "ValueError", .type "Exception", .type "BaseException", .type "object"] true snC8 subC8 abC8 colC8 ddC8 x0C8 x1C8 x2C8 x3C8 x5C8 "ValueError.__new__"))
    (gaC8 : PySem.W.findIn K (.ref C8) "__getattribute__" = some (some (.builtin "BaseException.__getattribute__")))
    (ggC8 : PySem.W.findIn K (.ref C8) "__getattr__" = some none)
    (haC8 : PySem.W.findIn K (.ref C8) "__class__" = some (some (.builtin "object.__class__")))
    (kCC8 : PySem.W.keepIn K (.ref C8) = true)
    (saC8 : PySem.W.findIn K (.ref C8) "__setattr__" = some (some (.builtin "object.__setattr__")))
    (no_kind_C8 : PySem.W.findIn K (.ref C8) "kind" = some none)
    (a23 : PySem.W.findIn K (.ref C8) "__init__" = some (some (.ref f23)))
    (i23 : PySem.W.isFn K (.ref f23) = true)
    (l23 : K.lookup f23 = some ⟨oc23, od23, .func (PySem.W.fnOf "__init__" "BadKind.__init__" (defArgs s_BadKind___init) (defBody s_BadKind___init) (defScope s_BadKind___init) .none kV23 dc23 pm23 an23 cd23 ct23), sl23⟩)
    (c23 : PySem.W.codeIn K cd23 "BadKind.__init__" = true)
    (k23 : PySem.W.keepIn K (.ref f23) = true)
    (mC9 : PySem.W.nsIn K mainGlobals "TextError" = some (some (.ref C9)))
    (xLC9 : K.lookup C9 = some (excClassObj "TextError" qnC9 C9 NaC9 bsC9 [.ref CH, .type "ValueError", .type "Exception", .type "BaseException", .type "object"] true snC9 subC9 abC9 colC9 ddC9 x0C9 x1C9 x2C9 x3C9 x5C9 "ValueError.__new__"))
    (gaC9 : PySem.W.findIn K (.ref C9) "__getattribute__" = some (some (.builtin "BaseException.__getattribute__")))
    (ggC9 : PySem.W.findIn K (.ref C9) "__getattr__" = some none)
    (haC9 : PySem.W.findIn K (.ref C9) "__class__" = some (some (.builtin "object.__class__")))
    (kCC9 : PySem.W.keepIn K (.ref C9) = true)
    (saC9 : PySem.W.findIn K (.ref C9) "__setattr__" = some (some (.builtin "object.__setattr__")))
    (no_index_C9 : PySem.W.findIn K (.ref C9) "index" = some none)
    (a24 : PySem.W.findIn K (.ref C9) "__init__" = some (some (.ref f24)))
    (i24 : PySem.W.isFn K (.ref f24) = true)
    (l24 : K.lookup f24 = some ⟨oc24, od24, .func (PySem.W.fnOf "__init__" "TextError.__init__" (defArgs s_TextError___init) (defBody s_TextError___init) (defScope s_TextError___init) .none kV24 dc24 pm24 an24 cd24 ct24), sl24⟩)
    (c24 : PySem.W.codeIn K cd24 "TextError.__init__" = true)
    (k24 : PySem.W.keepIn K (.ref f24) = true)
    (mC10 : PySem.W.nsIn K mainGlobals "NoPart" = some (some (.ref C10)))
    (xLC10 : K.lookup C10 = some (excClassObj "NoPart" qnC10 C10 NaC10 bsC10 [.ref CH, .type "ValueError", .type "Exception", .type "BaseException", .type "object"] true snC10 subC10 abC10 colC10 ddC10 x0C10 x1C10 x2C10 x3C10 x5C10 "ValueError.__new__"))
    (gaC10 : PySem.W.findIn K (.ref C10) "__getattribute__" = some (some (.builtin "BaseException.__getattribute__")))
    (ggC10 : PySem.W.findIn K (.ref C10) "__getattr__" = some none)
    (haC10 : PySem.W.findIn K (.ref C10) "__class__" = some (some (.builtin "object.__class__")))
    (kCC10 : PySem.W.keepIn K (.ref C10) = true)
    (saC10 : PySem.W.findIn K (.ref C10) "__setattr__" = some (some (.builtin "object.__setattr__")))
    (no_path_C10 : PySem.W.findIn K (.ref C10) "path" = some none)
    (a25 : PySem.W.findIn K (.ref C10) "__init__" = some (some (.ref f25)))
    (i25 : PySem.W.isFn K (.ref f25) = true)
    (l25 : K.lookup f25 = some ⟨oc25, od25, .func (PySem.W.fnOf "__init__" "NoPart.__init__" (defArgs s_NoPart___init) (defBody s_NoPart___init) (defScope s_NoPart___init) .none kV25 dc25 pm25 an25 cd25 ct25), sl25⟩)
    (c25 : PySem.W.codeIn K cd25 "NoPart.__init__" = true)
    (k25 : PySem.W.keepIn K (.ref f25) = true)
    (mC11 : PySem.W.nsIn K mainGlobals "NotBare" = some (some (.ref C11)))
    (xLC11 : K.lookup C11 = some (excClassObj "NotBare" qnC11 C11 NaC11 bsC11 [.ref CH, .type "ValueError", .type "Exception", .type "BaseException", .type "object"] true snC11 subC11 abC11 colC11 ddC11 x0C11 x1C11 x2C11 x3C11 x5C11 "ValueError.__new__"))
    (gaC11 : PySem.W.findIn K (.ref C11) "__getattribute__" = some (some (.builtin "BaseException.__getattribute__")))
    (ggC11 : PySem.W.findIn K (.ref C11) "__getattr__" = some none)
    (haC11 : PySem.W.findIn K (.ref C11) "__class__" = some (some (.builtin "object.__class__")))
    (kCC11 : PySem.W.keepIn K (.ref C11) = true)
    (saC11 : PySem.W.findIn K (.ref C11) "__setattr__" = some (some (.builtin "object.__setattr__")))
    (no_path_C11 : PySem.W.findIn K (.ref C11) "path" = some none)
    (a26 : PySem.W.findIn K (.ref C11) "__init__" = some (some (.ref f26)))
    (i26 : PySem.W.isFn K (.ref f26) = true)
    (l26 : K.lookup f26 = some ⟨oc26, od26, .func (PySem.W.fnOf "__init__" "NotBare.__init__" (defArgs s_NotBare___init) (defBody s_NotBare___init) (defScope s_NotBare___init) .none kV26 dc26 pm26 an26 cd26 ct26), sl26⟩)
    (c26 : PySem.W.codeIn K cd26 "NotBare.__init__" = true)
    (k26 : PySem.W.keepIn K (.ref f26) = true)
    (mC12 : PySem.W.nsIn K mainGlobals "DerivationError" = some (some (.ref C12)))
    (xLC12 : K.lookup C12 = some (excClassObj "DerivationError" qnC12 C12 NaC12 bsC12 [.ref CH, .type "ValueError", .type "Exception", .type "BaseException", .type "object"] true snC12 subC12 abC12 colC12 ddC12 x0C12 x1C12 x2C12 x3C12 x5C12 "ValueError.__new__"))
    (gaC12 : PySem.W.findIn K (.ref C12) "__getattribute__" = some (some (.builtin "BaseException.__getattribute__")))
    (ggC12 : PySem.W.findIn K (.ref C12) "__getattr__" = some none)
    (haC12 : PySem.W.findIn K (.ref C12) "__class__" = some (some (.builtin "object.__class__")))
    (kCC12 : PySem.W.keepIn K (.ref C12) = true)
    (saC12 : PySem.W.findIn K (.ref C12) "__setattr__" = some (some (.builtin "object.__setattr__")))
    (no_path_C12 : PySem.W.findIn K (.ref C12) "path" = some none)
    (no_reason_C12 : PySem.W.findIn K (.ref C12) "reason" = some none)
    (a27 : PySem.W.findIn K (.ref C12) "__init__" = some (some (.ref f27)))
    (i27 : PySem.W.isFn K (.ref f27) = true)
    (l27 : K.lookup f27 = some ⟨oc27, od27, .func (PySem.W.fnOf "__init__" "DerivationError.__init__" (defArgs s_DerivationError___init) (defBody s_DerivationError___init) (defScope s_DerivationError___init) .none kV27 dc27 pm27 an27 cd27 ct27), sl27⟩)
    (c27 : PySem.W.codeIn K cd27 "DerivationError.__init__" = true)
    (k27 : PySem.W.keepIn K (.ref f27) = true)
    (mC13 : PySem.W.nsIn K mainGlobals "NoStep" = some (some (.ref C13)))
    (xLC13 : K.lookup C13 = some (excClassObj "NoStep" qnC13 C13 NaC13 bsC13 [.ref CH, .type "ValueError", .type "Exception", .type "BaseException", .type "object"] true snC13 subC13 abC13 colC13 ddC13 x0C13 x1C13 x2C13 x3C13 x5C13 "ValueError.__new__"))
    (gaC13 : PySem.W.findIn K (.ref C13) "__getattribute__" = some (some (.builtin "BaseException.__getattribute__")))
    (ggC13 : PySem.W.findIn K (.ref C13) "__getattr__" = some none)
    (haC13 : PySem.W.findIn K (.ref C13) "__class__" = some (some (.builtin "object.__class__")))
    (kCC13 : PySem.W.keepIn K (.ref C13) = true)
    (saC13 : PySem.W.findIn K (.ref C13) "__setattr__" = some (some (.builtin "object.__setattr__")))
    (no_path_C13 : PySem.W.findIn K (.ref C13) "path" = some none)
    (no_way_C13 : PySem.W.findIn K (.ref C13) "way" = some none)
    (a28 : PySem.W.findIn K (.ref C13) "__init__" = some (some (.ref f28)))
    (i28 : PySem.W.isFn K (.ref f28) = true)
    (l28 : K.lookup f28 = some ⟨oc28, od28, .func (PySem.W.fnOf "__init__" "NoStep.__init__" (defArgs s_NoStep___init) (defBody s_NoStep___init) (defScope s_NoStep___init) .none kV28 dc28 pm28 an28 cd28 ct28), sl28⟩)
    (c28 : PySem.W.codeIn K cd28 "NoStep.__init__" = true)
    (k28 : PySem.W.keepIn K (.ref f28) = true)
    (mC14 : PySem.W.nsIn K mainGlobals "NoMeeting" = some (some (.ref C14)))
    (xLC14 : K.lookup C14 = some (excClassObj "NoMeeting" qnC14 C14 NaC14 bsC14 [.ref CH, .type "ValueError", .type "Exception", .type "BaseException", .type "object"] true snC14 subC14 abC14 colC14 ddC14 x0C14 x1C14 x2C14 x3C14 x5C14 "ValueError.__new__"))
    (gaC14 : PySem.W.findIn K (.ref C14) "__getattribute__" = some (some (.builtin "BaseException.__getattribute__")))
    (ggC14 : PySem.W.findIn K (.ref C14) "__getattr__" = some none)
    (haC14 : PySem.W.findIn K (.ref C14) "__class__" = some (some (.builtin "object.__class__")))
    (kCC14 : PySem.W.keepIn K (.ref C14) = true)
    (saC14 : PySem.W.findIn K (.ref C14) "__setattr__" = some (some (.builtin "object.__setattr__")))
    (no_name_C14 : PySem.W.findIn K (.ref C14) "name" = some none)
    (no_make_index_C14 : PySem.W.findIn K (.ref C14) "make_index" = some none)
    (no_open_index_C14 : PySem.W.findIn K (.ref C14) "open_index" = some none)
    (a29 : PySem.W.findIn K (.ref C14) "__init__" = some (some (.ref f29)))
    (i29 : PySem.W.isFn K (.ref f29) = true)
    (l29 : K.lookup f29 = some ⟨oc29, od29, .func (PySem.W.fnOf "__init__" "NoMeeting.__init__" (defArgs s_NoMeeting___init) (defBody s_NoMeeting___init) (defScope s_NoMeeting___init) .none kV29 dc29 pm29 an29 cd29 ct29), sl29⟩)
    (c29 : PySem.W.codeIn K cd29 "NoMeeting.__init__" = true)
    (k29 : PySem.W.keepIn K (.ref f29) = true)
    (mC15 : PySem.W.nsIn K mainGlobals "BadWorld" = some (some (.ref C15)))
    (xLC15 : K.lookup C15 = some (excClassObj "BadWorld" qnC15 C15 NaC15 bsC15 [.ref CH, .type "ValueError", .type "Exception", .type "BaseException", .type "object"] true snC15 subC15 abC15 colC15 ddC15 x0C15 x1C15 x2C15 x3C15 x5C15 "ValueError.__new__"))
    (gaC15 : PySem.W.findIn K (.ref C15) "__getattribute__" = some (some (.builtin "BaseException.__getattribute__")))
    (ggC15 : PySem.W.findIn K (.ref C15) "__getattr__" = some none)
    (haC15 : PySem.W.findIn K (.ref C15) "__class__" = some (some (.builtin "object.__class__")))
    (kCC15 : PySem.W.keepIn K (.ref C15) = true)
    (saC15 : PySem.W.findIn K (.ref C15) "__setattr__" = some (some (.builtin "object.__setattr__")))
    (no_reason_C15 : PySem.W.findIn K (.ref C15) "reason" = some none)
    (a30 : PySem.W.findIn K (.ref C15) "__init__" = some (some (.ref f30)))
    (i30 : PySem.W.isFn K (.ref f30) = true)
    (l30 : K.lookup f30 = some ⟨oc30, od30, .func (PySem.W.fnOf "__init__" "BadWorld.__init__" (defArgs s_BadWorld___init) (defBody s_BadWorld___init) (defScope s_BadWorld___init) .none kV30 dc30 pm30 an30 cd30 ct30), sl30⟩)
    (c30 : PySem.W.codeIn K cd30 "BadWorld.__init__" = true)
    (k30 : PySem.W.keepIn K (.ref f30) = true)
    (mC16 : PySem.W.nsIn K mainGlobals "WorldTooLarge" = some (some (.ref C16)))
    (xLC16 : K.lookup C16 = some (excClassObj "WorldTooLarge" qnC16 C16 NaC16 bsC16 [.ref CH, .type "ValueError", .type "Exception", .type "BaseException", .type "object"] true snC16 subC16 abC16 colC16 ddC16 x0C16 x1C16 x2C16 x3C16 x5C16 "ValueError.__new__"))
    (gaC16 : PySem.W.findIn K (.ref C16) "__getattribute__" = some (some (.builtin "BaseException.__getattribute__")))
    (ggC16 : PySem.W.findIn K (.ref C16) "__getattr__" = some none)
    (haC16 : PySem.W.findIn K (.ref C16) "__class__" = some (some (.builtin "object.__class__")))
    (kCC16 : PySem.W.keepIn K (.ref C16) = true)
    (saC16 : PySem.W.findIn K (.ref C16) "__setattr__" = some (some (.builtin "object.__setattr__")))
    (no_limit_C16 : PySem.W.findIn K (.ref C16) "limit" = some none)
    (a31 : PySem.W.findIn K (.ref C16) "__init__" = some (some (.ref f31)))
    (i31 : PySem.W.isFn K (.ref f31) = true)
    (l31 : K.lookup f31 = some ⟨oc31, od31, .func (PySem.W.fnOf "__init__" "WorldTooLarge.__init__" (defArgs s_WorldTooLarge___init) (defBody s_WorldTooLarge___init) (defScope s_WorldTooLarge___init) .none kV31 dc31 pm31 an31 cd31 ct31), sl31⟩)
    (c31 : PySem.W.codeIn K cd31 "WorldTooLarge.__init__" = true)
    (k31 : PySem.W.keepIn K (.ref f31) = true)
    (mC17 : PySem.W.nsIn K mainGlobals "NoGoal" = some (some (.ref C17)))
    (xLC17 : K.lookup C17 = some (excClassObj "NoGoal" qnC17 C17 NaC17 bsC17 [.ref CH, .type "ValueError", .type "Exception", .type "BaseException", .type "object"] true snC17 subC17 abC17 colC17 ddC17 x0C17 x1C17 x2C17 x3C17 x5C17 "ValueError.__new__"))
    (gaC17 : PySem.W.findIn K (.ref C17) "__getattribute__" = some (some (.builtin "BaseException.__getattribute__")))
    (ggC17 : PySem.W.findIn K (.ref C17) "__getattr__" = some none)
    (haC17 : PySem.W.findIn K (.ref C17) "__class__" = some (some (.builtin "object.__class__")))
    (kCC17 : PySem.W.keepIn K (.ref C17) = true)
    (saC17 : PySem.W.findIn K (.ref C17) "__setattr__" = some (some (.builtin "object.__setattr__")))
    (no_number_C17 : PySem.W.findIn K (.ref C17) "number" = some none)
    (a32 : PySem.W.findIn K (.ref C17) "__init__" = some (some (.ref f32)))
    (i32 : PySem.W.isFn K (.ref f32) = true)
    (l32 : K.lookup f32 = some ⟨oc32, od32, .func (PySem.W.fnOf "__init__" "NoGoal.__init__" (defArgs s_NoGoal___init) (defBody s_NoGoal___init) (defScope s_NoGoal___init) .none kV32 dc32 pm32 an32 cd32 ct32), sl32⟩)
    (c32 : PySem.W.codeIn K cd32 "NoGoal.__init__" = true)
    (k32 : PySem.W.keepIn K (.ref f32) = true)
    (mC18 : PySem.W.nsIn K mainGlobals "GoalsLeft" = some (some (.ref C18)))
    (xLC18 : K.lookup C18 = some (excClassObj "GoalsLeft" qnC18 C18 NaC18 bsC18 [.ref CH, .type "ValueError", .type "Exception", .type "BaseException", .type "object"] true snC18 subC18 abC18 colC18 ddC18 x0C18 x1C18 x2C18 x3C18 x5C18 "ValueError.__new__"))
    (gaC18 : PySem.W.findIn K (.ref C18) "__getattribute__" = some (some (.builtin "BaseException.__getattribute__")))
    (ggC18 : PySem.W.findIn K (.ref C18) "__getattr__" = some none)
    (haC18 : PySem.W.findIn K (.ref C18) "__class__" = some (some (.builtin "object.__class__")))
    (kCC18 : PySem.W.keepIn K (.ref C18) = true)
    (saC18 : PySem.W.findIn K (.ref C18) "__setattr__" = some (some (.builtin "object.__setattr__")))
    (no_count_C18 : PySem.W.findIn K (.ref C18) "count" = some none)
    (a33 : PySem.W.findIn K (.ref C18) "__init__" = some (some (.ref f33)))
    (i33 : PySem.W.isFn K (.ref f33) = true)
    (l33 : K.lookup f33 = some ⟨oc33, od33, .func (PySem.W.fnOf "__init__" "GoalsLeft.__init__" (defArgs s_GoalsLeft___init) (defBody s_GoalsLeft___init) (defScope s_GoalsLeft___init) .none kV33 dc33 pm33 an33 cd33 ct33), sl33⟩)
    (c33 : PySem.W.codeIn K cd33 "GoalsLeft.__init__" = true)
    (k33 : PySem.W.keepIn K (.ref f33) = true)
    (mC19 : PySem.W.nsIn K mainGlobals "WrongGoal" = some (some (.ref C19)))
    (xLC19 : K.lookup C19 = some (excClassObj "WrongGoal" qnC19 C19 NaC19 bsC19 [.ref CH, .type "ValueError", .type "Exception", .type "BaseException", .type "object"] true snC19 subC19 abC19 colC19 ddC19 x0C19 x1C19 x2C19 x3C19 x5C19 "ValueError.__new__"))
    (gaC19 : PySem.W.findIn K (.ref C19) "__getattribute__" = some (some (.builtin "BaseException.__getattribute__")))
    (ggC19 : PySem.W.findIn K (.ref C19) "__getattr__" = some none)
    (haC19 : PySem.W.findIn K (.ref C19) "__class__" = some (some (.builtin "object.__class__")))
    (kCC19 : PySem.W.keepIn K (.ref C19) = true)
    (eiC19 : PySem.W.excIn K C19 bmVE "ValueError.__new__" = true)
    (mC20 : PySem.W.nsIn K mainGlobals "NotSimple" = some (some (.ref C20)))
    (xLC20 : K.lookup C20 = some (excClassObj "NotSimple" qnC20 C20 NaC20 bsC20 [.ref CH, .type "ValueError", .type "Exception", .type "BaseException", .type "object"] true snC20 subC20 abC20 colC20 ddC20 x0C20 x1C20 x2C20 x3C20 x5C20 "ValueError.__new__"))
    (gaC20 : PySem.W.findIn K (.ref C20) "__getattribute__" = some (some (.builtin "BaseException.__getattribute__")))
    (ggC20 : PySem.W.findIn K (.ref C20) "__getattr__" = some none)
    (haC20 : PySem.W.findIn K (.ref C20) "__class__" = some (some (.builtin "object.__class__")))
    (kCC20 : PySem.W.keepIn K (.ref C20) = true)
    (eiC20 : PySem.W.excIn K C20 bmVE "ValueError.__new__" = true)
    (mC21 : PySem.W.nsIn K mainGlobals "NotAlike" = some (some (.ref C21)))
    (xLC21 : K.lookup C21 = some (excClassObj "NotAlike" qnC21 C21 NaC21 bsC21 [.ref CH, .type "ValueError", .type "Exception", .type "BaseException", .type "object"] true snC21 subC21 abC21 colC21 ddC21 x0C21 x1C21 x2C21 x3C21 x5C21 "ValueError.__new__"))
    (gaC21 : PySem.W.findIn K (.ref C21) "__getattribute__" = some (some (.builtin "BaseException.__getattribute__")))
    (ggC21 : PySem.W.findIn K (.ref C21) "__getattr__" = some none)
    (haC21 : PySem.W.findIn K (.ref C21) "__class__" = some (some (.builtin "object.__class__")))
    (kCC21 : PySem.W.keepIn K (.ref C21) = true)
    (eiC21 : PySem.W.excIn K C21 bmVE "ValueError.__new__" = true)
    (mC22 : PySem.W.nsIn K mainGlobals "NotOnce" = some (some (.ref C22)))
    (xLC22 : K.lookup C22 = some (excClassObj "NotOnce" qnC22 C22 NaC22 bsC22 [.ref CH, .type "ValueError", .type "Exception", .type "BaseException", .type "object"] true snC22 subC22 abC22 colC22 ddC22 x0C22 x1C22 x2C22 x3C22 x5C22 "ValueError.__new__"))
    (gaC22 : PySem.W.findIn K (.ref C22) "__getattribute__" = some (some (.builtin "BaseException.__getattribute__")))
    (ggC22 : PySem.W.findIn K (.ref C22) "__getattr__" = some none)
    (haC22 : PySem.W.findIn K (.ref C22) "__class__" = some (some (.builtin "object.__class__")))
    (kCC22 : PySem.W.keepIn K (.ref C22) = true)
    (eiC22 : PySem.W.excIn K C22 bmVE "ValueError.__new__" = true)
    (mC23 : PySem.W.nsIn K mainGlobals "NotPlain" = some (some (.ref C23)))
    (xLC23 : K.lookup C23 = some (excClassObj "NotPlain" qnC23 C23 NaC23 bsC23 [.ref CH, .type "ValueError", .type "Exception", .type "BaseException", .type "object"] true snC23 subC23 abC23 colC23 ddC23 x0C23 x1C23 x2C23 x3C23 x5C23 "ValueError.__new__"))
    (gaC23 : PySem.W.findIn K (.ref C23) "__getattribute__" = some (some (.builtin "BaseException.__getattribute__")))
    (ggC23 : PySem.W.findIn K (.ref C23) "__getattr__" = some none)
    (haC23 : PySem.W.findIn K (.ref C23) "__class__" = some (some (.builtin "object.__class__")))
    (kCC23 : PySem.W.keepIn K (.ref C23) = true)
    (eiC23 : PySem.W.excIn K C23 bmVE "ValueError.__new__" = true)
    (mC24 : PySem.W.nsIn K mainGlobals "NothingToUndo" = some (some (.ref C24)))
    (xLC24 : K.lookup C24 = some (excClassObj "NothingToUndo" qnC24 C24 NaC24 bsC24 [.ref CH, .type "ValueError", .type "Exception", .type "BaseException", .type "object"] true snC24 subC24 abC24 colC24 ddC24 x0C24 x1C24 x2C24 x3C24 x5C24 "ValueError.__new__"))
    (gaC24 : PySem.W.findIn K (.ref C24) "__getattribute__" = some (some (.builtin "BaseException.__getattribute__")))
    (ggC24 : PySem.W.findIn K (.ref C24) "__getattr__" = some none)
    (haC24 : PySem.W.findIn K (.ref C24) "__class__" = some (some (.builtin "object.__class__")))
    (kCC24 : PySem.W.keepIn K (.ref C24) = true)
    (eiC24 : PySem.W.excIn K C24 bmVE "ValueError.__new__" = true)
    (mC25 : PySem.W.nsIn K mainGlobals "NothingToRedo" = some (some (.ref C25)))
    (xLC25 : K.lookup C25 = some (excClassObj "NothingToRedo" qnC25 C25 NaC25 bsC25 [.ref CH, .type "ValueError", .type "Exception", .type "BaseException", .type "object"] true snC25 subC25 abC25 colC25 ddC25 x0C25 x1C25 x2C25 x3C25 x5C25 "ValueError.__new__"))
    (gaC25 : PySem.W.findIn K (.ref C25) "__getattribute__" = some (some (.builtin "BaseException.__getattribute__")))
    (ggC25 : PySem.W.findIn K (.ref C25) "__getattr__" = some none)
    (haC25 : PySem.W.findIn K (.ref C25) "__class__" = some (some (.builtin "object.__class__")))
    (kCC25 : PySem.W.keepIn K (.ref C25) = true)
    (eiC25 : PySem.W.excIn K C25 bmVE "ValueError.__new__" = true)
    (hn : PySem.W.specialIn K (.builtin "object.__class__") "__get__" = some (some (.builtin "getset_descriptor.__get__")))
    (ht : PySem.W.takesIn K (.builtin "object.__class__") = some true) :
    ∃ fd : FuncData, (∀ (s : Shared) (v : Value), BindsTo s fd ⟨[v], []⟩ [("_law_script", v)]) ∧ ∀ base : Heap, K.In base → base.Ns mainGlobals mg → FnG l.prog w K mg base 84 fa fd ["_law_script"] (spLaw K) := by
  have e := hfa.symm.trans (PySem.W.mg_of X G a14)
  cases e
  have mIs := (PySem.W.mg_none_of X G z_isinstance)
  have mInt := (PySem.W.mg_none_of X G z_int)
  have mTup := (PySem.W.mg_none_of X G z_tuple)
  have mLen := (PySem.W.mg_none_of X G z_len)
  have mR := (PySem.W.mg_none_of X G z_range)
  have mAbs := (PySem.W.mg_none_of X G z_abs)
  have mRp := (PySem.W.mg_none_of X G z_repr)
  have mVE := (PySem.W.mg_none_of X G z_ValueError)
  have FL := fun_mk (st := s_law) l14 c14 k14
  have hH : ClL K "HeldError" CH [.type "ValueError", .type "Exception", .type "BaseException", .type "object"] := ⟨_, _, _, _, _, _, _, _, _, _, _, _, _, xLCH⟩
  have hL : ∀ k < 26, ClL K (nms.getD k "") ((fun k => ([C0, C1, C2, C3, C4, C5, C6, C7, C8, C9, C10, C11, C12, C13, C14, C15, C16, C17, C18, C19, C20, C21, C22, C23, C24, C25] : List Addr).getD k 0) k) (bmH CH) := fun k hk => match k, hk with
    | 0, _ => ⟨_, _, _, _, _, _, _, _, _, _, _, _, _, xLC0⟩
    | 1, _ => ⟨_, _, _, _, _, _, _, _, _, _, _, _, _, xLC1⟩
    | 2, _ => ⟨_, _, _, _, _, _, _, _, _, _, _, _, _, xLC2⟩
    | 3, _ => ⟨_, _, _, _, _, _, _, _, _, _, _, _, _, xLC3⟩
    | 4, _ => ⟨_, _, _, _, _, _, _, _, _, _, _, _, _, xLC4⟩
    | 5, _ => ⟨_, _, _, _, _, _, _, _, _, _, _, _, _, xLC5⟩
    | 6, _ => ⟨_, _, _, _, _, _, _, _, _, _, _, _, _, xLC6⟩
    | 7, _ => ⟨_, _, _, _, _, _, _, _, _, _, _, _, _, xLC7⟩
    | 8, _ => ⟨_, _, _, _, _, _, _, _, _, _, _, _, _, xLC8⟩
    | 9, _ => ⟨_, _, _, _, _, _, _, _, _, _, _, _, _, xLC9⟩
    | 10, _ => ⟨_, _, _, _, _, _, _, _, _, _, _, _, _, xLC10⟩
    | 11, _ => ⟨_, _, _, _, _, _, _, _, _, _, _, _, _, xLC11⟩
    | 12, _ => ⟨_, _, _, _, _, _, _, _, _, _, _, _, _, xLC12⟩
    | 13, _ => ⟨_, _, _, _, _, _, _, _, _, _, _, _, _, xLC13⟩
    | 14, _ => ⟨_, _, _, _, _, _, _, _, _, _, _, _, _, xLC14⟩
    | 15, _ => ⟨_, _, _, _, _, _, _, _, _, _, _, _, _, xLC15⟩
    | 16, _ => ⟨_, _, _, _, _, _, _, _, _, _, _, _, _, xLC16⟩
    | 17, _ => ⟨_, _, _, _, _, _, _, _, _, _, _, _, _, xLC17⟩
    | 18, _ => ⟨_, _, _, _, _, _, _, _, _, _, _, _, _, xLC18⟩
    | 19, _ => ⟨_, _, _, _, _, _, _, _, _, _, _, _, _, xLC19⟩
    | 20, _ => ⟨_, _, _, _, _, _, _, _, _, _, _, _, _, xLC20⟩
    | 21, _ => ⟨_, _, _, _, _, _, _, _, _, _, _, _, _, xLC21⟩
    | 22, _ => ⟨_, _, _, _, _, _, _, _, _, _, _, _, _, xLC22⟩
    | 23, _ => ⟨_, _, _, _, _, _, _, _, _, _, _, _, _, xLC23⟩
    | 24, _ => ⟨_, _, _, _, _, _, _, _, _, _, _, _, _, xLC24⟩
    | 25, _ => ⟨_, _, _, _, _, _, _, _, _, _, _, _, _, xLC25⟩
    | n + 26, h => absurd h (by omega)
  have fx : ∀ k < 26, Fx K ((fun k => ([C0, C1, C2, C3, C4, C5, C6, C7, C8, C9, C10, C11, C12, C13, C14, C15, C16, C17, C18, C19, C20, C21, C22, C23, C24, C25] : List Addr).getD k 0) k) := fun k hk => match k, hk with
    | 0, _ => ⟨gaC0, ggC0, haC0⟩
    | 1, _ => ⟨gaC1, ggC1, haC1⟩
    | 2, _ => ⟨gaC2, ggC2, haC2⟩
    | 3, _ => ⟨gaC3, ggC3, haC3⟩
    | 4, _ => ⟨gaC4, ggC4, haC4⟩
    | 5, _ => ⟨gaC5, ggC5, haC5⟩
    | 6, _ => ⟨gaC6, ggC6, haC6⟩
    | 7, _ => ⟨gaC7, ggC7, haC7⟩
    | 8, _ => ⟨gaC8, ggC8, haC8⟩
    | 9, _ => ⟨gaC9, ggC9, haC9⟩
    | 10, _ => ⟨gaC10, ggC10, haC10⟩
    | 11, _ => ⟨gaC11, ggC11, haC11⟩
    | 12, _ => ⟨gaC12, ggC12, haC12⟩
    | 13, _ => ⟨gaC13, ggC13, haC13⟩
    | 14, _ => ⟨gaC14, ggC14, haC14⟩
    | 15, _ => ⟨gaC15, ggC15, haC15⟩
    | 16, _ => ⟨gaC16, ggC16, haC16⟩
    | 17, _ => ⟨gaC17, ggC17, haC17⟩
    | 18, _ => ⟨gaC18, ggC18, haC18⟩
    | 19, _ => ⟨gaC19, ggC19, haC19⟩
    | 20, _ => ⟨gaC20, ggC20, haC20⟩
    | 21, _ => ⟨gaC21, ggC21, haC21⟩
    | 22, _ => ⟨gaC22, ggC22, haC22⟩
    | 23, _ => ⟨gaC23, ggC23, haC23⟩
    | 24, _ => ⟨gaC24, ggC24, haC24⟩
    | 25, _ => ⟨gaC25, ggC25, haC25⟩
    | n + 26, h => absurd h (by omega)
  have mgs : ∀ j < 26, mg (nms.getD j "") = some (.ref ((fun k => ([C0, C1, C2, C3, C4, C5, C6, C7, C8, C9, C10, C11, C12, C13, C14, C15, C16, C17, C18, C19, C20, C21, C22, C23, C24, C25] : List Addr).getD k 0) j)) := fun k hk => match k, hk with
    | 0, _ => PySem.W.mg_of X G mC0
    | 1, _ => PySem.W.mg_of X G mC1
    | 2, _ => PySem.W.mg_of X G mC2
    | 3, _ => PySem.W.mg_of X G mC3
    | 4, _ => PySem.W.mg_of X G mC4
    | 5, _ => PySem.W.mg_of X G mC5
    | 6, _ => PySem.W.mg_of X G mC6
    | 7, _ => PySem.W.mg_of X G mC7
    | 8, _ => PySem.W.mg_of X G mC8
    | 9, _ => PySem.W.mg_of X G mC9
    | 10, _ => PySem.W.mg_of X G mC10
    | 11, _ => PySem.W.mg_of X G mC11
    | 12, _ => PySem.W.mg_of X G mC12
    | 13, _ => PySem.W.mg_of X G mC13
    | 14, _ => PySem.W.mg_of X G mC14
    | 15, _ => PySem.W.mg_of X G mC15
    | 16, _ => PySem.W.mg_of X G mC16
    | 17, _ => PySem.W.mg_of X G mC17
    | 18, _ => PySem.W.mg_of X G mC18
    | 19, _ => PySem.W.mg_of X G mC19
    | 20, _ => PySem.W.mg_of X G mC20
    | 21, _ => PySem.W.mg_of X G mC21
    | 22, _ => PySem.W.mg_of X G mC22
    | 23, _ => PySem.W.mg_of X G mC23
    | 24, _ => PySem.W.mg_of X G mC24
    | 25, _ => PySem.W.mg_of X G mC25
    | n + 26, h => absurd h (by omega)
  have no : ∀ k < 19, ∀ f ∈ fld k, PySem.W.findIn K (.ref ((fun k => ([C0, C1, C2, C3, C4, C5, C6, C7, C8, C9, C10, C11, C12, C13, C14, C15, C16, C17, C18, C19, C20, C21, C22, C23, C24, C25] : List Addr).getD k 0) k)) f = some none := fun k hk => match k, hk with
    | 0, _ => (by intro f hf; simp [fld] at hf; subst hf; exact no_name_C0)
    | 1, _ => (by intro f hf; simp [fld] at hf; subst hf; exact no_name_C1)
    | 2, _ => (by intro f hf; simp [fld] at hf; subst hf; exact no_name_C2)
    | 3, _ => (by intro f hf; simp [fld] at hf; subst hf; exact no_name_C3)
    | 4, _ => (by intro f hf; simp [fld] at hf; subst hf; exact no_name_C4)
    | 5, _ => (by intro f hf; simp [fld] at hf; subst hf; exact no_name_C5)
    | 6, _ => (by intro f hf; simp [fld] at hf; subst hf; exact no_name_C6)
    | 7, _ => (by intro f hf; simp [fld] at hf; subst hf; exact no_name_C7)
    | 8, _ => (by intro f hf; simp [fld] at hf; subst hf; exact no_kind_C8)
    | 9, _ => (by intro f hf; simp [fld] at hf; subst hf; exact no_index_C9)
    | 10, _ => (by intro f hf; simp [fld] at hf; subst hf; exact no_path_C10)
    | 11, _ => (by intro f hf; simp [fld] at hf; subst hf; exact no_path_C11)
    | 12, _ => (by intro f hf; simp [fld] at hf; rcases hf with rfl | rfl <;> assumption)
    | 13, _ => (by intro f hf; simp [fld] at hf; rcases hf with rfl | rfl <;> assumption)
    | 14, _ => (by intro f hf; simp [fld] at hf; rcases hf with rfl | rfl | rfl <;> assumption)
    | 15, _ => (by intro f hf; simp [fld] at hf; subst hf; exact no_reason_C15)
    | 16, _ => (by intro f hf; simp [fld] at hf; subst hf; exact no_limit_C16)
    | 17, _ => (by intro f hf; simp [fld] at hf; subst hf; exact no_number_C17)
    | 18, _ => (by intro f hf; simp [fld] at hf; subst hf; exact no_count_C18)
    | n + 19, h => absurd h (by omega)
  have ecs := ec_of hn ht hL fx
  have kts := kt_of hL hH
  refine ⟨PySem.W.fnOf "law" "law" (defArgs s_law) (defBody s_law) (defScope s_law) .none kV14 dc14 pm14 an14 cd14 ct14, fun s v => .of_eq rfl, fun base _ _ => ?_⟩
  have R : Cs l.prog w K mg base (fun k => ([C0, C1, C2, C3, C4, C5, C6, C7, C8, C9, C10, C11, C12, C13, C14, C15, C16, C17, C18, C19, C20, C21, C22, C23, C24, C25] : List Addr).getD k 0) CH := ⟨ok_BadName (topM_mk a15 i15 l15 c15 k15) (oex_of (hL 0 (by decide)) saC0 kCC0) no_name_C0 (PySem.W.mg_of X G mC0), ok_NameTaken (topM_mk a16 i16 l16 c16 k16) (oex_of (hL 1 (by decide)) saC1 kCC1) no_name_C1 (PySem.W.mg_of X G mC1), ok_UnknownName (topM_mk a17 i17 l17 c17 k17) (oex_of (hL 2 (by decide)) saC2 kCC2) no_name_C2 (PySem.W.mg_of X G mC2), ok_InUse (topM_mk a18 i18 l18 c18 k18) (oex_of (hL 3 (by decide)) saC3 kCC3) no_name_C3 (PySem.W.mg_of X G mC3), ok_Circular (topM_mk a19 i19 l19 c19 k19) (oex_of (hL 4 (by decide)) saC4 kCC4) no_name_C4 (PySem.W.mg_of X G mC4), ok_NoRoom (topM_mk a20 i20 l20 c20 k20) (oex_of (hL 5 (by decide)) saC5 kCC5) no_name_C5 (PySem.W.mg_of X G mC5), ok_LeftOver (topM_mk a21 i21 l21 c21 k21) (oex_of (hL 6 (by decide)) saC6 kCC6) no_name_C6 (PySem.W.mg_of X G mC6), ok_WrongHold (topM_mk a22 i22 l22 c22 k22) (oex_of (hL 7 (by decide)) saC7 kCC7) no_name_C7 (PySem.W.mg_of X G mC7), ok_BadKind (topM_mk a23 i23 l23 c23 k23) (oex_of (hL 8 (by decide)) saC8 kCC8) no_kind_C8 (PySem.W.mg_of X G mC8), ok_TextError (topM_mk a24 i24 l24 c24 k24) (oex_of (hL 9 (by decide)) saC9 kCC9) no_index_C9 (PySem.W.mg_of X G mC9), ok_NoPart (topM_mk a25 i25 l25 c25 k25) (oex_of (hL 10 (by decide)) saC10 kCC10) no_path_C10 (PySem.W.mg_of X G mC10), ok_NotBare (topM_mk a26 i26 l26 c26 k26) (oex_of (hL 11 (by decide)) saC11 kCC11) no_path_C11 (PySem.W.mg_of X G mC11), ok_DerivationError (topM_mk a27 i27 l27 c27 k27) (oex_of (hL 12 (by decide)) saC12 kCC12) no_path_C12 no_reason_C12 (PySem.W.mg_of X G mC12), ok_NoStep (topM_mk a28 i28 l28 c28 k28) (oex_of (hL 13 (by decide)) saC13 kCC13) no_path_C13 no_way_C13 (PySem.W.mg_of X G mC13), ok_NoMeeting (topM_mk a29 i29 l29 c29 k29) (oex_of (hL 14 (by decide)) saC14 kCC14) no_name_C14 no_make_index_C14 no_open_index_C14 (PySem.W.mg_of X G mC14), ok_BadWorld (topM_mk a30 i30 l30 c30 k30) (oex_of (hL 15 (by decide)) saC15 kCC15) no_reason_C15 (PySem.W.mg_of X G mC15), ok_WorldTooLarge (topM_mk a31 i31 l31 c31 k31) (oex_of (hL 16 (by decide)) saC16 kCC16) no_limit_C16 (PySem.W.mg_of X G mC16), ok_NoGoal (topM_mk a32 i32 l32 c32 k32) (oex_of (hL 17 (by decide)) saC17 kCC17) no_number_C17 (PySem.W.mg_of X G mC17), ok_GoalsLeft (topM_mk a33 i33 l33 c33 k33) (oex_of (hL 18 (by decide)) saC18 kCC18) no_count_C18 (PySem.W.mg_of X G mC18), ⟨PySem.W.mg_of X G mC19, kCC19, eiC19, sub_typ (hL 19 (by decide)) (by simp), (hL 19 (by decide)).ty⟩, ⟨PySem.W.mg_of X G mC20, kCC20, eiC20, sub_typ (hL 20 (by decide)) (by simp), (hL 20 (by decide)).ty⟩, ⟨PySem.W.mg_of X G mC21, kCC21, eiC21, sub_typ (hL 21 (by decide)) (by simp), (hL 21 (by decide)).ty⟩, ⟨PySem.W.mg_of X G mC22, kCC22, eiC22, sub_typ (hL 22 (by decide)) (by simp), (hL 22 (by decide)).ty⟩, ⟨PySem.W.mg_of X G mC23, kCC23, eiC23, sub_typ (hL 23 (by decide)) (by simp), (hL 23 (by decide)).ty⟩, ⟨PySem.W.mg_of X G mC24, kCC24, eiC24, sub_typ (hL 24 (by decide)) (by simp), (hL 24 (by decide)).ty⟩, ⟨PySem.W.mg_of X G mC25, kCC25, eiC25, sub_typ (hL 25 (by decide)) (by simp), (hL 25 (by decide)).ty⟩,
    fun k hk => ⟨(fx k (by omega)).ga, (fx k (by omega)).gg, sub_typ (hL k (by omega)) (by simp), (hL k (by omega)).hd⟩, no, ecs, kts, mgs, PySem.W.mg_of X G mCH, fun k hk => kit_sub hH.hd hH.ty (sub_H (hL k hk)), fun k hk => kit_typ (sub_typ (hL k hk) (by simp))⟩
  have Fcell : Fn l.prog w K mg base 1 "_law_cell" (spCell K) := ok_cell (top_mk X G a0 l0 c0 k0) mLen mAbs
  have Fpool := ok_pool (top_mk X G a1 l1 c1 k1) Fcell mInt
  have Fnext : Fn l.prog w K mg base 1 "_law_next" spNext := ok_next (top_mk X G a2 l2 c2 k2) mInt
  have Ftext := ok_text (top_mk X G a3 l3 c3 k3) mR Fnext
  have Fnum := ok_num (top_mk X G a4 l4 c4 k4) Fnext
  have Fpath := ok_path (top_mk X G a5 l5 c5 k5) mR mTup Fnext
  have Fkind := ok_kind (top_mk X G a6 l6 c6 k6) Fnext Ftext Fnum
  have Fvals := ok_vals (top_mk X G a7 l7 c7 k7) Ftext Fnum Fpath Fkind
  have Fnamed := ok_named (top_mk X G a8 l8 c8 k8) R
  have Fplain := ok_plain (top_mk X G a9 l9 c9 k9) R
  have Fmade := ok_made (top_mk X G a10 l10 c10 k10) R Fnamed Fplain
  have Ffields := ok_fields (top_mk X G a11 l11 c11 k11) R
  have Fmarks := ok_marks (top_mk X G a12 l12 c12 k12) R mIs
  have Fdue := ok_due (top_mk X G a13 l13 c13 k13) R mIs mVE mR mRp Fmarks Ffields
  exact ok_law FL mR Fpool Fvals Fmade Fdue
theorem walk {l : PySem.W.OpenLaw} {q : Program} {loose : List Str} {XP : (Str → Option Value) → Heap → Prop} {YP : World → Heap → Prop} {d : DefRec} {K : Params → PySem.W.Frag} (hn : l.most = some 63) (hdf : d.params.defaults = [])
    (hY : ∀ (w : World) (h : Heap), YP w h → (K w.params).In h)
    (F : ∀ (w : World) (mg : Str → Option Value) (fa : Addr) (h : Heap), (K w.params).In h → h.Ns mainGlobals mg → mg d.name = some (.ref fa) →
      ∃ fd : FuncData, (∀ (s : Shared) (u : Value), BindsTo s fd ⟨[u], []⟩ [("_law_script", u)]) ∧ ∀ base : Heap, (K w.params).In base → base.Ns mainGlobals mg → FnG l.prog w (K w.params) mg base 84 fa fd ["_law_script"] (spLaw (K w.params))) :
    PySem.W.WalkO q loose XP YP l.row.toRowW d [] (fun f vs => PySem.call f vs) :=
  walk_ofG (n := 63) (k := 84) (x := "_law_script") (sp := fun w => spLaw (K w.params)) hn (by decide) hdf ⟨rfl, by decide, by decide⟩ hY F (fun _ _ a ns hl _ hS => ⟨a, ns, rfl, hS, hl, fun _ => rfl⟩)
end
end K65
open PySem PySem.W PyProof.Rows
set_option maxRecDepth 100000 in
set_option maxHeartbeats 0 in
theorem PySem.Challenge.cw_heldproofs_k65_errors_made_holds : PySem.Challenge.rw_heldproofs_k65_errors_made.Holds := by
  w_on; o_law; k_head; (case hw => w_witness2)
  k_fill
  refine K65.walk (l := PySem.Challenge.rw_heldproofs_k65_errors_made) rfl rfl (fun w h Y => PySem.W.kIn_of Y) ?F
  case F =>
    intro w mg fa h KX G hmg
    refine' K65.all_mk KX G hmg ?a0 ?l0 ?c0 ?k0 ?a1 ?l1 ?c1 ?k1 ?a2 ?l2 ?c2 ?k2 ?a3 ?l3 ?c3 ?k3 ?a4 ?l4 ?c4 ?k4 ?a5 ?l5 ?c5 ?k5 ?a6 ?l6 ?c6 ?k6 ?a7 ?l7 ?c7 ?k7 ?a8 ?l8 ?c8 ?k8 ?a9 ?l9 ?c9 ?k9 ?a10 ?l10 ?c10 ?k10 ?a11 ?l11 ?c11 ?k11 ?a12 ?l12 ?c12 ?k12 ?a13 ?l13 ?c13 ?k13 ?a14 ?l14 ?c14 ?k14 ?z_isinstance ?z_int ?z_tuple ?z_len ?z_range ?z_abs ?z_repr ?z_ValueError ?mCH ?xLCH ?mC0 ?xLC0 ?gaC0 ?ggC0 ?haC0 ?kCC0 ?saC0 ?no_name_C0 ?a15 ?i15 ?l15 ?c15 ?k15 ?mC1 ?xLC1 ?gaC1 ?ggC1 ?haC1 ?kCC1 ?saC1 ?no_name_C1 ?a16 ?i16 ?l16 ?c16 ?k16 ?mC2 ?xLC2 ?gaC2 ?ggC2 ?haC2 ?kCC2 ?saC2 ?no_name_C2 ?a17 ?i17 ?l17 ?c17 ?k17 ?mC3 ?xLC3 ?gaC3 ?ggC3 ?haC3 ?kCC3 ?saC3 ?no_name_C3 ?a18 ?i18 ?l18 ?c18 ?k18 ?mC4 ?xLC4 ?gaC4 ?ggC4 ?haC4 ?kCC4 ?saC4 ?no_name_C4 ?a19 ?i19 ?l19 ?c19 ?k19 ?mC5 ?xLC5 ?gaC5 ?ggC5 ?haC5 ?kCC5 ?saC5 ?no_name_C5 ?a20 ?i20 ?l20 ?c20 ?k20 ?mC6 ?xLC6 ?gaC6 ?ggC6 ?haC6 ?kCC6 ?saC6 ?no_name_C6 ?a21 ?i21 ?l21 ?c21 ?k21 ?mC7 ?xLC7 ?gaC7 ?ggC7 ?haC7 ?kCC7 ?saC7 ?no_name_C7 ?a22 ?i22 ?l22 ?c22 ?k22 ?mC8 ?xLC8 ?gaC8 ?ggC8 ?haC8 ?kCC8 ?saC8 ?no_kind_C8 ?a23 ?i23 ?l23 ?c23 ?k23 ?mC9 ?xLC9 ?gaC9 ?ggC9 ?haC9 ?kCC9 ?saC9 ?no_index_C9 ?a24 ?i24 ?l24 ?c24 ?k24 ?mC10 ?xLC10 ?gaC10 ?ggC10 ?haC10 ?kCC10 ?saC10 ?no_path_C10 ?a25 ?i25 ?l25 ?c25 ?k25 ?mC11 ?xLC11 ?gaC11 ?ggC11 ?haC11 ?kCC11 ?saC11 ?no_path_C11 ?a26 ?i26 ?l26 ?c26 ?k26 ?mC12 ?xLC12 ?gaC12 ?ggC12 ?haC12 ?kCC12 ?saC12 ?no_path_C12 ?no_reason_C12 ?a27 ?i27 ?l27 ?c27 ?k27 ?mC13 ?xLC13 ?gaC13 ?ggC13 ?haC13 ?kCC13 ?saC13 ?no_path_C13 ?no_way_C13 ?a28 ?i28 ?l28 ?c28 ?k28 ?mC14 ?xLC14 ?gaC14 ?ggC14 ?haC14 ?kCC14 ?saC14 ?no_name_C14 ?no_make_index_C14 ?no_open_index_C14 ?a29 ?i29 ?l29 ?c29 ?k29 ?mC15 ?xLC15 ?gaC15 ?ggC15 ?haC15 ?kCC15 ?saC15 ?no_reason_C15 ?a30 ?i30 ?l30 ?c30 ?k30 ?mC16 ?xLC16 ?gaC16 ?ggC16 ?haC16 ?kCC16 ?saC16 ?no_limit_C16 ?a31 ?i31 ?l31 ?c31 ?k31 ?mC17 ?xLC17 ?gaC17 ?ggC17 ?haC17 ?kCC17 ?saC17 ?no_number_C17 ?a32 ?i32 ?l32 ?c32 ?k32 ?mC18 ?xLC18 ?gaC18 ?ggC18 ?haC18 ?kCC18 ?saC18 ?no_count_C18 ?a33 ?i33 ?l33 ?c33 ?k33 ?mC19 ?xLC19 ?gaC19 ?ggC19 ?haC19 ?kCC19 ?eiC19 ?mC20 ?xLC20 ?gaC20 ?ggC20 ?haC20 ?kCC20 ?eiC20 ?mC21 ?xLC21 ?gaC21 ?ggC21 ?haC21 ?kCC21 ?eiC21 ?mC22 ?xLC22 ?gaC22 ?ggC22 ?haC22 ?kCC22 ?eiC22 ?mC23 ?xLC23 ?gaC23 ?ggC23 ?haC23 ?kCC23 ?eiC23 ?mC24 ?xLC24 ?gaC24 ?ggC24 ?haC24 ?kCC24 ?eiC24 ?mC25 ?xLC25 ?gaC25 ?ggC25 ?haC25 ?kCC25 ?eiC25 ?hn ?ht
    (case a0 => k_is)
    (case l0 => k_is)
    (case c0 => k_is)
    (case k0 => k_is)
    (case a1 => k_is)
    (case l1 => k_is)
    (case c1 => k_is)
    (case k1 => k_is)
    (case a2 => k_is)
    (case l2 => k_is)
    (case c2 => k_is)
    (case k2 => k_is)
    (case a3 => k_is)
    (case l3 => k_is)
    (case c3 => k_is)
    (case k3 => k_is)
    (case a4 => k_is)
    (case l4 => k_is)
    (case c4 => k_is)
    (case k4 => k_is)
    (case a5 => k_is)
    (case l5 => k_is)
    (case c5 => k_is)
    (case k5 => k_is)
    (case a6 => k_is)
    (case l6 => k_is)
    (case c6 => k_is)
    (case k6 => k_is)
    (case a7 => k_is)
    (case l7 => k_is)
    (case c7 => k_is)
    (case k7 => k_is)
    (case a8 => k_is)
    (case l8 => k_is)
    (case c8 => k_is)
    (case k8 => k_is)
    (case a9 => k_is)
    (case l9 => k_is)
    (case c9 => k_is)
    (case k9 => k_is)
    (case a10 => k_is)
    (case l10 => k_is)
    (case c10 => k_is)
    (case k10 => k_is)
    (case a11 => k_is)
    (case l11 => k_is)
    (case c11 => k_is)
    (case k11 => k_is)
    (case a12 => k_is)
    (case l12 => k_is)
    (case c12 => k_is)
    (case k12 => k_is)
    (case a13 => k_is)
    (case l13 => k_is)
    (case c13 => k_is)
    (case k13 => k_is)
    (case a14 => k_is)
    (case l14 => k_is)
    (case c14 => k_is)
    (case k14 => k_is)
    (case z_isinstance => k_is)
    (case z_int => k_is)
    (case z_tuple => k_is)
    (case z_len => k_is)
    (case z_range => k_is)
    (case z_abs => k_is)
    (case z_repr => k_is)
    (case z_ValueError => k_is)
    (case mCH => k_is)
    (case xLCH => k_is)
    (case mC0 => k_is)
    (case xLC0 => k_is)
    (case gaC0 => k_is)
    (case ggC0 => k_is)
    (case haC0 => k_is)
    (case kCC0 => k_is)
    (case saC0 => k_is)
    (case no_name_C0 => k_is)
    (case a15 => k_is)
    (case i15 => k_is)
    (case l15 => k_is)
    (case c15 => k_is)
    (case k15 => k_is)
    (case mC1 => k_is)
    (case xLC1 => k_is)
    (case gaC1 => k_is)
    (case ggC1 => k_is)
    (case haC1 => k_is)
    (case kCC1 => k_is)
    (case saC1 => k_is)
    (case no_name_C1 => k_is)
    (case a16 => k_is)
    (case i16 => k_is)
    (case l16 => k_is)
    (case c16 => k_is)
    (case k16 => k_is)
    (case mC2 => k_is)
    (case xLC2 => k_is)
    (case gaC2 => k_is)
    (case ggC2 => k_is)
    (case haC2 => k_is)
    (case kCC2 => k_is)
    (case saC2 => k_is)
    (case no_name_C2 => k_is)
    (case a17 => k_is)
    (case i17 => k_is)
    (case l17 => k_is)
    (case c17 => k_is)
    (case k17 => k_is)
    (case mC3 => k_is)
    (case xLC3 => k_is)
    (case gaC3 => k_is)
    (case ggC3 => k_is)
    (case haC3 => k_is)
    (case kCC3 => k_is)
    (case saC3 => k_is)
    (case no_name_C3 => k_is)
    (case a18 => k_is)
    (case i18 => k_is)
    (case l18 => k_is)
    (case c18 => k_is)
    (case k18 => k_is)
    (case mC4 => k_is)
    (case xLC4 => k_is)
    (case gaC4 => k_is)
    (case ggC4 => k_is)
    (case haC4 => k_is)
    (case kCC4 => k_is)
    (case saC4 => k_is)
    (case no_name_C4 => k_is)
    (case a19 => k_is)
    (case i19 => k_is)
    (case l19 => k_is)
    (case c19 => k_is)
    (case k19 => k_is)
    (case mC5 => k_is)
    (case xLC5 => k_is)
    (case gaC5 => k_is)
    (case ggC5 => k_is)
    (case haC5 => k_is)
    (case kCC5 => k_is)
    (case saC5 => k_is)
    (case no_name_C5 => k_is)
    (case a20 => k_is)
    (case i20 => k_is)
    (case l20 => k_is)
    (case c20 => k_is)
    (case k20 => k_is)
    (case mC6 => k_is)
    (case xLC6 => k_is)
    (case gaC6 => k_is)
    (case ggC6 => k_is)
    (case haC6 => k_is)
    (case kCC6 => k_is)
    (case saC6 => k_is)
    (case no_name_C6 => k_is)
    (case a21 => k_is)
    (case i21 => k_is)
    (case l21 => k_is)
    (case c21 => k_is)
    (case k21 => k_is)
    (case mC7 => k_is)
    (case xLC7 => k_is)
    (case gaC7 => k_is)
    (case ggC7 => k_is)
    (case haC7 => k_is)
    (case kCC7 => k_is)
    (case saC7 => k_is)
    (case no_name_C7 => k_is)
    (case a22 => k_is)
    (case i22 => k_is)
    (case l22 => k_is)
    (case c22 => k_is)
    (case k22 => k_is)
    (case mC8 => k_is)
    (case xLC8 => k_is)
    (case gaC8 => k_is)
    (case ggC8 => k_is)
    (case haC8 => k_is)
    (case kCC8 => k_is)
    (case saC8 => k_is)
    (case no_kind_C8 => k_is)
    (case a23 => k_is)
    (case i23 => k_is)
    (case l23 => k_is)
    (case c23 => k_is)
    (case k23 => k_is)
    (case mC9 => k_is)
    (case xLC9 => k_is)
    (case gaC9 => k_is)
    (case ggC9 => k_is)
    (case haC9 => k_is)
    (case kCC9 => k_is)
    (case saC9 => k_is)
    (case no_index_C9 => k_is)
    (case a24 => k_is)
    (case i24 => k_is)
    (case l24 => k_is)
    (case c24 => k_is)
    (case k24 => k_is)
    (case mC10 => k_is)
    (case xLC10 => k_is)
    (case gaC10 => k_is)
    (case ggC10 => k_is)
    (case haC10 => k_is)
    (case kCC10 => k_is)
    (case saC10 => k_is)
    (case no_path_C10 => k_is)
    (case a25 => k_is)
    (case i25 => k_is)
    (case l25 => k_is)
    (case c25 => k_is)
    (case k25 => k_is)
    (case mC11 => k_is)
    (case xLC11 => k_is)
    (case gaC11 => k_is)
    (case ggC11 => k_is)
    (case haC11 => k_is)
    (case kCC11 => k_is)
    (case saC11 => k_is)
    (case no_path_C11 => k_is)
    (case a26 => k_is)
    (case i26 => k_is)
    (case l26 => k_is)
    (case c26 => k_is)
    (case k26 => k_is)
    (case mC12 => k_is)
    (case xLC12 => k_is)
    (case gaC12 => k_is)
    (case ggC12 => k_is)
    (case haC12 => k_is)
    (case kCC12 => k_is)
    (case saC12 => k_is)
    (case no_path_C12 => k_is)
    (case no_reason_C12 => k_is)
    (case a27 => k_is)
    (case i27 => k_is)
    (case l27 => k_is)
    (case c27 => k_is)
    (case k27 => k_is)
    (case mC13 => k_is)
    (case xLC13 => k_is)
    (case gaC13 => k_is)
    (case ggC13 => k_is)
    (case haC13 => k_is)
    (case kCC13 => k_is)
    (case saC13 => k_is)
    (case no_path_C13 => k_is)
    (case no_way_C13 => k_is)
    (case a28 => k_is)
    (case i28 => k_is)
    (case l28 => k_is)
    (case c28 => k_is)
    (case k28 => k_is)
    (case mC14 => k_is)
    (case xLC14 => k_is)
    (case gaC14 => k_is)
    (case ggC14 => k_is)
    (case haC14 => k_is)
    (case kCC14 => k_is)
    (case saC14 => k_is)
    (case no_name_C14 => k_is)
    (case no_make_index_C14 => k_is)
    (case no_open_index_C14 => k_is)
    (case a29 => k_is)
    (case i29 => k_is)
    (case l29 => k_is)
    (case c29 => k_is)
    (case k29 => k_is)
    (case mC15 => k_is)
    (case xLC15 => k_is)
    (case gaC15 => k_is)
    (case ggC15 => k_is)
    (case haC15 => k_is)
    (case kCC15 => k_is)
    (case saC15 => k_is)
    (case no_reason_C15 => k_is)
    (case a30 => k_is)
    (case i30 => k_is)
    (case l30 => k_is)
    (case c30 => k_is)
    (case k30 => k_is)
    (case mC16 => k_is)
    (case xLC16 => k_is)
    (case gaC16 => k_is)
    (case ggC16 => k_is)
    (case haC16 => k_is)
    (case kCC16 => k_is)
    (case saC16 => k_is)
    (case no_limit_C16 => k_is)
    (case a31 => k_is)
    (case i31 => k_is)
    (case l31 => k_is)
    (case c31 => k_is)
    (case k31 => k_is)
    (case mC17 => k_is)
    (case xLC17 => k_is)
    (case gaC17 => k_is)
    (case ggC17 => k_is)
    (case haC17 => k_is)
    (case kCC17 => k_is)
    (case saC17 => k_is)
    (case no_number_C17 => k_is)
    (case a32 => k_is)
    (case i32 => k_is)
    (case l32 => k_is)
    (case c32 => k_is)
    (case k32 => k_is)
    (case mC18 => k_is)
    (case xLC18 => k_is)
    (case gaC18 => k_is)
    (case ggC18 => k_is)
    (case haC18 => k_is)
    (case kCC18 => k_is)
    (case saC18 => k_is)
    (case no_count_C18 => k_is)
    (case a33 => k_is)
    (case i33 => k_is)
    (case l33 => k_is)
    (case c33 => k_is)
    (case k33 => k_is)
    (case mC19 => k_is)
    (case xLC19 => k_is)
    (case gaC19 => k_is)
    (case ggC19 => k_is)
    (case haC19 => k_is)
    (case kCC19 => k_is)
    (case eiC19 => k_exc)
    (case mC20 => k_is)
    (case xLC20 => k_is)
    (case gaC20 => k_is)
    (case ggC20 => k_is)
    (case haC20 => k_is)
    (case kCC20 => k_is)
    (case eiC20 => k_exc)
    (case mC21 => k_is)
    (case xLC21 => k_is)
    (case gaC21 => k_is)
    (case ggC21 => k_is)
    (case haC21 => k_is)
    (case kCC21 => k_is)
    (case eiC21 => k_exc)
    (case mC22 => k_is)
    (case xLC22 => k_is)
    (case gaC22 => k_is)
    (case ggC22 => k_is)
    (case haC22 => k_is)
    (case kCC22 => k_is)
    (case eiC22 => k_exc)
    (case mC23 => k_is)
    (case xLC23 => k_is)
    (case gaC23 => k_is)
    (case ggC23 => k_is)
    (case haC23 => k_is)
    (case kCC23 => k_is)
    (case eiC23 => k_exc)
    (case mC24 => k_is)
    (case xLC24 => k_is)
    (case gaC24 => k_is)
    (case ggC24 => k_is)
    (case haC24 => k_is)
    (case kCC24 => k_is)
    (case eiC24 => k_exc)
    (case mC25 => k_is)
    (case xLC25 => k_is)
    (case gaC25 => k_is)
    (case ggC25 => k_is)
    (case haC25 => k_is)
    (case kCC25 => k_is)
    (case eiC25 => k_exc)
    (case hn => k_is)
    (case ht => k_is)
