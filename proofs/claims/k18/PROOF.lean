import PyProof.Rows.All
import Wide.All
import OpenK.AllK
import Wide.FinOn
import HandS.ForMost
import HandS.IsInst
import HandS.Codes
import HandS.ForExc
import HandS.ExcInit
import HandS.ExcField
import HandS.CallSlots
import HandS.TupLe
import KE.KExcIs
import HandS.Flt
import HandS.ExcCtx
import HandS.HotCalls
import HandS.ExcInitHot
import HandS.Text
import HandS.Iter
import HandS.Wide
import HandS.Defaults
import HandS.More
import HandS.Conv
import HandS.Deep
import HandS.Set
import HandS.SetFor
import HandS.Strs
import HandS.Rev
import HandS.TupSets
import HandS.DictComp
import HandS.Dict
import HandS.Finally
import HandS.Flow
import HandS.Style
import HandS.TupAny
import KE.GoesMore
import KE.GoesEnum
import HandS.Zip
import HandS.RevRange
import HandS.GenBody
import HandS.GenYield
import HandS.GenCall
import HandS.GenList
import KE.KDictZip
import HandS.WordsDict
import HandS.Sort
import KE.DataEq
import HandS.Ends
import PyProof.ReprRoads
import HandS.Small
import HandS.ExcIs
import PySem.Challenge.RW_heldproofs_k18_true_at_elements
set_option Elab.async false
set_option linter.all false
set_option maxRecDepth 100000
/-! My own layer over the hand layer: the weakest reading of a piece of syntax, and a rule a construct, chosen where the values are known. -/
namespace Wk
open PySem PySem.Spec PyProof.Rows L2
section
variable (X : Cx)
@[irreducible] def wE (e : Expr) : TE := fun σ H Q => ∀ (pins : List (Addr × Obj)) (s : Shared), Inv X pins σ H s → wpAny (model X.prog X.w) X.A (eval e X.env) (EP X pins σ Q) X.xe s
@[irreducible] def wT (e : Expr) : TT := fun σ H Q => ∀ (pins : List (Addr × Obj)) (s : Shared), Inv X pins σ H s → wpAny (model X.prog X.w) X.A (isTrue e X.env (eval e X.env)) (TP X pins σ Q) X.xe s
@[irreducible] def wW (e : Expr) : TT := fun σ H Q => ∀ (whole : Sem Value) (pins : List (Addr × Obj)) (s : Shared), Inv X pins σ H s → wpAny (model X.prog X.w) X.A (isTrue e X.env whole) (TP X pins σ Q) X.xe s
@[irreducible] def wA (es : List Expr) : TA := fun σ H Q => ∀ (pos : Pos) (pins : List (Addr × Obj)) (s : Shared), Inv X pins σ H s → wpAny (model X.prog X.w) X.A (spliced (backTo pos (starEach es X.env))) (AP X pins σ Q) X.xe s
@[irreducible] def wS (st : Stmt) : TS := fun D σ H => ∀ (pins : List (Addr × Obj)) (s : Shared), Inv X pins σ H s → wpAny (model X.prog X.w) X.A (exec st X.env) (SP X pins D) X.xe s
@[irreducible] def wL (st : List Stmt) : TS := fun D σ H => ∀ (pins : List (Addr × Obj)) (s : Shared), Inv X pins σ H s → wpAny (model X.prog X.w) X.A (execs st X.env) (SP X pins D) X.xe s
@[irreducible] def wO (f : Value → Value → Sem Value) : R2 := fun x y H Q => ∀ (pins : List (Addr × Obj)) (s : Shared) (σ : L2.St) (v u : Value), Inv X pins σ H s → RelV x v → RelV y u → wpAny (model X.prog X.w) X.A (f v u) (EP X pins σ Q) X.xe s
@[irreducible] def wB (op : Operator) : R2 := fun x y H Q => wO X (binaryOp op) x y H Q
@[irreducible] def wK (op : CmpOp) : R2 := fun x y H Q => wO X (compareOp op) x y H Q
@[irreducible] def wIx : R2 := fun x y H Q => ∀ (value slice : Expr) (pins : List (Addr × Obj)) (s : Shared) (σ : L2.St) (v u : Value), Inv X pins σ H s → RelV x v → RelV y u → subscripted slice false v u = operate [v, u] (getItem v u) → wpAny (model X.prog X.w) X.A (subscriptTail value slice v u) (EP X pins σ Q) X.xe s
@[irreducible] def wC (f : Value) : List V → Hp → VK → Prop := fun xs H Q => ∀ (pins : List (Addr × Obj)) (s : Shared) (σ : L2.St) (us : List Value), Inv X pins σ H s → Vals xs us → wpAny (model X.prog X.w) X.A (call f us) (EP X pins σ Q) X.xe s
@[irreducible] def wSet : V → V → V → Hp → (Hp → Prop) → Prop := fun o i v H Q => ∀ (pins : List (Addr × Obj)) (s : Shared) (σ : L2.St) (ov iv u : Value), Inv X pins σ H s → RelV o ov → RelV i iv → RelV v u → wpAny (model X.prog X.w) X.A (setItem ov iv u) (fun _ s' => ∃ H', Inv X pins σ H' s' ∧ Q H') X.xe s
end
section
variable {X : Cx} {e a b c : Expr} {es rest : List Expr} {st : Stmt} {sts : List Stmt} {σ : L2.St} {H : Hp} {Q : VK} {D : Ends} {pos p0 : Pos} {QT : Bool → Hp → Prop}
theorem pe : PE X e (wE X e) := ⟨fun pins s _ _ _ I h => by unfold wE at h; exact h pins s I⟩
theorem pt : PT X e (wT X e) := ⟨fun pins s _ _ _ I h => by unfold wT at h; exact h pins s I⟩
theorem pw : PW X e (wW X e) := ⟨fun wh pins s _ _ _ I h => by unfold wW at h; exact h wh pins s I⟩
theorem pa : PA X es (wA X es) := ⟨fun p pins s _ _ _ I h => by unfold wA at h; exact h p pins s I⟩
theorem ps : PS X st (wS X st) := ⟨fun pins s _ _ _ I h => by unfold wS at h; exact h pins s I⟩
theorem pl : PSs X sts (wL X sts) := ⟨fun pins s _ _ _ I h => by unfold wL at h; exact h pins s I⟩
theorem opr {f : Value → Value → Sem Value} : OpR X f (wO X f) := fun pins s σ _ _ _ v u _ I rx ry h => by unfold wO at h; exact h pins s σ v u I rx ry
theorem opb {op : Operator} : OpR X (binaryOp op) (wB X op) := fun pins s σ _ _ _ v u _ I rx ry h => by unfold wB at h; exact opr pins s σ _ _ _ v u _ I rx ry h
theorem opk {op : CmpOp} : OpR X (compareOp op) (wK X op) := fun pins s σ _ _ _ v u _ I rx ry h => by unfold wK at h; exact opr pins s σ _ _ _ v u _ I rx ry h
theorem ixr : IxR X (wIx X) := fun va sl pins s σ _ _ _ v u _ I rx ry h hs => by unfold wIx at h; exact h va sl pins s σ v u I rx ry hs
theorem cr {f : Value} : CallR X f (wC X f) := fun pins s σ _ _ us _ I r h => by unfold wC at h; exact h pins s σ us I r
theorem pset : PSet X (wSet X) := fun pins s σ _ _ _ _ ov iv u _ I ro ri rv h => by unfold wSet at h; exact h pins s σ ov iv u I ro ri rv
theorem e_of {t : TE} (h : PE X e t) (q : t σ H Q) : wE X e σ H Q := by unfold wE; exact fun pins s I => h.run pins s σ H Q I q
theorem t_of {t : TT} (h : PT X e t) (q : t σ H QT) : wT X e σ H QT := by unfold wT; exact fun pins s I => h.run pins s σ H QT I q
theorem w_of {t : TT} (h : PW X e t) (q : t σ H QT) : wW X e σ H QT := by unfold wW; exact fun wh pins s I => h.run wh pins s σ H QT I q
theorem a_of {t : TA} {QA : List V → Hp → Prop} (h : PA X es t) (q : t σ H QA) : wA X es σ H QA := by unfold wA; exact fun p pins s I => h.run p pins s σ H QA I q
theorem s_of {t : TS} (h : PS X st t) (q : t D σ H) : wS X st D σ H := by unfold wS; exact fun pins s I => h.run pins s σ H D I q
theorem l_of {t : TS} (h : PSs X sts t) (q : t D σ H) : wL X sts D σ H := by unfold wL; exact fun pins s I => h.run pins s σ H D I q
theorem o_of {f : Value → Value → Sem Value} {r : R2} {x y : V} (h : OpR X f r) (q : r x y H Q) : wO X f x y H Q := by unfold wO; exact fun pins s σ v u I rx ry => h pins s σ H x y v u Q I rx ry q
theorem b_of {op : Operator} {r : R2} {x y : V} (h : OpR X (binaryOp op) r) (q : r x y H Q) : wB X op x y H Q := by unfold wB; exact o_of h q
theorem k_of {op : CmpOp} {r : R2} {x y : V} (h : OpR X (compareOp op) r) (q : r x y H Q) : wK X op x y H Q := by unfold wK; exact o_of h q
theorem ix_of {r : R2} {x y : V} (h : IxR X r) (q : r x y H Q) : wIx X x y H Q := by unfold wIx; exact fun va sl pins s σ v u I rx ry hs => h va sl pins s σ H x y v u Q I rx ry q hs
theorem c_of {f : Value} {r : List V → Hp → VK → Prop} {xs : List V} (h : CallR X f r) (q : r xs H Q) : wC X f xs H Q := by unfold wC; exact fun pins s σ us I r => h pins s σ H xs us Q I r q
theorem set_of {t : V → V → V → Hp → (Hp → Prop) → Prop} {o i v : V} {QH : Hp → Prop} (h : PSet X t) (q : t o i v H QH) : wSet X o i v H QH := by unfold wSet; exact fun pins s σ ov iv u I ro ri rv => h pins s σ H o i v ov iv u QH I ro ri rv q

theorem e_mono {Q' : VK} (q : wE X e σ H Q) (h : ∀ v H1, Q v H1 → Q' v H1) : wE X e σ H Q' := by
  unfold wE at q ⊢
  exact fun pins s I => wpAny_mono (q pins s I) (fun _ _ ⟨v, H1, I1, r, z⟩ => ⟨v, H1, I1, r, h v H1 z⟩) fun _ _ z => z
theorem a_mono {QA QA' : List V → Hp → Prop} (q : wA X es σ H QA) (h : ∀ v H1, QA v H1 → QA' v H1) : wA X es σ H QA' := by
  unfold wA at q ⊢
  exact fun pp pins s I => wpAny_mono (q pp pins s I) (fun _ _ ⟨v, H1, I1, r, z⟩ => ⟨v, H1, I1, r, h v H1 z⟩) fun _ _ z => z

end
/-- where a name stands in a list; found by its spelling -/
inductive At {α : Type} : List α → Nat → α → Prop where
  | z {x : α} {l : List α} : At (x :: l) 0 x
  | s {x y : α} {l : List α} {i : Nat} (h : At l i x) : At (y :: l) (i + 1) x
theorem At.get {α : Type} {l : List α} {i : Nat} {x : α} (h : At l i x) : l[i]? = some x := by
  induction h with
  | z => rfl
  | s _ ih => simpa using ih
theorem At.mem {α : Type} {l : List α} {i : Nat} {x : α} (h : At l i x) : x ∈ l := List.mem_of_getElem? h.get
instance locDec {sc : Scope} {x : Str} : Decidable (Loc sc x) := inferInstanceAs (Decidable (_ ∨ _))
/-- a def's names: its own, in their slots, and the global ones -/
structure ScOk (N G : List Str) (sc : Scope) : Prop where
  nd : N.Nodup
  lo : ∀ x ∈ N, Loc sc x ∧ (x == ("__debug__" : Str)) = false ∧ (x == ("__classdict__" : Str)) = false
  gl : ∀ x ∈ G, sc.names.lookup x = some .globalImplicit ∧ (x == ("__debug__" : Str)) = false ∧ x ≠ "__name__"
/-- the body that the proof stands in -/
structure In (X : Cx) (N G : List Str) (sc : Scope) : Prop where
  ok : ScOk N G sc
  n : ∃ C, X.N = N ++ C
  nd : X.N.Nodup
  sc : X.env.scope = sc
  fn : X.fn = fun _ => true
  nev : PassesOwn (model X.prog X.w) X.A X.env X.xe
section
variable {X : Cx} {e a b c : Expr} {es rest : List Expr} {st : Stmt} {sts : List Stmt} {σ : L2.St} {H : Hp} {Q : VK} {D : Ends} {pos p0 : Pos} {QT : Bool → Hp → Prop} {N G : List Str} {sc : Scope}
theorem In.loc (I : In X N G sc) {i : Nat} {x : Str} (h : At N i x) : Loc X.env.scope x := by rw [I.sc]; exact (I.ok.lo x h.mem).1
theorem In.vis (I : In X N G sc) {i : Nat} {x : Str} (h : At N i x) : Vis X.env.scope x := by
  rcases I.loc h with z | z
  · exact .inl z
  · exact .inr (.inl z)
theorem In.hi (I : In X N G sc) {i : Nat} {x : Str} (h : At N i x) : X.N[i]? = some x := by
  obtain ⟨C, e⟩ := I.n
  have hl : i < N.length := by
    have := h.get
    exact (List.getElem?_eq_some_iff.mp this).1
  rw [e, List.getElem?_append_left hl]
  exact h.get
theorem In.f (I : In X N G sc) {x : Str} : X.fn x = true ∨ X.env.scope.names.lookup x = some .local := .inl (by rw [I.fn])
theorem In.g (I : In X N G sc) {i : Nat} {x : Str} (h : At G i x) : Gl X x := by
  show X.env.scope.names.lookup x = _
  rw [I.sc]
  exact (I.ok.gl x h.mem).1
theorem In.gd (I : In X N G sc) {i : Nat} {x : Str} (h : At G i x) : (x == ("__debug__" : Str)) = false := (I.ok.gl x h.mem).2.1
theorem In.gn (I : In X N G sc) {i : Nat} {x : Str} (h : At G i x) : x ≠ "__name__" := (I.ok.gl x h.mem).2.2
theorem In.never (I : In X N G sc) : PassesOwn (model X.prog X.w) X.A X.env X.xe := I.nev

/-! ### statements -/
theorem l_nil {nx : L2.St → Hp → Prop} {rt : VK} {bk ct : L2.St → Hp → Prop} (q : nx σ H) : wL X [] ⟨nx, rt, bk, ct⟩ σ H := l_of pss_nil q
theorem l_cons {nx : L2.St → Hp → Prop} {rt : VK} {bk ct : L2.St → Hp → Prop} (q : wS X st ⟨fun σ' H' => wL X sts ⟨nx, rt, bk, ct⟩ σ' H', rt, bk, ct⟩ σ H) : wL X (st :: sts) ⟨nx, rt, bk, ct⟩ σ H := l_of (pss_cons ps pl) q
theorem s_set {nx : L2.St → Hp → Prop} {rt : VK} {bk ct : L2.St → Hp → Prop} {i : Nat} {x : Str} {pos' : Pos} (q : wE X e σ H fun v H' => nx (σ.set i (some v)) H') (I : In X N G sc := by assumption) (hA : At N i x := by repeat (first | with_reducible apply At.z | with_reducible apply At.s)) (hs : swapsWith e (some (.Name x pos')) pos.line X.env = pure false := by rfl) :
    wS X (.Assign [.Name x pos'] e pos) ⟨nx, rt, bk, ct⟩ σ H := s_of (ps_set I.nd (I.hi hA) (I.loc hA) pe hs I.f) q
theorem s_ret {nx : L2.St → Hp → Prop} {rt : VK} {bk ct : L2.St → Hp → Prop} (q : wE X e σ H rt) : wS X (.Return (some e) pos) ⟨nx, rt, bk, ct⟩ σ H := s_of (ps_ret pe) q
theorem s_retN {nx : L2.St → Hp → Prop} {rt : VK} {bk ct : L2.St → Hp → Prop} (q : rt .non H) : wS X (.Return none pos) ⟨nx, rt, bk, ct⟩ σ H := s_of ps_retN q
theorem s_pass {nx : L2.St → Hp → Prop} {rt : VK} {bk ct : L2.St → Hp → Prop} (q : nx σ H) : wS X (.Pass pos) ⟨nx, rt, bk, ct⟩ σ H := s_of ps_pass q
theorem s_brk {nx : L2.St → Hp → Prop} {rt : VK} {bk ct : L2.St → Hp → Prop} (q : bk σ H) : wS X (.Break pos) ⟨nx, rt, bk, ct⟩ σ H := s_of ps_break q
theorem s_cnt {nx : L2.St → Hp → Prop} {rt : VK} {bk ct : L2.St → Hp → Prop} (q : ct σ H) : wS X (.Continue pos) ⟨nx, rt, bk, ct⟩ σ H := s_of ps_continue q
theorem s_expr {nx : L2.St → Hp → Prop} {rt : VK} {bk ct : L2.St → Hp → Prop} (q : wE X e σ H fun _ H' => nx σ H') (hs : swapsWith e none pos.line X.env = pure false := by rfl) : wS X (.Expr e pos) ⟨nx, rt, bk, ct⟩ σ H := s_of (ps_expr pe hs) q
theorem s_if {nx : L2.St → Hp → Prop} {rt : VK} {bk ct : L2.St → Hp → Prop} {A B : List Stmt} (q : wT X c σ H fun k H1 => if k = true then wL X A ⟨nx, rt, bk, ct⟩ σ H1 else wL X B ⟨nx, rt, bk, ct⟩ σ H1) : wS X (.If c A B pos) ⟨nx, rt, bk, ct⟩ σ H := s_of (ps_if pt pl pl) q
theorem s_fld {nx : L2.St → Hp → Prop} {rt : VK} {bk ct : L2.St → Hp → Prop} {o value : Expr} {f : Str} {pos' : Pos} (q : wE X value σ H fun y H1 => wE X o σ H1 fun x H2 => ∃ a C dx fs, x = .ref a ∧ H2 a = some (.ins C dx fs) ∧ Cls X.K C ∧ NoAttr X.K C f ∧ fs.length < 1000 ∧ nx σ (upd H2 a (.ins C dx (putF f y fs))))
    (hs : swapsWith value (some (.Attribute o f pos')) pos.line X.env = pure false := by rfl) : wS X (.Assign [.Attribute o f pos'] value pos) ⟨nx, rt, bk, ct⟩ σ H := s_of (ps_fld pe pe hs) q
/-- o[i] = v -/
theorem s_sub {nx : L2.St → Hp → Prop} {rt : VK} {bk ct : L2.St → Hp → Prop} {o i value : Expr} {pos' : Pos} (q : wE X value σ H fun v H1 => wE X o σ H1 fun x H2 => wE X i σ H2 fun y H3 => wSet X x y v H3 fun H4 => nx σ H4)
    (hs : swapsWithSole [.Subscript o i pos'] value pos.line X.env = pure false := by rfl) (hw : swappedStores [.Subscript o i pos'] value X.env = pure none := by rfl) (h1 : (assignEach [.Subscript o i pos'] X.env).map (·.2) = [assign (.Subscript o i pos') X.env] := by rfl)
    (ha : ∀ v, assign (.Subscript o i pos') X.env v = (do let ov ← holding [v] (eval o X.env); let iv ← holding [v, ov] (eval i X.env); standAt pos'; holding [v, ov, iv] (setItem ov iv v); release [v, ov, iv] []) := by intro _; rfl) : wS X (.Assign [.Subscript o i pos'] value pos) ⟨nx, rt, bk, ct⟩ σ H := s_of (ps_asg pe (pg_sub pe pe pset ha) hs hw h1) q
/-- two names from a tuple -/
theorem s_tup2 {nx : L2.St → Hp → Prop} {rt : VK} {bk ct : L2.St → Hp → Prop} {i j : Nat} {x y : Str} {k : Nat} {px py pt : Pos} (q : wE X e σ H fun v H1 => ∃ a u w, v = .ref a ∧ SqT X.K H1 a [u, w] ∧ nx ((σ.set i (some u)).set j (some w)) H1)
    (I : In X N G sc := by assumption) (hc : X.calm = true := by rfl) (hA : At N i x := by repeat (first | with_reducible apply At.z | with_reducible apply At.s)) (hB : At N j y := by repeat (first | with_reducible apply At.z | with_reducible apply At.s))
    (hs : swapsWithSole [.Tuple [.Name x px, .Name y py] k pt] e pos.line X.env = pure false := by rfl) (hw : swappedStores [.Tuple [.Name x px, .Name y py] k pt] e X.env = pure none := by rfl) (h1 : (assignEach [.Tuple [.Name x px, .Name y py] k pt] X.env).map (·.2) = [assign (.Tuple [.Name x px, .Name y py] k pt) X.env] := by rfl) :
    wS X (.Assign [.Tuple [.Name x px, .Name y py] k pt] e pos) ⟨nx, rt, bk, ct⟩ σ H := by
  refine s_of (ps_asg pe (pg_tup hc (pgs_cons (pg_name I.nd (I.hi hA) (I.loc hA) I.f) (pgs_cons (pg_name I.nd (I.hi hB) (I.loc hB) I.f) pgs_nil))) hs hw h1) (e_mono q fun v H1 q1 => ?_)
  obtain ⟨ad, u, w, ev, hq, q2⟩ := q1
  exact ⟨ad, [u, w], ev, hq, rfl, u, [w], rfl, w, [], rfl, rfl, q2⟩
/-! ### expressions -/
theorem e_var {i : Nat} {x : Str} {v : V} (q : Q v H) (I : In X N G sc := by assumption) (hA : At N i x := by repeat (first | with_reducible apply At.z | with_reducible apply At.s)) (hσ : σ[i]? = some (some v) := by exact rfl) : wE X (.Name x pos) σ H Q :=
  e_of (pe_var (I.hi hA) (I.vis hA) (I.ok.lo x hA.mem).2.1 (I.ok.lo x hA.mem).2.2) ⟨v, hσ, q⟩
theorem e_int {i : Int} {j} (q : Q (.int i) H) : wE X (.Constant (.int i) j pos) σ H Q := e_of pe_int q
theorem e_bl {k : Bool} {j} (q : Q (.bl k) H) : wE X (.Constant (.bool k) j pos) σ H Q := e_of pe_bl q
theorem e_non {j} (q : Q .non H) : wE X (.Constant .none j pos) σ H Q := e_of pe_non q
theorem e_str {x : Str} {j} (q : Q (.str x) H) : wE X (.Constant (.str x) j pos) σ H Q := e_of pe_str q
theorem e_bin {op : Operator} (q : wE X a σ H fun x H1 => wE X b σ H1 fun y H2 => wB X op x y H2 Q) : wE X (.BinOp a op b pos) σ H Q := e_of (pe_op opb pe pe) q
theorem e_cmp {op : CmpOp} (q : wE X a σ H fun x H1 => wE X b σ H1 fun y H2 => wK X op x y H2 Q) (hm : behindInMarks op b = false := by first | exact nomark _ | rfl) : wE X (.Compare a [op] [b] pos) σ H Q := e_of (pe_cmpR opk pe pe hm) q
theorem t_cmp {op : CmpOp} (q : wE X a σ H fun x H1 => wE X b σ H1 fun y H2 => wK X op x y H2 fun z H3 => ∃ k, z = .bl k ∧ QT k H3) (hm : behindInMarks op b = false := by first | exact nomark _ | rfl) : wT X (.Compare a [op] [b] pos) σ H QT := t_of (pt_cmpR opk pe pe hm) q
theorem t_val (q : wE X e σ H fun z H3 => ∃ k, z = .bl k ∧ QT k H3) (he : ∀ whole, isTrue e X.env whole = (do let v ← whole; standAt e.pos; holding [v] (truthy v)) := by intro _; rfl) : wT X e σ H QT := t_of (pt_val pe he) q
theorem t_not (q : wT X a σ H fun k H1 => QT (!k) H1) : wT X (.UnaryOp .Not a pos) σ H QT := t_of (pt_not pt) q
theorem t_w (q : wW X e σ H QT) : wT X e σ H QT := t_of pw.pt q
theorem w_and1 (q : wT X a σ H QT) : wW X (.BoolOp .And [a] pos) σ H QT := w_of (pw_and1 pt) q
theorem w_or1 (q : wT X a σ H QT) : wW X (.BoolOp .Or [a] pos) σ H QT := w_of (pw_or1 pt) q
theorem w_and (q : wT X a σ H fun k H1 => if k = true then wW X (.BoolOp .And (b :: rest) pos) σ H1 QT else QT false H1) : wW X (.BoolOp .And (a :: b :: rest) pos) σ H QT := w_of (pw_and pt pw) q
theorem w_or (q : wT X a σ H fun k H1 => if k = true then QT true H1 else wW X (.BoolOp .Or (b :: rest) pos) σ H1 QT) : wW X (.BoolOp .Or (a :: b :: rest) pos) σ H QT := w_of (pw_or pt pw) q
theorem e_one {op} (q : wE X a σ H Q) : wE X (.BoolOp op [a] pos) σ H Q := e_of (pe_one pe) q
theorem e_and (q : wE X a σ H fun x H1 => ∃ k, x = .bl k ∧ if k = true then wE X (.BoolOp .And (b :: rest) pos) σ H1 Q else Q (.bl false) H1) : wE X (.BoolOp .And (a :: b :: rest) pos) σ H Q := e_of (pe_and pe pe) q
theorem e_or (q : wE X a σ H fun x H1 => ∃ k, x = .bl k ∧ if k = true then Q (.bl true) H1 else wE X (.BoolOp .Or (b :: rest) pos) σ H1 Q) : wE X (.BoolOp .Or (a :: b :: rest) pos) σ H Q := e_of (pe_or pe pe) q
theorem e_not (q : wE X a σ H fun x H1 => ∃ k, x = .bl k ∧ Q (.bl (!k)) H1) : wE X (.UnaryOp .Not a pos) σ H Q := e_of (pe_not pe) q
theorem e_ifExp (q : wT X c σ H fun k H1 => if k = true then wE X a σ H1 Q else wE X b σ H1 Q) : wE X (.IfExp c a b pos) σ H Q := e_of (pe_ifExp pt pe pe) q
theorem e_ix (q : wE X a σ H fun x H1 => wE X b σ H1 fun y H2 => wIx X x y H2 Q) (hs : PlainIx b := by intro _ _; rfl) : wE X (.Subscript a b pos) σ H Q := e_of (pe_ix ixr pe pe hs) q
theorem e_fld {f : Str} (q : wE X e σ H fun x H1 => ∃ a C dx fs v, x = .ref a ∧ H1 a = some (.ins C dx fs) ∧ Cls X.K C ∧ NoAttr X.K C f ∧ fs.lookup f = some v ∧ Q v H1) (hb : attributeBase e f X.env (eval e X.env) = eval e X.env := by rfl) : wE X (.Attribute e f pos) σ H Q := e_of (pe_fld pe hb) q
theorem a_nil {QA : List V → Hp → Prop} (q : QA [] H) : wA X [] σ H QA := a_of pa_nil q
theorem a_cons {QA : List V → Hp → Prop} (q : wE X e σ H fun x H1 => wA X es σ H1 fun xs H2 => QA (x :: xs) H2) (hs : starEach (e :: es) X.env = (false, eval e X.env) :: starEach es X.env := by rfl) : wA X (e :: es) σ H QA := a_of (pa_cons pe pa hs) q
theorem e_tup {k} (q : wA X es σ H fun xs H1 => xs.length ≤ sizeLine ∧ ∀ p H2, Same H1 H2 → H1 p = none → H2 p = some (.tup xs) → Q (.ref p) H2) : wE X (.Tuple es k pos) σ H Q :=
  e_of (pe_tup pa) (a_mono q fun xs H1 z => ⟨z.1, fun p np => z.2 p _ (fun b o eo => by rw [upd_ne (ne_of_none eo np)]; exact eo) np upd_same⟩)
theorem e_lst (q : wA X es σ H fun xs H1 => xs.length ≤ sizeLine ∧ ∀ p H2, Same H1 H2 → H1 p = none → H2 p = some (.lst xs) → Q (.ref p) H2) : wE X (.List es pos) σ H Q :=
  e_of (pe_lst pa) (a_mono q fun xs H1 z => ⟨z.1, fun p np => z.2 p _ (fun b o eo => by rw [upd_ne (ne_of_none eo np)]; exact eo) np upd_same⟩)
/-! ### calls -/
/-- a def of the module that no exception leaves -/
structure Fn (P : Program) (w : World) (K : PySem.W.Frag) (mg : Str → Option Value) (base : Heap) (k : Nat) (x : Str) (sp : Sp) : Prop where
  ex : ∃ (f : Addr) (fd : FuncData) (ps : List Str), FnOk P w K mg base CX0 k f fd ps sp ∧ mg x = some (.ref f) ∧ PySem.W.keepIn K (.ref f) = true ∧ Binds K fd ps []
theorem e_call {g : Nat} {k n : Nat} {x : Str} {sp : Sp} (F : Fn X.prog X.w X.K X.mg X.base k x sp) (hr : Room n X.A) (hk : k ≤ n) (q : wA X (e :: es) σ H fun vs H1 => sp vs H1 Q E0) (I : In X N G sc := by assumption) (hG : At G g x := by repeat (first | with_reducible apply At.z | with_reducible apply At.s))
    (he : starEach (e :: es) X.env = (false, eval e X.env) :: starEach es X.env := by rfl) (hpl : (backTo pos (starEach es X.env)).any (·.1) = false := by rfl) : wE X (.Call (.Name x p0) (e :: es) [] pos) σ H Q := by
  obtain ⟨f, fd, ps, F0, hm, hkp, hb⟩ := F.ex
  refine e_of (pe_call F0 (hr.mono hk) (I.g hG) hm hkp hb .nil pass0 pa (I.gd hG) he hpl) ?_
  show wA X (e :: es) σ H fun vs H1 => sp (vs ++ []) H1 Q E0
  simp only [List.append_nil]
  exact q
theorem e_call0 {g : Nat} {k n : Nat} {x : Str} {sp : Sp} (F : Fn X.prog X.w X.K X.mg X.base k x sp) (hr : Room n X.A) (hk : k ≤ n) (q : sp [] H Q E0) (I : In X N G sc := by assumption) (hG : At G g x := by repeat (first | with_reducible apply At.z | with_reducible apply At.s)) : wE X (.Call (.Name x p0) [] [] pos) σ H Q := by
  obtain ⟨f, fd, ps, F0, hm, hkp, hb⟩ := F.ex
  exact e_of (pe_call0 F0 (hr.mono hk) (I.g hG) hm hkp hb .nil pass0 (I.gd hG)) q
theorem e_callB {g : Nat} {x : Str} {id : String} (hm : X.mg x = none) (hv : bootBuiltins x = some (.builtin id)) (q : wA X (e :: es) σ H fun vs H1 => wC X (.builtin id) vs H1 Q) (I : In X N G sc := by assumption) (hG : At G g x := by repeat (first | with_reducible apply At.z | with_reducible apply At.s))
    (he : starEach (e :: es) X.env = (false, eval e X.env) :: starEach es X.env := by rfl) (hpl : (backTo pos (starEach es X.env)).any (·.1) = false := by rfl) : wE X (.Call (.Name x p0) (e :: es) [] pos) σ H Q := e_of (pe_callB cr (I.g hG) hm hv pa (I.gn hG) (I.gd hG) he hpl) q
theorem e_callTy {g : Nat} {x : Str} {T : String} (hm : X.mg x = none) (hv : bootBuiltins x = some (.type T)) (q : wA X (e :: es) σ H fun vs H1 => wC X (.type T) vs H1 Q) (I : In X N G sc := by assumption) (hG : At G g x := by repeat (first | with_reducible apply At.z | with_reducible apply At.s))
    (he : starEach (e :: es) X.env = (false, eval e X.env) :: starEach es X.env := by rfl) (hpl : (backTo pos (starEach es X.env)).any (·.1) = false := by rfl) : wE X (.Call (.Name x p0) (e :: es) [] pos) σ H Q := e_of (pe_callTy cr (I.g hG) hm hv pa (I.gn hG) (I.gd hG) he hpl) q
theorem e_glob {g : Nat} {x : Str} {v : V} {u : Value} (hm : X.mg x = some u) (r : RelV v u) (q : Q v H) (I : In X N G sc := by assumption) (hG : At G g x := by repeat (first | with_reducible apply At.z | with_reducible apply At.s)) : wE X (.Name x pos) σ H Q := e_of (pe_glob (I.g hG) hm r (I.gd hG)) q
theorem e_bltn {g : Nat} {x : Str} {v : V} {u : Value} (hm : X.mg x = none) (hv : bootBuiltins x = some u) (r : RelV v u) (q : Q v H) (I : In X N G sc := by assumption) (hG : At G g x := by repeat (first | with_reducible apply At.z | with_reducible apply At.s)) : wE X (.Name x pos) σ H Q := e_of (pe_bltn (I.g hG) hm hv r (I.gn hG) (I.gd hG)) q
/-- a method of a class that no exception leaves -/
structure Mt (P : Program) (w : World) (K : PySem.W.Frag) (mg : Str → Option Value) (base : Heap) (k : Nat) (C : Addr) (m : Str) (sp : Sp) : Prop where
  ex : ∃ (f : Addr) (fd : FuncData) (ps : List Str), FnOk P w K mg base CX0 k f fd ps sp ∧ Meth K C m f ∧ Binds K fd ps [] ∧ Cls K C
theorem e_meth {k n : Nat} {o : Expr} {m : Str} {C : Addr} {apos : Pos} {pl : Sem Bool} {sp : Sp} (F : Mt X.prog X.w X.K X.mg X.base k C m sp) (hr : Room n X.A) (hk : k ≤ n)
    (q : wE X o σ H fun x H1 => ∃ a dx fs, x = .ref a ∧ H1 a = some (.ins C dx fs) ∧ fs.lookup m = none ∧ wA X (e :: es) σ H1 fun vs H2 => sp (x :: vs) H2 Q E0)
    (hst : starEach (e :: es) X.env = (false, eval e X.env) :: starEach es X.env := by rfl) (hpl : (backTo pos (starEach es X.env)).any (·.1) = false := by rfl)
    (ht : eval (.Call (.Attribute o m apos) (e :: es) [] pos) X.env = (do let ov ← eval o X.env; standAt apos.atName; let (f, first) ← holding [ov] (getMethod ov m pl); callWith pos f first (backTo pos (starEach (e :: es) X.env)) (backToKw pos (keywordEach [] X.env))) := by rfl) :
    wE X (.Call (.Attribute o m apos) (e :: es) [] pos) σ H Q := by
  obtain ⟨f, fd, ps, F0, M, hb, c⟩ := F.ex
  refine e_of (pe_meth (pl := pl) pe c M F0 (hr.mono hk) hb .nil pass0 pa hst hpl ht) ?_
  show wE X o σ H fun x H1 => ∃ a dx fs, x = .ref a ∧ H1 a = some (.ins C dx fs) ∧ fs.lookup m = none ∧ wA X (e :: es) σ H1 fun vs H2 => sp (x :: (vs ++ [])) H2 Q E0
  simp only [List.append_nil]
  exact q
theorem e_meth0 {k n : Nat} {o : Expr} {m : Str} {C : Addr} {apos : Pos} {pl : Sem Bool} {sp : Sp} (F : Mt X.prog X.w X.K X.mg X.base k C m sp) (hr : Room n X.A) (hk : k ≤ n)
    (q : wE X o σ H fun x H1 => ∃ a dx fs, x = .ref a ∧ H1 a = some (.ins C dx fs) ∧ fs.lookup m = none ∧ sp [x] H1 Q E0)
    (ht : eval (.Call (.Attribute o m apos) [] [] pos) X.env = (do let ov ← eval o X.env; standAt apos.atName; let (f, first) ← holding [ov] (getMethod ov m pl); callWith pos f first (backTo pos (starEach [] X.env)) (backToKw pos (keywordEach [] X.env))) := by rfl) :
    wE X (.Call (.Attribute o m apos) [] [] pos) σ H Q := by
  obtain ⟨f, fd, ps, F0, M, hb, c⟩ := F.ex
  exact e_of (pe_meth0 (pl := pl) pe c M F0 (hr.mono hk) hb .nil pass0 ht) q
/-- an own class whose __init__ no exception leaves -/
structure Kl (P : Program) (w : World) (K : PySem.W.Frag) (mg : Str → Option Value) (base : Heap) (k : Nat) (x : Str) (C : Addr) (sp : Sp) : Prop where
  ex : ∃ (f : Addr) (fd : FuncData) (ps : List Str), FnOk P w K mg base CX0 k f fd ps sp ∧ mg x = some (.ref C) ∧ Mk K C f ∧ Binds K fd ps []
theorem e_make {g : Nat} {k n : Nat} {x : Str} {C : Addr} {sp : Sp} (F : Kl X.prog X.w X.K X.mg X.base k x C sp) (hr : Room n X.A) (hk : k + 1 ≤ n)
    (q : wA X (e :: es) σ H fun vs H1 => ∀ x dx, H1 x = none → H1 dx = none → dx ≠ x → sp (.ref x :: vs) (upd (upd H1 dx (.own x)) x (.ins C dx [])) (fun v H2 => v = .non ∧ Q (.ref x) H2) E0)
    (I : In X N G sc := by assumption) (hG : At G g x := by repeat (first | with_reducible apply At.z | with_reducible apply At.s)) (he : starEach (e :: es) X.env = (false, eval e X.env) :: starEach es X.env := by rfl) (hpl : (backTo pos (starEach es X.env)).any (·.1) = false := by rfl) : wE X (.Call (.Name x p0) (e :: es) [] pos) σ H Q := by
  obtain ⟨f, fd, ps, F0, hm, M, hb⟩ := F.ex
  refine e_of (pe_make M F0 (hr.mono hk) (I.g hG) hm hb .nil pass0 pa (I.gd hG) he hpl) ?_
  show wA X (e :: es) σ H fun vs H1 => ∀ x dx, H1 x = none → H1 dx = none → dx ≠ x → sp (.ref x :: (vs ++ [])) (upd (upd H1 dx (.own x)) x (.ins C dx [])) (fun v H2 => v = .non ∧ Q (.ref x) H2) E0
  simp only [List.append_nil]
  exact q
end
/-! ### values -/
section
variable {X : Cx} {H : Hp} {Q : VK} {i j : Int} {σ : L2.St} {D : Ends}
theorem o_add (q : Q (.int (i + j)) H) : wB X .Add (.int i) (.int j) H Q := b_of op_add ⟨i, j, rfl, rfl, q⟩
theorem o_sub (q : Q (.int (i - j)) H) : wB X .Sub (.int i) (.int j) H Q := b_of op_sub ⟨i, j, rfl, rfl, q⟩
theorem o_mul (c : CMul i j) (q : Q (.int (i * j)) H) : wB X .Mult (.int i) (.int j) H Q := b_of op_mul ⟨i, j, rfl, rfl, c, q⟩
theorem o_mod (c : 0 < j) (q : Q (.int (i % j)) H) : wB X .Mod (.int i) (.int j) H Q := b_of op_mod ⟨i, j, rfl, rfl, c, q⟩
theorem o_fdiv (c : 0 < j ∧ j < 1073741824) (q : Q (.int (i / j)) H) : wB X .FloorDiv (.int i) (.int j) H Q := b_of op_fdiv ⟨i, j, rfl, rfl, c, q⟩
theorem o_pow (c : CPow i j) (q : Q (.int (i ^ j.toNat)) H) : wB X .Pow (.int i) (.int j) H Q := b_of op_pow ⟨i, j, rfl, rfl, c, q⟩
theorem o_lt (q : Q (.bl (decide (i < j))) H) : wK X .Lt (.int i) (.int j) H Q := k_of op_lt ⟨i, j, rfl, rfl, q⟩
theorem o_le (q : Q (.bl (decide (i ≤ j))) H) : wK X .LtE (.int i) (.int j) H Q := k_of op_le ⟨i, j, rfl, rfl, q⟩
theorem o_gt (q : Q (.bl (decide (j < i))) H) : wK X .Gt (.int i) (.int j) H Q := k_of op_gt ⟨i, j, rfl, rfl, q⟩
theorem o_ge (q : Q (.bl (decide (j ≤ i))) H) : wK X .GtE (.int i) (.int j) H Q := k_of op_ge ⟨i, j, rfl, rfl, q⟩
theorem dint {i j : Int} : decide (V.int i = V.int j) = decide (i = j) := by simp
theorem dbl {i j : Bool} : decide (V.bl i = V.bl j) = decide (i = j) := by simp
theorem dstr {i j : Str} : decide (V.str i = V.str j) = decide (i = j) := by simp
theorem o_eqI (q : Q (.bl (decide (i = j))) H) : wK X .Eq (.int i) (.int j) H Q := k_of op_eq ⟨rfl, dint ▸ q⟩
theorem o_neI (q : Q (.bl (!decide (i = j))) H) : wK X .NotEq (.int i) (.int j) H Q := k_of op_ne ⟨rfl, dint ▸ q⟩
theorem o_eqB {i j : Bool} (q : Q (.bl (decide (i = j))) H) : wK X .Eq (.bl i) (.bl j) H Q := k_of op_eq ⟨rfl, dbl ▸ q⟩
theorem o_neB {i j : Bool} (q : Q (.bl (!decide (i = j))) H) : wK X .NotEq (.bl i) (.bl j) H Q := k_of op_ne ⟨rfl, dbl ▸ q⟩
theorem o_eqS {i j : Str} (q : Q (.bl (decide (i = j))) H) : wK X .Eq (.str i) (.str j) H Q := k_of op_eq ⟨rfl, dstr ▸ q⟩
theorem o_neS {i j : Str} (q : Q (.bl (!decide (i = j))) H) : wK X .NotEq (.str i) (.str j) H Q := k_of op_ne ⟨rfl, dstr ▸ q⟩
/-- a pair of ints beside a text -/
theorem o_eqPS {n : Nat} {a : Addr} {u v : Int} {z : Str} (hr : Room n X.A) (h : H a = some (.tup [.int u, .int v])) (hz : SeqAt.shaped (.str z) = true) (q : Q (.bl false) H) : wK X .Eq (.ref a) (.str z) H Q :=
  k_of (op_eqD hr.units) ⟨.tuple [.int u, .int v], .str z, .tup (SqT.of h) (.cons (.int u) (.cons (.int v) .nil)), .str z, rfl, hz, q⟩
theorem ix_l {a : Addr} {xs : List V} {v : V} (h : SqL X.K H a xs) (e : atI xs i = some v) (q : Q v H) : wIx X (.ref a) (.int i) H Q := ix_of ix_list ⟨a, xs, i, v, rfl, rfl, h, e, q⟩
theorem ix_t {a : Addr} {xs : List V} {v : V} (h : SqT X.K H a xs) (e : atI xs i = some v) (q : Q v H) : wIx X (.ref a) (.int i) H Q := ix_of ix_tup ⟨a, xs, i, v, rfl, rfl, h, e, q⟩
theorem set_l {a : Addr} {xs : List V} {v : V} {k : Nat} {QH : Hp → Prop} (h : H a = some (.lst xs)) (e : ixN xs.length i = some k) (q : QH (upd H a (.lst (xs.set k v)))) : wSet X (.ref a) (.int i) v H QH := set_of set_list ⟨a, xs, i, k, rfl, rfl, h, e, q⟩
theorem c_int (q : Q (.int i) H) : wC X (.type "int") [.int i] H Q := c_of call_int1 (.inl ⟨i, rfl, q⟩)
theorem c_abs (q : Q (.int (if i < 0 then -i else i)) H) : wC X (.builtin "abs") [.int i] H Q := c_of call_abs ⟨i, rfl, q⟩
theorem c_max (hc : X.calm = true) (q : Q (.int (if j > i then j else i)) H) : wC X (.builtin "max") [.int i, .int j] H Q := c_of (call_max2 hc) ⟨i, j, rfl, q⟩
theorem c_min (hc : X.calm = true) (q : Q (.int (if j < i then j else i)) H) : wC X (.builtin "min") [.int i, .int j] H Q := c_of (call_min2 hc) ⟨i, j, rfl, q⟩
theorem c_lenL {a : Addr} {xs : List V} (h : SqL X.K H a xs) (q : Q (.int xs.length) H) : wC X (.builtin "len") [.ref a] H Q := c_of call_len_seq ⟨a, xs, rfl, .inl h, q⟩
theorem c_lenT {a : Addr} {xs : List V} (h : SqT X.K H a xs) (q : Q (.int xs.length) H) : wC X (.builtin "len") [.ref a] H Q := c_of call_len_seq ⟨a, xs, rfl, .inr h, q⟩
theorem c_isi {x c : V} {t u : Value} {b : Bool} (ty : TyX X.K H x t) (k : ClsV c u) (e : PySem.W.kitOne X.K t u = some b) (q : Q (.bl b) H) : wC X (.builtin "isinstance") [x, c] H Q := c_of call_isi ⟨x, c, t, u, b, rfl, k, ty, e, q⟩
theorem c_isiT {x : V} {tp : Addr} {cs : List V} {t : Value} {us : List Value} {b : Bool} (ty : TyX X.K H x t) (h : H tp = some (.tup cs)) (k : Paired ClsV cs us) (e : PySem.W.kitAny X.K t us = some b) (q : Q (.bl b) H) : wC X (.builtin "isinstance") [x, .ref tp] H Q :=
  c_of call_isiT ⟨x, tp, cs, t, us, b, rfl, h, k, ty, e, q⟩
theorem ty_non : TyX X.K H .non (.type "NoneType") := .base .non
theorem ty_bl {b : Bool} : TyX X.K H (.bl b) (.type "bool") := .base (.bl b)
theorem ty_int : TyX X.K H (.int i) (.type "int") := .base (.int i)
theorem ty_str {z : Str} : TyX X.K H (.str z) (.type "str") := .base (.str z)
theorem ty_tup {a : Addr} {xs : List V} (h : H a = some (.tup xs)) : TyX X.K H (.ref a) (.type "tuple") := .base (.tup h)
theorem ty_lst {a : Addr} {xs : List V} (h : H a = some (.lst xs)) : TyX X.K H (.ref a) (.type "list") := .base (.lst h)
theorem two_ty {a b : String} : Paired ClsV [.ty a, .ty b] [.type a, .type b] := .cons (.ty a) (.cons (.ty b) .nil)
theorem kit2 {K : PySem.W.Frag} {t a b : String} {x y : Bool} (h1 : kitB t a = some x) (h2 : kitB t b = some y) : PySem.W.kitAny K (.type t) [.type a, .type b] = some (x || y) := by
  cases x with
  | true => exact kitAny_cons (kit_ty h1) (fun z => nomatch z) fun _ => rfl
  | false =>
    refine kitAny_cons (kit_ty h1) (fun _ => ?_) (fun z => nomatch z)
    cases y with
    | true => exact kitAny_cons (kit_ty h2) (fun z => nomatch z) fun _ => rfl
    | false => exact kitAny_cons (kit_ty h2) (fun _ => rfl) (fun z => nomatch z)
theorem kb_int_tuple : kitB "int" "tuple" = some false := by decide +kernel
theorem kb_int_list : kitB "int" "list" = some false := by decide +kernel
theorem kb_int_int : kitB "int" "int" = some true := by decide +kernel
theorem kb_int_bool : kitB "int" "bool" = some false := by decide +kernel
theorem kb_int_str : kitB "int" "str" = some false := by decide +kernel
theorem kb_tuple_tuple : kitB "tuple" "tuple" = some true := by decide +kernel
theorem kb_tuple_list : kitB "tuple" "list" = some false := by decide +kernel
theorem kb_tuple_str : kitB "tuple" "str" = some false := by decide +kernel
theorem kb_tuple_int : kitB "tuple" "int" = some false := by decide +kernel
theorem kb_tuple_bool : kitB "tuple" "bool" = some false := by decide +kernel
theorem kb_list_tuple : kitB "list" "tuple" = some false := by decide +kernel
theorem kb_list_list : kitB "list" "list" = some true := by decide +kernel
theorem kb_list_str : kitB "list" "str" = some false := by decide +kernel
theorem kb_list_int : kitB "list" "int" = some false := by decide +kernel
theorem kb_list_bool : kitB "list" "bool" = some false := by decide +kernel
theorem kb_bool_bool : kitB "bool" "bool" = some true := by decide +kernel
theorem kb_bool_int : kitB "bool" "int" = some true := by decide +kernel
theorem kb_bool_str : kitB "bool" "str" = some false := by decide +kernel
theorem kb_bool_tuple : kitB "bool" "tuple" = some false := by decide +kernel
theorem kb_bool_list : kitB "bool" "list" = some false := by decide +kernel
theorem kb_str_str : kitB "str" "str" = some true := by decide +kernel
theorem kb_str_bool : kitB "str" "bool" = some false := by decide +kernel
theorem kb_str_int : kitB "str" "int" = some false := by decide +kernel
theorem kb_str_tuple : kitB "str" "tuple" = some false := by decide +kernel
theorem kb_str_list : kitB "str" "list" = some false := by decide +kernel
theorem kb_non_bool : kitB "NoneType" "bool" = some false := by decide +kernel
theorem kb_non_int : kitB "NoneType" "int" = some false := by decide +kernel
theorem kb_non_str : kitB "NoneType" "str" = some false := by decide +kernel
theorem kb_non_tuple : kitB "NoneType" "tuple" = some false := by decide +kernel
theorem kb_non_list : kitB "NoneType" "list" = some false := by decide +kernel
theorem b_int : bootBuiltins "int" = some (.type "int") := by decide +kernel
theorem b_bool : bootBuiltins "bool" = some (.type "bool") := by decide +kernel
theorem b_str : bootBuiltins "str" = some (.type "str") := by decide +kernel
theorem b_tuple : bootBuiltins "tuple" = some (.type "tuple") := by decide +kernel
theorem b_list : bootBuiltins "list" = some (.type "list") := by decide +kernel
theorem b_isi : bootBuiltins "isinstance" = some (.builtin "isinstance") := by decide +kernel
theorem b_len : bootBuiltins "len" = some (.builtin "len") := by decide +kernel
theorem b_abs : bootBuiltins "abs" = some (.builtin "abs") := by decide +kernel
theorem b_max : bootBuiltins "max" = some (.builtin "max") := by decide +kernel
theorem b_min : bootBuiltins "min" = some (.builtin "min") := by decide +kernel
/-! ### loops -/
theorem s_forR {nx : L2.St → Hp → Prop} {rt : VK} {bk ct : L2.St → Hp → Prop} {g : Nat} {N G : List Str} {sc : Scope} {x : Str} {i : Nat} {a : Expr} {body : List Stmt} {px p cp pos : Pos} (hm : X.mg "range" = none)
    (q : wE X a σ H fun v H1 => ∃ n : Nat, v = .int n ∧ n < 2 ^ 62 ∧ ∃ Pv : Nat → L2.St → Hp → Prop, Pv 0 σ H1 ∧ (∀ k σ H, k < n → Pv k σ H → wL X body ⟨Pv (k + 1), rt, nx, Pv (k + 1)⟩ (σ.set i (some (.int (k : Int)))) H) ∧ ∀ σ H, Pv n σ H → nx σ H)
    (I : In X N G sc := by assumption) (hc : X.calm = true := by rfl) (hA : At N i x := by repeat (first | with_reducible apply At.z | with_reducible apply At.s))
    (hG : At G g ("range" : Str) := by repeat (first | with_reducible apply At.z | with_reducible apply At.s)) (hs : starEach [a] X.env = [(false, eval a X.env)] := by rfl) (hs2 : ∀ z, foldedSetIterable (.Call (.Name "range" p) [a] [] cp) X.env z = pure z := by intro _; rfl)
    (hs1 : starEach (a :: []) X.env = (false, eval a X.env) :: starEach [] X.env := by rfl) :
    wS X (.For (.Name x px) (.Call (.Name "range" p) [a] [] cp) body [] pos) ⟨nx, rt, bk, ct⟩ σ H := by
  refine s_of (ps_for I.never hc (pi_range1 (I.g hG) hm (pa_cons pe pa_nil hs1) hs) (pg_name I.nd (I.hi hA) (I.loc hA) I.f) pl hs2) (e_mono q fun v H1 q1 => ?_)
  obtain ⟨n, rfl, hn, Pv, h0, hb, hd⟩ := q1
  refine ⟨(n : Int), rfl, by omega, by omega, ?_⟩
  rw [Int.toNat_natCast]
  refine for_range (n := n) Pv h0 (fun k σ H hk p => ?_) hd
  rw [Int.zero_add]
  exact hb k σ H hk p
theorem s_forL {nx : L2.St → Hp → Prop} {rt : VK} {bk ct : L2.St → Hp → Prop} {N G : List Str} {sc : Scope} {x : Str} {i : Nat} {a : Expr} {body : List Stmt} {px pos : Pos}
    (q : wE X a σ H fun v H1 => ∃ ad xs, v = .ref ad ∧ SqL X.K H1 ad xs ∧ ∃ Pv : Nat → L2.St → Hp → Prop, Pv 0 σ H1 ∧ (∀ k σ H, k ≤ xs.length → Pv k σ H → SqL X.K H ad xs) ∧ (∀ k y σ H, xs[k]? = some y → Pv k σ H → wL X body ⟨Pv (k + 1), rt, nx, Pv (k + 1)⟩ (σ.set i (some y)) H) ∧ ∀ σ H, Pv xs.length σ H → nx σ H)
    (I : In X N G sc := by assumption) (hc : X.calm = true := by rfl) (hA : At N i x := by repeat (first | with_reducible apply At.z | with_reducible apply At.s))
    (hs2 : ∀ z, foldedSetIterable a X.env z = pure z := by intro _; rfl) :
    wS X (.For (.Name x px) a body [] pos) ⟨nx, rt, bk, ct⟩ σ H := by
  refine s_of (ps_for I.never hc (pi_list pe) (pg_name I.nd (I.hi hA) (I.loc hA) I.f) pl hs2) (e_mono q fun v H1 q1 => ?_)
  obtain ⟨ad, xs, rfl, hl, Pv, h0, hk, hb, hd⟩ := q1
  exact ⟨ad, rfl, ⟨xs, hl⟩, for_list Pv h0 hk hb hd⟩
theorem s_forT {nx : L2.St → Hp → Prop} {rt : VK} {bk ct : L2.St → Hp → Prop} {N G : List Str} {sc : Scope} {x : Str} {i : Nat} {a : Expr} {body : List Stmt} {px pos : Pos}
    (q : wE X a σ H fun v H1 => ∃ ad xs, v = .ref ad ∧ SqT X.K H1 ad xs ∧ ∃ Pv : Nat → L2.St → Hp → Prop, Pv 0 σ H1 ∧ (∀ k σ H, k ≤ xs.length → Pv k σ H → SqT X.K H ad xs) ∧ (∀ k y σ H, xs[k]? = some y → Pv k σ H → wL X body ⟨Pv (k + 1), rt, nx, Pv (k + 1)⟩ (σ.set i (some y)) H) ∧ ∀ σ H, Pv xs.length σ H → nx σ H)
    (I : In X N G sc := by assumption) (hc : X.calm = true := by rfl) (hA : At N i x := by repeat (first | with_reducible apply At.z | with_reducible apply At.s))
    (hs2 : ∀ z, foldedSetIterable a X.env z = pure z := by intro _; rfl) :
    wS X (.For (.Name x px) a body [] pos) ⟨nx, rt, bk, ct⟩ σ H := by
  refine s_of (ps_for I.never hc (pi_tup pe) (pg_name I.nd (I.hi hA) (I.loc hA) I.f) pl hs2) (e_mono q fun v H1 q1 => ?_)
  obtain ⟨ad, xs, rfl, hl, Pv, h0, hk, hb, hd⟩ := q1
  exact ⟨ad, rfl, ⟨xs, hl⟩, for_tup Pv h0 hk hb hd⟩
/-! ### an own operator of an own class -/
theorem op_own {op : Operator} {k n : Nat} {C f : Addr} {fd : FuncData} {pn : List Str} {sp : Sp} (F : FnOk X.prog X.w X.K X.mg X.base CX0 k f fd pn sp) (hs : PySem.W.findIn X.K (.ref C) (PySem.dunder op.info.2) = some (some (.ref f))) (hf : PySem.W.isFn X.K (.ref f) = true)
    (hc : PySem.W.selfFirst X.K C = true) (hb : Binds X.K fd pn []) (hr : Room n X.A) (hk : k ≤ n) :
    OpR X (binaryOp op) (fun x y H Q => ∃ a b dx dy fs gs, x = .ref a ∧ y = .ref b ∧ H a = some (.ins C dx fs) ∧ H b = some (.ins C dy gs) ∧ sp [x, y] H (fun v H' => (∃ p, v = .ref p) ∧ Q v H') E0) := by
  intro pins s σ H x y u v Q I rx ry h
  obtain ⟨a, b, dx, dy, fs, gs, rfl, rfl, ha, hb', hsp⟩ := h
  cases rx
  cases ry
  obtain ⟨mA, J, _⟩ := ins_get I.hok ha
  obtain ⟨mB, J', _⟩ := ins_get I.hok hb'
  obtain ⟨od, J, _⟩ := J.look
  obtain ⟨od', J', _⟩ := J'.look
  obtain ⟨m, hF⟩ := I.fr
  refine PySem.W.binop_K hF I.ok.mod.kin J J'.type hc hs hf ?_
  refine wpAny_mono (run_fn (E := E0) F (hr.mono hk) hb .nil pass0 I (show Vals [V.ref a, V.ref b] [Value.ref a, Value.ref b] from .cons rfl (.cons rfl .nil)) (by rw [List.append_nil]; exact hsp)) (fun w s' z => ?_) fun _ _ z => z
  obtain ⟨v', H', I', rz, ⟨p, rfl⟩, q⟩ := z
  cases rz
  exact ⟨.ref p, H', I', rfl, q⟩
structure Op2 (P : Program) (w : World) (K : PySem.W.Frag) (mg : Str → Option Value) (base : Heap) (k : Nat) (C : Addr) (op : Operator) (sp : Sp) : Prop where
  ex : ∃ (f : Addr) (fd : FuncData) (pn : List Str), FnOk P w K mg base CX0 k f fd pn sp ∧ PySem.W.findIn K (.ref C) (PySem.dunder op.info.2) = some (some (.ref f)) ∧ PySem.W.isFn K (.ref f) = true ∧ PySem.W.selfFirst K C = true ∧ Binds K fd pn []
theorem o_own {op : Operator} {k n : Nat} {C a b dx dy : Addr} {fs gs : List (Str × V)} {sp : Sp} (F : Op2 X.prog X.w X.K X.mg X.base k C op sp) (hr : Room n X.A) (hk : k ≤ n) (ha : H a = some (.ins C dx fs)) (hb : H b = some (.ins C dy gs))
    (q : sp [.ref a, .ref b] H (fun v H' => (∃ p, v = .ref p) ∧ Q v H') E0) : wB X op (.ref a) (.ref b) H Q := by
  obtain ⟨f, fd, pn, G, hs, hf, hc, hb'⟩ := F.ex
  exact b_of (op_own G hs hf hc hb' hr hk) ⟨a, b, dx, dy, fs, gs, rfl, rfl, ha, hb, q⟩
end
/-! ### heaps -/
/-- all but a stays -/
def But (a : Addr) (H H' : Hp) : Prop := ∀ b o, b ≠ a → H b = some o → H' b = some o
theorem But.refl {a : Addr} {H : Hp} : But a H H := fun _ _ _ h => h
theorem But.trans {a : Addr} {H H1 H2 : Hp} (x : But a H H1) (y : But a H1 H2) : But a H H2 := fun b o n h => y b o n (x b o n h)
theorem But.of {a : Addr} {H H1 : Hp} (x : Same H H1) : But a H H1 := fun b o _ h => x b o h
theorem But.upd {a : Addr} {H H1 : Hp} {o : HO} (x : But a H H1) : But a H (L2.upd H1 a o) := fun b u n h => by
  rw [upd_ne n]
  exact x b u n h
theorem But.tup {a p : Addr} {H H1 : Hp} {l xs : List V} (x : But a H H1) (ha : H a = some (.lst l)) (hp : H p = some (.tup xs)) : H1 p = some (.tup xs) := x p _ (ne_of hp ha (by intro z; cases z)) hp
theorem But.ins {a p C dx : Addr} {H H1 : Hp} {l : List V} {fs : List (Str × V)} (x : But a H H1) (ha : H a = some (.lst l)) (hp : H p = some (.ins C dx fs)) : H1 p = some (.ins C dx fs) := x p _ (ne_of hp ha (by intro z; cases z)) hp
theorem But.frz {a p : Addr} {H H1 : Hp} {l : List V} {o : Obj} {u : HO} (x : But a H H1) (ha : H a = some (.lst l)) (hp : H p = some (.frz o u)) : H1 p = some (.frz o u) := x p _ (ne_of hp ha (by intro z; cases z)) hp
section
variable {P : Program} {w : World} {K : PySem.W.Frag} {mg : Str → Option Value} {base : Heap}
/-- a def of the module where the top has left it -/
structure Top (K : PySem.W.Frag) (mg : Str → Option Value) (x : Str) (st : Stmt) : Prop where
  ex : ∃ (f : Addr) (fd : FuncData), Fun K x x st f fd ∧ mg x = some (.ref f)
theorem top_mk {h : Heap} {x : Str} {st : Stmt} {f : Addr} {oc : Value} {od an : Option Addr} {osl : Array (Option Value)} {kV doc pm cdv ct : Value} (X : K.In h) (G : h.Ns mainGlobals mg) (a : PySem.W.nsIn K mainGlobals x = some (some (.ref f)))
    (l : K.lookup f = some ⟨oc, od, .func (PySem.W.fnOf x x (defArgs st) (defBody st) (defScope st) .none kV doc pm an cdv ct), osl⟩) (c : PySem.W.codeIn K cdv x = true) (k : PySem.W.keepIn K (.ref f) = true) : Top K mg x st :=
  ⟨f, _, fun_mk l c k, PySem.W.mg_of X G a⟩
theorem fn_ok {x : Str} {st : Stmt} {N G ps : List Str} {k : Nat} {sp : Sp} (T : Top K mg x st) (S : FnScope N ps (defScope st)) (O : ScOk N G (defScope st)) (len : ∀ vs H Q E, sp vs H Q E → vs.length = ps.length)
    (hb : ∀ (kV doc pm : Value) (an : Option Addr) (cdv ct : Value) (us : List Value), us.length = ps.length → bindArgs (PySem.W.fnOf x x (defArgs st) (defBody st) (defScope st) .none kV doc pm an cdv ct) ⟨us, []⟩ = pure (ps.zip us))
    (hbody : ∀ (f : Addr) (cdv : Value) (A : Around) (outer : List Env) (s : Shared) (H : Hp) (vs : List V) (Q : VK) (E : XK), Room k (A.deeper (envOfC x (defScope st) s.heap.objs.size f cdv)) → sp vs H Q E → In (cxOf CX0 P w K mg base N x (defScope st) f cdv A outer s H E).nox N G (defScope st) →
      wL (cxOf CX0 P w K mg base N x (defScope st) f cdv A outer s H E).nox (defBody st) { nx := fun _ H' => Q .non H', rt := Q } (start N vs) H) : Fn P w K mg base (k + 1) x sp := by
  obtain ⟨f, fd, F, hm⟩ := T.ex
  exact ⟨f, fd, ps, F.ok S len (fun cdv A outer s H vs Q E hr h => ⟨_, pl, hbody f cdv A outer s H vs Q E hr h ⟨O, ⟨[], (List.append_nil _).symm⟩, S.nd, rfl, rfl, PassesOwn.never⟩⟩), hm, F.kp, F.binds hb⟩
/-- a method where the top has left it -/
structure TopM (K : PySem.W.Frag) (C : Addr) (x qual : Str) (st : Stmt) : Prop where
  ex : ∃ (f : Addr) (fd : FuncData), Fun K x qual st f fd ∧ PySem.W.findIn K (.ref C) x = some (some (.ref f)) ∧ PySem.W.isFn K (.ref f) = true
theorem topM_mk {x qual : Str} {st : Stmt} {C f : Addr} {oc : Value} {od an : Option Addr} {osl : Array (Option Value)} {kV doc pm cdv ct : Value} (a : PySem.W.findIn K (.ref C) x = some (some (.ref f))) (i : PySem.W.isFn K (.ref f) = true)
    (l : K.lookup f = some ⟨oc, od, .func (PySem.W.fnOf x qual (defArgs st) (defBody st) (defScope st) .none kV doc pm an cdv ct), osl⟩) (c : PySem.W.codeIn K cdv qual = true) (k : PySem.W.keepIn K (.ref f) = true) : TopM K C x qual st :=
  ⟨f, _, fun_mk l c k, a, i⟩
theorem me_ok {x qual : Str} {C : Addr} {st : Stmt} {N G ps : List Str} {k : Nat} {sp : Sp} (T : TopM K C x qual st) (S : FnScope N ps (defScope st)) (O : ScOk N G (defScope st)) (len : ∀ vs H Q E, sp vs H Q E → vs.length = ps.length)
    (hb : ∀ (kV doc pm : Value) (an : Option Addr) (cdv ct : Value) (us : List Value), us.length = ps.length → bindArgs (PySem.W.fnOf x qual (defArgs st) (defBody st) (defScope st) .none kV doc pm an cdv ct) ⟨us, []⟩ = pure (ps.zip us))
    (hbody : ∀ (f : Addr) (cdv : Value) (A : Around) (outer : List Env) (s : Shared) (H : Hp) (vs : List V) (Q : VK) (E : XK), Room k (A.deeper (envOfC qual (defScope st) s.heap.objs.size f cdv)) → sp vs H Q E → In (cxOf CX0 P w K mg base N qual (defScope st) f cdv A outer s H E).nox N G (defScope st) →
      wL (cxOf CX0 P w K mg base N qual (defScope st) f cdv A outer s H E).nox (defBody st) { nx := fun _ H' => Q .non H', rt := Q } (start N vs) H) :
    ∃ (f : Addr) (fd : FuncData), FnOk P w K mg base CX0 (k + 1) f fd ps sp ∧ Binds K fd ps [] ∧ PySem.W.findIn K (.ref C) x = some (some (.ref f)) ∧ PySem.W.isFn K (.ref f) = true ∧ PySem.W.keepIn K (.ref f) = true := by
  obtain ⟨f, fd, F, hf, hi⟩ := T.ex
  exact ⟨f, fd, F.ok S len (fun cdv A outer s H vs Q E hr h => ⟨_, pl, hbody f cdv A outer s H vs Q E hr h ⟨O, ⟨[], (List.append_nil _).symm⟩, S.nd, rfl, rfl, PassesOwn.never⟩⟩), F.binds hb, hf, hi, F.kp⟩
end
/-- a bool test that is decided by a fact -/
theorem ifT {c A B : Prop} [Decidable c] (hc : c) (h : A) : if decide c = true then A else B := by
  rw [decide_eq_true hc]
  exact iteT h
theorem ifF {c A B : Prop} [Decidable c] (hc : ¬ c) (h : B) : if decide c = true then A else B := by
  rw [decide_eq_false hc]
  exact iteF h
theorem if2 {c A B : Prop} [Decidable c] (h1 : c → A) (h2 : ¬ c → B) : if decide c = true then A else B := by
  by_cases h : c
  · exact ifT h (h1 h)
  · exact ifF h (h2 h)
theorem ite_t {c : Bool} {A B : Prop} (hc : c = true) (h : A) : if c = true then A else B := by
  rw [hc]
  exact iteT h
theorem ite_f {c : Bool} {A B : Prop} (hc : c = false) (h : B) : if c = true then A else B := by
  rw [hc]
  exact iteF h
section
variable {P : Program} {w : World} {K : PySem.W.Frag} {mg : Str → Option Value} {base : Heap}
theorem run_ok {x qual : Str} {st : Stmt} {N G ps : List Str} {k : Nat} {sp : Sp} {f : Addr} {fd : FuncData} (F : Fun K x qual st f fd) (S : FnScope N ps (defScope st)) (O : ScOk N G (defScope st)) (len : ∀ vs H Q E, sp vs H Q E → vs.length = ps.length)
    (hbody : ∀ (f : Addr) (cdv : Value) (A : Around) (outer : List Env) (s : Shared) (H : Hp) (vs : List V) (Q : VK) (E : XK), Room k (A.deeper (envOfC qual (defScope st) s.heap.objs.size f cdv)) → sp vs H Q E → In (cxOf CX0 P w K mg base N qual (defScope st) f cdv A outer s H E).nox N G (defScope st) →
      wL (cxOf CX0 P w K mg base N qual (defScope st) f cdv A outer s H E).nox (defBody st) { nx := fun _ H' => Q .non H', rt := Q } (start N vs) H) : FnOk P w K mg base CX0 (k + 1) f fd ps sp :=
  F.ok S len (fun cdv A outer s H vs Q E hr h => ⟨_, pl, hbody f cdv A outer s H vs Q E hr h ⟨O, ⟨[], (List.append_nil _).symm⟩, S.nd, rfl, rfl, PassesOwn.never⟩⟩)
end
end Wk

/-! My own layer, errors: an own class of errors with fields, raised, caught, asked. -/
namespace Wk
open PySem PySem.Spec PyProof.Rows L2
section
variable {X : Cx} {N G : List Str} {sc : Scope} {e o : Expr} {es : List Expr} {σ : L2.St} {H : Hp} {Q : VK} {pos p0 np : Pos}
theorem o_isN {x : V} (q : Q (.bl (decide (x = .non))) H) : wK X .Is x .non H Q := k_of op_isN ⟨rfl, q⟩
theorem o_nisB {a b : Bool} (q : Q (.bl (!decide (a = b))) H) : wK X .IsNot (.bl a) (.bl b) H Q := k_of op_isnot_bl ⟨a, b, rfl, rfl, q⟩
/-- a def of the module that may raise -/
structure FnX (P : Program) (w : World) (K : PySem.W.Frag) (mg : Str → Option Value) (base : Heap) (k : Nat) (x : Str) (sp : Sp) : Prop where
  ex : ∃ (f : Addr) (fd : FuncData) (ps : List Str), FnOk P w K mg base (L2.CX P w) k f fd ps sp ∧ mg x = some (.ref f) ∧ PySem.W.keepIn K (.ref f) = true ∧ Binds K fd ps []
theorem e_callX {g k n : Nat} {x : Str} {sp : Sp} {W : WX} (F : FnX X.prog X.w X.K X.mg X.base k x sp) (tk : Takes X W) (hr : Room n X.A) (hk : k ≤ n) (q : wA X (e :: es) σ H fun vs H1 => sp vs H1 Q (fun cls d H' => W cls d σ H'))
    (I : In X N G sc := by assumption) (hG : At G g x := by repeat (first | with_reducible apply At.z | with_reducible apply At.s)) (he : starEach (e :: es) X.env = (false, eval e X.env) :: starEach es X.env := by rfl) (hpl : (backTo pos (starEach es X.env)).any (·.1) = false := by rfl) :
    wE X (.Call (.Name x p0) (e :: es) [] pos) σ H Q := by
  obtain ⟨f, fd, ps, F0, hm, hkp, hb⟩ := F.ex
  refine e_of (pe_callSD (E := fun σ cls d H' => W cls d σ H') F0 (hr.mono hk) (I.g hG) hm hkp hb .nil (fun σ => passAt tk σ) pa (I.gd hG) he hpl) ?_
  show wA X (e :: es) σ H fun vs H1 => sp (vs ++ []) H1 Q (fun cls d H' => W cls d σ H')
  simp only [List.append_nil]
  exact q
/-- an own class of errors whose __init__ stores its one argument in the field f -/
def sp1 (C : Addr) (f : Str) : Sp := fun vs H Q _ => ∃ (a : Addr) (v : V), vs = [.ref a, v] ∧ H a = some (exo a C none) ∧ ∀ dx, H dx = none → dx ≠ a → Q .non (upd (upd H dx (exd dx [(f, v)])) a (exo a C (some dx)))
structure Er (P : Program) (w : World) (K : PySem.W.Frag) (mg : Str → Option Value) (base : Heap) (x : Str) (C : Addr) (f : Str) : Prop where
  o : OexC K C
  mgC : mg x = some (.ref C)
  ex : ∃ (fI : Addr) (fd : FuncData) (ps : List Str), FnOk P w K mg base CX0 1 fI fd ps (sp1 C f) ∧ PySem.W.findIn K (.ref C) "__init__" = some (some (.ref fI)) ∧ PySem.W.typeIn K (.ref fI) = some (.type "function") ∧ Binds K fd ps []
/-- self.f = e of an error that is being made -/
theorem s_ost {nx : L2.St → Hp → Prop} {rt : VK} {bk ct : L2.St → Hp → Prop} {f : Str} {value : Expr} {pos' : Pos} (q : wE X value σ H fun y H1 => wE X o σ H1 fun x H2 => ∃ a C : Addr, x = .ref a ∧ OexC X.K C ∧ PySem.W.findIn X.K (.ref C) f = some none ∧ H2 a = some (exo a C none) ∧ ∀ dx, H2 dx = none → dx ≠ a → nx σ (upd (upd H2 dx (exd dx [(f, y)])) a (exo a C (some dx))))
    (hs : swapsWith value (some (.Attribute o f pos')) pos.line X.env = pure false := by rfl) : wS X (.Assign [.Attribute o f pos'] value pos) ⟨nx, rt, bk, ct⟩ σ H :=
  s_of (ps_ost pe pe hs) (e_mono q fun y H1 z => e_mono z fun x H2 ⟨a, C, h1, h2, h3, h4, h5⟩ => ⟨a, C, h1, h2, h3, .inl ⟨h4, h5⟩⟩)
/-- raise C(e) -/
theorem s_raise1 {nx : L2.St → Hp → Prop} {rt : VK} {bk ct : L2.St → Hp → Prop} {g n : Nat} {x f : Str} {C : Addr} {W : WX} {pos' : Pos} (R : Er X.prog X.w X.K X.mg X.base x C f) (tk : Takes X W) (hr : Room n X.A) (hn : 2 ≤ n)
    (q : wE X e σ H fun v H1 => ∀ d H', Same H1 H' → H1 d = none → H' d = some (.xd [(f, v)]) → W (.ref C) (some d) σ H')
    (I : In X N G sc := by assumption) (hG : At G g x := by repeat (first | with_reducible apply At.z | with_reducible apply At.s)) (hc : X.calm = true := by rfl)
    (he : starEach (e :: []) X.env = (false, eval e X.env) :: starEach [] X.env := by rfl) (hpl : (backTo pos (starEach [] X.env)).any (·.1) = false := by rfl) :
    wS X (.Raise (some (.Call (.Name x p0) [e] [] pos)) none pos') ⟨nx, rt, bk, ct⟩ σ H := by
  obtain ⟨fI, fd, ps, F0, hi, ht, hb⟩ := R.ex
  refine s_of (ps_raise hc tk (pmk_oex R.o hi ht F0 (hr.mono hn) hb .nil pass0 (I.g hG) R.mgC pa (I.gd hG) he hpl)) ?_
  refine a_cons (e_mono q fun v H1 z => a_nil ⟨by show 1 ≤ 1000; decide, fun a na => ?_⟩) he
  refine ⟨a, v, rfl, upd_same, fun dx nd ne => ⟨rfl, dx, [(f, v)], upd_same, ?_, ?_, ?_⟩⟩
  · rw [upd_ne ne, upd_same]
  · rw [upd_ne ne] at nd
    exact nd
  · refine z dx _ (fun b u hb => ?_) (by rw [upd_ne ne] at nd; exact nd) upd_same
    have h1 : b ≠ a := ne_of_none hb na
    have h2 : b ≠ dx := ne_of_none hb (by rw [upd_ne ne] at nd; exact nd)
    rw [upd_ne h2, del_ne h1, upd_ne h1, upd_ne h2, upd_ne h1]
    exact hb
/-- the suite of an except clause -/
def tsS (X : Cx) (N G : List Str) (sc : Scope) (sts : List Stmt) : Addr → Value → Option Addr → TS := fun a cls d D σ H => ∀ (oe : Obj) (pn : List (Addr × Obj)), Zc cls d oe → (∃ vs, oe.data = .fields vs) → In (X.suite a ((a, oe) :: pn)) N G sc → wL (X.suite a ((a, oe) :: pn)) sts D σ H
theorem In.tr (I : In X N G sc) {pn : List (Addr × Obj)} {xe : Value → Shared → Prop} (h : PassesOwn (model X.prog X.w) X.A X.env xe) : In (X.tr pn xe) N G sc := ⟨I.ok, I.n, I.nd, I.sc, I.fn, h⟩
theorem In.suite (I : In X N G sc) {a : Addr} {pn : List (Addr × Obj)} : In (X.suite a pn) N G sc := ⟨I.ok, I.n, I.nd, I.sc, I.fn, PassesOwn.never⟩
/-- try: body, except x as n: suite -/
theorem s_tryAs {nx : L2.St → Hp → Prop} {rt : VK} {bk ct : L2.St → Hp → Prop} {i g : Nat} {x n : Str} {c : Value} {body suite : List Stmt} {b0 : Stmt} {pos' : Pos} {Wout : WX} (hm : X.mg x = some c) (tk : Takes X Wout)
    (q : ∀ (pn : List (Addr × Obj)) (xe : Value → Shared → Prop), Takes (X.tr pn xe) (wAs X.K c i (tsS X N G sc (b0 :: suite)) Wout ⟨nx, rt, bk, ct⟩) → In (X.tr pn xe) N G sc → wL (X.tr pn xe) body ⟨nx, rt, bk, ct⟩ σ H)
    (I : In X N G sc := by assumption) (hA : At N i n := by repeat (first | with_reducible apply At.z | with_reducible apply At.s)) (hG : At G g x := by repeat (first | with_reducible apply At.z | with_reducible apply At.s))
    (hln : X.env.kindOf n = some .local := by rfl) (hs : X.stack = X.env :: X.outer := by rfl) (hf : X.env.frame = some X.env.locals := by rfl) :
    wS X (.Try body [.ExceptHandler (some (.Name x np)) (some n) (b0 :: suite) pos'] [] [] pos) ⟨nx, rt, bk, ct⟩ σ H :=
  s_of (ps_try_as (tb := fun W D σ H => ∀ (pn : List (Addr × Obj)) (xe : Value → Shared → Prop), Takes (X.tr pn xe) W → In (X.tr pn xe) N G sc → wL (X.tr pn xe) body D σ H) hs hf I.nd (I.hi hA) hln ⟨I.g hG, I.gd hG, .inl hm⟩ tk
    (fun W pn xe tk' po => ⟨fun pins s σ H D Iv h => pl.run pins s σ H D Iv (h pn xe tk' (I.tr po))⟩)
    (fun a oe cls d pn hz hd => ⟨fun pins s σ H D Iv h => pl.run pins s σ H D Iv (h oe pn hz hd I.suite)⟩)) q
/-- what the class D must say, so that isinstance asks its errors rightly -/
structure EcC (K : PySem.W.Frag) (D : Addr) : Prop where
  cl : (PySem.W.clsIn K D).isSome = true
  hg : PySem.W.findIn K (.ref D) "__getattribute__" = some (some (.builtin "BaseException.__getattribute__"))
  hk : PySem.W.findIn K (.ref D) "__getattr__" = some none
  hs : PySem.W.subIn K (.ref D) (.type "BaseException") = some true
  ha : PySem.W.findIn K (.ref D) "__class__" = some (some (.builtin "object.__class__"))
  hn : PySem.W.specialIn K (.builtin "object.__class__") "__get__" = some (some (.builtin "getset_descriptor.__get__"))
  ht : PySem.W.takesIn K (.builtin "object.__class__") = some true
  hm : PySem.W.mroIn K D (.type "object") = some true
/-- the caught error at a stands as an instance -/
theorem inst_of {pins : List (Addr × Obj)} {s : Shared} {a D : Addr} {d : Option Addr} {oe : Obj} {pn : List (Addr × Obj)} {fs : List (Str × V)} (I : Inv (X.suite a ((a, oe) :: pn)) pins σ H s) (hz : Zc (.ref D) d oe) (hf : ∃ vs, oe.data = .fields vs)
    (hd : ∀ dd, d = some dd → H dd = some (.xd fs)) : ∃ od, PySem.W.InstAt s.heap a oe D od := by
  obtain ⟨hget, _⟩ := I.pin (a, oe) (List.mem_append.mpr (.inl List.mem_cons_self))
  obtain ⟨vs, hv⟩ := hf
  have nc : PySem.W.notCls oe := by unfold PySem.W.notCls; rw [hv] <;> trivial
  cases d with
  | none => exact ⟨none, hget, hz.1, nc, by rw [hz.2]; trivial⟩
  | some dd =>
    obtain ⟨mA, hns, _⟩ := (show ObjOk X.prog X.w H s.heap dd (.xd fs) from I.hok dd _ (hd dd rfl))
    obtain ⟨od, ho, _⟩ := lookIn_ns hns
    exact ⟨some od, hget, hz.1, nc, by rw [hz.2]; exact ho⟩
theorem c_isE {a D : Addr} {d : Option Addr} {oe : Obj} {pn : List (Addr × Obj)} {fs : List (Str × V)} {c : V} {cv : Value} {b : Bool} (C : EcC X.K D) (hz : Zc (.ref D) d oe) (hf : ∃ vs, oe.data = .fields vs) (hd : ∀ dd, d = some dd → H dd = some (.xd fs))
    (k : ClsV c cv) (e : PySem.W.kitOne X.K (.ref D) cv = some b) (q : Q (.bl b) H) : wC (X.suite a ((a, oe) :: pn)) (.builtin "isinstance") [.ref a, c] H Q := by
  unfold wC
  intro pins s σ us I r
  obtain ⟨u1, u2, rfl, r1, r2⟩ := vals2 r
  cases (show u1 = Value.ref a from r1)
  have ec := k.eq r2
  subst ec
  obtain ⟨od, J⟩ := inst_of I hz hf hd
  exact PySem.W.kia_one (PySem.W.kitx_exc (od := od) C.cl C.hg C.hk C.hs C.ha C.hn C.ht C.hm) I.kIn J e (fun z => nomatch z) fun tk => ⟨.bl b, H, I.tok tk, rfl, q⟩
theorem c_isET {a D tp : Addr} {d : Option Addr} {oe : Obj} {pn : List (Addr × Obj)} {fs : List (Str × V)} {cs : List V} {us' : List Value} {b : Bool} (C : EcC X.K D) (hz : Zc (.ref D) d oe) (hf : ∃ vs, oe.data = .fields vs) (hd : ∀ dd, d = some dd → H dd = some (.xd fs))
    (hT : H tp = some (.tup cs)) (k : Paired ClsV cs us') (e : PySem.W.kitAny X.K (.ref D) us' = some b) (q : Q (.bl b) H) : wC (X.suite a ((a, oe) :: pn)) (.builtin "isinstance") [.ref a, .ref tp] H Q := by
  unfold wC
  intro pins s σ us I r
  obtain ⟨u1, u2, rfl, r1, r2⟩ := vals2 r
  cases (show u1 = Value.ref a from r1)
  cases (show u2 = Value.ref tp from r2)
  obtain ⟨od, J⟩ := inst_of I hz hf hd
  obtain ⟨_, its, rv, o, h1, h2, n, h3⟩ := (show ObjOk X.prog X.w H s.heap tp (.tup cs) from I.hok tp _ hT)
  have e3 := ClsV.all k rv
  subst e3
  obtain ⟨oc, odd, dt, sl⟩ := o
  simp only at h2 h3
  subst h2 h3
  exact PySem.W.kia_tup (PySem.W.kitx_exc (od := od) C.cl C.hg C.hk C.hs C.ha C.hn C.ht C.hm) I.kIn J h1 e (fun z => nomatch z) fun tk => ⟨.bl b, H, I.tok tk, rfl, q⟩
/-- e.f of the caught error -/
theorem e_xf {a C : Addr} {oe : Obj} {d : Option Addr} {pn : List (Addr × Obj)} {f : Str} (T : XfC X.K C) (hno : PySem.W.findIn X.K (.ref C) f = some none) (hz : Zc (.ref C) d oe) (hf : ∃ vs, oe.data = .fields vs)
    (q : wE (X.suite a ((a, oe) :: pn)) e σ H fun x H1 => x = .ref a ∧ ∃ (dd : Addr) (fs : List (Str × V)) (v : V), d = some dd ∧ H1 dd = some (.xd fs) ∧ fs.lookup f = some v ∧ Q v H1) (hb : attributeBase e f X.env (eval e X.env) = eval e X.env := by rfl) :
    wE (X.suite a ((a, oe) :: pn)) (.Attribute e f pos) σ H Q := e_of (pe_xf T hno hz hf pe hb) (e_mono q fun x H1 z => ⟨z.1, rfl, z.2⟩)
end
section
variable {P : Program} {w : World} {K : PySem.W.Frag} {mg : Str → Option Value} {base : Heap}
theorem fn_okX {x : Str} {st : Stmt} {N G ps : List Str} {k : Nat} {sp : Sp} (T : Top K mg x st) (S : FnScope N ps (defScope st)) (O : ScOk N G (defScope st)) (len : ∀ vs H Q E, sp vs H Q E → vs.length = ps.length)
    (hb : ∀ (kV doc pm : Value) (an : Option Addr) (cdv ct : Value) (us : List Value), us.length = ps.length → bindArgs (PySem.W.fnOf x x (defArgs st) (defBody st) (defScope st) .none kV doc pm an cdv ct) ⟨us, []⟩ = pure (ps.zip us))
    (hbody : ∀ (f : Addr) (cdv : Value) (A : Around) (outer : List Env) (s : Shared) (H : Hp) (vs : List V) (Q : VK) (E : XK), Room k (A.deeper (envOfC x (defScope st) s.heap.objs.size f cdv)) → sp vs H Q E → In (cxOf (L2.CX P w) P w K mg base N x (defScope st) f cdv A outer s H E) N G (defScope st) →
      Takes (cxOf (L2.CX P w) P w K mg base N x (defScope st) f cdv A outer s H E) (fun cls d _ H => E cls d H) →
      wL (cxOf (L2.CX P w) P w K mg base N x (defScope st) f cdv A outer s H E) (defBody st) { nx := fun _ H' => Q .non H', rt := Q } (start N vs) H) : FnX P w K mg base (k + 1) x sp := by
  obtain ⟨f, fd, F, hm⟩ := T.ex
  exact ⟨f, fd, ps, F.okX S len (fun cdv A outer s H vs Q E hr h => ⟨_, pl, hbody f cdv A outer s H vs Q E hr h ⟨O, ⟨[], (List.append_nil _).symm⟩, S.nd, rfl, rfl, passes_of rfl⟩ (takes_of rfl rfl rfl rfl)⟩), hm, F.kp, F.binds hb⟩
end
end Wk

/-! My own layer, errors whose context is None: raised where nothing is handled, so that defs may be called in the suite that catches them. -/
namespace Wk
open PySem PySem.Spec PyProof.Rows L2
section
variable {X : Cx} {N G : List Str} {sc : Scope} {e o : Expr} {es : List Expr} {σ : L2.St} {H : Hp} {Q : VK} {pos p0 np : Pos}
/-- C(e) of a class whose __init__ stores one field: the made error's fields are known -/
theorem pmkN {n : Nat} {x f : Str} {C : Addr} (R : Er X.prog X.w X.K X.mg X.base x C f) (hr : Room n X.A) (hn : 2 ≤ n) (hg : Gl X x) (hdb : (x == ("__debug__" : Str)) = false)
    (he : starEach (e :: []) X.env = (false, eval e X.env) :: starEach [] X.env) (hpl : (backTo pos (starEach [] X.env)).any (·.1) = false) :
    L2N.PMk X (.Call (.Name x p0) [e] [] pos) (fun σ H Q => wE X e σ H fun v H1 => ∀ d H', Same H1 H' → H1 d = none → H' d = some (.xd [(f, v)]) → Q (.ref C) (some d) H') := by
  intro pins s σ H Q I h
  obtain ⟨fI, fd, ps, F0, hi, ht, hb⟩ := R.ex
  obtain ⟨_, _, _, _, bm, _, _, _, _, _, _, _, _, _, _, hC, hbm⟩ := R.o.cls
  refine wpAny_Call_Name_kw (ld_glob I hg R.mgC ?_ hdb)
  refine PySem.W.callWith_K (h₀ := X.base) I.ok.mod.kin R.o.kC (thn ((pa_cons pe pa_nil he).run pos pins s σ H (fun vs H1 => ∃ v, vs = [v] ∧ ∀ d H', Same H1 H' → H1 d = none → H' d = some (.xd [(f, v)]) → Q (.ref C) (some d) H') I (e_mono h fun v H1 z => ⟨v, rfl, z⟩)) fun us s1 ⟨vs, H1, I1, r1, v, ev, q1⟩ => ⟨I1.kIn, ?_⟩) he hpl
  subst ev
  show wpAny _ _ (call (.ref C) us) _ _ _
  obtain ⟨hp, g, dr, tk, os⟩ := s1
  have hget0 : ((hp.push (PySem.W.kdv_tup us)).push (PySem.HandSPX.excO C hp.objs.size)).get? (hp.objs.size + 1) = some (PySem.HandSPX.excO C hp.objs.size) := by heap_get
  let a := hp.objs.size + 1
  have na : H1 a = none := I1.hok.fresh (Nat.le_succ _)
  let hp2 := (hp.push (PySem.W.kdv_tup us)).push (PySem.HandSPX.excO C hp.objs.size)
  have kk : ∀ b o, hp.get? b = some o → hp2.get? b = some o := fun b o z => Heap.get?_push_of_some _ (Heap.get?_push_of_some _ z)
  have hget : hp2.get? a = some (PySem.HandSPX.excO C hp.objs.size) := hget0
  have I2 : Inv X pins σ (upd H1 a (exo a C none)) ⟨hp2, g, dr, tk, os⟩ := I1.laid (t' := tk) (h' := hp2) kk (Nat.le_succ _) (exo_ok hget)
  have r2 : Vals (V.ref a :: [v]) (Value.ref a :: us) := .cons rfl r1
  have lu : us.length = 1 := r1.length.symm
  -- what __init__ is asked for
  have hq : sp1 C f [.ref a, v] (upd H1 a (exo a C none)) (fun w H2 => w = .non ∧ ∃ d, H2 a = some (exo a C (some d)) ∧ H2 d = some (exd d [(f, v)]) ∧ H1 d = none ∧ Q (.ref C) (some d) (upd (del H2 a) d (.xd [(f, v)]))) (fun _ _ _ => False) := by
    refine ⟨a, v, rfl, upd_same, fun dx nd ne => ⟨rfl, dx, upd_same, by rw [upd_ne ne, upd_same], by rw [upd_ne ne] at nd; exact nd, ?_⟩⟩
    rw [upd_ne ne] at nd
    refine q1 dx _ (fun b u hb => ?_) nd upd_same
    have h1 : b ≠ a := ne_of_none hb na
    have h2 : b ≠ dx := ne_of_none hb nd
    rw [upd_ne h2, del_ne h1, upd_ne h1, upd_ne h2, upd_ne h1]
    exact hb
  have lp : (Value.ref a :: us).length = ps.length := by
    have z1 := r2.length
    rw [F0.len _ _ _ _ hq] at z1
    exact z1.symm
  have bind : BindsTo ⟨hp2, g, dr, tk, os⟩ fd ⟨Value.ref a :: us, []⟩ (ps.zip (Value.ref a :: us)) := by
    have z1 := hb ⟨hp2, g, dr, tk, os⟩ (Value.ref a :: us) I2.kIn (by rw [List.append_nil]; exact lp)
    rwa [List.append_nil] at z1
  have room : Room 1 (X.A.under (.builtin "type.__call__" ⟨.ref C :: us, []⟩)) := (hr.mono hn).make C us []
  have go := F0.run _ X.stack _ _ ⟨Value.ref a :: us, []⟩ (Value.ref a :: us) [V.ref a, v] _ (fun _ _ _ => False) room (I2.env0.make C us []) bind r2 hq
  refine wpAny_call (PySem.HandSPX.call_own F.excBase_ValueError (fun Y => PySem.HandSPX.refsVE_contains Y bm hbm) (I1.kIn _ _ hC) (PySem.W.looks_findIn I1.kIn hi) (fun self => PySem.W.bind_fn I1.kIn self ht) (by rw [lu, sizeLine_eq]; decide) (codeAny_mono go fun r s' back => ?_))
  cases r with
  | error er => exact False.elim back
  | ok fl =>
    cases fl with
    | ret u =>
      obtain ⟨w, H2, o2, b2, un2, ok2, rw2, ew, d, ea, ed, nd1, q2⟩ := back
      subst ew
      obtain ⟨h2, g2, d2, t2, os'⟩ := s'
      obtain ⟨t0, Gh, J, kG, ge, hoe, nH⟩ := mk_end0 (d2 := d2) (t2 := t2) I1 (Nat.le_succ _) kk un2 ok2 o2 b2 ea ed nd1
      refine ⟨rw2, a, _, #[.ref t0, .none, .none, .none, .bool false, .none], ⟨Gh, g2, d2, t2, os'⟩, _, .ref C, some d, rfl, J, kG, ge, hoe, ⟨rfl, rfl, ?_⟩, rfl, rfl, nH, rfl, b2, raises_own R.o.exC R.o.tyC, q2⟩
      intro vs z
      cases z
      rfl
    | next => exact False.elim back
    | brk => exact False.elim back
    | cont => exact False.elim back

theorem e_dict (q : ∀ p H2, Same H H2 → H p = none → H2 p = some (.dK []) → Q (.ref p) H2) : wE X (.Dict [] [] pos) σ H Q :=
  e_of pe_dnewK fun p np => q p _ (fun b u eo => by rw [upd_ne (ne_of_none eo np)]; exact eo) np upd_same
theorem e_neg {a : Expr} (q : wE X a σ H fun x H1 => ∃ i, x = .int i ∧ Q (.int (-i)) H1) : wE X (.UnaryOp .USub a pos) σ H Q := e_of (pe_un un_neg pe) q
theorem o_cat {l b : Addr} {xs zs : List V} (h1 : H l = some (.lst xs)) (h2 : H b = some (.lst zs)) (hz : xs.length + zs.length ≤ sizeLine) (q : ∀ p H2, Same H H2 → H2 p = some (.lst (xs ++ zs)) → Q (.ref p) H2) : wB X .Add (.ref l) (.ref b) H Q :=
  b_of op_cat ⟨l, b, xs, zs, rfl, rfl, h1, h2, hz, fun p np => q p _ (fun c u eo => by rw [upd_ne (ne_of_none eo np)]; exact eo) upd_same⟩
theorem c_str {i : Int} (hl : i.natAbs.log2 < 1920) (q : Q (.str (toString i)) H) : wC X (.type "str") [.int i] H Q := c_of call_str_int ⟨i, rfl, hl, q⟩
theorem o_isB {a b : Bool} (q : Q (.bl (decide (a = b))) H) : wK X .Is (.bl a) (.bl b) H Q := k_of op_is_bl ⟨a, b, rfl, rfl, q⟩
/-- raise C(e), where nothing is handled -/
theorem s_raiseN {nx : L2.St → Hp → Prop} {rt : VK} {bk ct : L2.St → Hp → Prop} {g n : Nat} {x f : Str} {C : Addr} {W : WX} {pos' : Pos} (R : Er X.prog X.w X.K X.mg X.base x C f) (tk : L2N.Takes X W) (hr : Room n X.A) (hn : 2 ≤ n)
    (q : wE X e σ H fun v H1 => ∀ d H', Same H1 H' → H1 d = none → H' d = some (.xd [(f, v)]) → W (.ref C) (some d) σ H')
    (I : In X N G sc := by assumption) (hG : At G g x := by repeat (first | with_reducible apply At.z | with_reducible apply At.s)) (hc : X.calm = true := by rfl)
    (he : starEach (e :: []) X.env = (false, eval e X.env) :: starEach [] X.env := by rfl) (hpl : (backTo pos (starEach [] X.env)).any (·.1) = false := by rfl) :
    wS X (.Raise (some (.Call (.Name x p0) [e] [] pos)) none pos') ⟨nx, rt, bk, ct⟩ σ H :=
  s_of (L2N.ps_raise hc tk (pmkN R hr hn (I.g hG) (I.gd hG) he hpl)) q
/-- a def of the module that may raise so -/
structure FnN (P : Program) (w : World) (K : PySem.W.Frag) (mg : Str → Option Value) (base : Heap) (k : Nat) (x : Str) (sp : Sp) : Prop where
  ex : ∃ (f : Addr) (fd : FuncData) (ps : List Str), FnOk P w K mg base (L2N.CX P w) k f fd ps sp ∧ mg x = some (.ref f) ∧ PySem.W.keepIn K (.ref f) = true ∧ Binds K fd ps []
theorem e_callN {g k n : Nat} {x : Str} {sp : Sp} {W : WX} (F : FnN X.prog X.w X.K X.mg X.base k x sp) (tk : L2N.Takes X W) (hr : Room n X.A) (hk : k ≤ n) (q : wA X (e :: es) σ H fun vs H1 => sp vs H1 Q (fun cls d H' => W cls d σ H'))
    (I : In X N G sc := by assumption) (hG : At G g x := by repeat (first | with_reducible apply At.z | with_reducible apply At.s)) (he : starEach (e :: es) X.env = (false, eval e X.env) :: starEach es X.env := by rfl) (hpl : (backTo pos (starEach es X.env)).any (·.1) = false := by rfl) :
    wE X (.Call (.Name x p0) (e :: es) [] pos) σ H Q := by
  obtain ⟨f, fd, ps, F0, hm, hkp, hb⟩ := F.ex
  refine e_of (pe_callSD (E := fun σ cls d H' => W cls d σ H') F0 (hr.mono hk) (I.g hG) hm hkp hb .nil (fun σ => L2N.passAt tk σ) pa (I.gd hG) he hpl) ?_
  show wA X (e :: es) σ H fun vs H1 => sp (vs ++ []) H1 Q (fun cls d H' => W cls d σ H')
  simp only [List.append_nil]
  exact q
/-- the suite of an except clause that catches such an error -/
def tsN (X : Cx) (N G : List Str) (sc : Scope) (sts : List Stmt) : Addr → Value → Option Addr → TS := fun a cls d D σ H => ∀ (oe : Obj) (pn : List (Addr × Obj)), Zc cls d oe → (∃ vs, oe.data = .fields vs) → In (X.suite a ((a, oe) :: pn)) N G sc → L2H.HotC (X.suite a ((a, oe) :: pn)) → wL (X.suite a ((a, oe) :: pn)) sts D σ H
theorem s_tryN {nx : L2.St → Hp → Prop} {rt : VK} {bk ct : L2.St → Hp → Prop} {i g : Nat} {x n : Str} {c : Value} {body suite : List Stmt} {b0 : Stmt} {pos' : Pos} {Wout : WX} (hm : X.mg x = some c) (tk : L2N.Takes X Wout)
    (q : ∀ (pn : List (Addr × Obj)) (xe : Value → Shared → Prop), L2N.Takes (X.tr pn xe) (wAs X.K c i (tsN X N G sc (b0 :: suite)) Wout ⟨nx, rt, bk, ct⟩) → In (X.tr pn xe) N G sc → wL (X.tr pn xe) body ⟨nx, rt, bk, ct⟩ σ H)
    (I : In X N G sc := by assumption) (hA : At N i n := by repeat (first | with_reducible apply At.z | with_reducible apply At.s)) (hG : At G g x := by repeat (first | with_reducible apply At.z | with_reducible apply At.s))
    (hln : X.env.kindOf n = some .local := by rfl) (hs : X.stack = X.env :: X.outer := by rfl) (hf : X.env.frame = some X.env.locals := by rfl) :
    wS X (.Try body [.ExceptHandler (some (.Name x np)) (some n) (b0 :: suite) pos'] [] [] pos) ⟨nx, rt, bk, ct⟩ σ H :=
  s_of (L2N.ps_try_as (tb := fun W D σ H => ∀ (pn : List (Addr × Obj)) (xe : Value → Shared → Prop), L2N.Takes (X.tr pn xe) W → In (X.tr pn xe) N G sc → wL (X.tr pn xe) body D σ H) hs hf I.nd (I.hi hA) hln ⟨I.g hG, I.gd hG, .inl hm⟩ tk
    (fun W pn xe tk' po => ⟨fun pins s σ H D Iv h => pl.run pins s σ H D Iv (h pn xe tk' (I.tr po))⟩)
    (fun a oe cls d pn hz hd => ⟨fun pins s σ H D Iv h => pl.run pins s σ H D Iv (h oe pn hz.zc hd I.suite (by
      obtain ⟨vs, hv⟩ := hd
      exact ⟨(a, oe), ⟨rfl, vs, hv, hz.2.2 vs hv⟩, List.mem_cons_self⟩))⟩)) q
theorem takesN0 : L2N.Takes X (fun _ _ _ _ => False) := fun _ _ x => by
  obtain ⟨_, _, _, _, _, _, _, _, _, _, _, _, _, _, _, _, z⟩ := x
  exact z.elim
/-- a def that is called where an error is handled -/
structure FnHt (P : Program) (w : World) (K : PySem.W.Frag) (mg : Str → Option Value) (base : Heap) (k : Nat) (x : Str) (sp : Sp) : Prop where
  ex : ∃ (f : Addr) (fd : FuncData) (ps : List Str), L2H.FnH P w K mg base CX0 k f fd ps sp ∧ mg x = some (.ref f) ∧ PySem.W.keepIn K (.ref f) = true ∧ Binds K fd ps []
theorem e_callH {g k n : Nat} {x : Str} {sp : Sp} (F : FnHt X.prog X.w X.K X.mg X.base k x sp) (hr : L2H.RoomH n X.A) (hk : k ≤ n) (hh : L2H.HotC X) (q : wA X (e :: es) σ H fun vs H1 => sp vs H1 Q E0)
    (I : In X N G sc := by assumption) (hG : At G g x := by repeat (first | with_reducible apply At.z | with_reducible apply At.s)) (he : starEach (e :: es) X.env = (false, eval e X.env) :: starEach es X.env := by rfl) (hpl : (backTo pos (starEach es X.env)).any (·.1) = false := by rfl) :
    wE X (.Call (.Name x p0) (e :: es) [] pos) σ H Q := by
  obtain ⟨f, fd, ps, F0, hm, hkp, hb⟩ := F.ex
  exact e_of (L2H.pe_callH (E := fun _ => E0) F0 (hr.mono hk) hh (I.g hG) hm hkp hb (fun σ pins H s e s' I z => z.elim) pa (I.gd hG) he hpl) q
end
section
variable {P : Program} {w : World} {K : PySem.W.Frag} {mg : Str → Option Value} {base : Heap}
theorem fn_okN {x : Str} {st : Stmt} {N G ps : List Str} {k : Nat} {sp : Sp} (T : Top K mg x st) (S : FnScope N ps (defScope st)) (O : ScOk N G (defScope st)) (len : ∀ vs H Q E, sp vs H Q E → vs.length = ps.length)
    (hb : ∀ (kV doc pm : Value) (an : Option Addr) (cdv ct : Value) (us : List Value), us.length = ps.length → bindArgs (PySem.W.fnOf x x (defArgs st) (defBody st) (defScope st) .none kV doc pm an cdv ct) ⟨us, []⟩ = pure (ps.zip us))
    (hbody : ∀ (f : Addr) (cdv : Value) (A : Around) (outer : List Env) (s : Shared) (H : Hp) (vs : List V) (Q : VK) (E : XK), Room k (A.deeper (envOfC x (defScope st) s.heap.objs.size f cdv)) → sp vs H Q E → In (cxOf (L2N.CX P w) P w K mg base N x (defScope st) f cdv A outer s H E) N G (defScope st) →
      L2N.Takes (cxOf (L2N.CX P w) P w K mg base N x (defScope st) f cdv A outer s H E) (fun cls d _ H => E cls d H) →
      wL (cxOf (L2N.CX P w) P w K mg base N x (defScope st) f cdv A outer s H E) (defBody st) { nx := fun _ H' => Q .non H', rt := Q } (start N vs) H) : FnN P w K mg base (k + 1) x sp := by
  obtain ⟨f, fd, F, hm⟩ := T.ex
  obtain ⟨oc, od, kV, doc, pm, an, cdv, ct, osl, rfl, lk, hcd⟩ := id F.ex
  exact ⟨f, _, ps, fn_of lk hcd S len (fun A outer s H vs Q E hr h => ⟨_, pl, hbody f cdv A outer s H vs Q E hr h ⟨O, ⟨[], (List.append_nil _).symm⟩, S.nd, rfl, rfl, passes_of rfl⟩ (L2N.takes_of rfl rfl rfl rfl)⟩), hm, F.kp, F.binds hb⟩
theorem fn_okH {x : Str} {st : Stmt} {N G ps : List Str} {k : Nat} {sp : Sp} (T : Top K mg x st) (S : FnScope N ps (defScope st)) (O : ScOk N G (defScope st)) (len : ∀ vs H Q E, sp vs H Q E → vs.length = ps.length)
    (hb : ∀ (kV doc pm : Value) (an : Option Addr) (cdv ct : Value) (us : List Value), us.length = ps.length → bindArgs (PySem.W.fnOf x x (defArgs st) (defBody st) (defScope st) .none kV doc pm an cdv ct) ⟨us, []⟩ = pure (ps.zip us))
    (hbody : ∀ (f : Addr) (cdv : Value) (A : Around) (outer : List Env) (s : Shared) (H : Hp) (vs : List V) (Q : VK) (E : XK) (p : Addr × Obj), L2H.RoomH k (A.deeper (envOfC x (defScope st) s.heap.objs.size f cdv)) → sp vs H Q E → In (L2H.cxH CX0 P w K mg base N x (defScope st) f cdv A outer s H E p).nox N G (defScope st) →
      wL (L2H.cxH CX0 P w K mg base N x (defScope st) f cdv A outer s H E p).nox (defBody st) { nx := fun _ H' => Q .non H', rt := Q } (start N vs) H) : FnHt P w K mg base (k + 1) x sp := by
  obtain ⟨f, fd, F, hm⟩ := T.ex
  obtain ⟨oc, od, kV, doc, pm, an, cdv, ct, osl, rfl, lk, hcd⟩ := id F.ex
  exact ⟨f, _, ps, L2H.fn_ofH lk hcd S len (fun A outer s H vs Q E p hot hr h => ⟨_, PSs.nox pl, hbody f cdv A outer s H vs Q E p hr h ⟨O, ⟨[], (List.append_nil _).symm⟩, S.nd, rfl, rfl, PassesOwn.never⟩⟩), hm, F.kp, F.binds hb⟩
end
end Wk

/-! My own layer, texts: chains of comparisons, order and length of texts, a sign of a text, a loop over a text. -/
namespace Wk
open PySem PySem.Spec PyProof.Rows L2
section
variable {X : Cx} {N G : List Str} {sc : Scope} {a b c e : Expr} {es : List Expr} {σ : L2.St} {H : Hp} {Q : VK} {pos : Pos} {QT : Bool → Hp → Prop}
theorem e_chain {op op' : CmpOp} (q : wE X a σ H fun x H1 => wE X b σ H1 fun y H2 => wK X op x y H2 fun z H3 => ∃ k, z = .bl k ∧ (if k = true then wE X c σ H3 fun w H4 => wK X op' y w H4 Q else Q (.bl false) H3)) (hm : lastMarks [op, op'] [b, c] = false := by with_unfolding_all rfl) :
    wE X (.Compare a [op, op'] [b, c] pos) σ H Q := e_of (pe_chain opk opk pe pe pe hm) q
theorem t_chain {op op' : CmpOp} (q : wE X a σ H fun x H1 => wE X b σ H1 fun y H2 => wK X op x y H2 fun z H3 => ∃ k, z = .bl k ∧ (if k = true then wE X c σ H3 fun w H4 => wK X op' y w H4 fun z H5 => ∃ k, z = .bl k ∧ QT k H5 else ∃ k, V.bl false = .bl k ∧ QT k H3)) (hm : lastMarks [op, op'] [b, c] = false := by with_unfolding_all rfl) :
    wT X (.Compare a [op, op'] [b, c] pos) σ H QT := t_of (pt_chain opk opk pe pe pe hm) q
/-- one sign -/
abbrev sg (c : Nat) : Str := ⟨#[c]⟩
theorem lt1 (c d : Nat) : (([c] : List Nat) < [d]) ↔ c < d := by
  constructor
  · intro h
    cases h with
    | rel h => exact h
    | cons h => cases h
  · exact fun h => .rel h
theorem o_le1 {c d : Nat} (q : Q (.bl (decide (c ≤ d))) H) : wK X .LtE (.str (sg c)) (.str (sg d)) H Q := by
  refine k_of op_le_str ⟨sg c, sg d, rfl, rfl, ?_⟩
  have e1 : (!decide (([d] : List Nat) < [c])) = decide (c ≤ d) := by
    by_cases h : c ≤ d
    · have h2 : ¬ (([d] : List Nat) < [c]) := fun z => absurd ((lt1 d c).mp z) (by omega)
      rw [decide_eq_true h, decide_eq_false h2]
      rfl
    · have h2 : ([d] : List Nat) < [c] := (lt1 d c).mpr (by omega)
      rw [decide_eq_false h, decide_eq_true h2]
      rfl
  show Q (.bl (!decide (([d] : List Nat) < [c]))) H
  rw [e1]
  exact q
theorem c_lenS {z : Str} (h : z.length ≤ sizeLine) (q : Q (.int (z.length : Int)) H) : wC X (.builtin "len") [.str z] H Q := c_of call_len ⟨.str z, z.length, rfl, ⟨h, rfl⟩, q⟩
theorem ix_s {z : Str} {i : Int} {c : Nat} (h : z.length ≤ sizeLine) (e : atI z.cps.toList i = some c) (q : Q (.str (sg c)) H) : wIx X (.str z) (.int i) H Q := ix_of ix_str ⟨z, i, c, rfl, rfl, h, e, q⟩
theorem s_forS {nx : L2.St → Hp → Prop} {rt : VK} {bk ct : L2.St → Hp → Prop} {x : Str} {i : Nat} {body : List Stmt} {px : Pos}
    (q : wE X a σ H fun v H1 => ∃ z : Str, v = .str z ∧ ∃ Pv : Nat → L2.St → Hp → Prop, Pv 0 σ H1 ∧ (∀ k c σ H, z.cps[k]? = some c → Pv k σ H → wL X body ⟨Pv (k + 1), rt, nx, Pv (k + 1)⟩ (σ.set i (some (.str (sg c)))) H) ∧ ∀ σ H, Pv z.cps.size σ H → nx σ H)
    (I : In X N G sc := by assumption) (hc : X.calm = true := by rfl) (hA : At N i x := by repeat (first | with_reducible apply At.z | with_reducible apply At.s)) (hs2 : ∀ z, foldedSetIterable a X.env z = pure z := by intro _; rfl) :
    wS X (.For (.Name x px) a body [] pos) ⟨nx, rt, bk, ct⟩ σ H := by
  refine s_of (ps_for I.never hc (pi_str pe) (pg_name I.nd (I.hi hA) (I.loc hA) I.f) pl hs2) (e_mono q fun v H1 q1 => ?_)
  obtain ⟨z, rfl, Pv, h0, hb, hd⟩ := q1
  refine ⟨z, rfl, fun k m σ H => m = z.cps.size - k ∧ k ≤ z.cps.size ∧ Pv k σ H, ⟨z.cps.size, by simp, Nat.zero_le _, h0⟩, ?_⟩
  rintro k m σ H ⟨rfl, hk, p⟩
  by_cases hlt : k < z.cps.size
  · refine .inr ⟨hlt, Pv (k + 1), fun σ' H' p' => ⟨z.cps.size - (k + 1), by omega, rfl, hlt, p'⟩, fun y H' hy => ?_⟩
    obtain ⟨rfl, c, hc', rfl⟩ := hy
    exact hb k c σ _ hc' p
  · have e : k = z.cps.size := by omega
    subst e
    exact .inl ⟨Nat.le_refl _, hd σ H p⟩
end
end Wk

/-! My own layer, comprehensions with their own names, and ground terms: what only makes new objects, over facts that last. -/
namespace Wk
open PySem PySem.Spec PyProof.Rows L2
section
variable {P : Program} {w : World} {K : PySem.W.Frag} {mg : Str → Option Value} {base : Heap}
/-- a def with further slots C for the names of its comprehensions -/
theorem fn_okC {x : Str} {st : Stmt} {N C G ps : List Str} {k : Nat} {sp : Sp} (T : Top K mg x st) (S : FnScope (N ++ C) ps (defScope st)) (O : ScOk N G (defScope st)) (len : ∀ vs H Q E, sp vs H Q E → vs.length = ps.length)
    (hb : ∀ (kV doc pm : Value) (an : Option Addr) (cdv ct : Value) (us : List Value), us.length = ps.length → bindArgs (PySem.W.fnOf x x (defArgs st) (defBody st) (defScope st) .none kV doc pm an cdv ct) ⟨us, []⟩ = pure (ps.zip us))
    (hbody : ∀ (f : Addr) (cdv : Value) (A : Around) (outer : List Env) (s : Shared) (H : Hp) (vs : List V) (Q : VK) (E : XK), Room k (A.deeper (envOfC x (defScope st) s.heap.objs.size f cdv)) → sp vs H Q E → In (cxOf CX0 P w K mg base (N ++ C) x (defScope st) f cdv A outer s H E).nox N G (defScope st) →
      wL (cxOf CX0 P w K mg base (N ++ C) x (defScope st) f cdv A outer s H E).nox (defBody st) { nx := fun _ H' => Q .non H', rt := Q } (start (N ++ C) vs) H) : Fn P w K mg base (k + 1) x sp := by
  obtain ⟨f, fd, F, hm⟩ := T.ex
  exact ⟨f, fd, ps, F.ok S len (fun cdv A outer s H vs Q E hr h => ⟨_, pl, hbody f cdv A outer s H vs Q E hr h ⟨O, ⟨C, rfl⟩, S.nd, rfl, rfl, PassesOwn.never⟩⟩), hm, F.kp, F.binds hb⟩
end
/-! ### blocks -/
instance visDec {sc : Scope} {x : Str} : Decidable (Vis sc x) := inferInstanceAs (Decidable (_ ∨ _))
/-- the names of a comprehension's block: the seen ones with their slots, the global ones, its own at slot i -/
structure BkOk (N : List Str) (Vn : List (Nat × Str)) (G : List Str) (i : Nat) (x : Str) (sc scope : Scope) : Prop where
  lo : ∀ p ∈ Vn, N[p.1]? = some p.2 ∧ Vis (relS scope sc) p.2 ∧ (p.2 == ("__debug__" : Str)) = false ∧ (p.2 == ("__classdict__" : Str)) = false
  gl : ∀ x ∈ G, (relS scope sc).names.lookup x = some .globalImplicit ∧ (x == ("__debug__" : Str)) = false ∧ x ≠ "__name__"
  own : N[i]? = some x ∧ (relS scope sc).names.lookup x = some .local
  blk : blkC N sc scope [(x, i)] = true
structure InB (X : Cx) (Vn : List (Nat × Str)) (G : List Str) : Prop where
  nd : X.N.Nodup
  lo : ∀ p ∈ Vn, X.N[p.1]? = some p.2 ∧ Vis X.env.scope p.2 ∧ (p.2 == ("__debug__" : Str)) = false ∧ (p.2 == ("__classdict__" : Str)) = false
  gl : ∀ x ∈ G, Gl X x ∧ (x == ("__debug__" : Str)) = false ∧ x ≠ "__name__"
abbrev Bk (X : Cx) (s : Shared) (H : Hp) (scope : Scope) (C : Addr) (cl : List (Str × Addr)) (fp : List Addr) : Cx := X.blk s H scope (compEnvC scope cl C X.env) fp
section
variable {X : Cx} {e a b c elt : Expr} {es rest : List Expr} {σ : L2.St} {H : Hp} {Q : VK} {pos p0 : Pos} {N G G' : List Str} {Vn : List (Nat × Str)} {sc scope : Scope}
theorem rel_eq (h : X.env.scope = sc) (C : Addr) (cl : List (Str × Addr)) : (compEnvC scope cl C X.env).scope = relS scope sc := by
  subst h
  rfl
theorem BkOk.inB {i : Nat} {x : Str} (B : BkOk X.N Vn G' i x sc scope) (I : In X N G sc) (s : Shared) (H : Hp) (C : Addr) (cl : List (Str × Addr)) (fp : List Addr) : InB (Bk X s H scope C cl fp) Vn G' := by
  have e : (compEnvC scope cl C X.env).scope = relS scope sc := rel_eq I.sc C cl
  refine ⟨I.nd, fun p hp => ?_, fun y hy => ?_⟩
  · obtain ⟨h1, h2, h3, h4⟩ := B.lo p hp
    exact ⟨h1, by show Vis (compEnvC scope cl C X.env).scope p.2; rw [e]; exact h2, h3, h4⟩
  · obtain ⟨h1, h2, h3⟩ := B.gl y hy
    exact ⟨by show (compEnvC scope cl C X.env).scope.names.lookup y = _; rw [e]; exact h1, h2, h3⟩
theorem BkOk.pg {i : Nat} {x : Str} {px : Pos} (B : BkOk X.N Vn G' i x sc scope) (I : In X N G sc) (s : Shared) (H : Hp) (C : Addr) (cl : List (Str × Addr)) (fp : List Addr) : PG (Bk X s H scope C cl fp) (.Name x px) (gName i) := by
  have e : (compEnvC scope cl C X.env).scope = relS scope sc := rel_eq I.sc C cl
  have l : (Bk X s H scope C cl fp).env.scope.names.lookup x = some .local := by
    show (compEnvC scope cl C X.env).scope.names.lookup x = _
    rw [e]
    exact B.own.2
  exact pg_name I.nd B.own.1 (.inl l) (.inr l)
theorem BkOk.ok {i : Nat} {x : Str} (B : BkOk X.N Vn G' i x sc scope) (I : In X N G sc) : BlkOk X.N X.env.scope scope [(x, i)] := by
  rw [I.sc]
  exact blkOk_by B.blk
theorem InB.g (I : InB X Vn G) {i : Nat} {x : Str} (h : At G i x) : Gl X x := (I.gl x h.mem).1
theorem InB.gd (I : InB X Vn G) {i : Nat} {x : Str} (h : At G i x) : (x == ("__debug__" : Str)) = false := (I.gl x h.mem).2.1
theorem InB.gn (I : InB X Vn G) {i : Nat} {x : Str} (h : At G i x) : x ≠ "__name__" := (I.gl x h.mem).2.2
theorem b_var {j i : Nat} {x : Str} {v : V} (q : Q v H) (I : InB X Vn G := by assumption) (hA : At Vn j (i, x) := by repeat (first | with_reducible apply At.z | with_reducible apply At.s)) (hσ : σ[i]? = some (some v) := by exact rfl) : wE X (.Name x pos) σ H Q :=
  e_of (pe_var (I.lo _ hA.mem).1 (I.lo _ hA.mem).2.1 (I.lo _ hA.mem).2.2.1 (I.lo _ hA.mem).2.2.2) ⟨v, hσ, q⟩
theorem b_call {g : Nat} {k n : Nat} {x : Str} {sp : Sp} (F : Fn X.prog X.w X.K X.mg X.base k x sp) (hr : Room n X.A) (hk : k ≤ n) (q : wA X (e :: es) σ H fun vs H1 => sp vs H1 Q E0) (I : InB X Vn G := by assumption) (hG : At G g x := by repeat (first | with_reducible apply At.z | with_reducible apply At.s))
    (he : starEach (e :: es) X.env = (false, eval e X.env) :: starEach es X.env := by rfl) (hpl : (backTo pos (starEach es X.env)).any (·.1) = false := by rfl) : wE X (.Call (.Name x p0) (e :: es) [] pos) σ H Q := by
  obtain ⟨f, fd, ps, F0, hm, hkp, hb⟩ := F.ex
  refine e_of (pe_call F0 (hr.mono hk) (I.g hG) hm hkp hb .nil pass0 pa (I.gd hG) he hpl) ?_
  show wA X (e :: es) σ H fun vs H1 => sp (vs ++ []) H1 Q E0
  simp only [List.append_nil]
  exact q
theorem b_callB {g : Nat} {x : Str} {id : String} (hm : X.mg x = none) (hv : bootBuiltins x = some (.builtin id)) (q : wA X (e :: es) σ H fun vs H1 => wC X (.builtin id) vs H1 Q) (I : InB X Vn G := by assumption) (hG : At G g x := by repeat (first | with_reducible apply At.z | with_reducible apply At.s))
    (he : starEach (e :: es) X.env = (false, eval e X.env) :: starEach es X.env := by rfl) (hpl : (backTo pos (starEach es X.env)).any (·.1) = false := by rfl) : wE X (.Call (.Name x p0) (e :: es) [] pos) σ H Q := e_of (pe_callB cr (I.g hG) hm hv pa (I.gn hG) (I.gd hG) he hpl) q
theorem b_glob {g : Nat} {x : Str} {v : V} {u : Value} (hm : X.mg x = some u) (r : RelV v u) (q : Q v H) (I : InB X Vn G := by assumption) (hG : At G g x := by repeat (first | with_reducible apply At.z | with_reducible apply At.s)) : wE X (.Name x pos) σ H Q := e_of (pe_glob (I.g hG) hm r (I.gd hG)) q
theorem wipe1 (σ : L2.St) (i : Nat) : wipe σ [i] = σ.set i none := rfl
theorem wipe_set (σ : L2.St) (i : Nat) (v : L2.V) : wipe ((wipe σ [i]).set i (some v)) [i] = wipe σ [i] := by
  simp [wipe1, List.set_set]
/-- what the turns of a comprehension ask: over range(n) -/
def LcR (X : Cx) (Vn : List (Nat × Str)) (G' : List Str) (elt : Expr) (scope : Scope) (i n : Nat) (D : Addr) (σ : L2.St) (H1 : Hp) (Qd : Hp → Prop) : Prop := ∃ Pv : Nat → Hp → Prop, Pv 0 (upd H1 D (.lst [])) ∧
  (∀ k H2, k < n → Pv k H2 → ∀ s0 H0 C cl fp, InB (Bk X s0 H0 scope C cl fp) Vn G' → wE (Bk X s0 H0 scope C cl fp) elt ((wipe σ [i]).set i (some (.int (k : Int)))) H2 fun y H4 => ∃ acc, H4 D = some (.lst acc) ∧ acc.length < sizeLine ∧ Pv (k + 1) (upd H4 D (.lst (acc ++ [y])))) ∧
  ∀ H2, Pv n H2 → Qd H2
/-- .. over a list that stays -/
def LcL (X : Cx) (Vn : List (Nat × Str)) (G' : List Str) (elt : Expr) (scope : Scope) (i : Nat) (ad : Addr) (xs : List L2.V) (D : Addr) (σ : L2.St) (H1 : Hp) (Qd : Hp → Prop) : Prop := ∃ Pv : Nat → Hp → Prop, Pv 0 (upd H1 D (.lst [])) ∧ (∀ k H2, k ≤ xs.length → Pv k H2 → SqL X.K H2 ad xs) ∧
  (∀ k x H2, xs[k]? = some x → Pv k H2 → ∀ s0 H0 C cl fp, InB (Bk X s0 H0 scope C cl fp) Vn G' → wE (Bk X s0 H0 scope C cl fp) elt ((wipe σ [i]).set i (some x)) H2 fun y H4 => ∃ acc, H4 D = some (.lst acc) ∧ acc.length < sizeLine ∧ Pv (k + 1) (upd H4 D (.lst (acc ++ [y])))) ∧
  ∀ H2, Pv xs.length H2 → Qd H2
/-- the turn's reading, where the block may run anywhere -/
@[irreducible] def wBk (X : Cx) (Vn : List (Nat × Str)) (G' : List Str) (elt : Expr) (scope : Scope) : TE := fun σ H Q => ∀ s0 H0 C cl fp, InB (Bk X s0 H0 scope C cl fp) Vn G' → wE (Bk X s0 H0 scope C cl fp) elt σ H Q
theorem pe_bk {s0 : Shared} {H0 : Hp} {C : Addr} {cl : List (Str × Addr)} {fp : List Addr} (I : InB (Bk X s0 H0 scope C cl fp) Vn G') : PE (Bk X s0 H0 scope C cl fp) elt (wBk X Vn G' elt scope) :=
  ⟨fun pins s σ H Q Iv h => by unfold wBk at h; exact pe.run pins s σ H Q Iv (h s0 H0 C cl fp I)⟩
theorem lcR_of {i n : Nat} {D : Addr} {H1 : Hp} {Qd : Hp → Prop} (q : LcR X Vn G' elt scope i n D σ H1 Qd) : ∃ W : Nat → Nat → Hp → Prop, (∃ m, W 0 m (upd H1 D (.lst []))) ∧ ∀ k m H, W k m H →
    ((Itr 0 n).stop k H ∧ Qd H) ∨ ((Itr 0 n).go k H ∧ ∃ Nx : Hp → Prop, (∀ H', Nx H' → ∃ m', m' < m ∧ W (k + 1) m' H') ∧ ∀ x H', (Itr 0 n).yld k H x H' → gName i x (wipe σ [i]) H' fun σ2 H2 => wipe σ2 [i] = wipe σ [i] ∧ tYes σ2 H2 fun b H3 =>
      if b = true then wBk X Vn G' elt scope σ2 H3 fun y H4 => ∃ acc, H4 D = some (.lst acc) ∧ acc.length < sizeLine ∧ Nx (upd H4 D (.lst (acc ++ [y]))) else Nx H3) := by
  obtain ⟨Pv, h0, hs, hd⟩ := q
  refine lc_range Pv h0 (fun k H hk p => ?_) hd
  refine ⟨wipe_set σ i _, ?_⟩
  unfold tYes
  refine iteT ?_
  unfold wBk
  intro s0 H0 C cl fp I
  rw [Int.zero_add]
  exact hs k H hk p s0 H0 C cl fp I
theorem lcL_of {i : Nat} {ad : Addr} {xs : List L2.V} {D : Addr} {H1 : Hp} {Qd : Hp → Prop} (q : LcL X Vn G' elt scope i ad xs D σ H1 Qd) : ∃ W : Nat → Nat → Hp → Prop, (∃ m, W 0 m (upd H1 D (.lst []))) ∧ ∀ k m H, W k m H →
    ((Itl X.K ad).stop k H ∧ Qd H) ∨ ((Itl X.K ad).go k H ∧ ∃ Nx : Hp → Prop, (∀ H', Nx H' → ∃ m', m' < m ∧ W (k + 1) m' H') ∧ ∀ x H', (Itl X.K ad).yld k H x H' → gName i x (wipe σ [i]) H' fun σ2 H2 => wipe σ2 [i] = wipe σ [i] ∧ tYes σ2 H2 fun b H3 =>
      if b = true then wBk X Vn G' elt scope σ2 H3 fun y H4 => ∃ acc, H4 D = some (.lst acc) ∧ acc.length < sizeLine ∧ Nx (upd H4 D (.lst (acc ++ [y]))) else Nx H3) := by
  obtain ⟨Pv, h0, hl, hs, hd⟩ := q
  refine lc_list Pv h0 hl (fun k x H hk p => ?_) hd
  refine ⟨wipe_set σ i _, ?_⟩
  unfold tYes
  refine iteT ?_
  unfold wBk
  intro s0 H0 C cl fp I
  exact hs k x H hk p s0 H0 C cl fp I
/-- [elt for x in range(a)] -/
theorem e_lcR {i g : Nat} {x : Str} {px p cp : Pos} (B : BkOk X.N Vn G' i x sc scope) (hm : X.mg "range" = none)
    (q : wE X a σ H fun v H1 => ∃ n : Nat, v = .int n ∧ n < 2 ^ 62 ∧ ∀ D, H1 D = none → LcR X Vn G' elt scope i n D σ H1 fun H2 => Q (.ref D) H2)
    (I : In X N G sc := by assumption) (hc : X.calm = true := by rfl) (hG : At G g ("range" : Str) := by repeat (first | with_reducible apply At.z | with_reducible apply At.s)) (hs : starEach [a] X.env = [(false, eval a X.env)] := by rfl) (hs2 : ∀ z, foldedSetIterable (.Call (.Name "range" p) [a] [] cp) X.env z = pure z := by intro _; rfl)
    (hs1 : starEach (a :: []) X.env = (false, eval a X.env) :: starEach [] X.env := by rfl) :
    wE X (.ListComp elt [⟨.Name x px, .Call (.Name "range" p) [a] [] cp, [], 0⟩] scope pos) σ H Q := by
  refine e_of (pe_lc (own := [(x, i)]) (g := gName i) (tt := tYes) (te := wBk X Vn G' elt scope) hc I.nd (pi_range1 (I.g hG) hm (pa_cons pe pa_nil hs1) hs) (B.ok I) (fun s H C cl fp => B.pg I s H C cl fp) (fun _ _ _ _ _ => pts_nil) (fun s H C cl fp => pe_bk (B.inB I s H C cl fp)) hs2) (e_mono q fun v H1 q1 => ?_)
  obtain ⟨n, rfl, hn, q2⟩ := q1
  refine ⟨(n : Int), rfl, by omega, by omega, ?_⟩
  rw [Int.toNat_natCast]
  exact fun D hD => lcR_of (q2 D hD)
/-- [elt for x in a], a list -/
theorem e_lcL {i : Nat} {x : Str} {px : Pos} (B : BkOk X.N Vn G' i x sc scope)
    (q : wE X a σ H fun v H1 => ∃ ad xs, v = .ref ad ∧ SqL X.K H1 ad xs ∧ ∀ D, H1 D = none → LcL X Vn G' elt scope i ad xs D σ H1 fun H2 => Q (.ref D) H2)
    (I : In X N G sc := by assumption) (hc : X.calm = true := by rfl) (hs2 : ∀ z, foldedSetIterable a X.env z = pure z := by intro _; rfl) :
    wE X (.ListComp elt [⟨.Name x px, a, [], 0⟩] scope pos) σ H Q := by
  refine e_of (pe_lc (own := [(x, i)]) (g := gName i) (tt := tYes) (te := wBk X Vn G' elt scope) hc I.nd (pi_list pe) (B.ok I) (fun s H C cl fp => B.pg I s H C cl fp) (fun _ _ _ _ _ => pts_nil) (fun s H C cl fp => pe_bk (B.inB I s H C cl fp)) hs2) (e_mono q fun v H1 q1 => ?_)
  obtain ⟨ad, xs, rfl, hl, q2⟩ := q1
  exact ⟨ad, rfl, ⟨xs, hl⟩, fun D hD => lcL_of (q2 D hD)⟩
theorem s_lcR {nx : L2.St → Hp → Prop} {rt : VK} {bk ct : L2.St → Hp → Prop} {i j g : Nat} {x y : Str} {px py p cp spos : Pos} (B : BkOk X.N Vn G' i x sc scope) (hm : X.mg "range" = none)
    (q : wE X a σ H fun v H1 => ∃ n : Nat, v = .int n ∧ n < 2 ^ 62 ∧ ∀ D, H1 D = none → LcR X Vn G' elt scope i n D σ H1 fun H2 => nx (σ.set j (some (.ref D))) H2)
    (I : In X N G sc := by assumption) (hc : X.calm = true := by rfl) (hA : At N j y := by repeat (first | with_reducible apply At.z | with_reducible apply At.s)) (hG : At G g ("range" : Str) := by repeat (first | with_reducible apply At.z | with_reducible apply At.s))
    (hk : X.env.scope.kind = .function := by rfl) (hy : X.env.scope.names.lookup y = some .local := by rfl) (hl : (py.line == pos.line) = true := by rfl) (ha : (scope.names.any fun (n, k) => n == y && (k == .local || k == .cell)) = false := by decide +kernel)
    (hs : starEach [a] X.env = [(false, eval a X.env)] := by rfl) (hs2 : ∀ z, foldedSetIterable (.Call (.Name "range" p) [a] [] cp) X.env z = pure z := by intro _; rfl) (hs1 : starEach (a :: []) X.env = (false, eval a X.env) :: starEach [] X.env := by rfl) :
    wS X (.Assign [.Name y py] (.ListComp elt [⟨.Name x px, .Call (.Name "range" p) [a] [] cp, [], 0⟩] scope pos) spos) ⟨nx, rt, bk, ct⟩ σ H := by
  refine s_of (ps_setLc (own := [(x, i)]) (g := gName i) (tt := tYes) (te := wBk X Vn G' elt scope) hc I.nd (I.hi hA) hy (sw_true hk hy hl ha) (pi_range1 (I.g hG) hm (pa_cons pe pa_nil hs1) hs) (B.ok I) (fun s H C cl fp => B.pg I s H C cl fp) (fun _ _ _ _ _ => pts_nil) (fun s H C cl fp => pe_bk (B.inB I s H C cl fp)) hs2) (e_mono q fun v H1 q1 => ?_)
  obtain ⟨n, rfl, hn, q2⟩ := q1
  refine ⟨(n : Int), rfl, by omega, by omega, ?_⟩
  rw [Int.toNat_natCast]
  exact fun D hD => lcR_of (q2 D hD)
theorem s_lcL {nx : L2.St → Hp → Prop} {rt : VK} {bk ct : L2.St → Hp → Prop} {i j : Nat} {x y : Str} {px py spos : Pos} (B : BkOk X.N Vn G' i x sc scope)
    (q : wE X a σ H fun v H1 => ∃ ad xs, v = .ref ad ∧ SqL X.K H1 ad xs ∧ ∀ D, H1 D = none → LcL X Vn G' elt scope i ad xs D σ H1 fun H2 => nx (σ.set j (some (.ref D))) H2)
    (I : In X N G sc := by assumption) (hc : X.calm = true := by rfl) (hA : At N j y := by repeat (first | with_reducible apply At.z | with_reducible apply At.s))
    (hk : X.env.scope.kind = .function := by rfl) (hy : X.env.scope.names.lookup y = some .local := by rfl) (hl : (py.line == pos.line) = true := by rfl) (ha : (scope.names.any fun (n, k) => n == y && (k == .local || k == .cell)) = false := by decide +kernel) (hs2 : ∀ z, foldedSetIterable a X.env z = pure z := by intro _; rfl) :
    wS X (.Assign [.Name y py] (.ListComp elt [⟨.Name x px, a, [], 0⟩] scope pos) spos) ⟨nx, rt, bk, ct⟩ σ H := by
  refine s_of (ps_setLc (own := [(x, i)]) (g := gName i) (tt := tYes) (te := wBk X Vn G' elt scope) hc I.nd (I.hi hA) hy (sw_true hk hy hl ha) (pi_list pe) (B.ok I) (fun s H C cl fp => B.pg I s H C cl fp) (fun _ _ _ _ _ => pts_nil) (fun s H C cl fp => pe_bk (B.inB I s H C cl fp)) hs2) (e_mono q fun v H1 q1 => ?_)
  obtain ⟨ad, xs, rfl, hl, q2⟩ := q1
  exact ⟨ad, rfl, ⟨xs, hl⟩, fun D hD => lcL_of (q2 D hD)⟩
end
/-! ### ground terms: they make new objects and change none -/
abbrev Rl := Hp → L2.V → Prop
class Lasts (Γ : Hp → Prop) : Prop where
  up : ∀ H H', Same H H' → Γ H → Γ H'
class LastR (R : Rl) : Prop where
  up : ∀ H H' v, Same H H' → R H v → R H' v
def All2 : List Rl → Hp → List L2.V → Prop
  | [], _, vs => vs = []
  | R :: Rs, H, vs => ∃ v us, vs = v :: us ∧ R H v ∧ All2 Rs H us
@[irreducible] def Ev (X : Cx) (e : Expr) (σ : L2.St) (H : Hp) (R : Rl) : Prop := ∀ Q : VK, (∀ v H', Same H H' → R H' v → Q v H') → wE X e σ H Q
@[irreducible] def EvA (X : Cx) (es : List Expr) (σ : L2.St) (H : Hp) (Rs : List Rl) : Prop := ∀ Q : List L2.V → Hp → Prop, (∀ vs H', Same H H' → All2 Rs H' vs → Q vs H') → wA X es σ H Q
/-- a promise of a def that makes new objects alone -/
def spG {α : Type} (A : α → List Rl) (R : α → Rl) : Sp := fun vs H Q _ => ∃ x, All2 (A x) H vs ∧ ∀ v H', Same H H' → R x H' v → Q v H'
section
variable {X : Cx} {e a b c : Expr} {es : List Expr} {σ : L2.St} {H : Hp} {Q : VK} {pos p0 : Pos} {N G : List Str} {sc : Scope} {R R1 R2 : Rl} {Rs : List Rl}
theorem ev_e (h : Ev X e σ H R) (q : ∀ v H', Same H H' → R H' v → Q v H') : wE X e σ H Q := by unfold Ev at h; exact h Q q
theorem ev_of (h : ∀ Q : VK, (∀ v H', Same H H' → R H' v → Q v H') → wE X e σ H Q) : Ev X e σ H R := by unfold Ev; exact h
theorem ev_a {QA : List L2.V → Hp → Prop} (h : EvA X es σ H Rs) (q : ∀ vs H', Same H H' → All2 Rs H' vs → QA vs H') : wA X es σ H QA := by unfold EvA at h; exact h QA q
theorem ev_up {H0 : Hp} (h : Ev X e σ H R) : Ev X e σ H R := h
theorem g_var {i : Nat} {x : Str} {v : V} (r : R H v) (I : In X N G sc := by assumption) (hA : At N i x := by repeat (first | with_reducible apply At.z | with_reducible apply At.s)) (hσ : σ[i]? = some (some v) := by exact rfl) : Ev X (.Name x pos) σ H R :=
  ev_of fun Q q => e_var (q v H (Same.refl H) r) I hA hσ
theorem g_nil : EvA X [] σ H [] := by unfold EvA; exact fun Q q => a_nil (q [] H (Same.refl H) rfl)
theorem g_cons [LastR R] (h1 : Ev X e σ H R) (h2 : ∀ H', Same H H' → EvA X es σ H' Rs) (hs : starEach (e :: es) X.env = (false, eval e X.env) :: starEach es X.env := by rfl) : EvA X (e :: es) σ H (R :: Rs) := by
  unfold EvA
  exact fun Q q => a_cons (ev_e h1 fun v H1 s1 r1 => ev_a (h2 H1 s1) fun vs H2 s2 r2 => q (v :: vs) H2 (s1.trans s2) ⟨v, vs, rfl, LastR.up H1 H2 v s2 r1, r2⟩) hs
theorem g_call {α : Type} {A : α → List Rl} {R : α → Rl} {g k n : Nat} {x : Str} {z : α} (F : Fn X.prog X.w X.K X.mg X.base k x (spG A R)) (hr : Room n X.A) (hk : k ≤ n) (h : EvA X (e :: es) σ H (A z)) (I : In X N G sc := by assumption) (hG : At G g x := by repeat (first | with_reducible apply At.z | with_reducible apply At.s))
    (he : starEach (e :: es) X.env = (false, eval e X.env) :: starEach es X.env := by rfl) (hpl : (backTo pos (starEach es X.env)).any (·.1) = false := by rfl) : Ev X (.Call (.Name x p0) (e :: es) [] pos) σ H (R z) :=
  ev_of fun Q q => e_call F hr hk (ev_a h fun vs H1 s1 r1 => ⟨z, r1, fun v H2 s2 r2 => q v H2 (s1.trans s2) r2⟩) I hG he hpl
theorem g_test {QT : Bool → Hp → Prop} (h : Ev X e σ H fun _ v => v = .bl true) (q : ∀ H', Same H H' → QT true H') (he : ∀ whole, isTrue e X.env whole = (do let v ← whole; standAt e.pos; holding [v] (truthy v)) := by intro _; rfl) : wT X e σ H QT :=
  t_val (ev_e h fun v H' s r => by
    cases (show v = .bl true from r)
    exact ⟨true, rfl, q H' s⟩) he
/-- if not a or not b: return False -/
theorem s_no2 {nx : L2.St → Hp → Prop} {rt : VK} {bk ct : L2.St → Hp → Prop} {body : List Stmt} {p1 p2 p3 p4 : Pos} (h1 : Ev X a σ H fun _ v => v = .bl true) (h2 : ∀ H', Same H H' → Ev X b σ H' fun _ v => v = .bl true) (q : ∀ H', Same H H' → nx σ H')
    (he : ∀ whole, isTrue a X.env whole = (do let v ← whole; standAt a.pos; holding [v] (truthy v)) := by intro _; rfl) (he2 : ∀ whole, isTrue b X.env whole = (do let v ← whole; standAt b.pos; holding [v] (truthy v)) := by intro _; rfl) :
    wS X (.If (.BoolOp .Or [.UnaryOp .Not a p1, .UnaryOp .Not b p2] p3) body [] p4) ⟨nx, rt, bk, ct⟩ σ H := by
  refine s_if (t_w (w_or (t_not (g_test h1 (fun H1 s1 => ?_) he))))
  refine iteF (w_or1 (t_not (g_test (h2 H1 s1) (fun H2 s2 => ?_) he2)))
  exact iteF (l_nil (q H2 (s1.trans s2)))
theorem s_no1 {nx : L2.St → Hp → Prop} {rt : VK} {bk ct : L2.St → Hp → Prop} {body : List Stmt} {p1 p4 : Pos} (h1 : Ev X a σ H fun _ v => v = .bl true) (q : ∀ H', Same H H' → nx σ H')
    (he : ∀ whole, isTrue a X.env whole = (do let v ← whole; standAt a.pos; holding [v] (truthy v)) := by intro _; rfl) :
    wS X (.If (.UnaryOp .Not a p1) body [] p4) ⟨nx, rt, bk, ct⟩ σ H := by
  refine s_if (t_not (g_test h1 (fun H1 s1 => ?_) he))
  exact iteF (l_nil (q H1 s1))
theorem g_and2 (h1 : Ev X a σ H fun _ v => v = .bl true) (h2 : ∀ H', Same H H' → Ev X b σ H' fun _ v => v = .bl true) : Ev X (.BoolOp .And [a, b] pos) σ H fun _ v => v = .bl true :=
  ev_of fun Q q => e_and (ev_e h1 fun v H1 s1 r1 => by
    cases (show v = .bl true from r1)
    exact ⟨true, rfl, iteT (e_one (ev_e (h2 H1 s1) fun v H2 s2 r2 => q v H2 (s1.trans s2) r2))⟩)
theorem g_and3 (h1 : Ev X a σ H fun _ v => v = .bl true) (h2 : ∀ H', Same H H' → Ev X b σ H' fun _ v => v = .bl true) (h3 : ∀ H', Same H H' → Ev X c σ H' fun _ v => v = .bl true) : Ev X (.BoolOp .And [a, b, c] pos) σ H fun _ v => v = .bl true :=
  ev_of fun Q q => e_and (ev_e h1 fun v H1 s1 r1 => by
    cases (show v = .bl true from r1)
    refine ⟨true, rfl, iteT (e_and (ev_e (h2 H1 s1) fun v H2 s2 r2 => ?_))⟩
    cases (show v = .bl true from r2)
    exact ⟨true, rfl, iteT (e_one (ev_e (h3 H2 (s1.trans s2)) fun v H3 s3 r3 => q v H3 ((s1.trans s2).trans s3) r3))⟩)
end
section
variable {X : Cx} {H : Hp} {Q : VK} {i j : Int}
theorem o_mulW (c : CMulW i j) (q : Q (.int (i * j)) H) : wB X .Mult (.int i) (.int j) H Q := b_of op_mulW ⟨i, j, rfl, rfl, c, q⟩
end
end Wk
namespace Wk
open PySem PySem.Spec
/-- the value of a return or of an assignment, a comprehension's scope -/
def valE : Stmt → Expr
  | .Return (some e) _ => e
  | .Assign _ e _ => e
  | .Expr e _ => e
  | _ => .Name "" ⟨0, 0, 0, 0⟩
def lcSc : Expr → Scope
  | .ListComp _ _ sc _ => sc
  | _ => { kind := .function, names := [], isGenerator := false, isCoroutine := false }
end Wk
namespace Wk
open PySem PySem.Spec PyProof.Rows L2
section
variable {X : Cx} {c e : Expr} {body : List Stmt} {σ : L2.St} {H : Hp} {pos : Pos} {N G : List Str} {sc : Scope} {QT QT' : Bool → Hp → Prop}
theorem t_mono (q : wT X c σ H QT) (h : ∀ b H1, QT b H1 → QT' b H1) : wT X c σ H QT' := by
  unfold wT at q ⊢
  exact fun pins s I => wpAny_mono (q pins s I) (fun _ _ ⟨H1, I1, z⟩ => ⟨H1, I1, h _ _ z⟩) fun _ _ z => z
theorem s_while {nx : L2.St → Hp → Prop} {rt : VK} {bk ct : L2.St → Hp → Prop} (Pv : L2.St → Hp → Prop) (μ : L2.St → Hp → Nat) (h0 : Pv σ H)
    (hs : ∀ σ H, Pv σ H → wT X c σ H fun b H1 => if b = true then wL X body ⟨fun σ' H' => Pv σ' H' ∧ μ σ' H' < μ σ H, rt, nx, fun σ' H' => Pv σ' H' ∧ μ σ' H' < μ σ H⟩ σ H1 else nx σ H1)
    (I : In X N G sc := by assumption) : wS X (.While c body [] pos) ⟨nx, rt, bk, ct⟩ σ H :=
  s_of (ps_while I.never pt pl) (while_by Pv μ h0 hs fun _ _ _ _ h q => t_mono q h)
end
end Wk
namespace Wk
open PySem PySem.Spec PyProof.Rows L2
section
variable {X : Cx} {o e : Expr} {σ : L2.St} {H : Hp} {Q : VK} {pos apos : Pos}
/-- o.append(e) -/
theorem e_app (q : wE X o σ H fun x H1 => ∃ l xs0, x = .ref l ∧ SqL X.K H1 l xs0 ∧ wE X e σ H1 fun y H2 => ∃ xs, H2 l = some (.lst xs) ∧ xs.length < sizeLine ∧ Q .non (upd H2 l (.lst (xs ++ [y]))))
    (hbase : attributeBase o "append" X.env (eval o X.env) = eval o X.env := by rfl)
    (hfew : ((backTo pos (starEach (e :: []) X.env)).all (fun x => !x.1) && (backToKw pos (keywordEach [] X.env)).all (fun x => x.1.isSome)
      && decide ((e :: []).length + ([] : List Keyword).length + (if ([] : List Keyword).isEmpty then 0 else 1) < 30)) = true := by rfl)
    (hline : (apos.endLine == pos.line) = true := by rfl) (hs : starEach (e :: []) X.env = (false, eval e X.env) :: starEach [] X.env := by rfl) (hplain : (backTo pos (starEach [] X.env)).any (·.1) = false := by rfl) :
    wE X (.Call (.Attribute o "append" apos) [e] [] pos) σ H Q := by
  refine e_of (pe_bm PySem.F.plainAttrs_list PySem.F.slot_list_append PySem.F.type_list_append mt_append pe (pa_cons pe pa_nil hs) hbase hfew hline hs hplain) (e_mono q fun x H1 z => ?_)
  obtain ⟨l, xs0, rfl, hl, z⟩ := z
  refine ⟨.inl ⟨rfl, _, hl⟩, e_mono z fun y H2 z2 => ?_⟩
  obtain ⟨xs, h1, h2, h3⟩ := z2
  exact ⟨l, xs, y, rfl, rfl, h1, h2, h3⟩
end
end Wk
namespace Wk
open PySem PySem.Spec PyProof.Rows L2
theorem All2.len {Rs : List Rl} {H : Hp} : ∀ {vs : List L2.V}, All2 Rs H vs → vs.length = Rs.length := by
  induction Rs with
  | nil => intro vs h; cases (show vs = [] from h); rfl
  | cons R Rs ih => intro vs h; obtain ⟨v, us, rfl, _, h⟩ := h; simp [ih h]
end Wk
namespace Wk
open PySem PySem.Spec PyProof.Rows L2
/-- from the heap H on -/
def EvS (X : Cx) (e : Expr) (σ : L2.St) (H : Hp) (R : Rl) : Prop := ∀ H', Same H H' → Ev X e σ H' R
def EvSA (X : Cx) (es : List Expr) (σ : L2.St) (H : Hp) (Rs : List Rl) : Prop := ∀ H', Same H H' → EvA X es σ H' Rs
abbrev IsT : Rl := fun _ v => v = .bl true
section
variable {X : Cx} {e a b c : Expr} {es : List Expr} {σ : L2.St} {H H0 : Hp} {Q : VK} {pos p0 : Pos} {N G : List Str} {sc : Scope} {R R1 R2 : Rl} {Rs : List Rl}
theorem EvS.up {H1 : Hp} (h : EvS X e σ H R) (s : Same H H1) : EvS X e σ H1 R := fun H' t => h H' (s.trans t)
theorem EvS.get (h : EvS X e σ H R) (q : ∀ v H', Same H H' → R H' v → Q v H') : wE X e σ H Q := ev_e (h H (Same.refl H)) q
theorem gs_var [LastR R] {i : Nat} {x : Str} {v : L2.V} (r : R H v) (I : In X N G sc := by assumption) (hA : At N i x := by repeat (first | with_reducible apply At.z | with_reducible apply At.s)) (hσ : σ[i]? = some (some v) := by exact rfl) : EvS X (.Name x pos) σ H R :=
  fun H' s => g_var (LastR.up H H' v s r) I hA hσ
theorem gs_int {i : Int} {j} : EvS X (.Constant (.int i) j pos) σ H (fun _ v => v = .int i) := fun H' _ => ev_of fun Q q => e_int (q _ H' (Same.refl H') rfl)
theorem gs_nil : EvSA X [] σ H [] := fun _ _ => g_nil
theorem gs_cons [LastR R] (h1 : EvS X e σ H R) (h2 : EvSA X es σ H Rs) (hs : starEach (e :: es) X.env = (false, eval e X.env) :: starEach es X.env := by rfl) : EvSA X (e :: es) σ H (R :: Rs) := fun H' s => g_cons (h1 H' s) (fun H2 s2 => h2 H2 (s.trans s2)) hs
theorem gs_call {α : Type} {A : α → List Rl} {R : α → Rl} {g k n : Nat} {x : Str} {z : α} (F : Fn X.prog X.w X.K X.mg X.base k x (spG A R)) (hr : Room n X.A) (hk : k ≤ n) (h : EvSA X (e :: es) σ H (A z)) (I : In X N G sc := by assumption) (hG : At G g x := by repeat (first | with_reducible apply At.z | with_reducible apply At.s))
    (he : starEach (e :: es) X.env = (false, eval e X.env) :: starEach es X.env := by rfl) (hpl : (backTo pos (starEach es X.env)).any (·.1) = false := by rfl) : EvS X (.Call (.Name x p0) (e :: es) [] pos) σ H (R z) := fun H' s => g_call F hr hk (h H' s) I hG he hpl
/-- if not a or not b: return False; both hold -/
theorem s_nn {nx : L2.St → Hp → Prop} {rt : VK} {bk ct : L2.St → Hp → Prop} {body : List Stmt} {p1 p2 p3 p4 : Pos} (s0 : Same H0 H) (h1 : EvS X a σ H0 IsT) (h2 : EvS X b σ H0 IsT) (q : ∀ H', Same H0 H' → nx σ H')
    (he : ∀ whole, isTrue a X.env whole = (do let v ← whole; standAt a.pos; holding [v] (truthy v)) := by intro _; rfl) (he2 : ∀ whole, isTrue b X.env whole = (do let v ← whole; standAt b.pos; holding [v] (truthy v)) := by intro _; rfl) :
    wS X (.If (.BoolOp .Or [.UnaryOp .Not a p1, .UnaryOp .Not b p2] p3) body [] p4) ⟨nx, rt, bk, ct⟩ σ H := s_no2 (h1 H s0) (fun H1 s1 => h2 H1 (s0.trans s1)) (fun H1 s1 => q H1 (s0.trans s1)) he he2
theorem s_n {nx : L2.St → Hp → Prop} {rt : VK} {bk ct : L2.St → Hp → Prop} {body : List Stmt} {p1 p4 : Pos} (s0 : Same H0 H) (h1 : EvS X a σ H0 IsT) (q : ∀ H', Same H0 H' → nx σ H')
    (he : ∀ whole, isTrue a X.env whole = (do let v ← whole; standAt a.pos; holding [v] (truthy v)) := by intro _; rfl) :
    wS X (.If (.UnaryOp .Not a p1) body [] p4) ⟨nx, rt, bk, ct⟩ σ H := s_no1 (h1 H s0) (fun H1 s1 => q H1 (s0.trans s1)) he
theorem gs_and2 (h1 : EvS X a σ H IsT) (h2 : EvS X b σ H IsT) : EvS X (.BoolOp .And [a, b] pos) σ H IsT := fun H' s => g_and2 (h1 H' s) fun H2 s2 => h2 H2 (s.trans s2)
theorem gs_and3 (h1 : EvS X a σ H IsT) (h2 : EvS X b σ H IsT) (h3 : EvS X c σ H IsT) : EvS X (.BoolOp .And [a, b, c] pos) σ H IsT := fun H' s => g_and3 (h1 H' s) (fun H2 s2 => h2 H2 (s.trans s2)) fun H2 s2 => h3 H2 (s.trans s2)
theorem s_let {nx : L2.St → Hp → Prop} {rt : VK} {bk ct : L2.St → Hp → Prop} {i : Nat} {x : Str} {pos' : Pos} (s0 : Same H0 H) (h : EvS X e σ H0 R) (q : ∀ v H', Same H0 H' → R H' v → nx (σ.set i (some v)) H')
    (I : In X N G sc := by assumption) (hA : At N i x := by repeat (first | with_reducible apply At.z | with_reducible apply At.s)) (hs : swapsWith e (some (.Name x pos')) pos.line X.env = pure false := by rfl) :
    wS X (.Assign [.Name x pos'] e pos) ⟨nx, rt, bk, ct⟩ σ H := s_set ((h.up s0).get fun v H' s r => q v H' (s0.trans s) r) I hA hs
theorem s_retS {nx : L2.St → Hp → Prop} {rt : VK} {bk ct : L2.St → Hp → Prop} (s0 : Same H0 H) (h : EvS X e σ H0 R) (q : ∀ v H', Same H0 H' → R H' v → rt v H') : wS X (.Return (some e) pos) ⟨nx, rt, bk, ct⟩ σ H := s_ret ((h.up s0).get fun v H' s r => q v H' (s0.trans s) r)
end
end Wk

/-! My own layer, more: defs with loops where an error is handled, a keyword-only parameter with a default, insert. -/
namespace Wk
open PySem PySem.Spec PyProof.Rows L2
section
variable {P : Program} {w : World} {K : PySem.W.Frag} {mg : Str → Option Value} {base : Heap}
theorem fn_okH2 {x : Str} {st : Stmt} {N G ps : List Str} {k : Nat} {sp : Sp} (T : Top K mg x st) (S : FnScope N ps (defScope st)) (O : ScOk N G (defScope st)) (len : ∀ vs H Q E, sp vs H Q E → vs.length = ps.length)
    (hb : ∀ (kV doc pm : Value) (an : Option Addr) (cdv ct : Value) (us : List Value), us.length = ps.length → bindArgs (PySem.W.fnOf x x (defArgs st) (defBody st) (defScope st) .none kV doc pm an cdv ct) ⟨us, []⟩ = pure (ps.zip us))
    (hbody : ∀ (f : Addr) (cdv : Value) (A : Around) (outer : List Env) (s : Shared) (H : Hp) (vs : List L2.V) (Q : VK) (E : XK) (p : Addr × Obj), L2H.RoomH k (A.deeper (envOfC x (defScope st) s.heap.objs.size f cdv)) → sp vs H Q E → In (L2H.cxH CX0 P w K mg base N x (defScope st) f cdv A outer s H E p).nox N G (defScope st) →
      L2H.HotC (L2H.cxH CX0 P w K mg base N x (defScope st) f cdv A outer s H E p).nox →
      wL (L2H.cxH CX0 P w K mg base N x (defScope st) f cdv A outer s H E p).nox (defBody st) { nx := fun _ H' => Q .non H', rt := Q } (start N vs) H) : FnHt P w K mg base (k + 1) x sp := by
  obtain ⟨f, fd, F, hm⟩ := T.ex
  obtain ⟨oc, od, kV, doc, pm, an, cdv, ct, osl, rfl, lk, hcd⟩ := id F.ex
  exact ⟨f, _, ps, L2H.fn_ofH lk hcd S len (fun A outer s H vs Q E p hot hr h => ⟨_, PSs.nox pl, hbody f cdv A outer s H vs Q E p hr h ⟨O, ⟨[], (List.append_nil _).symm⟩, S.nd, rfl, rfl, PassesOwn.never⟩ ⟨p, ⟨hot.1, hot.2⟩, List.mem_cons_self⟩⟩), hm, F.kp, F.binds hb⟩
end
section
variable {X : Cx} {N G : List Str} {sc : Scope} {a e v o : Expr} {es : List Expr} {σ : L2.St} {H : Hp} {Q : VK} {pos p0 kpos apos : Pos}
theorem s_forRH {nx : L2.St → Hp → Prop} {rt : VK} {bk ct : L2.St → Hp → Prop} {g : Nat} {x : Str} {i : Nat} {body : List Stmt} {px p cp : Pos} (hm : X.mg "range" = none) (hot : L2H.HotC X)
    (q : wE X a σ H fun v H1 => ∃ n : Nat, v = .int n ∧ n < 2 ^ 62 ∧ ∃ Pv : Nat → L2.St → Hp → Prop, Pv 0 σ H1 ∧ (∀ k σ H, k < n → Pv k σ H → wL X body ⟨Pv (k + 1), rt, nx, Pv (k + 1)⟩ (σ.set i (some (.int (k : Int)))) H) ∧ ∀ σ H, Pv n σ H → nx σ H)
    (I : In X N G sc := by assumption) (hA : At N i x := by repeat (first | with_reducible apply At.z | with_reducible apply At.s))
    (hG : At G g ("range" : Str) := by repeat (first | with_reducible apply At.z | with_reducible apply At.s)) (hs : starEach [a] X.env = [(false, eval a X.env)] := by rfl) (hs2 : ∀ z, foldedSetIterable (.Call (.Name "range" p) [a] [] cp) X.env z = pure z := by intro _; rfl)
    (hs1 : starEach (a :: []) X.env = (false, eval a X.env) :: starEach [] X.env := by rfl) :
    wS X (.For (.Name x px) (.Call (.Name "range" p) [a] [] cp) body [] pos) ⟨nx, rt, bk, ct⟩ σ H := by
  refine s_of (L2H.ps_forH I.never hot (L2H.pi_range1H (I.g hG) hm (pa_cons pe pa_nil hs1) hs) (pg_name I.nd (I.hi hA) (I.loc hA) I.f) pl hs2) (e_mono q fun v H1 q1 => ?_)
  obtain ⟨n, rfl, hn, Pv, h0, hb, hd⟩ := q1
  refine ⟨(n : Int), rfl, by omega, by omega, ?_⟩
  rw [Int.toNat_natCast]
  refine for_range (n := n) Pv h0 (fun k σ H hk p => ?_) hd
  rw [Int.zero_add]
  exact hb k σ H hk p
/-- a def with one keyword-only parameter kw and its default d, that may raise -/
structure FnKw (P : Program) (w : World) (K : PySem.W.Frag) (mg : Str → Option Value) (base : Heap) (k : Nat) (x kw : Str) (m : Nat) (d : L2.V) (sp : Sp) : Prop where
  ex : ∃ (f : Addr) (fd : FuncData) (ps : List Str), FnOk P w K mg base (L2N.CX P w) k f fd ps sp ∧ mg x = some (.ref f) ∧ PySem.W.keepIn K (.ref f) = true ∧ (∃ ds, Vals [d] ds ∧ Binds K fd ps ds) ∧ ∃ g, KBn K fd ps m [kw] g (fun vs zs => vs ++ zs)
theorem e_callD {g k n m : Nat} {x kw : Str} {d : L2.V} {sp : Sp} {W : WX} (F : FnKw X.prog X.w X.K X.mg X.base k x kw m d sp) (tk : L2N.Takes X W) (hr : Room n X.A) (hk : k ≤ n) (q : wA X (e :: es) σ H fun vs H1 => sp (vs ++ [d]) H1 Q (fun cls d H' => W cls d σ H'))
    (I : In X N G sc := by assumption) (hG : At G g x := by repeat (first | with_reducible apply At.z | with_reducible apply At.s)) (he : starEach (e :: es) X.env = (false, eval e X.env) :: starEach es X.env := by rfl) (hpl : (backTo pos (starEach es X.env)).any (·.1) = false := by rfl) :
    wE X (.Call (.Name x p0) (e :: es) [] pos) σ H Q := by
  obtain ⟨f, fd, ps, F0, hm, hkp, ⟨ds, hd, hb⟩, _⟩ := F.ex
  exact e_of (pe_callSD (E := fun σ cls d H' => W cls d σ H') F0 (hr.mono hk) (I.g hG) hm hkp hb hd (fun σ => L2N.passAt tk σ) pa (I.gd hG) he hpl) q
theorem e_callK {g k n m : Nat} {x kw : Str} {d : L2.V} {sp : Sp} {W : WX} (F : FnKw X.prog X.w X.K X.mg X.base k x kw m d sp) (tk : L2N.Takes X W) (hr : Room n X.A) (hk : k ≤ n) (q : wA X (e :: es) σ H fun vs H1 => wE X v σ H1 fun z H2 => vs.length = m ∧ sp (vs ++ [z]) H2 Q (fun cls d H' => W cls d σ H'))
    (I : In X N G sc := by assumption) (hG : At G g x := by repeat (first | with_reducible apply At.z | with_reducible apply At.s))
    (hall : (backToKw pos (keywordEach [⟨some kw, v, kpos⟩] X.env)).all (·.1.isSome) = true := by rfl) (hks : (backToKw pos (keywordEach [⟨some kw, v, kpos⟩] X.env)).filterMap (·.1) = [kw] := by rfl)
    (he : starEach (e :: es) X.env = (false, eval e X.env) :: starEach es X.env := by rfl) (hpl : ((backTo pos (starEach (e :: es) X.env)).any (·.1) || (backToKw pos (keywordEach [⟨some kw, v, kpos⟩] X.env)).any (·.1.isNone)) = false := by rfl) :
    wE X (.Call (.Name x p0) (e :: es) [⟨some kw, v, kpos⟩] pos) σ H Q := by
  obtain ⟨f, fd, ps, F0, hm, hkp, _, g0, hb⟩ := F.ex
  unfold wE
  intro pins s I0
  refine wpAny_Call_Name_kw (ld_glob I0 (I.g hG) hm ?_ (I.gd hG))
  refine PySem.W.callWith_KW (h₀ := X.base) I0.ok.mod.kin hkp hall (thn (pa.run pos pins s σ H _ I0 q) fun us s1 ⟨vs, H1, I1, r, q1⟩ => ?_) hpl he
  refine thn ((pk_cons pe pk_nil).run pos pins s1 σ H1 (fun zs H2 => ∃ z, zs = [z] ∧ vs.length = m ∧ sp (vs ++ [z]) H2 Q (fun cls d H' => W cls d σ H')) I1 (e_mono q1 fun z H2 z2 => ⟨z, rfl, z2⟩)) fun ws s2 ⟨zs, H2, I2, rz, z, ez, l1, q2⟩ => ⟨I2.kIn, ?_⟩
  subst ez
  rw [hks]
  have r2 := hb.rel r rz
  have l2 : ws.length = [kw].length := rz.length.symm
  refine wpAny_call (codeAny_mono (F0.run X.A X.stack s2 H2 ⟨us, [kw].zip ws⟩ (g0 us ws) (vs ++ [z]) Q (fun cls d H' => W cls d σ H') (hr.mono hk) I2.env0 (hb.to s2 us ws I2.kIn (r.length.symm.trans l1) l2) r2 q2) fun r s' hq => ?_)
  cases r with
  | error e => exact L2N.passAt tk σ pins H2 s2 e s' I2 hq
  | ok fl =>
    cases fl with
    | ret u => exact I2.after hq
    | next => exact False.elim hq
    | brk => exact False.elim hq
    | cont => exact False.elim hq
/-- o.insert(0, v) and its like -/
theorem e_ins {i : Expr} (q : wE X o σ H fun x H1 => ∃ l xs0, x = .ref l ∧ SqL X.K H1 l xs0 ∧ wE X i σ H1 fun j H2 => wE X e σ H2 fun y H3 => ∃ n : Int, ∃ xs, j = .int n ∧ H3 l = some (.lst xs) ∧ xs.length < sizeLine ∧ 0 ≤ n ∧ n < 2 ^ 63 ∧ Q .non (upd H3 l (.lst (xs.take n.toNat ++ [y] ++ xs.drop n.toNat))))
    (hbase : attributeBase o "insert" X.env (eval o X.env) = eval o X.env := by rfl)
    (hfew : ((backTo pos (starEach (i :: [e]) X.env)).all (fun x => !x.1) && (backToKw pos (keywordEach [] X.env)).all (fun x => x.1.isSome)
      && decide ((i :: [e]).length + ([] : List Keyword).length + (if ([] : List Keyword).isEmpty then 0 else 1) < 30)) = true := by rfl)
    (hline : (apos.endLine == pos.line) = true := by rfl) (hs : starEach (i :: [e]) X.env = (false, eval i X.env) :: starEach [e] X.env := by rfl) (hs2 : starEach (e :: []) X.env = (false, eval e X.env) :: starEach [] X.env := by rfl) (hplain : (backTo pos (starEach [e] X.env)).any (·.1) = false := by rfl) :
    wE X (.Call (.Attribute o "insert" apos) [i, e] [] pos) σ H Q := by
  refine e_of (pe_bm PySem.F.plainAttrs_list PySem.F.slot_list_insert PySem.F.type_list_insert mt_insert pe (pa_cons pe (pa_cons pe pa_nil hs2) hs) hbase hfew hline hs hplain) (e_mono q fun x H1 z => ?_)
  obtain ⟨l, xs0, rfl, hl, z⟩ := z
  refine ⟨.inl ⟨rfl, _, hl⟩, e_mono z fun j H2 z2 => e_mono z2 fun y H3 z3 => ?_⟩
  obtain ⟨n, xs, rfl, h1, h2, h3, h4, h5⟩ := z3
  exact ⟨l, xs, n, y, rfl, rfl, h1, h2, h3, h4, h5⟩
end
end Wk
namespace Wk
open PySem PySem.Spec PyProof.Rows L2
section
variable {X : Cx} {N G : List Str} {sc : Scope} {a b e v o i : Expr} {es : List Expr} {σ : L2.St} {H : Hp} {Q : VK} {QT : Bool → Hp → Prop} {pos p0 p2 apos : Pos}
theorem t_tru (q : wE X a σ H fun x H' => ∃ k, TruV X.K x H' k ∧ QT k H') (he : ∀ whole, isTrue a X.env whole = (do let v ← whole; standAt a.pos; holding [v] (truthy v)) := by intro _; rfl) : wT X a σ H QT := t_of (pt_truth pe he) q
theorem tru_l {K : PySem.W.Frag} {l : Addr} {xs : List L2.V} (h : H l = some (.lst xs)) : TruV K (.ref l) H (!xs.isEmpty) := .inl ⟨xs, SqL.of h, rfl⟩
/-- o.pop() -/
theorem e_pop (q : wE X o σ H fun x H1 => ∃ l xs y, x = .ref l ∧ H1 l = some (.lst (xs ++ [y])) ∧ Q y (upd H1 l (.lst xs)))
    (hbase : attributeBase o "pop" X.env (eval o X.env) = eval o X.env := by rfl) (hline : (apos.endLine == pos.line) = true := by rfl) : wE X (.Call (.Attribute o "pop" apos) [] [] pos) σ H Q := by
  refine e_of (pe_bm0 PySem.F.plainAttrs_list PySem.F.slot_list_pop PySem.F.type_list_pop mt_pop pe hbase hline) (e_mono q fun x H1 z => ?_)
  obtain ⟨l, xs, y, rfl, h1, h2⟩ := z
  refine ⟨.inl ⟨rfl, _, SqL.of h1⟩, l, _, y, rfl, rfl, h1, by simp, ?_⟩
  rw [List.dropLast_concat]
  exact h2
theorem e_slL0 {r : L2.V → Option Int → Option Int → Hp → VK → Prop} (hr : SlR X r) (q : wE X e σ H fun x H1 => wE X a σ H1 fun y H2 => ∃ j, y = .int j ∧ r x (some j) none H2 Q) : wE X (.Subscript e (.Slice (some a) none none p2) pos) σ H Q :=
  e_of (pe_slice hr pe (po_some pe) po_none) (e_mono q fun x H1 z => e_mono z fun y H2 ⟨j, e, z2⟩ => ⟨j, e, z2⟩)
theorem e_slL1 {r : L2.V → Option Int → Option Int → Hp → VK → Prop} (hr : SlR X r) (q : wE X e σ H fun x H1 => wE X b σ H1 fun y H2 => ∃ j, y = .int j ∧ r x none (some j) H2 Q) : wE X (.Subscript e (.Slice none (some b) none p2) pos) σ H Q :=
  e_of (pe_slice hr pe po_none (po_some pe)) (e_mono q fun x H1 z => e_mono z fun y H2 ⟨j, e, z2⟩ => ⟨j, e, z2⟩)
theorem s_dput {nx : L2.St → Hp → Prop} {rt : VK} {bk ct : L2.St → Hp → Prop} {pos' : Pos} (hu : X.A.units + 1 < cLine) (q : wE X v σ H fun v H1 => wE X o σ H1 fun x H2 => wE X i σ H2 fun y H3 => ∃ a H4, x = .ref a ∧ DPut H3 a y v H4 ∧ nx σ H4)
    (hs : swapsWith v (some (.Subscript o i pos')) pos.line X.env = pure false := by rfl) : wS X (.Assign [.Subscript o i pos'] v pos) ⟨nx, rt, bk, ct⟩ σ H := s_of (ps_dput hu pe pe pe hs) q
theorem c_listD {p : Addr} {kvs : List (Key × L2.V)} (hc : X.calm = true) (h : H p = some (.dK kvs)) (q : ∀ l H2, Same H H2 → H2 l = some (.lst (kvs.map fun kv => kV kv.1)) → Q (.ref l) H2) : wC X (.type "list") [.ref p] H Q :=
  c_of (call_list_dK hc) ⟨p, kvs, rfl, h, fun l np => q l _ (fun c u eo => by rw [upd_ne (ne_of_none eo np)]; exact eo) upd_same⟩
theorem c_listL {p : Addr} {xs : List L2.V} (h : H p = some (.lst xs)) (q : ∀ l H2, Same H H2 → H l = none → H2 l = some (.lst xs) → Q (.ref l) H2) : wC X (.type "list") [.ref p] H Q :=
  c_of call_list_of ⟨p, xs, rfl, .inl (SqL.of h), fun l np => q l _ (fun c u eo => by rw [upd_ne (ne_of_none eo np)]; exact eo) np upd_same⟩
end
end Wk
namespace Wk
open PySem PySem.Spec PyProof.Rows L2
section
variable {X : Cx} {c e : Expr} {body : List Stmt} {σ : L2.St} {H : Hp} {pos : Pos} {N G : List Str} {sc : Scope}
theorem s_whileN {nx : L2.St → Hp → Prop} {rt : VK} {bk ct : L2.St → Hp → Prop} (Pv : Nat → L2.St → Hp → Prop) (n0 : Nat) (h0 : Pv n0 σ H)
    (hs : ∀ n σ H, Pv n σ H → wT X c σ H fun b H1 => if b = true then wL X body ⟨fun σ' H' => ∃ m, m < n ∧ Pv m σ' H', rt, nx, fun σ' H' => ∃ m, m < n ∧ Pv m σ' H'⟩ σ H1 else nx σ H1)
    (I : In X N G sc := by assumption) : wS X (.While c body [] pos) ⟨nx, rt, bk, ct⟩ σ H := by
  refine s_of (ps_while I.never pt pl) ⟨Pv, ⟨n0, h0⟩, fun n σ H p => ?_⟩
  refine t_mono (hs n σ H p) fun b H1 q => ?_
  cases b with
  | true => exact ⟨fun σ' H' => ∃ m, m < n ∧ Pv m σ' H', fun σ' H' z => z, q⟩
  | false => exact q
end
end Wk
namespace Wk
open PySem PySem.Spec PyProof.Rows L2
/-- a block with two own names -/
structure BkOk2 (N : List Str) (V : List (Nat × Str)) (G : List Str) (i j : Nat) (x y : Str) (sc scope : Scope) : Prop where
  lo : ∀ p ∈ V, N[p.1]? = some p.2 ∧ Vis (relS scope sc) p.2 ∧ (p.2 == ("__debug__" : Str)) = false ∧ (p.2 == ("__classdict__" : Str)) = false
  gl : ∀ x ∈ G, (relS scope sc).names.lookup x = some .globalImplicit ∧ (x == ("__debug__" : Str)) = false ∧ x ≠ "__name__"
  own : N[i]? = some x ∧ (relS scope sc).names.lookup x = some .local
  own2 : N[j]? = some y ∧ (relS scope sc).names.lookup y = some .local
  ne : i ≠ j
  blk : blkC N sc scope [(x, i), (y, j)] = true
section
variable {X : Cx} {e a b c elt : Expr} {es rest : List Expr} {σ : L2.St} {H : Hp} {Q : VK} {pos p0 : Pos} {N G G' : List Str} {Vn : List (Nat × Str)} {sc scope : Scope}
theorem BkOk2.inB {i j : Nat} {x y : Str} (B : BkOk2 X.N Vn G' i j x y sc scope) (I : In X N G sc) (s : Shared) (H : Hp) (C : Addr) (cl : List (Str × Addr)) (fp : List Addr) : InB (Bk X s H scope C cl fp) Vn G' := by
  have e : (compEnvC scope cl C X.env).scope = relS scope sc := rel_eq I.sc C cl
  refine ⟨I.nd, fun p hp => ?_, fun y hy => ?_⟩
  · obtain ⟨h1, h2, h3, h4⟩ := B.lo p hp
    exact ⟨h1, by show Vis (compEnvC scope cl C X.env).scope p.2; rw [e]; exact h2, h3, h4⟩
  · obtain ⟨h1, h2, h3⟩ := B.gl y hy
    exact ⟨by show (compEnvC scope cl C X.env).scope.names.lookup y = _; rw [e]; exact h1, h2, h3⟩
def gT2 (K : PySem.W.Frag) (i j : Nat) : TG := fun v σ H Q => ∃ a u w, v = .ref a ∧ SqT K H a [u, w] ∧ Q ((σ.set i (some u)).set j (some w)) H
theorem BkOk2.pg {i j : Nat} {x y : Str} {px py pt : Pos} {k : Nat} (B : BkOk2 X.N Vn G' i j x y sc scope) (hc : X.calm = true) (I : In X N G sc) (s : Shared) (H : Hp) (C : Addr) (cl : List (Str × Addr)) (fp : List Addr) : PG (Bk X s H scope C cl fp) (.Tuple [.Name x px, .Name y py] k pt) (gT2 X.K i j) := by
  have e : (compEnvC scope cl C X.env).scope = relS scope sc := rel_eq I.sc C cl
  have l : (Bk X s H scope C cl fp).env.scope.names.lookup x = some .local := by
    show (compEnvC scope cl C X.env).scope.names.lookup x = _
    rw [e]
    exact B.own.2
  have l2 : (Bk X s H scope C cl fp).env.scope.names.lookup y = some .local := by
    show (compEnvC scope cl C X.env).scope.names.lookup y = _
    rw [e]
    exact B.own2.2
  refine ⟨fun pins s σ H v u Q I0 r h => ?_⟩
  obtain ⟨ad, u1, w1, rfl, hq, q⟩ := h
  exact (pg_tup (X := Bk X _ _ scope C cl fp) hc (pgs_cons (pg_name I.nd B.own.1 (.inl l) (.inr l)) (pgs_cons (pg_name I.nd B.own2.1 (.inl l2) (.inr l2)) pgs_nil))).run pins s σ H _ u Q I0 r ⟨ad, [u1, w1], rfl, hq, rfl, u1, [w1], rfl, w1, [], rfl, rfl, q⟩
theorem BkOk2.ok {i j : Nat} {x y : Str} (B : BkOk2 X.N Vn G' i j x y sc scope) (I : In X N G sc) : BlkOk X.N X.env.scope scope [(x, i), (y, j)] := by
  rw [I.sc]
  exact blkOk_by B.blk
theorem wipe2 (σ : L2.St) (i j : Nat) : wipe σ [i, j] = (σ.set j none).set i none := rfl
theorem wipe_set2 (σ : L2.St) {i j : Nat} (h : i ≠ j) (u w : L2.V) : wipe (((wipe σ [i, j]).set i (some u)).set j (some w)) [i, j] = wipe σ [i, j] := by
  rw [wipe2, wipe2]
  apply List.ext_getElem?
  intro k
  by_cases h1 : i = k
  · subst h1
    simp [List.getElem?_set, h.symm]
  · by_cases h2 : j = k
    · subst h2
      simp [List.getElem?_set, h1]
    · simp [List.getElem?_set, h1, h2]
/-- [elt for x, y in a], a list of pairs -/
def LcL2 (X : Cx) (Vn : List (Nat × Str)) (G' : List Str) (elt : Expr) (scope : Scope) (i j : Nat) (ad : Addr) (xs : List L2.V) (D : Addr) (σ : L2.St) (H1 : Hp) (Qd : Hp → Prop) : Prop := ∃ Pv : Nat → Hp → Prop, Pv 0 (upd H1 D (.lst [])) ∧ (∀ k H2, k ≤ xs.length → Pv k H2 → SqL X.K H2 ad xs) ∧
  (∀ k x H2, xs[k]? = some x → Pv k H2 → ∃ t u w, x = .ref t ∧ SqT X.K H2 t [u, w] ∧ ∀ s0 H0 C cl fp, InB (Bk X s0 H0 scope C cl fp) Vn G' → wE (Bk X s0 H0 scope C cl fp) elt (((wipe σ [i, j]).set i (some u)).set j (some w)) H2 fun y H4 => ∃ acc, H4 D = some (.lst acc) ∧ acc.length < sizeLine ∧ Pv (k + 1) (upd H4 D (.lst (acc ++ [y])))) ∧
  ∀ H2, Pv xs.length H2 → Qd H2
theorem pe_bk2 {i j : Nat} {x y : Str} {s0 : Shared} {H0 : Hp} {C : Addr} {cl : List (Str × Addr)} {fp : List Addr} (I : InB (Bk X s0 H0 scope C cl fp) Vn G') : PE (Bk X s0 H0 scope C cl fp) elt (wBk X Vn G' elt scope) := pe_bk I
theorem lcL2_of {i j : Nat} (hij : i ≠ j) {ad : Addr} {xs : List L2.V} {D : Addr} {H1 : Hp} {Qd : Hp → Prop} (q : LcL2 X Vn G' elt scope i j ad xs D σ H1 Qd) : ∃ W : Nat → Nat → Hp → Prop, (∃ m, W 0 m (upd H1 D (.lst []))) ∧ ∀ k m H, W k m H →
    ((Itl X.K ad).stop k H ∧ Qd H) ∨ ((Itl X.K ad).go k H ∧ ∃ Nx : Hp → Prop, (∀ H', Nx H' → ∃ m', m' < m ∧ W (k + 1) m' H') ∧ ∀ x H', (Itl X.K ad).yld k H x H' → gT2 X.K i j x (wipe σ [i, j]) H' fun σ2 H2 => wipe σ2 [i, j] = wipe σ [i, j] ∧ tYes σ2 H2 fun b H3 =>
      if b = true then wBk X Vn G' elt scope σ2 H3 fun y H4 => ∃ acc, H4 D = some (.lst acc) ∧ acc.length < sizeLine ∧ Nx (upd H4 D (.lst (acc ++ [y]))) else Nx H3) := by
  obtain ⟨Pv, h0, hl, hs, hd⟩ := q
  refine lc_list Pv h0 hl (fun k x H hk p => ?_) hd
  obtain ⟨t, u, w, rfl, hq, z⟩ := hs k x H hk p
  refine ⟨t, u, w, rfl, hq, wipe_set2 σ hij u w, ?_⟩
  unfold tYes
  refine iteT ?_
  unfold wBk
  intro s0 H0 C cl fp I
  exact z s0 H0 C cl fp I
theorem e_lcL2 {i j : Nat} {x y : Str} {px py pt : Pos} {kt : Nat} (B : BkOk2 X.N Vn G' i j x y sc scope)
    (q : wE X a σ H fun v H1 => ∃ ad xs, v = .ref ad ∧ SqL X.K H1 ad xs ∧ ∀ D, H1 D = none → LcL2 X Vn G' elt scope i j ad xs D σ H1 fun H2 => Q (.ref D) H2)
    (I : In X N G sc := by assumption) (hc : X.calm = true := by rfl) (hs2 : ∀ z, foldedSetIterable a X.env z = pure z := by intro _; rfl) :
    wE X (.ListComp elt [⟨.Tuple [.Name x px, .Name y py] kt pt, a, [], 0⟩] scope pos) σ H Q := by
  refine e_of (pe_lc (own := [(x, i), (y, j)]) (g := gT2 X.K i j) (tt := tYes) (te := wBk X Vn G' elt scope) hc I.nd (pi_list pe) (B.ok I) (fun s H C cl fp => B.pg hc I s H C cl fp) (fun _ _ _ _ _ => pts_nil) (fun s H C cl fp => pe_bk (B.inB I s H C cl fp)) hs2) (e_mono q fun v H1 q1 => ?_)
  obtain ⟨ad, xs, rfl, hl, q2⟩ := q1
  exact ⟨ad, rfl, ⟨xs, hl⟩, fun D hD => lcL2_of B.ne (q2 D hD)⟩
end
end Wk
namespace Wk
open PySem PySem.Spec PyProof.Rows L2
section
variable {P : Program} {w : World} {K : PySem.W.Frag} {mg : Str → Option Value} {base : Heap}
/-- a def of the module with one keyword-only default -/
structure TopK (K : PySem.W.Frag) (mg : Str → Option Value) (x : Str) (st : Stmt) (kw : Str) (d : L2.V) : Prop where
  ex : ∃ (f : Addr) (fd : FuncData), FunD K x x (defArgs st) (defBody st) (defScope st) [] [(kw, d)] f fd ∧ mg x = some (.ref f)
theorem topK_mk {h : Heap} {x kw : Str} {d : L2.V} {u : Value} {st : Stmt} {f D : Addr} {oc : Value} {od an : Option Addr} {osl : Array (Option Value)} {doc pm cdv ct : Value} (X : K.In h) (G : h.Ns mainGlobals mg) (a : PySem.W.nsIn K mainGlobals x = some (some (.ref f)))
    (l : K.lookup f = some ⟨oc, od, .func (PySem.W.fnOf x x (defArgs st) (defBody st) (defScope st) .none (.ref D) doc pm an cdv ct), osl⟩) (c : PySem.W.codeIn K cdv x = true) (k : PySem.W.keepIn K (.ref f) = true)
    (hd : PySem.W.nsIn K D kw = some (some u)) (r : RelV d u) : TopK K mg x st kw d :=
  ⟨f, _, ⟨⟨oc, od, .none, .ref D, doc, pm, an, cdv, ct, osl, rfl, l, c, .inl ⟨rfl, rfl⟩, .inr ⟨D, rfl, fun q hq => by
    simp only [List.mem_singleton] at hq
    subst hq
    exact ⟨u, hd, r⟩⟩⟩, k⟩, PySem.W.mg_of X G a⟩
theorem fn_okKw {x kw : Str} {d : L2.V} {st : Stmt} {N G : List Str} {p1 p2 : Str} {k : Nat} {sp : Sp} (T : TopK K mg x st kw d) (S : FnScope N [p1, p2, kw] (defScope st)) (O : ScOk N G (defScope st)) (len : ∀ vs H Q E, sp vs H Q E → vs.length = 3)
    (hb : ∀ (D : Addr) (doc pm : Value) (an : Option Addr) (cdv ct : Value) (a b u : Value), KwChain D [(kw, u)] (bindArgs (PySem.W.fnOf x x (defArgs st) (defBody st) (defScope st) .none (.ref D) doc pm an cdv ct) ⟨[a, b], []⟩) [(p1, a), (p2, b), (kw, u)])
    (hb2 : ∀ (kV doc pm : Value) (an : Option Addr) (cdv ct : Value) (a b u : Value), bindArgs (PySem.W.fnOf x x (defArgs st) (defBody st) (defScope st) .none kV doc pm an cdv ct) ⟨[a, b], [(kw, u)]⟩ = pure [(p1, a), (p2, b), (kw, u)])
    (hbody : ∀ (f : Addr) (cdv : Value) (A : Around) (outer : List Env) (s : Shared) (H : Hp) (vs : List L2.V) (Q : VK) (E : XK), Room k (A.deeper (envOfC x (defScope st) s.heap.objs.size f cdv)) → sp vs H Q E → In (cxOf (L2N.CX P w) P w K mg base N x (defScope st) f cdv A outer s H E) N G (defScope st) →
      L2N.Takes (cxOf (L2N.CX P w) P w K mg base N x (defScope st) f cdv A outer s H E) (fun cls d _ H => E cls d H) →
      wL (cxOf (L2N.CX P w) P w K mg base N x (defScope st) f cdv A outer s H E) (defBody st) { nx := fun _ H' => Q .non H', rt := Q } (start N vs) H) : FnKw P w K mg base (k + 1) x kw 2 d sp := by
  obtain ⟨f, fd, F, hm⟩ := T.ex
  have hbd := FunD.binds0 (ps := [p1, p2, kw]) F 2 (by simp) rfl (fun D doc pm an cdv ct us ks l1 l2 => by
    match us, ks, l1, l2 with
    | [a, b], [u], _, _ => exact hb D doc pm an cdv ct a b u)
  obtain ⟨oc, od, dV, kV, doc, pm, an, cdv, ct, osl, rfl, lk, hcd, hD, hK⟩ := id F.ex
  obtain rfl : dV = .none := by
    rcases hD with ⟨_, h⟩ | ⟨h, _⟩
    · exact h
    · exact absurd rfl h
  refine ⟨f, _, [p1, p2, kw], fn_of lk hcd S len (fun A outer s H vs Q E hr h => ⟨_, pl, hbody f cdv A outer s H vs Q E hr h ⟨O, ⟨[], (List.append_nil _).symm⟩, S.nd, rfl, rfl, passes_of rfl⟩ (L2N.takes_of rfl rfl rfl rfl)⟩), hm, F.kp, ?_, fun us ws => us ++ ws, ⟨fun s us ws _ l1 l2 => ?_, fun r1 r2 => r1.append r2⟩⟩
  · obtain ⟨ds, h1, h2⟩ := hbd
    exact ⟨ds, h1, h2⟩
  · match us, ws, l1, l2 with
    | [a, b], [u], _, _ => exact .of_eq (hb2 kV doc pm an cdv ct a b u)
end
end Wk

set_option maxHeartbeats 4000000
/-! My own layer: sorted(set(xs)) of a list of texts. -/
namespace Wk
open PySem PySem.Spec PyProof.Rows L2
/-- one more text, if it is new -/
def addL (l : List Str) (z : Str) : List Str := if z ∈ l then l else l ++ [z]
def txE (e : Int × Value) : Str := strOf e.2
def TxE (w : World) (e : Int × Value) : Prop := ∃ z tk, e.2 = Value.str z tk ∧ e.1 = hashStr w z
/-- the set of the texts L -/
def SetTx (w : World) (h : Heap) (a : Addr) (L : List Str) : Prop :=
  ∃ ob es ep tb, h.get? a = some ob ∧ ob.ExactSet ∧ ob.data = .set es ep tb ∧ (∀ e ∈ es.toList, TxE w e) ∧ (es.toList.map txE).Perm L ∧ L.Nodup ∧
    es.size < scanBound ∧ tb.fits es.size = true ∧ Ris tb.place.toList ∧ (w.params.followText "set-order" = true ∨ tb.led = true)
section
variable {P : Program} {w : World} {h h' : Heap} {a : Addr} {L : List Str}
theorem SetTx.moves (R : SetTx w h a L) (k : ∀ o, h.get? a = some o → h'.get? a = some o) : SetTx w h' a L := by
  obtain ⟨ob, es, ep, tb, g1, rest⟩ := R
  exact ⟨ob, es, ep, tb, k ob g1, rest⟩
theorem tx_elems {l : List (Int × Value)} (g : ∀ e ∈ l, TxE w e) : ElemsOf (PySem.strKind P w) l := fun e m => by
  obtain ⟨z, tk, e1, e2⟩ := g e m
  refine ⟨⟨z, by rw [e1]; exact strKind_is P w z tk, e2⟩, ?_⟩
  rw [e1]
  rfl
theorem tx_is {e : Int × Value} (g : TxE w e) (z : Str) : (PySem.strKind P w).is z e.2 = true ↔ txE e = z := by
  obtain ⟨y, tk, e1, _⟩ := g
  have e2 : txE e = y := by unfold txE; rw [e1]; rfl
  rw [e2, e1]
  constructor
  · intro q
    obtain ⟨u, eu⟩ := Value.isStrOf_shape (x := z) (show Value.isStrOf z (.str y tk) = true from q)
    injection eu
  · rintro rfl
    exact strKind_is P w y tk
theorem tx_mem {l : List (Int × Value)} (g : ∀ e ∈ l, TxE w e) (z : Str) : z ∈ l.map txE ↔ ∃ e ∈ l, (PySem.strKind P w).is z e.2 = true := by
  rw [List.mem_map]
  exact ⟨fun ⟨e, m, q⟩ => ⟨e, m, (tx_is (g e m) z).2 q⟩, fun ⟨e, m, q⟩ => ⟨e, m, (tx_is (g e m) z).1 q⟩⟩
theorem tx_fresh (ho : h.get? a = some { cls := .type "set", dict := none, data := .set #[] 0 (.fresh 0 0 (!w.params.followText "set-order")) }) : SetTx w h a [] := by
  refine ⟨_, #[], 0, _, ho, ⟨rfl, rfl, rfl⟩, rfl, (fun e m => by simp at m), .refl _, List.nodup_nil, by decide, rfl, List.Pairwise.nil, ?_⟩
  show _ ∨ (!w.params.followText "set-order") = true
  cases w.params.followText "set-order" with
  | false => exact .inr rfl
  | true => exact .inl rfl
end
section
variable {P : Program} {w : World} {A : Around} {E : Value → Shared → Prop} {s : Shared} {a : Addr} {L : List Str}
theorem tx_tail {g : Bool → Sem Unit} (hg : ∀ (b : Bool) (s1 : Shared) (Q1 : Unit → Shared → Prop), Q1 () s1 → wpAny (model P w) A (g b) Q1 E s1)
    {ob : Obj} {es : Array (Int × Value)} {ep : Nat} {tb : SetTable} (g0 : s.heap.get? a = some ob) (gx : ob.ExactSet) (gd : ob.data = .set es ep tb)
    {fs : Array (Int × Value)} {t2 : SetTable} {M : List Str} (g1 : ∀ e ∈ fs.toList, TxE w e) (pm1 : (fs.toList.map txE).Perm M) (nd1 : M.Nodup)
    (b1 : fs.size < scanBound) (f1 : t2.fits fs.size = true) (r1 : Ris t2.place.toList) (l1 : w.params.followText "set-order" = true ∨ t2.led = true) {wd : Bool} {R : Option Bool → Shared → Prop}
    (hR : ∀ h1, Heap.SameBut a s.heap h1 → SetTx w h1 a M → R (some true) { s with heap := h1 }) :
    wpAny (model P w) A (do
        storeSet a fs t2
        if (!wd && t2.tooFull) = true then do
            g (relayAll t2 fs (SetTable.grown fs.size)).2.2
            storeSet a (relayAll t2 fs (SetTable.grown fs.size)).1 (relayAll t2 fs (SetTable.grown fs.size)).2.1
            pure (some true)
          else pure (some true)) R E s := by
  refine wpAny_bind (wpAny_storeSet_of g0 gd ?_ (fits_of_scanBound b1))
  have g02 := store_at (es' := fs) (t' := t2) g0 gd
  have sb := Heap.SameBut.update s.heap a (Obj.putSet fs t2)
  split
  · have pm := relayAll_perm t2 fs (SetTable.grown fs.size)
    have f3 := relayAll_fits t2 fs (SetTable.grown fs.size)
    have r3 := relayAll_ris t2 fs (SetTable.grown fs.size)
    have l3 := relayAll_led t2 fs (SetTable.grown fs.size)
    generalize relayAll t2 fs (SetTable.grown fs.size) = Z at pm f3 r3 l3 ⊢
    obtain ⟨gs, t3, gave⟩ := Z
    dsimp only at pm f3 r3 l3 ⊢
    have zs : gs.size = fs.size := by rw [← Array.length_toList, pm.length_eq, Array.length_toList]
    have b2 : gs.size < scanBound := zs ▸ b1
    refine wpAny_bind (hg _ _ _ (wpAny_bind (wpAny_storeSet_of g02 rfl ?_ (fits_of_scanBound b2))))
    have g03 := store_at (es' := gs) (t' := t3) g02 rfl
    refine wpAny_pure (hR _ (sb.trans (Heap.SameBut.update _ a _)) ⟨_, gs, _, t3, g03, gx, rfl, fun e m => g1 e (pm.mem_iff.mp m), (pm.map txE).trans pm1, nd1, b2, f3, r3, ?_⟩)
    rw [l3]
    exact l1
  · exact wpAny_pure (hR _ sb ⟨_, fs, _, t2, g02, gx, rfl, g1, pm1, nd1, b1, f1, r1, l1⟩)
theorem addL_in {z : Str} (m : z ∈ L) : addL L z = L := if_pos m
theorem addL_new {z : Str} (m : z ∉ L) : addL L z = L ++ [z] := if_neg m
theorem tx_add {z : Str} {tk : Tok} {Q : Bool → Shared → Prop} (R : SetTx w s.heap a L) (room : L.length + 1 < scanBound)
    (hQ : ∀ (b : Bool) h1, Heap.SameBut a s.heap h1 → SetTx w h1 a (addL L z) → Q b { s with heap := h1 }) :
    wpAny (model P w) A (setAddHashed a (.str z tk) ((PySem.strKind P w).hash z)) Q E s := by
  obtain ⟨ob, es, ep, tb, g0, gx, gd, g, pm0, nd, bb, ff, rr, ll⟩ := R
  have hkey : (PySem.strKind P w).is z (.str z tk) = true := strKind_is P w z tk
  have hsc : (Value.str z tk).scannable = true := rfl
  have hel : ElemsOf (PySem.strKind P w) es.toList := tx_elems g
  unfold setAddHashed setAddHashedIn
  refine wpAny_holding (wpAny_bind (wpAny_setState_of g0 gd ff ?_))
  dsimp only
  rw [byScan_of hsc bb hel]
  simp only [↓reduceIte]
  unfold setAddByScan
  refine wpAny_bind (wpAny_bind (wpAny_rule (wpAny_bind (wpAny_setScan_of hkey g0 gd ff hel ?_))))
  cases fi : List.findIdx? (fun e => (PySem.strKind P w).is z e.2) es.toList with
  | some j =>
    dsimp only
    obtain ⟨hj, pj, _⟩ := List.findIdx?_eq_some_iff_getElem.mp fi
    have m : z ∈ L := pm0.mem_iff.mp ((tx_mem (P := P) g z).2 ⟨es.toList[j], List.getElem_mem hj, pj⟩)
    refine wpAny_pure (wpAny_pure (hQ _ s.heap (Heap.SameBut.refl a s.heap) ?_))
    rw [addL_in m]
    exact ⟨ob, es, ep, tb, g0, gx, gd, g, pm0, nd, bb, ff, rr, ll⟩
  | none =>
    dsimp only
    have nz : z ∉ L := fun m => by
      obtain ⟨e, me, q⟩ := (tx_mem (P := P) g z).1 (pm0.mem_iff.mpr m)
      have c := List.findIdx?_eq_none_iff.mp fi e me
      rw [q] at c
      cases c
    have hgw : ∀ (b : Bool) {s1 : Shared} {Q1 : Unit → Shared → Prop}, Q1 () s1 → wpAny (model P w) A (match b with | true => rule "set.scan.the-table-gave-way" | false => pure ()) Q1 E s1 :=
      fun b s1 Q1 q => by cases b <;> first | exact wpAny_pure q | exact wpAny_rule q
    have pm := layNew_perm tb es ((PySem.strKind P w).hash z) (.str z tk)
    have f1 := layNew_fits tb es ((PySem.strKind P w).hash z) (.str z tk)
    have r1 := layNew_ris tb es ((PySem.strKind P w).hash z) (.str z tk) rr
    have l1 := layNew_led tb es ((PySem.strKind P w).hash z) (.str z tk)
    generalize layNew tb es ((PySem.strKind P w).hash z) (.str z tk) = Z at pm f1 r1 l1 ⊢
    obtain ⟨fs, t1, wd, gave⟩ := Z
    dsimp only at pm f1 r1 l1 ⊢
    rw [Array.toList_push] at pm
    have pk : (fs.toList.map txE).Perm (addL L z) := by
      rw [addL_new nz]
      refine (pm.map txE).trans ?_
      rw [List.map_append]
      exact pm0.append_right _
    have g1 : ∀ e ∈ fs.toList, TxE w e := fun e m => by
      rcases List.mem_append.mp (pm.mem_iff.mp m) with y | y
      · exact g e y
      · rw [List.mem_singleton.mp y]
        exact ⟨z, tk, rfl, rfl⟩
    have nd1 : (addL L z).Nodup := by
      rw [addL_new nz]
      exact List.nodup_append.mpr ⟨nd, by simp, fun x hx y hy e => by rw [List.mem_singleton] at hy; subst hy; subst e; exact nz hx⟩
    have zs : fs.size = L.length + 1 := by
      have q := pk.length_eq
      rw [addL_new nz, List.length_map, List.length_append, Array.length_toList] at q
      exact q
    have b1 : fs.size < scanBound := by rw [zs]; exact room
    have led : w.params.followText "set-order" = true ∨ t1.led = true := by rw [l1]; exact ll
    refine wpAny_bind (hgw _ ?_)
    split
    · refine wpAny_bind ?_
      rw [hashByValue_scannable 8 hsc]
      refine wpAny_pure (tx_tail ?_ g0 gx gd g1 pk nd1 b1 ?_ ?_ ?_ ?_)
      · intro b s1 Q1 q; cases b <;> first | exact wpAny_pure q | exact wpAny_rule q
      · first | (split <;> first | exact f1 | exact SetTable.fits_plain_off f1) | exact f1
      · first | (split <;> exact r1 rr) | exact r1 rr | (split <;> exact r1) | exact r1
      · first | (split <;> exact led) | exact led
      · intro h1 sb r; dsimp only; exact wpAny_pure (hQ true h1 sb r)
    · refine wpAny_bind (wpAny_pure ?_)
      simp only [↓reduceIte]
      refine tx_tail ?_ g0 gx gd g1 pk nd1 b1 f1 ?_ led ?_
      · intro b s1 Q1 q; cases b <;> first | exact wpAny_pure q | exact wpAny_rule q
      · first | exact r1 | exact r1 rr
      · intro h1 sb r; dsimp only; exact wpAny_pure (hQ true h1 sb r)
end
section
variable {P : Program} {w : World} {A : Around} {E : Value → Shared → Prop} {s : Shared}
def uniqL (zs : List Str) : List Str := zs.foldl addL []
theorem uniqL_snoc (zs : List Str) (z : Str) : uniqL (zs ++ [z]) = addL (uniqL zs) z := by unfold uniqL; rw [List.foldl_append]; rfl
theorem addL_len (l : List Str) (z : Str) : (addL l z).length ≤ l.length + 1 := by unfold addL; split <;> simp
theorem foldL_len : ∀ (zs l : List Str), (zs.foldl addL l).length ≤ l.length + zs.length
  | [], l => by simp
  | z :: zs, l => by
    have h1 := foldL_len zs (addL l z)
    have h2 := addL_len l z
    simp only [List.foldl_cons, List.length_cons]
    omega
theorem uniqL_len (zs : List Str) : (uniqL zs).length ≤ zs.length := by
  have h := foldL_len zs []
  simpa [uniqL] using h
theorem tx_loop {I : Addr} {fp wr : List Addr} {G : Array GenState → Array GenState → Prop} {n : Nat} {Pv : Nat → Value → Prop} {St : Nat → Shared → Prop} {R : Result → Shared → Prop}
    (W : WalksS P w A.in1 I fp wr G n Pv St) (D : Addr) (dfp : D ∉ fp) (zs : List Str) (en : n = zs.length) (hb : zs.length + 1 < scanBound) (hv : ∀ i v, Pv i v → ∃ z t, zs[i]? = some z ∧ v = .str z t) :
    ∀ (k i : Nat) (s : Shared), n - i = k → i ≤ n → St i s → SetTx w s.heap D (uniqL (zs.take i)) →
      (∀ s1, Moved (D :: wr) G s s1 → SetTx w s1.heap D (uniqL zs) → R (.ok (.ret .none)) s1) →
      codeAny (model P w) A (.builtin "set.update.loop" ⟨[.ref D, .ref I], []⟩) R s := by
  have dwr : D ∉ wr := fun m => dfp (W.sub _ m)
  have more : ∀ b ∈ wr, b ∈ D :: wr := fun b m => List.mem_cons_of_mem _ m
  intro k
  induction k with
  | zero =>
    intro i s ek hi st hD hR
    obtain rfl : i = n := by omega
    refine codeAny_builtin PyProof.Rows.F.entry_set_update_loop ?_
    rw [Around.under_plainId PyProof.Rows.F.plain_set_update_loop _]
    show wpAny _ A.in1 (pyNext (.ref I) >>= _) _ _ s
    refine wpAny_bind (W.done s _ _ st fun s1 mv => ?_)
    show wpAny _ A.in1 (ret Value.none) _ _ s1
    rw [List.take_of_length_le (by omega)] at hD
    exact wpAny_pure (hR s1 (mv.mono more) (hD.moves fun o e => mv.heap D o dwr e))
  | succ k ih =>
    intro i s ek hi st hD hR
    have lt : i < n := by omega
    refine codeAny_builtin PyProof.Rows.F.entry_set_update_loop ?_
    rw [Around.under_plainId PyProof.Rows.F.plain_set_update_loop _]
    show wpAny _ A.in1 (pyNext (.ref I) >>= _) _ _ s
    refine wpAny_bind (W.item i s _ _ lt st fun v s1 hp st1 mv => ?_)
    obtain ⟨z, t, hz, rfl⟩ := hv i v hp
    have hD1 : SetTx w s1.heap D (uniqL (zs.take i)) := hD.moves fun o e => mv.heap D o dwr e
    show wpAny _ A.in1 (holding [Value.str z t] (setAdd D (.str z t)) >>= _) _ _ s1
    refine wpAny_bind (wpAny_holding ?_)
    unfold setAdd
    refine wpAny_holding (wpAny_bind ((PySem.strKind P w).pyHash (k := z) (strKind_is _ _ _ _) ?_))
    have hl := uniqL_len (zs.take i)
    rw [List.length_take] at hl
    refine tx_add (s := { s1 with toks := s1.toks + 1 }) hD1 (by omega) fun b h1 sb hD2 => ?_
    rw [← uniqL_snoc, show zs.take i ++ [z] = zs.take (i + 1) by rw [List.take_add_one, hz]; rfl] at hD2
    refine wpAny_pure ⟨plainId_quiet PyProof.Rows.F.plain_set_update_loop _, ih (i + 1) _ (by omega) lt (W.frame _ s1 _ _ st1 (Nat.le_succ _) fun b m o e => ?_) hD2 fun s2 mv2 hD3 => ?_⟩
    · rw [sb.2 b (fun q : b = D => dfp (q ▸ m))]
      exact e
    · refine hR s2 (Moved.trans W.gtrans ((mv.mono more).then_heap (Nat.le_succ _) fun b o m e => ?_) mv2) hD3
      rw [sb.2 b (fun q : b = D => m (by rw [q]; exact List.mem_cons_self))]
      exact e
def freshSet (w : World) : Obj := { cls := .type "set", dict := none, data := .set #[] 0 (.fresh 0 0 (!w.params.followText "set-order")) }
theorem call_setTx {l : Addr} {items : Array Value} (zs : List Str) {Q : Value → Shared → Prop} (hh : A.handled = none) (hl : s.heap.IsList l items) (hit : StrsAre items.toList zs) (hb : zs.length + 1 < scanBound)
    (h : ∀ (h1 : Heap) (tk : Nat), SetTx w h1 s.heap.objs.size (uniqL zs) → (∀ b o, s.heap.get? b = some o → h1.get? b = some o) → Q (.ref s.heap.objs.size) { s with heap := h1, toks := tk }) :
    wpAny (model P w) A (call (.type "set") [.ref l]) Q E s := by
  have hisz : items.size = zs.length := by rw [← StrsAre.len_eq hit, Array.length_toList]
  obtain ⟨c, tl, hmro⟩ := PySem.F.called_set.mro
  have hmade := PySem.F.called_set.made
  have hsub := PySem.F.called_set.sub
  refine wpAny_call (codeAny_of_tree ?_)
  show wpAny _ _ (callAny (.type "set") _) _ _ _
  refine wpAny_pure ⟨Code.quiet_builtin _ (by decide +kernel), codeAny_builtin PySem.F.entry_type_call ?_⟩
  rw [Around.under_plain (weight_type_call_type "set" [.ref l] []) rfl]
  have h1 := PySem.F.called_set.notType
  have h2 := PySem.F.called_set.canCreate
  have hct := PySem.F.typeCall_set_1 (.ref l)
  repeat (any_goals (first | assumption | wp_step))
  refine codeAny_mono (code_set_led1 (.ref l) (E := E) (Q₁ := fun ov s1 => ov = .ref s.heap.objs.size ∧ s1 = { s with heap := s.heap.push (freshSet w) }) ⟨rfl, rfl⟩) fun r s1 hr => ?_
  cases r with
  | error e => exact hr
  | ok fl =>
    cases fl with
    | ret ov =>
      obtain ⟨rfl, rfl⟩ := hr
      have gS : (s.heap.push (freshSet w)).get? s.heap.objs.size = some (freshSet w) := Heap.get?_push_size _ rfl
      have gT : Shared.TypeIs { s with heap := s.heap.push (freshSet w) } (.ref s.heap.objs.size) "set" := ⟨_, gS, rfl⟩
      have hli := PySem.F.called_set.init.lookup
      have hbi := PySem.F.called_set.init.bind (.ref s.heap.objs.size)
      repeat (any_goals (first | assumption | wp_step))
      refine codeAny_mono (codeAny_call_builtin (R := wants (fun r s2 => r = .none ∧ ∃ h1 tk, s2 = { s with heap := h1, toks := tk } ∧ SetTx w h1 s.heap.objs.size (uniqL zs) ∧
          (∀ b o, s.heap.get? b = some o → h1.get? b = some o)) E) PySem.F.called_set.init.plain PySem.F.entry_set_init (check_set_init_1 gT ?_)) fun r2 s2 hr2 => ?_
      · obtain ⟨ol, hol, hcl, nl, hdl⟩ := hl
        obtain ⟨ocls, odict, odata, oslots⟩ := ol
        simp only at hcl hdl
        subst hcl; subst hdl
        have hol1 : (s.heap.push (freshSet w)).get? l = some { cls := .type "list", dict := odict, data := .seq items nl, slots := oslots } := Heap.get?_push_of_some _ hol
        have hsls := PySem.F.sub_list_set
        have hslf := PySem.F.sub_list_frozenset
        have hne : (Value.type "list" == Value.type "dict") = false := by decide
        have hl1 : (s.heap.push (freshSet w)).IsList l items := ⟨_, hol1, rfl, nl, rfl⟩
        unfold Builtin.«set.__init__» noKeywords Builtin.Frozenset.updateFrom
        generalize hPI : pyIter = PI
        wp_walk
        subst hPI
        refine wpAny_pyIter_list hl1 ?_
        refine wpAny_bind (wpAny_runValue ?_)
        have hlS : l < s.heap.objs.size := Heap.lt_size hol
        have hh3 : A.in1.in1.in1.handled = none := by simp [hh]
        have hneI : l ≠ (s.heap.push (freshSet w)).objs.size := by
          rw [Heap.size_push]; exact Nat.ne_of_lt (Nat.lt_succ_of_lt hlS)
        have hSf : s.heap.objs.size ∉ [(s.heap.push (freshSet w)).objs.size, l] := by
          rw [Heap.size_push]; simp only [List.mem_cons, List.mem_singleton, List.not_mem_nil, or_false, not_or]
          exact ⟨Nat.ne_of_lt (Nat.lt_succ_self _), Nat.ne_of_gt hlS⟩
        have hval : ∀ (i : Nat) (v : Value), items[i]? = some v → ∃ z t, zs[i]? = some z ∧ v = .str z t := fun i v hv => by
          have hi : i < zs.length := by rw [← hisz]; exact (Array.getElem?_eq_some_iff.mp hv).1
          obtain ⟨t, e⟩ := SS.strs_at hit i v (by rw [Array.getElem?_toList]; exact hv)
          refine ⟨zs[i], t, List.getElem?_eq_getElem hi, ?_⟩
          rw [e, List.getD_eq_getElem?_getD, List.getElem?_eq_getElem hi] <;> rfl
        refine tx_loop ((Walks.list hh3 _ l hneI items).toS) s.heap.objs.size hSf zs hisz hb hval (items.size - 0) 0 _ (by omega) (Nat.zero_le _)
          ⟨⟨_, Heap.get?_push_size _ rfl, rfl, rfl⟩, (hl1.push _)⟩ (tx_fresh (Heap.get?_push_of_some _ gS)) fun s3 hm hD => ?_
        obtain ⟨h3, g3, d3, tk3, os3⟩ := s3
        obtain rfl : g3 = s.gens := hm.gens
        obtain rfl : d3 = s.drawn := hm.drawn
        obtain rfl : os3 = s.os := hm.os
        show wpAny _ _ _ _ _ _
        refine wpAny_pure ?_
        show wpAny _ _ (ret Value.none) _ _ _
        refine wpAny_pure ⟨rfl, h3, tk3, rfl, hD, fun b o e => ?_⟩
        have hb0 : b < s.heap.objs.size := Heap.lt_size e
        refine hm.heap b o ?_ (Heap.get?_push_of_some _ (Heap.get?_push_of_some _ e))
        simp only [List.mem_cons, List.mem_singleton, List.not_mem_nil, or_false, not_or]
        exact ⟨Nat.ne_of_lt hb0, by rw [Heap.size_push]; exact Nat.ne_of_lt (Nat.lt_succ_of_lt hb0)⟩
      · cases r2 with
        | error e => exact hr2
        | ok fl2 =>
          cases fl2 with
          | ret r =>
            obtain ⟨rfl, h3, tk, rfl, hD, hk⟩ := hr2
            repeat (any_goals (first | assumption | wp_step))
            exact h _ _ hD hk
          | _ => exact hr2.elim
    | _ => exact hr.elim
end
end Wk

set_option maxHeartbeats 4000000
/-! My own layer: sorted of a set of texts, tuple(reversed(t)) of a tuple. -/
namespace Wk
open PySem PySem.Spec PyProof.Rows L2
section
variable {P : Program} {w : World} {A : Around} {E : Value → Shared → Prop} {s : Shared} {a : Addr} {L : List Str}
theorem sorted_setTx {Q : Value → Shared → Prop} (R : SetTx w s.heap a L) (hh : A.handled = none) (h64 : L.length < 64)
    (hQ : ∀ s1 p (out : Array Value) (c : Nat) (ys : List Str), (∀ b o, s.heap.get? b = some o → s1.heap.get? b = some o) → s1.gens = s.gens → s1.os = s.os → s.heap.objs.size ≤ p →
      s1.heap.get? p = some (seqObj "list" out c) → StrsAre out.toList ys → ys.Perm L → sortedS ys = true → Q (.ref p) s1) :
    wpAny (model P w) A (call (.builtin "sorted") [.ref a]) Q E s := by
  obtain ⟨ob, es, ep, tb, g0, gx, gd, g, pm0, nd, bb, ff, rr, ll⟩ := R
  refine Calls.call_function_entry kind_sorted plain_sorted entry_sorted (args_sorted1 _) ?_
  unfold Builtin.«sorted»
  refine wpAny_bind (m := checkCount "sorted" 1 1 _) (wpAny_pure ?_)
  refine wpAny_bind (collect_set (A := A.in1) hh ⟨ob, g0, gx.1, gd⟩ ff bb rr ll fun s1 vs k1 hz g1 o1 pm => ?_)
  have hI : StrsAre vs (vs.map strOf) := strsAre_map vs fun v hv => by
    obtain ⟨e, he, q⟩ := List.mem_map.mp (pm.mem_iff.mp hv)
    obtain ⟨z, tk, e1, _⟩ := g e he
    exact ⟨z, tk, q ▸ e1⟩
  have pk : (vs.map strOf).Perm L := by
    have q := pm.map strOf
    rw [List.map_map] at q
    exact q.trans pm0
  have hvl : vs.length = L.length := by have q := pk.length_eq; rwa [List.length_map] at q
  refine wpAny_bind (wpAny_newList ?_ (by rw [hvl, sizeLine_eq]; omega))
  have hoL : (s1.heap.push (seqObj "list" vs.toArray 0)).get? s1.heap.objs.size = some (seqObj "list" vs.toArray 0) := Heap.get?_push_size _ rfl
  refine wpAny_bind (wpAny_holding (wpAny_call_entry slot_list_sort ⟨_, hoL, rfl⟩ entry_list_sort (list_sort_treeK strKind_oneLt hoL hI.keysOf
    (fun v1 v2 rest e => keyKind_strs (ss := vs.map strOf) (by rw [← e]; exact hI)) (by rw [hvl]; exact h64) fun st hp hs => ⟨_, rfl, ?_⟩) (args_list_sort _)))
  obtain ⟨ys, y1, y2, y3⟩ := sorted_out_str hI hp hs
  obtain ⟨c, hc⟩ := sortedHeap_at (vs := vs) (out := (arrOf st).map (·.2)) hoL
  refine wpAny_pure ⟨_, rfl, hQ _ s1.heap.objs.size _ c ys (fun b u e => ?_) g1 o1 hz hc y1 (y2.trans pk) y3⟩
  have q := k1 b u e
  have lt := Heap.lt_size q
  show (sortedHeap (s1.heap.push (seqObj "list" vs.toArray 0)) s1.heap.objs.size vs ((arrOf st).map (·.2))).get? b = some u
  rw [sortedHeap_old (Nat.ne_of_lt lt) (by rw [size_push']; exact Nat.lt_succ_of_lt lt)]
  exact Heap.get?_push_of_some _ q
end
/-- the set of the texts L at a -/
def SetTO (w : World) (a : Addr) (L : List Str) : HO := .ext fun h => SetTx w h a L
section
variable {X : Cx}
theorem setTO_ok {w : World} {P : Program} {H : Hp} {h : Heap} {a : Addr} {L : List Str} (R : SetTx w h a L) : ObjOk P w H h a (SetTO w a L) := by
  have ⟨o, _, _, _, ho, _⟩ := R
  exact ⟨R, ⟨o, ho⟩, fun _ _ p k => SetTx.moves p k⟩
def rSetOfTx (w : World) (K : PySem.W.Frag) : List V → Hp → VK → Prop := fun xs H Q => ∃ (l : Addr) (zs : List Str), xs = [V.ref l] ∧ SqL K H l (zs.map V.str) ∧ zs.length + 1 < scanBound ∧ ∀ p, H p = none → Q (.ref p) (upd H p (SetTO w p (uniqL zs)))
theorem cr_setOfTx (hc : X.calm = true) : CallR X (.type "set") (rSetOfTx X.w X.K) := by
  intro pins s σ H xs us Q I r h
  obtain ⟨l, zs, rfl, hq, hb, q⟩ := h
  rw [Vals.ref1 r]
  obtain ⟨its, rv, pl, hz⟩ := I.list hq
  refine call_setTx zs (I.ok.hd hc) pl.isList (by simpa using strsAre_of rv) hb fun h1 tk hD k => ?_
  exact ⟨.ref _, upd H s.heap.objs.size (SetTO X.w s.heap.objs.size (uniqL zs)), I.laid (t' := tk) k (Nat.le_refl _) (setTO_ok hD), rfl, q _ (I.hok.fresh (Nat.le_refl _))⟩
def rSortedTx (w : World) : List V → Hp → VK → Prop := fun vs H Q => ∃ (a : Addr) (L : List Str), vs = [V.ref a] ∧ H a = some (SetTO w a L) ∧ L.length < 64 ∧
  ∀ (ys : List Str) (p : Addr), ys.Perm L → sortedS ys = true → H p = none → Q (.ref p) (upd H p (.lst (ys.map V.str)))
theorem cr_sortedTx (hc : X.calm = true) : CallR X (.builtin "sorted") (rSortedTx X.w) := by
  intro pins s σ H vs us Q I r h
  obtain ⟨a, L, rfl, ha, h64, q⟩ := h
  have R : SetTx X.w s.heap a L := (I.hok a _ ha).1
  rw [Vals.ref1 r]
  refine sorted_setTx R (I.ok.hd hc) h64 fun s1 p out c ys k g o hp hg hi pm hs => ?_
  have hlen : (ys.map V.str).length ≤ sizeLine := by rw [List.length_map, pm.length_eq, sizeLine_eq]; omega
  have hn : H p = none := I.hok.fresh hp
  have J : Inv X pins σ (upd H p (.lst (ys.map V.str))) { s with heap := s1.heap, gens := s1.gens, drawn := s1.drawn, toks := s1.toks } :=
    I.call (ch := []) (Un.laid k hp hn) (I.hok.laid k hp ⟨hlen, out.toList, c, vals_of_strs hi, hg⟩) (by rw [g]; exact I.bare) (fun _ z => nomatch z)
  have e : s1 = { s with heap := s1.heap, gens := s1.gens, drawn := s1.drawn, toks := s1.toks } := by
    cases s1
    cases s
    cases o
    rfl
  rw [e]
  exact ⟨.ref p, _, J, rfl, q ys p pm hs hn⟩
end
end Wk

set_option maxHeartbeats 4000000
/-! My own layer: tuple(reversed(t)) of a tuple. -/
namespace Wk
open PySem PySem.Spec PyProof.Rows L2 RT
theorem nolen_rt : typeLookup (.type "reversed") "__len__" = pure none := by rw [typeLookup_type, builtinLookup_eq_fast]; kernel_rfl
theorem hint_rt : typeLookup (.type "reversed") "__length_hint__" = pure (some (.builtin "reversed.__length_hint__")) := by rw [typeLookup_type, builtinLookup_eq_fast]; kernel_rfl
theorem slot_rt_hint : Slot "reversed" "__length_hint__" "reversed.__length_hint__" :=
  .of (owner := "reversed") (n := "__length_hint__") (by rw [typeLookup_type, builtinLookup_eq_fast]; kernel_rfl) (by decide +kernel) (by decide +kernel) (by decide +kernel)
    (by first | exact .inl (by decide +kernel) | exact .inr (by decide +kernel)) (by rw [isSubtype_type]; kernel_rfl)
theorem entry_rt_hint : entryFor table "reversed.__length_hint__" = some Builtin.«reversed.__length_hint__» := entryFor_of_tree (by kernel_rfl)
theorem args_rt_hint (a : Value) : argsOk "reversed.__length_hint__" ⟨[a], []⟩ := by
  unfold argsOk; rw [signature?_of (id := "reversed.__length_hint__") (n := ['_', '_', 't', 'n', 'i', 'h', '_', 'h', 't', 'g', 'n', 'e', 'l', '_', '_']) (o := ['d', 'e', 's', 'r', 'e', 'v', 'e', 'r']) (by kernel_rfl) owner_rt]; kernel_rfl
theorem bind_rt_hint (x : Value) : bindSpecial (.builtin "reversed.__length_hint__") x = pure (.builtin "reversed.__length_hint__", [x]) := by
  unfold bindSpecial
  rw [show typeOf (.builtin "reversed.__length_hint__") = pure (.type "method_descriptor") from by kernel_rfl]
  rfl
section
variable {prog : Program} {w : World} {A : Around} {E : Value → Shared → Prop} {s : Shared}
theorem walks_rt (hh : A.handled = none) (it t : Addr) (ne : t ≠ it) (items : Array Value) (hz : items.size ≤ sizeLine) :
    Walks prog w A it [it, t] [it] items.size (fun i v => items[items.size - 1 - i]? = some v) (fun i h => i ≤ items.size ∧ IsRt h it t ((items.size : Int) - 1 - (i : Int)) ∧ IsTup h t items) where
  sub := fun b m => by simp at m; simp [m]
  frame := fun _ _ _ x k => ⟨x.1, x.2.1.at fun o e => k it (by simp) o e, let ⟨o, e, z⟩ := x.2.2; ⟨o, k t (by simp) o e, z⟩⟩
  item := fun i s Q E hi x hQ => by
    have e1 : (items.size : Int) - 1 - (i : Int) = ((items.size - 1 - i : Nat) : Int) := by omega
    have hit := x.2.1
    rw [e1] at hit
    have hx : items[items.size - 1 - i]? = some (items[items.size - 1 - i]'(by omega)) := Array.getElem?_eq_getElem (by omega)
    refine next_rt_item hit x.2.2 hx hz fun h1 st sb => ?_
    have e2 : ((items.size - 1 - i : Nat) : Int) - 1 = (items.size : Int) - 1 - ((i + 1 : Nat) : Int) := by omega
    rw [e2] at st
    exact hQ _ h1 _ hx ⟨hi, st, let ⟨o, eo, z⟩ := x.2.2; ⟨o, (sb.2 t ne).trans eo, z⟩⟩ fun b o nb eo => sb.extBut b o (fun q => nb (by simp [q])) eo
  done := fun s Q E x hQ => by
    have e1 : (items.size : Int) - 1 - (items.size : Int) = -1 := by omega
    have hit := x.2.1
    rw [e1] at hit
    exact next_rt_end hh hit fun h1 he => hQ h1 s.toks fun b o nb eo => he b o (fun q => nb (by simp [q])) eo
  self := fun _ _ _ _ x hQ => iter_rt x.2.1 hQ
theorem call_rt_hint {it t : Addr} {items : Array Value} {Q : Value → Shared → Prop} (hit : IsRt s.heap it t ((items.size : Int) - 1)) (ht : IsTup s.heap t items) (hz : items.size ≤ sizeLine)
    (hQ : ∀ tk u, Q (.int items.size tk) { s with toks := u }) : wpAny (model prog w) A (call (.builtin "reversed.__length_hint__") [.ref it]) Q E s := by
  obtain ⟨o, ho, hc, hd⟩ := id hit
  have z2 := hz
  rw [sizeLine_eq] at z2
  refine wpAny_call_entry slot_rt_hint hit.typeIs entry_rt_hint ?_ (args_rt_hint _)
  unfold Builtin.«reversed.__length_hint__»
  refine wpAny_bind (wpAny_of_eq (a := Value.ref it) rfl ?_)
  try dsimp only
  refine wpAny_bind (wpAny_field ho hd (x := .ref t) rfl ?_)
  try dsimp only
  have nn : (Value.ref t == Value.none) = false := by
    first | rfl | exact beq_eq_false_iff_ne.mpr (fun z => nomatch z)
  rw [nn]
  simp only [Bool.false_eq_true, ↓reduceIte]
  refine wpAny_bind (len_tuple ht (by omega) ?_)
  refine wpAny_bind (wpAny_of_eq (a := some ((items.size : Nat) : Int)) rfl ?_)
  try dsimp only
  refine wpAny_bind (wpAny_field (s := { s with toks := s.toks + 1 + 1 }) ho hd (x := rawInt ((items.size : Int) - 1)) rfl ?_)
  show wpAny _ _ (if (items.size : Int) < (items.size : Int) - 1 + 1 then _ else _) _ _ _
  rw [if_neg (by omega)]
  have e1 : (items.size : Int) - 1 + 1 = items.size := by omega
  show wpAny _ _ (retInt ((items.size : Int) - 1 + 1)) _ _ _
  rw [e1]
  unfold retInt
  refine wpAny_bind (wpAny_mkInt ?_)
  exact wpAny_pure ⟨_, rfl, hQ _ _⟩
theorem collect_rt {it t : Addr} {items : Array Value} {Q : List Value → Shared → Prop} (hh : A.handled = none) (hit : IsRt s.heap it t ((items.size : Int) - 1)) (ht : IsTup s.heap t items) (ne : t ≠ it) (hz : items.size ≤ sizeLine)
    (hQ : ∀ (h1 : Heap) (tk : Nat) (acc : Array Value), (∀ b o, b ≠ it → s.heap.get? b = some o → h1.get? b = some o) → ItemsOf (fun i v => items[items.size - 1 - i]? = some v) acc items.size → Q acc.toList { s with heap := h1, toks := tk }) :
    wpAny (model prog w) A (collect (.ref it)) Q E s := by
  have W := (walks_rt (prog := prog) (w := w) (A := A.in1) hh it t ne items hz).toS
  obtain ⟨oi, hoi, _⟩ := id hit
  obtain ⟨ot, hot, _⟩ := id ht
  have nSi : s.heap.objs.size ≠ it := Nat.ne_of_gt (Heap.lt_size hoi)
  have nSt : s.heap.objs.size ≠ t := Nat.ne_of_gt (Heap.lt_size hot)
  have nSf : s.heap.objs.size ∉ [it, t] := by simp only [List.mem_cons, List.not_mem_nil, or_false, not_or]; exact ⟨nSi, nSt⟩
  unfold collect
  refine wpAny_bind (wpAny_runValue (codeAny_builtin F.entry_proto_collect ?_))
  rw [Around.under_plainId F.plain_proto_collect _]
  show wpAny _ A.in1 (newList [] >>= fun l' => again (.builtin "list.__iadd__" ⟨[l', .ref it], []⟩)) _ _ s
  refine wpAny_bind (wpAny_newObj_type ?_)
  refine wpAny_pure ⟨plainId_quiet F.plain_list_iadd _, codeAny_builtin F.entry_list_iadd ?_⟩
  rw [Around.under_plainId F.plain_list_iadd _]
  have gS : (s.heap.push { cls := .type "list", data := .seq ([] : List Value).toArray }).get? s.heap.objs.size = some { cls := .type "list", data := .seq ([] : List Value).toArray } := Heap.get?_push_size _ rfl
  have hit1 : IsRt (s.heap.push { cls := .type "list", data := .seq ([] : List Value).toArray }) it t ((items.size : Int) - 1) := hit.at fun o e => Heap.get?_push_of_some _ e
  have ht1 : IsTup (s.heap.push { cls := .type "list", data := .seq ([] : List Value).toArray }) t items := let ⟨o, e, z⟩ := ht; ⟨o, Heap.get?_push_of_some _ e, z⟩
  have hT : ({ s with heap := s.heap.push { cls := .type "list", data := .seq ([] : List Value).toArray } } : Shared).TypeIs (.ref it) "reversed" := IsRt.typeIs (s := { s with heap := s.heap.push { cls := .type "list", data := .seq ([] : List Value).toArray } }) hit1
  have q1 : Builtin.List.listSameRef (.ref s.heap.objs.size) (.ref it) = false := by simp [Builtin.List.listSameRef, nSi]
  show wpAny _ A.in1 (Builtin.List.listExtendWith (.ref s.heap.objs.size) (.ref it) (.ref s.heap.objs.size)) _ _ _
  unfold Builtin.List.listExtendWith
  refine wpAny_bind (wpAny_typeOf hT ?_)
  rw [if_neg (by rw [q1]; decide)]
  refine wpAny_bind (iter_rt (s := { s with heap := s.heap.push { cls := .type "list", data := .seq ([] : List Value).toArray } }) hit1 ?_)
  refine wpAny_bind (wpAny_holding ?_)
  unfold Builtin.List.listLengthHint
  refine wpAny_bind (wpAny_specialOf hT nolen_rt ?_)
  show wpAny _ A.in1 (specialOf (Value.ref it) (Str.ofString "__length_hint__") >>= _) _ _ _
  refine wpAny_bind (wpAny_specialOf hT hint_rt ?_)
  generalize hid : ("reversed.__length_hint__" : String) = id0
  wp_delta
  rw [show splitId id0 = some ("reversed", "__length_hint__") from by subst hid; decide +kernel]
  subst hid
  refine wpAny_bind (wpAny_isInstance (b := true) hT (by rw [isSubtype_type]; kernel_rfl) ?_)
  simp only [Bool.not_true, Bool.false_eq_true, ↓reduceIte]
  rw [if_neg (by decide +kernel)]
  refine wpAny_bind (wpAny_rule ?_)
  refine wpAny_bind (wpAny_of_eq (bind_rt_hint _) ?_)
  dsimp only
  have hh1 : A.in1.handled = none := hh
  refine wpAny_bind (wpAny_attempt (call_rt_hint hit1 ht1 hz fun tk u => ?_))
  have ea : asInt? (Value.int ((items.size : Nat) : Int) tk) = pure (some ((items.size : Nat) : Int)) := rfl
  simp only [ea, pure_bind]
  have z2 := hz
  rw [sizeLine_eq] at z2
  have f1 : Builtin.List.listFitsIndex ((items.size : Nat) : Int) = true := by
    unfold Builtin.List.listFitsIndex
    simp only [Bool.and_eq_true, decide_eq_true_eq]
    omega
  have f2 : ¬ (((items.size : Nat) : Int) < 0) := by omega
  have f3 : Builtin.List.listTooLong ((items.size : Nat) : Int).toNat = false := by
    unfold Builtin.List.listTooLong
    simp only [Int.toNat_natCast, decide_eq_false_iff_not]
    omega
  rw [f1]
  simp only [Bool.not_true, Bool.false_eq_true, ↓reduceIte]
  rw [if_neg f2, f3]
  simp only [Bool.false_eq_true, ↓reduceIte]
  refine wpAny_pure ?_
  have e0 : ((items.size : Nat) : Int) - 1 - ((0 : Nat) : Int) = (items.size : Int) - 1 := by omega
  split
  · refine wpAny_bind (wpAny_rule ?_)
    refine wpAny_bind ?_
    show wpAny _ A.in1 (updateSeq s.heap.objs.size (·.push .none) >>= fun _ => updateSeq s.heap.objs.size (·.pop)) _ _ _
    refine wpAny_bind (wpAny_updateSeq gS rfl ?_ (by rw [sizeLine_eq]; decide) (by rw [sizeLine_eq]; decide))
    have gS3 := Heap.get?_update_self (Obj.mapSeq (·.push Value.none)) gS rfl
    refine wpAny_updateSeq gS3 rfl ?_ (by rw [sizeLine_eq]; decide) (by rw [sizeLine_eq]; decide)
    have gS4 := Heap.get?_update_self (Obj.mapSeq (·.pop)) gS3 rfl
    have oth : ∀ b o, b ≠ s.heap.objs.size → (s.heap.push { cls := .type "list", data := .seq ([] : List Value).toArray }).get? b = some o → (((s.heap.push { cls := .type "list", data := .seq ([] : List Value).toArray }).update s.heap.objs.size (Obj.mapSeq (·.push Value.none))).update s.heap.objs.size (Obj.mapSeq (·.pop))).get? b = some o :=
      fun b o nb e => (Heap.get?_update_other _ _ (Ne.symm nb)).trans ((Heap.get?_update_other _ _ (Ne.symm nb)).trans e)
    refine wpAny_pure ⟨plainId_quiet F.plain_extend_loop _, codeAny_extend_loopS W hz _ nSf _ items.size 0 _ _ _ rfl (Nat.zero_le _) ⟨Nat.zero_le _, ?_, ?_⟩ gS4 (ItemsOf.nil _) fun s1 acc c1 hm hS1 hacc => ?_⟩
    · rw [e0]
      exact hit1.at fun o e => oth it o nSi.symm e
    · exact let ⟨o, e, z⟩ := ht1; ⟨o, oth t o nSt.symm e, z⟩
    · show wpAny _ A (load s.heap.objs.size >>= _) _ _ s1
      refine wpAny_bind (wpAny_load hS1 (wpAny_pure ?_))
      rw [Moved.eq_with hm]
      refine hQ s1.heap s1.toks acc (fun b o nb e => ?_) hacc
      have lt := Heap.lt_size e
      refine hm.heap b o (fun mm => ?_) (oth b o (Nat.ne_of_lt lt) (Heap.get?_push_of_some _ e))
      rcases List.mem_cons.mp mm with e' | mm
      · exact absurd lt (by rw [e']; exact Nat.lt_irrefl _)
      · exact nb (List.mem_singleton.mp mm)
  · have oth : ∀ b o, b ≠ s.heap.objs.size → (s.heap.push { cls := .type "list", data := .seq ([] : List Value).toArray }).get? b = some o → (s.heap.push { cls := .type "list", data := .seq ([] : List Value).toArray }).get? b = some o := fun b o _ e => e
    refine wpAny_pure ⟨plainId_quiet F.plain_extend_loop _, codeAny_extend_loopS W hz _ nSf _ items.size 0 _ _ _ rfl (Nat.zero_le _) ⟨Nat.zero_le _, ?_, ?_⟩ gS (ItemsOf.nil _) fun s1 acc c1 hm hS1 hacc => ?_⟩
    · rw [e0]
      exact hit1.at fun o e => oth it o nSi.symm e
    · exact let ⟨o, e, z⟩ := ht1; ⟨o, oth t o nSt.symm e, z⟩
    · show wpAny _ A (load s.heap.objs.size >>= _) _ _ s1
      refine wpAny_bind (wpAny_load hS1 (wpAny_pure ?_))
      rw [Moved.eq_with hm]
      refine hQ s1.heap s1.toks acc (fun b o nb e => ?_) hacc
      have lt := Heap.lt_size e
      refine hm.heap b o (fun mm => ?_) (oth b o (Nat.ne_of_lt lt) (Heap.get?_push_of_some _ e))
      rcases List.mem_cons.mp mm with e' | mm
      · exact absurd lt (by rw [e']; exact Nat.lt_irrefl _)
      · exact nb (List.mem_singleton.mp mm)
theorem code_tuple_rt {it t : Addr} {items : Array Value} {Q1 : Value → Shared → Prop} (hh : A.handled = none) (hit : IsRt s.heap it t ((items.size : Int) - 1)) (ht : IsTup s.heap t items) (ne : t ≠ it) (hz : items.size ≤ sizeLine)
    (hq : ∀ (h1 : Heap) (tk : Nat) (acc : Array Value), (∀ b o, b ≠ it → s.heap.get? b = some o → h1.get? b = some o) → ItemsOf (fun i v => items[items.size - 1 - i]? = some v) acc items.size →
      Q1 (.ref h1.objs.size) { s with heap := h1.push { cls := .type "tuple", data := .seq acc }, toks := tk }) :
    codeAny (model prog w) A (.call (.builtin "tuple.__new__") ⟨[.type "tuple", .ref it], []⟩) (wants Q1 E) s := by
  refine codeAny_of_tree ?_
  show wpAny _ A.in1 (do checkBuiltinCall "tuple.__new__" ⟨[.type "tuple", .ref it], []⟩; again (.builtin "tuple.__new__" ⟨[.type "tuple", .ref it], []⟩)) _ _ s
  refine wpAny_bind (wpAny_of_eq (F.newCall_tuple_1 _) (wpAny_pure ⟨plainId_quiet F.plain_tuple_new _, codeAny_builtin F.entry_tuple_new ?_⟩))
  rw [Around.under_plainId F.plain_tuple_new _]
  have hsub := sub_tuple_self
  have hinit := init_tuple_lookup
  have hmh := madeHere_tuple
  have hTI : s.TypeIs (.ref it) "reversed" := hit.typeIs
  have hh1 : A.in1.handled = none := hh
  wp_walk using wpAny_typeOf hTI, collect_rt (A := A.in1) hh1 hit ht ne hz
  intro h1 tk acc k hacc
  show wpAny _ _ (Builtin.Tuple.tupleExact acc.toList.toArray >>= fun v => ret v) _ _ _
  unfold Builtin.Tuple.tupleExact
  refine wpAny_bind (wpAny_newObj_type ?_ (by show acc.toList.toArray.size ≤ sizeLine; simp only [Array.toArray_toList]; rw [hacc.1]; exact hz))
  refine wpAny_pure ?_
  have e : acc.toList.toArray = acc := by simp
  rw [e]
  exact hq h1 tk acc k hacc
theorem call_tuple_rt {it t : Addr} {items : Array Value} {Q : Value → Shared → Prop} (hh : A.handled = none) (hit : IsRt s.heap it t ((items.size : Int) - 1)) (ht : IsTup s.heap t items) (ne : t ≠ it) (hz : items.size ≤ sizeLine)
    (hQ : ∀ (h1 : Heap) (tk : Nat) (acc : Array Value), (∀ b o, b ≠ it → s.heap.get? b = some o → h1.get? b = some o) → ItemsOf (fun i v => items[items.size - 1 - i]? = some v) acc items.size →
      Q (.ref h1.objs.size) { s with heap := h1.push { cls := .type "tuple", data := .seq acc }, toks := tk }) :
    wpAny (model prog w) A (call (.type "tuple") [.ref it]) Q E s := by
  refine callType_codes (Q₁ := fun ov s1 => s1.TypeIs ov "tuple" ∧ Q ov s1) F.called_tuple (F.typeCall_tuple_1 _) F.entry_object_init
    (code_tuple_rt (A := A.in1) hh hit ht ne hz fun h1 tk acc k hacc => ⟨⟨_, Heap.get?_push_size _ rfl, rfl⟩, hQ h1 tk acc k hacc⟩) fun ov s1 z => ?_
  exact ⟨z.1, F.args_object_init_2 ov _, object_init_meets F.called_tuple.init.lookup F.called_tuple.made (by decide) prog w A.in1 _ s1 ⟨z.1, rfl, z.2⟩⟩
end
section
variable {X : Cx}
/-- tuple(reversed(x)), x a tuple -/
def tTupRt (K : PySem.W.Frag) (te : TE) : TE := fun σ H Q => te σ H fun v H1 => ∃ (a : Addr) (xs : List V), v = .ref a ∧ SqT K H1 a xs ∧ ∀ q, H1 q = none → Q (.ref q) (upd H1 q (.tup xs.reverse))
theorem pe_tupRt {e : Expr} {te : TE} {p p2 pos pos2 : Pos} (hc : X.calm = true) (hg : Gl X "tuple") (hm : X.mg "tuple" = none) (hg2 : Gl X "reversed") (hm2 : X.mg "reversed" = none) (he : PE X e te)
    (hs : starEach [e] X.env = (false, eval e X.env) :: starEach [] X.env := by rfl)
    (hs2 : starEach [.Call (.Name "reversed" p2) [e] [] pos2] X.env = (false, eval (.Call (.Name "reversed" p2) [e] [] pos2) X.env) :: starEach [] X.env := by rfl) :
    PE X (.Call (.Name "tuple" p) [.Call (.Name "reversed" p2) [e] [] pos2] [] pos) (tTupRt X.K te) := by
  refine ⟨fun pins s σ H Q I h => ?_⟩
  refine Call_ (ld_blt I hg hm boot_tuple (PyProof.Rows.callWith_type1 (args_cons (Call_ (ld_blt I hg2 hm2 PyProof.Rows.boot_reversed (PyProof.Rows.callWith_type1 (args_cons (thn (he.run pins s σ H _ I h) fun u s1 ⟨v, H1, I1, r1, q1⟩ => args_nil ?_) hs) hs rfl))) hs2) hs2 rfl))
  obtain ⟨a, xs, ev, hq, q⟩ := q1
  subst ev
  obtain rfl : u = Value.ref a := r1
  obtain ⟨its, rv, p1, hz⟩ := I1.tuple hq
  have hn : its.toArray.size ≤ sizeLine := by rw [List.size_toArray, ← rv.length]; exact hz
  have hn2 := hn
  rw [sizeLine_eq] at hn2
  refine call_reversed_tup p1 (fun A E Q k => len_tuple p1 (by omega) k) (args_nil ?_)
  have I1' : Inv X pins σ H1 { s1 with toks := s1.toks + 1 + 1 } := I1.tok _
  have k0 : ∀ b o, s1.heap.get? b = some o → (s1.heap.push (rtObj a ((its.toArray.size : Int) - 1))).get? b = some o := fun b o e => Heap.get?_push_of_some _ e
  have I2 : Inv X pins σ H1 { s1 with heap := s1.heap.push (rtObj a ((its.toArray.size : Int) - 1)), toks := s1.toks + 1 + 1 } := I1.kept (t' := s1.toks + 1 + 1) k0
  obtain ⟨f0, f1, f2, f3, f4, f5⟩ := I1.fpOk (H' := H1) (b := s1.heap.objs.size) (Nat.le_refl _) (I1.hok.fresh (Nat.le_refl _))
  obtain ⟨ol, hol, hol2⟩ := id p1
  have ne : a ≠ s1.heap.objs.size := Nat.ne_of_lt (Heap.lt_size hol)
  refine call_tuple_rt (s := { s1 with heap := s1.heap.push (rtObj a ((its.toArray.size : Int) - 1)), toks := s1.toks + 1 + 1 }) (I1.ok.hd hc) ⟨_, Heap.get?_push_size _ rfl, rfl, rfl⟩ ⟨ol, k0 _ _ hol, hol2⟩ ne hn fun h1 tk acc hk hi => ?_
  have I3 : Inv X pins σ H1 { s1 with heap := h1, toks := tk } := I2.turned (t' := tk) (fun b o nb e => hk b o nb e) f0 f1 f3 f4 f5
  refine ⟨.ref h1.objs.size, upd H1 h1.objs.size (.tup xs.reverse), I3.laid (t' := tk) (fun c o e => Heap.get?_push_of_some _ e) (Nat.le_refl _) (show ObjOk X.prog X.w _ _ _ (.tup xs.reverse) from ⟨by rw [List.length_reverse]; exact hz, acc.toList, vals_rev rv hi, ?_⟩), rfl, q _ (I3.hok.fresh (Nat.le_refl _))⟩
  rw [Array.toArray_toList]
  exact IsTup.new _ _
end
end Wk

set_option maxHeartbeats 4000000
/-! My own layer: comprehensions with a test, over a list and over a dict; dict comprehensions; dicts; loops over tuples of three. -/
namespace Wk
open PySem PySem.Spec PyProof.Rows L2
section
variable {X : Cx} {e a b c elt kx vx : Expr} {es rest : List Expr} {σ : L2.St} {H : Hp} {Q : VK} {pos p0 : Pos} {N G G' : List Str} {Vn : List (Nat × Str)} {sc scope : Scope}
@[irreducible] def wBkT (X : Cx) (Vn : List (Nat × Str)) (G' : List Str) (c : Expr) (scope : Scope) : TT := fun σ H Q => ∀ s0 H0 C cl fp, InB (Bk X s0 H0 scope C cl fp) Vn G' → wT (Bk X s0 H0 scope C cl fp) c σ H Q
theorem pts_bk {s0 : Shared} {H0 : Hp} {C : Addr} {cl : List (Str × Addr)} {fp : List Addr} (I : InB (Bk X s0 H0 scope C cl fp) Vn G') : PTs (Bk X s0 H0 scope C cl fp) [c] (wBkT X Vn G' c scope) :=
  pts_one ⟨fun pins s σ H Q Iv h => by unfold wBkT at h; exact pt.run pins s σ H Q Iv (h s0 H0 C cl fp I)⟩
/-- what the turns ask where there is a test -/
def Turn1 (X : Cx) (Vn : List (Nat × Str)) (G' : List Str) (elt c : Expr) (scope : Scope) (i : Nat) (D : Addr) (σ : L2.St) (x : L2.V) (H2 : Hp) (Nx : Hp → Prop) : Prop :=
  ∀ s0 H0 C cl fp, InB (Bk X s0 H0 scope C cl fp) Vn G' → wT (Bk X s0 H0 scope C cl fp) c ((wipe σ [i]).set i (some x)) H2 fun b H3 =>
    if b = true then ∀ s0 H0 C cl fp, InB (Bk X s0 H0 scope C cl fp) Vn G' → wE (Bk X s0 H0 scope C cl fp) elt ((wipe σ [i]).set i (some x)) H3 fun y H4 => ∃ acc, H4 D = some (.lst acc) ∧ acc.length < sizeLine ∧ Nx (upd H4 D (.lst (acc ++ [y]))) else Nx H3
theorem turn1_of {i : Nat} {D : Addr} {x : L2.V} {H2 : Hp} {Nx : Hp → Prop} (q : Turn1 X Vn G' elt c scope i D σ x H2 Nx) : gName i x (wipe σ [i]) H2 fun σ2 H3 => wipe σ2 [i] = wipe σ [i] ∧ wBkT X Vn G' c scope σ2 H3 fun b H4 =>
    if b = true then wBk X Vn G' elt scope σ2 H4 fun y H5 => ∃ acc, H5 D = some (.lst acc) ∧ acc.length < sizeLine ∧ Nx (upd H5 D (.lst (acc ++ [y]))) else Nx H4 := by
  refine ⟨wipe_set σ i _, ?_⟩
  unfold wBkT
  intro s0 H0 C cl fp I
  refine t_mono (q s0 H0 C cl fp I) fun b H4 z => ?_
  cases b with
  | true =>
    unfold wBk
    exact iteT z
  | false => exact iteF z
def LcLf (X : Cx) (Vn : List (Nat × Str)) (G' : List Str) (elt c : Expr) (scope : Scope) (i : Nat) (ad : Addr) (xs : List L2.V) (D : Addr) (σ : L2.St) (H1 : Hp) (Qd : Hp → Prop) : Prop := ∃ Pv : Nat → Hp → Prop, Pv 0 (upd H1 D (.lst [])) ∧ (∀ k H2, k ≤ xs.length → Pv k H2 → SqL X.K H2 ad xs) ∧
  (∀ k x H2, xs[k]? = some x → Pv k H2 → Turn1 X Vn G' elt c scope i D σ x H2 (Pv (k + 1))) ∧ ∀ H2, Pv xs.length H2 → Qd H2
def LcDf (X : Cx) (Vn : List (Nat × Str)) (G' : List Str) (elt c : Expr) (scope : Scope) (i : Nat) (d : Addr) (o : Obj) (kvs : List (Key × L2.V)) (D : Addr) (σ : L2.St) (H1 : Hp) (Qd : Hp → Prop) : Prop := ∃ Pv : Nat → Hp → Prop, Pv 0 (upd H1 D (.lst [])) ∧ (∀ k H2, k ≤ kvs.length → Pv k H2 → H2 d = some (.frz o (.dK kvs))) ∧
  (∀ k y v H2, kvs[k]? = some (y, v) → Pv k H2 → Turn1 X Vn G' elt c scope i D σ (kV y) H2 (Pv (k + 1))) ∧ ∀ H2, Pv kvs.length H2 → Qd H2
theorem lcLf_of {i : Nat} {ad : Addr} {xs : List L2.V} {D : Addr} {H1 : Hp} {Qd : Hp → Prop} (q : LcLf X Vn G' elt c scope i ad xs D σ H1 Qd) : ∃ W : Nat → Nat → Hp → Prop, (∃ m, W 0 m (upd H1 D (.lst []))) ∧ ∀ k m H, W k m H →
    ((Itl X.K ad).stop k H ∧ Qd H) ∨ ((Itl X.K ad).go k H ∧ ∃ Nx : Hp → Prop, (∀ H', Nx H' → ∃ m', m' < m ∧ W (k + 1) m' H') ∧ ∀ x H', (Itl X.K ad).yld k H x H' → gName i x (wipe σ [i]) H' fun σ2 H2 => wipe σ2 [i] = wipe σ [i] ∧ wBkT X Vn G' c scope σ2 H2 fun b H3 =>
      if b = true then wBk X Vn G' elt scope σ2 H3 fun y H4 => ∃ acc, H4 D = some (.lst acc) ∧ acc.length < sizeLine ∧ Nx (upd H4 D (.lst (acc ++ [y]))) else Nx H3) := by
  obtain ⟨Pv, h0, hl, hs, hd⟩ := q
  exact lc_list Pv h0 hl (fun k x H hk p => turn1_of (hs k x H hk p)) hd
theorem lcDf_of {i : Nat} {d : Addr} {o : Obj} {kvs : List (Key × L2.V)} {D : Addr} {H1 : Hp} {Qd : Hp → Prop} (q : LcDf X Vn G' elt c scope i d o kvs D σ H1 Qd) : ∃ W : Nat → Nat → Hp → Prop, (∃ m, W 0 m (upd H1 D (.lst []))) ∧ ∀ k m H, W k m H →
    ((Itk d o kvs).stop k H ∧ Qd H) ∨ ((Itk d o kvs).go k H ∧ ∃ Nx : Hp → Prop, (∀ H', Nx H' → ∃ m', m' < m ∧ W (k + 1) m' H') ∧ ∀ x H', (Itk d o kvs).yld k H x H' → gName i x (wipe σ [i]) H' fun σ2 H2 => wipe σ2 [i] = wipe σ [i] ∧ wBkT X Vn G' c scope σ2 H2 fun b H3 =>
      if b = true then wBk X Vn G' elt scope σ2 H3 fun y H4 => ∃ acc, H4 D = some (.lst acc) ∧ acc.length < sizeLine ∧ Nx (upd H4 D (.lst (acc ++ [y]))) else Nx H3) := by
  obtain ⟨Pv, h0, hl, hs, hd⟩ := q
  refine ⟨fun k m H => m = kvs.length - k ∧ k ≤ kvs.length ∧ Pv k H, ⟨kvs.length, rfl, Nat.zero_le _, h0⟩, ?_⟩
  rintro k m H ⟨rfl, hk, p⟩
  have fz := hl k H hk p
  by_cases lt : k < kvs.length
  · refine .inr ⟨⟨fz, lt⟩, Pv (k + 1), fun H' p' => ⟨kvs.length - (k + 1), by omega, rfl, lt, p'⟩, fun x H' y => ?_⟩
    obtain ⟨rfl, ky, v, hkv, rfl⟩ := y
    exact turn1_of (hs k ky v _ hkv p)
  · have ek : k = kvs.length := by omega
    subst ek
    exact .inl ⟨⟨fz, Nat.le_refl _⟩, hd H p⟩
theorem e_lcLf {i : Nat} {x : Str} {px : Pos} (B : BkOk X.N Vn G' i x sc scope)
    (q : wE X a σ H fun v H1 => ∃ ad xs, v = .ref ad ∧ SqL X.K H1 ad xs ∧ ∀ D, H1 D = none → LcLf X Vn G' elt c scope i ad xs D σ H1 fun H2 => Q (.ref D) H2)
    (I : In X N G sc := by assumption) (hc : X.calm = true := by rfl) (hs2 : ∀ z, foldedSetIterable a X.env z = pure z := by intro _; rfl) :
    wE X (.ListComp elt [⟨.Name x px, a, [c], 0⟩] scope pos) σ H Q := by
  refine e_of (pe_lc (own := [(x, i)]) (g := gName i) (tt := wBkT X Vn G' c scope) (te := wBk X Vn G' elt scope) hc I.nd (pi_list pe) (B.ok I) (fun s H C cl fp => B.pg I s H C cl fp) (fun s H C cl fp => pts_bk (B.inB I s H C cl fp)) (fun s H C cl fp => pe_bk (B.inB I s H C cl fp)) hs2) (e_mono q fun v H1 q1 => ?_)
  obtain ⟨ad, xs, rfl, hl, q2⟩ := q1
  exact ⟨ad, rfl, ⟨xs, hl⟩, fun D hD => lcLf_of (q2 D hD)⟩
theorem s_lcLf {nx : L2.St → Hp → Prop} {rt : VK} {bk ct : L2.St → Hp → Prop} {i j : Nat} {x y : Str} {px py spos : Pos} (B : BkOk X.N Vn G' i x sc scope)
    (q : wE X a σ H fun v H1 => ∃ ad xs, v = .ref ad ∧ SqL X.K H1 ad xs ∧ ∀ D, H1 D = none → LcLf X Vn G' elt c scope i ad xs D σ H1 fun H2 => nx (σ.set j (some (.ref D))) H2)
    (I : In X N G sc := by assumption) (hc : X.calm = true := by rfl) (hA : At N j y := by repeat (first | with_reducible apply At.z | with_reducible apply At.s))
    (hk : X.env.scope.kind = .function := by rfl) (hy : X.env.scope.names.lookup y = some .local := by rfl) (hl : (py.line == pos.line) = true := by rfl) (ha : (scope.names.any fun (n, k) => n == y && (k == .local || k == .cell)) = false := by decide +kernel) (hs2 : ∀ z, foldedSetIterable a X.env z = pure z := by intro _; rfl) :
    wS X (.Assign [.Name y py] (.ListComp elt [⟨.Name x px, a, [c], 0⟩] scope pos) spos) ⟨nx, rt, bk, ct⟩ σ H := by
  refine s_of (ps_setLc (own := [(x, i)]) (g := gName i) (tt := wBkT X Vn G' c scope) (te := wBk X Vn G' elt scope) hc I.nd (I.hi hA) hy (sw_true hk hy hl ha) (pi_list pe) (B.ok I) (fun s H C cl fp => B.pg I s H C cl fp) (fun s H C cl fp => pts_bk (B.inB I s H C cl fp)) (fun s H C cl fp => pe_bk (B.inB I s H C cl fp)) hs2) (e_mono q fun v H1 q1 => ?_)
  obtain ⟨ad, xs, rfl, hl, q2⟩ := q1
  exact ⟨ad, rfl, ⟨xs, hl⟩, fun D hD => lcLf_of (q2 D hD)⟩
/-- [elt for x in d if c], d a dict that stands at ad -/
theorem e_lcDf {i : Nat} {x : Str} {px : Pos} {ad : Addr} {kvs : List (Key × L2.V)} (B : BkOk X.N Vn G' i x sc scope) (hd : H ad = some (.dK kvs))
    (q : ∀ o, wE X a σ (upd H ad (.frz o (.dK kvs))) fun v H1 => v = .ref ad ∧ H1 ad = some (.frz o (.dK kvs)) ∧ ∀ D, H1 D = none → LcDf X Vn G' elt c scope i ad o kvs D σ H1 fun H2 => H2 ad = some (.frz o (.dK kvs)) ∧ Q (.ref D) (upd H2 ad (.dK kvs)))
    (I : In X N G sc := by assumption) (hc : X.calm = true := by rfl) (hs2 : ∀ z, foldedSetIterable a X.env z = pure z := by intro _; rfl) :
    wE X (.ListComp elt [⟨.Name x px, a, [c], 0⟩] scope pos) σ H Q := by
  refine e_of (pe_lock (pe_lc (own := [(x, i)]) (g := gName i) (tt := wBkT X Vn G' c scope) (te := wBk X Vn G' elt scope) hc I.nd (pi_keys pe) (B.ok I) (fun s H C cl fp => B.pg I s H C cl fp) (fun s H C cl fp => pts_bk (B.inB I s H C cl fp)) (fun s H C cl fp => pe_bk (B.inB I s H C cl fp)) hs2)) ?_
  refine ⟨ad, .dK kvs, hd, trivial, fun o => e_mono (q o) fun v H1 q1 => ?_⟩
  obtain ⟨rfl, h1, q2⟩ := q1
  exact ⟨ad, o, rfl, .inl ⟨kvs, h1, fun D hD => lcDf_of (q2 D hD)⟩⟩
end
end Wk
namespace Wk
open PySem PySem.Spec PyProof.Rows L2
section
variable {X : Cx} {e a b c elt kx vx o : Expr} {es rest : List Expr} {σ : L2.St} {H : Hp} {Q : VK} {pos p0 apos : Pos} {N G G' : List Str} {Vn : List (Nat × Str)} {sc scope : Scope}
theorem sw_trueD {gs : List Comprehension} {py : Pos} {y : Str} {l : Nat} {env : Env} (hk : env.scope.kind = .function) (hy : env.scope.names.lookup y = some .local) (hl : (py.line == pos.line) = true)
    (ha : (scope.names.any fun (n, k) => n == y && (k == .local || k == .cell)) = false) : swapsWith (.DictComp kx vx gs scope pos) (some (.Name y py)) l env = pure true := by
  have ky : env.kindOf y = some .local := hy
  have hb : env.blockKind = .function := by unfold Env.blockKind; rw [hk]; rfl
  unfold swapsWith
  simp only [hb, ky, ha, Expr.pos, hl]
  rfl
theorem ps_setDc {i : Nat} {y : Str} {py : Pos} {tg iter : Expr} {ifs : List Expr} {own : List (Str × Nat)} {spos : Pos} {wi : TI} {g : TG} {tt : TT} {tk tv : TE} (hc : X.calm = true) (hN : X.N.Nodup) (hy : X.N[i]? = some y) (hyl : X.env.scope.names.lookup y = some .local)
    (hsw : swapsWith (.DictComp kx vx [⟨tg, iter, ifs, 0⟩] scope pos) (some (.Name y py)) spos.line X.env = pure true) (hi : PI X tg iter wi) (ok : BlkOk X.N X.env.scope scope own)
    (hg : ∀ (s : Shared) (H : Hp) (C : Addr) (cl : List (Str × Addr)) (fp : List Addr), PG (X.blk s H scope (compEnvC scope cl C X.env) fp) tg g) (ht : ∀ (s : Shared) (H : Hp) (C : Addr) (cl : List (Str × Addr)) (fp : List Addr), PTs (X.blk s H scope (compEnvC scope cl C X.env) fp) ifs tt)
    (hkx : ∀ (s : Shared) (H : Hp) (C : Addr) (cl : List (Str × Addr)) (fp : List Addr), PE (X.blk s H scope (compEnvC scope cl C X.env) fp) kx tk)
    (hvx : ∀ (s : Shared) (H : Hp) (C : Addr) (cl : List (Str × Addr)) (fp : List Addr), PE (X.blk s H scope (compEnvC scope cl C X.env) fp) vx tv) (hs : ∀ x, foldedSetIterable iter X.env x = pure x) :
    PS X (.Assign [.Name y py] (.DictComp kx vx [⟨tg, iter, ifs, 0⟩] scope pos) spos) (tAsg (tDc wi g tt tk tv (own.map (·.2))) (gName i)) := by
  refine ⟨fun pins s σ H D I h => ?_⟩
  rw [exec_Assign_Name_used _ _ _ _ hsw]
  refine wpAny_bind (wpAny_standAt (wpAny_bind ?_))
  show wpAny _ X.A (do let _ ← comprehension (.DictComp kx vx [⟨tg, iter, ifs, 0⟩] scope pos) scope X.env (firstIterPos [⟨tg, iter, ifs, 0⟩] pos) newDict false (eval iter X.env) (some (assign (.Name y py) X.env))) _ _ s
  have h : tDc wi g tt tk tv (own.map (·.2)) σ H (fun x H1 => gName i x σ H1 D.nx) := h
  refine wpAny_bind (thn (dc_core (Qf := fun _ s' => SP X pins D .next s') hc hN I hi ok hg ht hkx hvx hs h fun L C s' m H' I' q hn f => ?_) fun _ s' hq => wpAny_pure (wpAny_pure hq))
  show wpAny _ _ (assign (.Name y py) X.env (.ref L)) _ _ _
  refine wpAny_assign_Name (store_ok2 (v := V.ref L) I' hN hy (.inl hyl) rfl (fun s2 I2 ⟨ad, sb, had⟩ => ?_) (.inr hyl))
  obtain ⟨f0, f1, f2, f3, f4, f5⟩ := f
  have nC : C ≠ ad := by
    rcases had with z | z
    · rw [z]; exact f1
    · exact fun e => f4 y ad z e.symm
  exact ⟨m, hn.sameBut sb nC, fun h3 sb3 => ⟨_, H', I2.turned (t' := s2.toks) (fun b o hb e => (sb3.2 b hb).trans e) f0 f1 f3 f4 f5, q⟩⟩
/-- d = {k: v for x in a}, a a list that stays -/
def DcL (X : Cx) (Vn : List (Nat × Str)) (G' : List Str) (kx vx : Expr) (scope : Scope) (i : Nat) (ad : Addr) (xs : List L2.V) (D : Addr) (σ : L2.St) (H1 : Hp) (Qd : Hp → Prop) : Prop := ∃ Pv : Nat → Hp → Prop, Pv 0 (upd H1 D (.dK [])) ∧ (∀ k H2, k ≤ xs.length → Pv k H2 → SqL X.K H2 ad xs) ∧
  (∀ k x H2, xs[k]? = some x → Pv k H2 → ∀ s0 H0 C cl fp, InB (Bk X s0 H0 scope C cl fp) Vn G' → wE (Bk X s0 H0 scope C cl fp) kx ((wipe σ [i]).set i (some x)) H2 fun y H3 => ∀ s0 H0 C cl fp, InB (Bk X s0 H0 scope C cl fp) Vn G' →
    wE (Bk X s0 H0 scope C cl fp) vx ((wipe σ [i]).set i (some x)) H3 fun z H4 => ∃ kvs ky, y = kV ky ∧ H4 D = some (.dK kvs) ∧ kvs.length < sizeLine ∧ Pv (k + 1) (upd H4 D (.dK (putK kvs ky z)))) ∧
  ∀ H2, Pv xs.length H2 → Qd H2
theorem dcL_of {i : Nat} {ad : Addr} {xs : List L2.V} {D : Addr} {H1 : Hp} {Qd : Hp → Prop} (q : DcL X Vn G' kx vx scope i ad xs D σ H1 Qd) : ∃ W : Nat → Nat → Hp → Prop, (∃ m, W 0 m (upd H1 D (.dK []))) ∧ ∀ k m H, W k m H →
    ((Itl X.K ad).stop k H ∧ Qd H) ∨ ((Itl X.K ad).go k H ∧ ∃ Nx : Hp → Prop, (∀ H', Nx H' → ∃ m', m' < m ∧ W (k + 1) m' H') ∧ ∀ x H', (Itl X.K ad).yld k H x H' → gName i x (wipe σ [i]) H' fun σ2 H2 => wipe σ2 [i] = wipe σ [i] ∧ tYes σ2 H2 fun b H3 =>
      if b = true then wBk X Vn G' kx scope σ2 H3 fun y H4 => wBk X Vn G' vx scope σ2 H4 fun z H5 => ∃ kvs k, y = kV k ∧ H5 D = some (.dK kvs) ∧ kvs.length < sizeLine ∧ Nx (upd H5 D (.dK (putK kvs k z))) else Nx H3) := by
  obtain ⟨Pv, h0, hl, hs, hd⟩ := q
  refine ⟨fun k m H => m = xs.length - k ∧ k ≤ xs.length ∧ Pv k H, ⟨xs.length, rfl, Nat.zero_le _, h0⟩, ?_⟩
  rintro k m H ⟨rfl, hk, p⟩
  have sq := hl k H hk p
  by_cases lt : k < xs.length
  · refine .inr ⟨⟨xs, xs[k], sq, by simp [lt]⟩, Pv (k + 1), fun H' p' => ⟨xs.length - (k + 1), by omega, rfl, lt, p'⟩, fun x H' y => ?_⟩
    obtain ⟨rfl, y⟩ := y
    refine ⟨wipe_set σ i _, ?_⟩
    unfold tYes
    refine iteT ?_
    unfold wBk
    intro s0 H0 C cl fp I
    exact hs k x _ (y xs sq) p s0 H0 C cl fp I
  · have ek : k = xs.length := by omega
    subst ek
    exact .inl ⟨⟨xs, sq, Nat.le_refl _⟩, hd H p⟩
theorem s_dcL {nx : L2.St → Hp → Prop} {rt : VK} {bk ct : L2.St → Hp → Prop} {i j : Nat} {x y : Str} {px py spos : Pos} (B : BkOk X.N Vn G' i x sc scope)
    (q : wE X a σ H fun v H1 => ∃ ad xs, v = .ref ad ∧ SqL X.K H1 ad xs ∧ ∀ D, H1 D = none → DcL X Vn G' kx vx scope i ad xs D σ H1 fun H2 => nx (σ.set j (some (.ref D))) H2)
    (I : In X N G sc := by assumption) (hc : X.calm = true := by rfl) (hA : At N j y := by repeat (first | with_reducible apply At.z | with_reducible apply At.s))
    (hk : X.env.scope.kind = .function := by rfl) (hy : X.env.scope.names.lookup y = some .local := by rfl) (hl : (py.line == pos.line) = true := by rfl) (ha : (scope.names.any fun (n, k) => n == y && (k == .local || k == .cell)) = false := by decide +kernel) (hs2 : ∀ z, foldedSetIterable a X.env z = pure z := by intro _; rfl) :
    wS X (.Assign [.Name y py] (.DictComp kx vx [⟨.Name x px, a, [], 0⟩] scope pos) spos) ⟨nx, rt, bk, ct⟩ σ H := by
  refine s_of (ps_setDc (own := [(x, i)]) (g := gName i) (tt := tYes) (tk := wBk X Vn G' kx scope) (tv := wBk X Vn G' vx scope) hc I.nd (I.hi hA) hy (sw_trueD hk hy hl ha) (pi_list pe) (B.ok I) (fun s H C cl fp => B.pg I s H C cl fp) (fun _ _ _ _ _ => pts_nil) (fun s H C cl fp => pe_bk (B.inB I s H C cl fp)) (fun s H C cl fp => pe_bk (B.inB I s H C cl fp)) hs2) (e_mono q fun v H1 q1 => ?_)
  obtain ⟨ad, xs, rfl, hl, q2⟩ := q1
  exact ⟨ad, rfl, ⟨xs, hl⟩, fun D hD => dcL_of (q2 D hD)⟩
theorem e_dcL {i : Nat} {x : Str} {px : Pos} (B : BkOk X.N Vn G' i x sc scope)
    (q : wE X a σ H fun v H1 => ∃ ad xs, v = .ref ad ∧ SqL X.K H1 ad xs ∧ ∀ D, H1 D = none → DcL X Vn G' kx vx scope i ad xs D σ H1 fun H2 => Q (.ref D) H2)
    (I : In X N G sc := by assumption) (hc : X.calm = true := by rfl) (hs2 : ∀ z, foldedSetIterable a X.env z = pure z := by intro _; rfl) :
    wE X (.DictComp kx vx [⟨.Name x px, a, [], 0⟩] scope pos) σ H Q := by
  refine e_of (pe_dc (own := [(x, i)]) (g := gName i) (tt := tYes) (tk := wBk X Vn G' kx scope) (tv := wBk X Vn G' vx scope) hc I.nd (pi_list pe) (B.ok I) (fun s H C cl fp => B.pg I s H C cl fp) (fun _ _ _ _ _ => pts_nil) (fun s H C cl fp => pe_bk (B.inB I s H C cl fp)) (fun s H C cl fp => pe_bk (B.inB I s H C cl fp)) hs2) (e_mono q fun v H1 q1 => ?_)
  obtain ⟨ad, xs, rfl, hl, q2⟩ := q1
  exact ⟨ad, rfl, ⟨xs, hl⟩, fun D hD => dcL_of (q2 D hD)⟩
/-- for x, y, z in t, a tuple of triples -/
theorem s_forT3 {nx : L2.St → Hp → Prop} {rt : VK} {bk ct : L2.St → Hp → Prop} {x y z : Str} {i j k : Nat} {body : List Stmt} {px py pz pt : Pos} {kk : Nat}
    (q : wE X a σ H fun v H1 => ∃ ad xs, v = .ref ad ∧ SqT X.K H1 ad xs ∧ ∃ Pv : Nat → L2.St → Hp → Prop, Pv 0 σ H1 ∧ (∀ n σ H, n ≤ xs.length → Pv n σ H → SqT X.K H ad xs) ∧
      (∀ n u σ H, xs[n]? = some u → Pv n σ H → ∃ t u1 u2 u3, u = .ref t ∧ SqT X.K H t [u1, u2, u3] ∧ wL X body ⟨Pv (n + 1), rt, nx, Pv (n + 1)⟩ (((σ.set i (some u1)).set j (some u2)).set k (some u3)) H) ∧ ∀ σ H, Pv xs.length σ H → nx σ H)
    (I : In X N G sc := by assumption) (hc : X.calm = true := by rfl) (hA : At N i x := by repeat (first | with_reducible apply At.z | with_reducible apply At.s)) (hB : At N j y := by repeat (first | with_reducible apply At.z | with_reducible apply At.s)) (hC : At N k z := by repeat (first | with_reducible apply At.z | with_reducible apply At.s))
    (hs2 : ∀ z, foldedSetIterable a X.env z = pure z := by intro _; rfl) :
    wS X (.For (.Tuple [.Name x px, .Name y py, .Name z pz] kk pt) a body [] pos) ⟨nx, rt, bk, ct⟩ σ H := by
  refine s_of (ps_for I.never hc (pi_tup pe) (pg_tup hc (pgs_cons (pg_name I.nd (I.hi hA) (I.loc hA) I.f) (pgs_cons (pg_name I.nd (I.hi hB) (I.loc hB) I.f) (pgs_cons (pg_name I.nd (I.hi hC) (I.loc hC) I.f) pgs_nil)))) pl hs2) (e_mono q fun v H1 q1 => ?_)
  obtain ⟨ad, xs, rfl, hl, Pv, h0, hk, hb, hd⟩ := q1
  refine ⟨ad, rfl, ⟨xs, hl⟩, for_tup Pv h0 hk (fun n u σ H hu p => ?_) hd⟩
  obtain ⟨t, u1, u2, u3, rfl, hq, z⟩ := hb n u σ H hu p
  exact ⟨t, [u1, u2, u3], rfl, hq, rfl, u1, [u2, u3], rfl, u2, [u3], rfl, u3, [], rfl, rfl, z⟩
end
end Wk

set_option maxHeartbeats 4000000
/-! My own layer: dicts, membership, least and greatest of a list, and the like. -/
namespace Wk
open PySem PySem.Spec PyProof.Rows L2
section
variable {X : Cx} {e a b c f o i : Expr} {es rest : List Expr} {σ : L2.St} {H : Hp} {Q : VK} {pos p0 apos : Pos} {N G G' : List Str} {Vn : List (Nat × Str)} {sc scope : Scope} {n : Nat}
theorem e_dg (hr : Room n X.A) (q : wE X o σ H fun x H1 => wE X i σ H1 fun y H2 => ∃ a v, x = .ref a ∧ DGet H2 a y (some v) ∧ Q v H2) (hs : NoSl i := by intro _ _; rfl) : wE X (.Subscript o i pos) σ H Q := e_of (pe_dget (hu_of hr) pe pe hs) q
theorem dg_k {ad : Addr} {kvs : List (Key × L2.V)} {z : Str} {v : L2.V} (h : H ad = some (.dK kvs)) (e : valV kvs (Sum.inr z) = some v) : DGet H ad (.str z) (some v) := by
  have g := DGet.k (k := (Sum.inr z : Key)) h
  rw [e] at g
  exact g
theorem dg_f {ad : Addr} {ob : Obj} {kvs : List (Key × L2.V)} {z : Str} {v : L2.V} (h : H ad = some (.frz ob (.dK kvs))) (e : valV kvs (Sum.inr z) = some v) : DGet H ad (.str z) (some v) :=
  .inl ⟨kvs, Sum.inr z, .inr ⟨ob, h⟩, rfl, e.symm⟩
theorem e_dget2 (hr : Room n X.A) (q : wE X o σ H fun x H1 => ∃ a, x = .ref a ∧ IsD H1 a ∧ wE X e σ H1 fun y H2 => wE X f σ H2 fun z H3 => ∃ o, DGet H3 a y o ∧ Q (o.getD z) H3)
    (m : M2 X o "get" apos e f pos := by exact ⟨rfl, rfl, rfl, rfl⟩) : wE X (.Call (.Attribute o "get" apos) [e, f] [] pos) σ H Q := e_of (pe_dget2 (hu_of hr) pe pe pe m) q
theorem e_dnew (q : ∀ p, H p = none → Q (.ref p) (upd H p (.dK []))) : wE X (.Dict [] [] pos) σ H Q := e_of pe_dnewK q
theorem o_in {x : L2.V} {p : Addr} {xs : List L2.V} (h : SqL X.K H p xs) (hx : flatV x = true) (hs : xs.all flatV = true) (q : Q (.bl (inV x xs)) H) : wK X .In x (.ref p) H Q := k_of op_in_seq ⟨p, xs, rfl, .inl h, hx, hs, q⟩
theorem o_nin {x : L2.V} {p : Addr} {xs : List L2.V} (h : SqL X.K H p xs) (hx : flatV x = true) (hs : xs.all flatV = true) (q : Q (.bl (!inV x xs)) H) : wK X .NotIn x (.ref p) H Q := k_of op_notIn_seq ⟨p, xs, rfl, .inl h, hx, hs, q⟩
theorem o_inS {c : Nat} {z : Str} (q : Q (.bl (decide (c ∈ z.cps.toList))) H) : wK X .In (.str ⟨#[c]⟩) (.str z) H Q := k_of op_in_sign ⟨c, z, rfl, rfl, q⟩
theorem c_minL {p : Addr} {ns : List Int} (hc : X.calm = true) (h : SqL X.K H p (ns.map V.int)) (h0 : 0 < ns.length) {m0 : Int} (h1 : m0 ∈ ns) (h2 : ∀ y ∈ ns, m0 ≤ y) (q : Q (.int m0) H) : wC X (.builtin "min") [.ref p] H Q :=
  c_of (cr_min hc) ⟨p, ns, rfl, h, h0, fun m hm hle => by
    have e : m = m0 := Int.le_antisymm (hle m0 h1) (h2 m hm)
    rw [e]
    exact q⟩
theorem c_maxL {p : Addr} {ns : List Int} (hc : X.calm = true) (h : SqL X.K H p (ns.map V.int)) (h0 : 0 < ns.length) {m0 : Int} (h1 : m0 ∈ ns) (h2 : ∀ y ∈ ns, y ≤ m0) (q : Q (.int m0) H) : wC X (.builtin "max") [.ref p] H Q :=
  c_of (cr_max hc) ⟨p, ns, rfl, h, h0, fun m hm hle => by
    have e : m = m0 := Int.le_antisymm (h2 m hm) (hle m0 h1)
    rw [e]
    exact q⟩
theorem c_setTx {l : Addr} {zs : List Str} (hc : X.calm = true) (h : SqL X.K H l (zs.map V.str)) (hb : zs.length + 1 < scanBound) (q : ∀ p, H p = none → Q (.ref p) (upd H p (SetTO X.w p (uniqL zs)))) : wC X (.type "set") [.ref l] H Q := c_of (cr_setOfTx hc) ⟨l, zs, rfl, h, hb, q⟩
theorem c_sortedTx {p : Addr} {L : List Str} (hc : X.calm = true) (h : H p = some (SetTO X.w p L)) (h64 : L.length < 64) (q : ∀ (ys : List Str) (l : Addr) H2, ys.Perm L → sortedS ys = true → Same H H2 → H l = none → H2 l = some (.lst (ys.map V.str)) → Q (.ref l) H2) : wC X (.builtin "sorted") [.ref p] H Q :=
  c_of (cr_sortedTx hc) ⟨p, L, rfl, h, h64, fun ys l pm hs np => q ys l _ pm hs (fun b o eo => by rw [upd_ne (ne_of_none eo np)]; exact eo) np upd_same⟩
theorem c_sortedL {p : Addr} {zs : List Str} (h : SqL X.K H p (zs.map V.str)) (h64 : zs.length < 64) (q : ∀ (ys : List Str) (l : Addr) H2, ys.Perm zs → sortedS ys = true → Same H H2 → H l = none → H2 l = some (.lst (ys.map V.str)) → Q (.ref l) H2) : wC X (.builtin "sorted") [.ref p] H Q :=
  c_of cr_sortedS ⟨p, zs, rfl, h, h64, fun ys l pm hs np => q ys l _ pm hs (fun b o eo => by rw [upd_ne (ne_of_none eo np)]; exact eo) np upd_same⟩
theorem c_tupL {p : Addr} {xs : List L2.V} (h : SqL X.K H p xs) (q : ∀ l H2, Same H H2 → H l = none → H2 l = some (.tup xs) → Q (.ref l) H2) : wC X (.type "tuple") [.ref p] H Q :=
  c_of call_tuple_of ⟨p, xs, rfl, .inl ⟨h, fun l np => q l _ (fun b o eo => by rw [upd_ne (ne_of_none eo np)]; exact eo) np upd_same⟩⟩
theorem c_strI {k : Int} (h : k.natAbs.log2 < 1920) (q : Q (.str (toString k)) H) : wC X (.type "str") [.int k] H Q := c_of call_str_int ⟨k, rfl, h, q⟩
theorem c_intB {k : Bool} (q : Q (.int (if k then 1 else 0)) H) : wC X (.type "int") [.bl k] H Q := c_of call_int1 (.inr ⟨k, rfl, q⟩)
theorem e_tupRev {g1 g2 : Nat} {p p2 pos2 : Pos} (hm : X.mg "tuple" = none) (hm2 : X.mg "reversed" = none) (q : wE X e σ H fun v H1 => ∃ (a : Addr) (xs : List L2.V), v = .ref a ∧ SqT X.K H1 a xs ∧ ∀ q H2, Same H1 H2 → H1 q = none → H2 q = some (.tup xs.reverse) → Q (.ref q) H2)
    (I : In X N G sc := by assumption) (hc : X.calm = true := by rfl) (hG : At G g1 ("tuple" : Str) := by repeat (first | with_reducible apply At.z | with_reducible apply At.s)) (hG2 : At G g2 ("reversed" : Str) := by repeat (first | with_reducible apply At.z | with_reducible apply At.s))
    (hs : starEach [e] X.env = (false, eval e X.env) :: starEach [] X.env := by rfl) (hs2 : starEach [.Call (.Name "reversed" p2) [e] [] pos2] X.env = (false, eval (.Call (.Name "reversed" p2) [e] [] pos2) X.env) :: starEach [] X.env := by rfl) :
    wE X (.Call (.Name "tuple" p) [.Call (.Name "reversed" p2) [e] [] pos2] [] pos) σ H Q :=
  e_of (pe_tupRt hc (I.g hG) hm (I.g hG2) hm2 pe hs hs2) (e_mono q fun v H1 ⟨a, xs, ev, hq, z⟩ => ⟨a, xs, ev, hq, fun l np => z l _ (fun b o eo => by rw [upd_ne (ne_of_none eo np)]; exact eo) np upd_same⟩)
theorem e_clear (q : wE X o σ H fun x H1 => ∃ l xs, x = .ref l ∧ H1 l = some (.lst xs) ∧ Q .non (upd H1 l (.lst [])))
    (hbase : attributeBase o "clear" X.env (eval o X.env) = eval o X.env := by rfl) (hline : (apos.endLine == pos.line) = true := by rfl) : wE X (.Call (.Attribute o "clear" apos) [] [] pos) σ H Q := by
  refine e_of (pe_bm0 PySem.F.plainAttrs_list PySem.F.slot_list_clear PySem.F.type_list_clear mt_clear pe hbase hline) (e_mono q fun x H1 z => ?_)
  obtain ⟨l, xs, rfl, h1, h2⟩ := z
  exact ⟨.inl ⟨rfl, _, SqL.of h1⟩, l, xs, rfl, rfl, h1, h2⟩
theorem b_callTy {g : Nat} {x : Str} {T : String} (hm : X.mg x = none) (hv : bootBuiltins x = some (.type T)) (q : wA X (e :: es) σ H fun vs H1 => wC X (.type T) vs H1 Q) (I : InB X Vn G := by assumption) (hG : At G g x := by repeat (first | with_reducible apply At.z | with_reducible apply At.s))
    (he : starEach (e :: es) X.env = (false, eval e X.env) :: starEach es X.env := by rfl) (hpl : (backTo pos (starEach es X.env)).any (·.1) = false := by rfl) : wE X (.Call (.Name x p0) (e :: es) [] pos) σ H Q := e_of (pe_callTy cr (I.g hG) hm hv pa (I.gn hG) (I.gd hG) he hpl) q
theorem b_bltn {g : Nat} {x : Str} {v : L2.V} {u : Value} (hm : X.mg x = none) (hv : bootBuiltins x = some u) (r : RelV v u) (q : Q v H) (I : InB X Vn G := by assumption) (hG : At G g x := by repeat (first | with_reducible apply At.z | with_reducible apply At.s)) : wE X (.Name x pos) σ H Q := e_of (pe_bltn (I.g hG) hm hv r (I.gn hG) (I.gd hG)) q
theorem o_eqD {x y : L2.V} {d e : PyData} (hr : Room n X.A) (h1 : Dp X.K H x d) (h2 : Dp X.K H y e) (s1 : SeqAt.shaped d = true) (s2 : SeqAt.shaped e = true) (q : Q (.bl (PyData.eqv d e)) H) : wK X .Eq x y H Q := k_of (op_eqD hr.units) ⟨d, e, h1, h2, s1, s2, q⟩
theorem o_neD {x y : L2.V} {d e : PyData} (hr : Room n X.A) (h1 : Dp X.K H x d) (h2 : Dp X.K H y e) (s1 : SeqAt.shaped d = true) (s2 : SeqAt.shaped e = true) (q : Q (.bl (!PyData.eqv d e)) H) : wK X .NotEq x y H Q := k_of (op_neD hr.units) ⟨d, e, h1, h2, s1, s2, q⟩
theorem b_set : bootBuiltins "set" = some (.type "set") := by decide +kernel
theorem b_sorted : bootBuiltins "sorted" = some (.builtin "sorted") := by decide +kernel
theorem ixr_d (hu : X.A.units + 1 < cLine) : IxR X (fun x y H Q => ∃ a v, x = .ref a ∧ DGet H a y (some v) ∧ Q v H) := by
  intro value slice pins s σ H x y v u Q I rx ry h hs
  obtain ⟨ad, z, rfl, g, q⟩ := h
  cases rx
  have hT := dict_typeIs I g
  unfold subscriptTail
  refine wpAny_bind ?_
  rw [getitemInPython_of_ne hT.not_modules]
  refine wpAny_bind (wpAny_specialOf hT PySem.F.slot_dict_getitem.lookup ?_)
  have fin : wpAny (model X.prog X.w) X.A (subscripted slice false (.ref ad) u) (fun r s3 => wpAny (model X.prog X.w) X.A (letTemporaryGo value (.ref ad) r >>= fun _ => pure r) (EP X pins σ Q) X.xe s3) X.xe s := by
    rw [hs]
    refine wpAny_operating (d_getItem hu I g ry fun w2 s2 I2 r2 => wpAny_bind (wpAny_letTemporaryGo (wpAny_pure ?_)))
    exact ⟨z, H, I2, r2, q⟩
  first
    | exact wpAny_pure (wpAny_bind fin)
    | exact wpAny_bind fin
    | exact wpAny_pure fin
theorem ix_d {x y : L2.V} (hr : Room n X.A) (q : ∃ a v, x = .ref a ∧ DGet H a y (some v) ∧ Q v H) : wIx X x y H Q := ix_of (ixr_d (hu_of hr)) q
end
end Wk

set_option maxHeartbeats 4000000
/-! My own layer: dicts of the module's top, comprehensions over a tuple with a test, slices of tuples, xs[::-1], extend, reversed, displayed dicts, copies and == of dicts, walks over a dict. -/
namespace Wk
open PySem PySem.Spec PyProof.Rows L2
/-- a dict of the module's top, its keys ints and texts -/
def KDict (w : World) (K : PySem.W.Frag) (D : Addr) (kvs : List (Key × L2.V)) : Prop := ∃ (o : Obj) (vs : List (Key × Value)), K.lookup D = some o ∧ KV kvs vs ∧ ∀ P, PySem.Obj.IsDictOf (mixKind P w) o vs
theorem pairs_mk {P : Program} {w : World} : ∀ (ts : List (Str × Tok × Value)), Pairs (mixKind P w) (ts.map fun x => (⟨hashStr w x.1, .str x.1 x.2.1, x.2.2⟩ : DictEntry)) (ts.map fun x => ((Sum.inr x.1 : Key), x.2.2))
  | [] => .nil
  | t :: ts => .cons (mixKind_str P w _ _) rfl (pairs_mk ts)
theorem kdict_mk {w : World} {K : PySem.W.Frag} {D : Addr} {o : Obj} {n : Nat} {kvs : List (Key × L2.V)} (ts : List (Str × Tok × Value)) (l : K.lookup D = some o) (hx : o.ExactDict) (hd : o.data = .dict (ts.map fun x => (⟨hashStr w x.1, .str x.1 x.2.1, x.2.2⟩ : DictEntry)).toArray n)
    (hk : KV kvs (ts.map fun x => ((Sum.inr x.1 : Key), x.2.2))) (nd : (ts.map (·.1)).Nodup) : KDict w K D kvs := by
  refine ⟨o, _, l, hk, fun P => ⟨_, n, hx, hd, ?_, ?_, ?_⟩⟩
  · intro e he
    obtain ⟨t, ht, rfl⟩ := List.mem_map.mp (List.mem_toArray.mp he)
    exact ⟨Sum.inr t.1, mixKind_str P w _ _, rfl⟩
  · rw [List.toList_toArray]
    exact pairs_mk ts
  · rw [List.map_map]
    have e : (ts.map ((fun x : Key × Value => x.1) ∘ fun x : Str × Tok × Value => ((Sum.inr x.1 : Key), x.2.2))) = (ts.map (·.1)).map Sum.inr := by rw [List.map_map]; rfl
    rw [e]
    exact List.pairwise_map.mpr (List.Pairwise.imp (fun h e => h (Sum.inr.inj e)) nd)
section
variable {X : Cx} {e a b c elt : Expr} {es rest : List Expr} {σ : L2.St} {H : Hp} {Q : VK} {pos p0 : Pos} {N G G' : List Str} {Vn : List (Nat × Str)} {sc scope : Scope}
theorem ixr_kd : IxR X (fun x y H Q => ∃ a kvs z v, x = .ref a ∧ y = .str z ∧ KDict X.w X.K a kvs ∧ valV kvs (Sum.inr z) = some v ∧ Q v H) := by
  intro value slice pins s σ H x y v u Q I rx ry h hs
  obtain ⟨ad, kvs, z, v0, rfl, rfl, ⟨o, vs, hl, hkv, hd⟩, hv, q⟩ := h
  cases rx
  have dd : s.heap.DictOf (mixKind X.prog X.w) ad vs := Heap.dictOf_iff.mpr ⟨o, I.kIn ad o hl, hd X.prog⟩
  have hT := dd.typeIs
  unfold subscriptTail
  refine wpAny_bind ?_
  rw [getitemInPython_of_ne hT.not_modules]
  refine wpAny_bind (wpAny_specialOf hT PySem.F.slot_dict_getitem.lookup ?_)
  obtain ⟨w', hw, rw'⟩ := RelO.some_of (v := v0) (o := valueAt vs (Sum.inr z)) (by rw [← hv]; exact hkv.val (Sum.inr z))
  have fin : wpAny (model X.prog X.w) X.A (subscripted slice false (.ref ad) u) (fun r s3 => wpAny (model X.prog X.w) X.A (letTemporaryGo value (.ref ad) r >>= fun _ => pure r) (EP X pins σ Q) X.xe s3) X.xe s := by
    rw [hs]
    refine wpAny_operating (wpAny_getItem_of (knd := mixKind X.prog X.w) (k := (Sum.inr z : Key)) (kV_is (k := Sum.inr z) ry) dd.mapOf hw ?_)
    refine wpAny_bind (wpAny_letTemporaryGo (wpAny_pure ?_))
    exact ⟨v0, H, I.tok _, rw', q⟩
  first
    | exact wpAny_pure (wpAny_bind fin)
    | exact wpAny_bind fin
    | exact wpAny_pure fin
theorem ix_kd {D : Addr} {kvs : List (Key × L2.V)} {z : Str} {v : L2.V} (h : KDict X.w X.K D kvs) (e : valV kvs (Sum.inr z) = some v) (q : Q v H) : wIx X (.ref D) (.str z) H Q := ix_of ixr_kd ⟨D, kvs, z, v, rfl, rfl, h, e, q⟩
theorem o_inT {x : L2.V} {p : Addr} {xs : List L2.V} (h : SqT X.K H p xs) (hx : flatV x = true) (hs : xs.all flatV = true) (q : Q (.bl (inV x xs)) H) : wK X .In x (.ref p) H Q := k_of op_in_seq ⟨p, xs, rfl, .inr h, hx, hs, q⟩
theorem o_catA {p r : Addr} {xs ys : List L2.V} (h1 : H p = some (.tup xs)) (h2 : H r = some (.tup ys)) (hz : xs.length + ys.length ≤ 200000) (q : ∀ t H2, Same H H2 → H2 t = some (.tup (xs ++ ys)) → Q (.ref t) H2) : wB X .Add (.ref p) (.ref r) H Q := by
  refine b_of op_catA ⟨p, r, xs, ys, rfl, rfl, SqT.of h1, SqT.of h2, by show _ ≤ 2 ^ 24; omega, fun e => ?_, fun _ e => ?_, fun _ _ t ht => ?_⟩
  · subst e
    exact q r H (Same.refl H) h2
  · subst e
    refine q p H (Same.refl H) ?_
    rw [List.append_nil]
    exact h1
  · exact q t _ (fun c u eo => by rw [upd_ne (ne_of_none eo ht)]; exact eo) upd_same
theorem cut_hi {xs ys : List L2.V} : cutV (xs ++ ys) none (some (xs.length : Int)) = xs := by
  unfold cutV
  rw [HT.sIx_none, HT.sIx_nat, List.length_append, Nat.min_eq_left (by omega), List.drop_zero, Nat.sub_zero, List.take_left]
theorem cut_lo {xs ys : List L2.V} : cutV (xs ++ ys) (some (xs.length : Int)) none = ys := by
  unfold cutV
  rw [HT.sIx_none, HT.sIx_nat, List.length_append, Nat.min_eq_left (by omega), List.drop_left, Nat.add_sub_cancel_left, List.take_length]
/-- t[:k] of t = xs ++ ys, k the length of xs -/
theorem e_tHi (q : wE X e σ H fun x H1 => wE X b σ H1 fun y H2 => ∃ p xs ys, x = .ref p ∧ y = .int (xs.length : Int) ∧ H2 p = some (.tup (xs ++ ys)) ∧ ∀ t H3, Same H2 H3 → H3 t = some (.tup xs) → Q (.ref t) H3) {p2 : Pos} : wE X (.Subscript e (.Slice none (some b) none p2) pos) σ H Q := by
  refine e_slL1 sl_tupA (e_mono q fun x H1 z => e_mono z fun y H2 ⟨p, xs, ys, ex, ey, ht, q⟩ => ⟨_, ey, p, xs ++ ys, ex, SqT.of ht, fun hw => ?_, fun _ t nt => ?_⟩)
  · refine q p H2 (Same.refl H2) ?_
    have e : xs ++ ys = xs := by
      have h2 := hw.2
      rw [HT.sIx_nat, List.length_append] at h2
      have : ys = [] := by
        cases ys with
        | nil => rfl
        | cons y ys => simp only [List.length_cons] at h2; omega
      rw [this, List.append_nil]
    rw [e] at ht
    exact ht
  · refine q t _ (fun c u eo => by rw [upd_ne (ne_of_none eo nt)]; exact eo) ?_
    rw [cut_hi]
    exact upd_same
theorem e_tLo (q : wE X e σ H fun x H1 => wE X a σ H1 fun y H2 => ∃ p xs ys, x = .ref p ∧ y = .int (xs.length : Int) ∧ H2 p = some (.tup (xs ++ ys)) ∧ ∀ t H3, Same H2 H3 → H3 t = some (.tup ys) → Q (.ref t) H3) {p2 : Pos} : wE X (.Subscript e (.Slice (some a) none none p2) pos) σ H Q := by
  refine e_slL0 sl_tupA (e_mono q fun x H1 z => e_mono z fun y H2 ⟨p, xs, ys, ex, ey, ht, q⟩ => ⟨_, ey, p, xs ++ ys, ex, SqT.of ht, fun hw => ?_, fun _ t nt => ?_⟩)
  · refine q p H2 (Same.refl H2) ?_
    have e : xs ++ ys = ys := by
      have h2 := hw.1
      rw [HT.sIx_nat, List.length_append] at h2
      have : xs = [] := by
        cases xs with
        | nil => rfl
        | cons y xs => simp only [List.length_cons] at h2; omega
      rw [this, List.nil_append]
    rw [e] at ht
    exact ht
  · refine q t _ (fun c u eo => by rw [upd_ne (ne_of_none eo nt)]; exact eo) ?_
    rw [cut_lo]
    exact upd_same
theorem e_rev {k : Nat} {p1 p2 p3 : Pos} (q : wE X e σ H fun x H1 => ∃ p xs, x = .ref p ∧ SqL X.K H1 p xs ∧ ∀ t H2, Same H1 H2 → H1 t = none → H2 t = some (.lst xs.reverse) → Q (.ref t) H2) : wE X (.Subscript e (.Slice none none (some (.UnaryOp .USub (.Constant (.int 1) k p1) p2)) p3) pos) σ H Q :=
  e_of (pe_revL pe) (e_mono q fun x H1 ⟨p, xs, ex, h, q⟩ => ⟨p, xs, ex, h, fun t nt => q t _ (fun c u eo => by rw [upd_ne (ne_of_none eo nt)]; exact eo) nt upd_same⟩)
theorem e_ext {o : Expr} {apos : Pos} (q : wE X o σ H fun x H1 => ∃ l xs0, x = .ref l ∧ SqL X.K H1 l xs0 ∧ wE X e σ H1 fun y H2 => ∃ r xs zs, y = .ref r ∧ H2 l = some (.lst xs) ∧ H2 r = some (.lst zs) ∧ xs.length + zs.length ≤ 200000 ∧ Q .non (upd H2 l (.lst (xs ++ zs))))
    (hbase : attributeBase o "extend" X.env (eval o X.env) = eval o X.env := by rfl)
    (hfew : ((backTo pos (starEach (e :: []) X.env)).all (fun x => !x.1) && (backToKw pos (keywordEach [] X.env)).all (fun x => x.1.isSome)
      && decide ((e :: []).length + ([] : List Keyword).length + (if ([] : List Keyword).isEmpty then 0 else 1) < 30)) = true := by rfl)
    (hline : (apos.endLine == pos.line) = true := by rfl) (hs : starEach (e :: []) X.env = (false, eval e X.env) :: starEach [] X.env := by rfl) (hplain : (backTo pos (starEach [] X.env)).any (·.1) = false := by rfl) :
    wE X (.Call (.Attribute o "extend" apos) [e] [] pos) σ H Q := by
  refine e_of (pe_bm PySem.F.plainAttrs_list PySem.F.slot_list_extend PySem.F.type_list_extend mt_extend pe (pa_cons pe pa_nil hs) hbase hfew hline hs hplain) (e_mono q fun x H1 z => ?_)
  obtain ⟨l, xs0, rfl, hl, z⟩ := z
  refine ⟨.inl ⟨rfl, _, hl⟩, e_mono z fun y H2 z2 => ?_⟩
  obtain ⟨r, xs, zs, rfl, h1, h2, h3, h4⟩ := z2
  exact ⟨l, r, xs, zs, rfl, rfl, h1, h2, by show _ ≤ 2 ^ 24; omega, h4⟩
theorem c_dict {p : Addr} {kvs : List (Key × L2.V)} (h : H p = some (.dK kvs)) (q : ∀ t H2, Same H H2 → H t = none → H2 t = some (.dK kvs) → Q (.ref t) H2) : wC X (.type "dict") [.ref p] H Q :=
  c_of call_dictD ⟨p, kvs, rfl, .inl h, fun t nt => q t _ (fun c u eo => by rw [upd_ne (ne_of_none eo nt)]; exact eo) nt upd_same⟩
theorem c_listT {p : Addr} {xs : List L2.V} (h : H p = some (.tup xs)) (q : ∀ l H2, Same H H2 → H l = none → H2 l = some (.lst xs) → Q (.ref l) H2) : wC X (.type "list") [.ref p] H Q :=
  c_of call_list_of ⟨p, xs, rfl, .inr (SqT.of h), fun l np => q l _ (fun c u eo => by rw [upd_ne (ne_of_none eo np)]; exact eo) np upd_same⟩
theorem c_listDn {p : Addr} {kvs : List (Key × L2.V)} (hc : X.calm = true) (h : H p = some (.dK kvs)) (q : ∀ l H2, Same H H2 → H l = none → H2 l = some (.lst (kvs.map fun kv => kV kv.1)) → Q (.ref l) H2) : wC X (.type "list") [.ref p] H Q :=
  c_of (call_list_dK hc) ⟨p, kvs, rfl, h, fun l np => q l _ (fun c u eo => by rw [upd_ne (ne_of_none eo np)]; exact eo) np upd_same⟩
theorem o_eqDt {n : Nat} {p r : Addr} {ks ls : List (Key × L2.V)} (hr : Room n X.A) (h1 : H p = some (.dK ks)) (h2 : H r = some (.dK ls)) (hl : ks.length = ls.length) (hv : ∀ p ∈ ks, valV ls p.1 = some p.2 ∧ flatB p.2 = true) (q : Q (.bl true) H) : wK X .Eq (.ref p) (.ref r) H Q :=
  k_of (op_eq_dictA (by have := hr.units; omega)) ⟨p, r, ks, ls, rfl, rfl, h1, h2, hl, hv, q⟩
/-- {k: v} and {k: v, k2: v2} -/
theorem e_d1 {k v : Expr} (q : ∀ p, H p = none → wE X k σ (upd H p (.dK [])) fun x H1 => wE X v σ H1 fun y H2 => H2 p = some (.dK []) ∧ ∃ z, x = .str z ∧ Q (.ref p) (upd H2 p (.dK [(Sum.inr z, y)]))) : wE X (.Dict [some k] [v] pos) σ H Q := by
  refine e_of (pe_disp (pps_cons pe pe pps_nil) rfl rfl (by simp) (by simp)) fun p np => e_mono (q p np) fun x H1 q1 => e_mono q1 fun y H2 q2 => ?_
  obtain ⟨h, z, rfl, q3⟩ := q2
  exact ⟨h, [(Sum.inr z, y)], rfl, by simp, q3⟩
theorem e_d2 {k v k2 v2 : Expr} (q : ∀ p, H p = none → wE X k σ (upd H p (.dK [])) fun x H1 => wE X v σ H1 fun y H2 => wE X k2 σ H2 fun x2 H3 => wE X v2 σ H3 fun y2 H4 => H4 p = some (.dK []) ∧ ∃ z z2, x = .str z ∧ x2 = .str z2 ∧ z ≠ z2 ∧ Q (.ref p) (upd H4 p (.dK [(Sum.inr z, y), (Sum.inr z2, y2)]))) :
    wE X (.Dict [some k, some k2] [v, v2] pos) σ H Q := by
  refine e_of (pe_disp (pps_cons pe pe (pps_cons pe pe pps_nil)) rfl rfl (by simp) (by simp)) fun p np => e_mono (q p np) fun x H1 q1 => e_mono q1 fun y H2 q2 => e_mono q2 fun x2 H3 q3 => e_mono q3 fun y2 H4 q4 => ?_
  obtain ⟨h, z, z2, rfl, rfl, ne, q5⟩ := q4
  refine ⟨h, [(Sum.inr z, y), (Sum.inr z2, y2)], rfl, by simp, ?_⟩
  have e : mergeK [] [((Sum.inr z : Key), y), (Sum.inr z2, y2)] = [(Sum.inr z, y), (Sum.inr z2, y2)] := by
    show putK (putK [] (Sum.inr z) y) (Sum.inr z2) y2 = _
    unfold putK
    simp [ne]
  rw [e]
  exact q5
/-- for x in reversed(xs), xs a list -/
theorem s_forRv {nx : L2.St → Hp → Prop} {rt : VK} {bk ct : L2.St → Hp → Prop} {g : Nat} {x : Str} {i : Nat} {body : List Stmt} {px p cp pos : Pos} (hm : X.mg "reversed" = none)
    (q : wE X a σ H fun v H1 => ∃ ad xs, v = .ref ad ∧ SqL X.K H1 ad xs ∧ ∃ Pv : Nat → L2.St → Hp → Prop, Pv 0 σ H1 ∧ (∀ k σ H, k ≤ xs.length → Pv k σ H → SqL X.K H ad xs) ∧ (∀ k y σ H, xs.reverse[k]? = some y → Pv k σ H → wL X body ⟨Pv (k + 1), rt, nx, Pv (k + 1)⟩ (σ.set i (some y)) H) ∧ ∀ σ H, Pv xs.length σ H → nx σ H)
    (I : In X N G sc := by assumption) (hc : X.calm = true := by rfl) (hA : At N i x := by repeat (first | with_reducible apply At.z | with_reducible apply At.s)) (hG : At G g ("reversed" : Str) := by repeat (first | with_reducible apply At.z | with_reducible apply At.s))
    (hs : starEach [a] X.env = (false, eval a X.env) :: starEach [] X.env := by rfl) (hs2 : ∀ z, foldedSetIterable (.Call (.Name "reversed" p) [a] [] cp) X.env z = pure z := by intro _; rfl) :
    wS X (.For (.Name x px) (.Call (.Name "reversed" p) [a] [] cp) body [] pos) ⟨nx, rt, bk, ct⟩ σ H := by
  refine s_of (ps_for I.never hc (RT.pi_revA (I.g hG) hm pe hs) (pg_name I.nd (I.hi hA) (I.loc hA) I.f) pl hs2) (e_mono q fun v H1 q1 => ?_)
  obtain ⟨ad, xs, rfl, hl, Pv, h0, hk, hb, hd⟩ := q1
  refine ⟨ad, xs, rfl, .inl ⟨hl, fun k m σ H => m = xs.length - k ∧ k ≤ xs.length ∧ Pv k σ H, ⟨xs.length, by simp, Nat.zero_le _, h0⟩, ?_⟩⟩
  rintro k m σ H ⟨rfl, hi, p⟩
  have q := hk k σ H hi p
  by_cases hlt : k < xs.length
  · refine .inr ⟨⟨hlt, xs, xs[xs.length - 1 - k]'(by omega), q, by simp⟩, Pv (k + 1), fun σ' H' p' => ⟨xs.length - (k + 1), by omega, rfl, hlt, p'⟩, fun x H' y => ?_⟩
    obtain ⟨e, y⟩ := y
    subst e
    refine hb k x σ _ ?_ p
    rw [List.getElem?_reverse hlt]
    exact y xs q
  · have e : k = xs.length := by omega
    subst e
    exact .inl ⟨Nat.le_refl _, hd σ H p⟩
/-- for x in d, d a dict that stands at ad -/
theorem s_forD {nx : L2.St → Hp → Prop} {rt : VK} {bk ct : L2.St → Hp → Prop} {x : Str} {i : Nat} {body : List Stmt} {px pos : Pos} {ad : Addr} {kvs : List (Key × L2.V)} (h : H ad = some (.dK kvs))
    (q : ∀ o, wE X a σ (upd H ad (.frz o (.dK kvs))) fun v H1 => v = .ref ad ∧ H1 ad = some (.frz o (.dK kvs)) ∧ ∃ Pv : Nat → L2.St → Hp → Prop, Pv 0 σ H1 ∧ (∀ k σ H, k ≤ kvs.length → Pv k σ H → H ad = some (.frz o (.dK kvs))) ∧
      (∀ k y v σ H, kvs[k]? = some (y, v) → Pv k σ H → wL X body ⟨Pv (k + 1), fun v H' => H' ad = some (.frz o (.dK kvs)) ∧ rt v (upd H' ad (.dK kvs)), fun σ' H' => H' ad = some (.frz o (.dK kvs)) ∧ nx σ' (upd H' ad (.dK kvs)), Pv (k + 1)⟩ (σ.set i (some (kV y))) H) ∧ ∀ σ H, Pv kvs.length σ H → nx σ (upd H ad (.dK kvs)))
    (I : In X N G sc := by assumption) (hc : X.calm = true := by rfl) (hA : At N i x := by repeat (first | with_reducible apply At.z | with_reducible apply At.s)) (hs2 : ∀ z, foldedSetIterable a X.env z = pure z := by intro _; rfl) :
    wS X (.For (.Name x px) a body [] pos) ⟨nx, rt, bk, ct⟩ σ H := by
  refine s_of (ps_lock (ps_for I.never hc (pi_keys pe) (pg_name I.nd (I.hi hA) (I.loc hA) I.f) pl hs2)) ?_
  refine ⟨ad, .dK kvs, h, trivial, fun o => e_mono (q o) fun v H1 q1 => ?_⟩
  obtain ⟨rfl, h1, Pv, h0, hk, hb, hd⟩ := q1
  refine ⟨ad, o, rfl, .inl ⟨kvs, h1, fun k m σ H => m = kvs.length - k ∧ k ≤ kvs.length ∧ Pv k σ H, ⟨kvs.length, by simp, Nat.zero_le _, h0⟩, ?_⟩⟩
  rintro k m σ H ⟨rfl, hi, p⟩
  have q := hk k σ H hi p
  by_cases hlt : k < kvs.length
  · refine .inr ⟨⟨q, hlt⟩, Pv (k + 1), fun σ' H' p' => ⟨kvs.length - (k + 1), by omega, rfl, hlt, p'⟩, fun x H' y => ?_⟩
    obtain ⟨rfl, ky, v, hkv, rfl⟩ := y
    exact hb k ky v σ _ hkv p
  · have e : k = kvs.length := by omega
    subst e
    exact .inl ⟨⟨q, Nat.le_refl _⟩, q, hd σ H p⟩
/-- [elt for x in t if c], t a tuple -/
def LcTf (X : Cx) (Vn : List (Nat × Str)) (G' : List Str) (elt c : Expr) (scope : Scope) (i : Nat) (ad : Addr) (xs : List L2.V) (D : Addr) (σ : L2.St) (H1 : Hp) (Qd : Hp → Prop) : Prop := ∃ Pv : Nat → Hp → Prop, Pv 0 (upd H1 D (.lst [])) ∧ (∀ k H2, k ≤ xs.length → Pv k H2 → SqT X.K H2 ad xs) ∧
  (∀ k x H2, xs[k]? = some x → Pv k H2 → Turn1 X Vn G' elt c scope i D σ x H2 (Pv (k + 1))) ∧ ∀ H2, Pv xs.length H2 → Qd H2
theorem e_lcTf {i : Nat} {x : Str} {px : Pos} (B : BkOk X.N Vn G' i x sc scope)
    (q : wE X a σ H fun v H1 => ∃ ad xs, v = .ref ad ∧ SqT X.K H1 ad xs ∧ ∀ D, H1 D = none → LcTf X Vn G' elt c scope i ad xs D σ H1 fun H2 => Q (.ref D) H2)
    (I : In X N G sc := by assumption) (hc : X.calm = true := by rfl) (hs2 : ∀ z, foldedSetIterable a X.env z = pure z := by intro _; rfl) :
    wE X (.ListComp elt [⟨.Name x px, a, [c], 0⟩] scope pos) σ H Q := by
  refine e_of (pe_lc (own := [(x, i)]) (g := gName i) (tt := wBkT X Vn G' c scope) (te := wBk X Vn G' elt scope) hc I.nd (pi_tup pe) (B.ok I) (fun s H C cl fp => B.pg I s H C cl fp) (fun s H C cl fp => pts_bk (B.inB I s H C cl fp)) (fun s H C cl fp => pe_bk (B.inB I s H C cl fp)) hs2) (e_mono q fun v H1 q1 => ?_)
  obtain ⟨ad, xs, rfl, hl, q2⟩ := q1
  refine ⟨ad, rfl, ⟨xs, hl⟩, fun D hD => ?_⟩
  obtain ⟨Pv, h0, hk, hs, hd⟩ := q2 D hD
  exact lc_tup Pv h0 hk (fun k x H hx p => turn1_of (hs k x H hx p)) hd
/-- y = [elt for x in range(a) if c] -/
def LcRf (X : Cx) (Vn : List (Nat × Str)) (G' : List Str) (elt c : Expr) (scope : Scope) (i n : Nat) (D : Addr) (σ : L2.St) (H1 : Hp) (Qd : Hp → Prop) : Prop := ∃ Pv : Nat → Hp → Prop, Pv 0 (upd H1 D (.lst [])) ∧
  (∀ k H2, k < n → Pv k H2 → Turn1 X Vn G' elt c scope i D σ (.int (k : Int)) H2 (Pv (k + 1))) ∧ ∀ H2, Pv n H2 → Qd H2
theorem lcRf_of {i n : Nat} {D : Addr} {H1 : Hp} {Qd : Hp → Prop} (q : LcRf X Vn G' elt c scope i n D σ H1 Qd) : ∃ W : Nat → Nat → Hp → Prop, (∃ m, W 0 m (upd H1 D (.lst []))) ∧ ∀ k m H, W k m H →
    ((Itr 0 n).stop k H ∧ Qd H) ∨ ((Itr 0 n).go k H ∧ ∃ Nx : Hp → Prop, (∀ H', Nx H' → ∃ m', m' < m ∧ W (k + 1) m' H') ∧ ∀ x H', (Itr 0 n).yld k H x H' → gName i x (wipe σ [i]) H' fun σ2 H2 => wipe σ2 [i] = wipe σ [i] ∧ wBkT X Vn G' c scope σ2 H2 fun b H3 =>
      if b = true then wBk X Vn G' elt scope σ2 H3 fun y H4 => ∃ acc, H4 D = some (.lst acc) ∧ acc.length < sizeLine ∧ Nx (upd H4 D (.lst (acc ++ [y]))) else Nx H3) := by
  obtain ⟨Pv, h0, hs, hd⟩ := q
  refine lc_range Pv h0 (fun k H hk p => ?_) hd
  rw [Int.zero_add]
  exact turn1_of (hs k H hk p)
theorem s_lcRf {nx : L2.St → Hp → Prop} {rt : VK} {bk ct : L2.St → Hp → Prop} {i j g : Nat} {x y : Str} {px py p cp spos : Pos} (B : BkOk X.N Vn G' i x sc scope) (hm : X.mg "range" = none)
    (q : wE X a σ H fun v H1 => ∃ n : Nat, v = .int n ∧ n < 2 ^ 62 ∧ ∀ D, H1 D = none → LcRf X Vn G' elt c scope i n D σ H1 fun H2 => nx (σ.set j (some (.ref D))) H2)
    (I : In X N G sc := by assumption) (hc : X.calm = true := by rfl) (hA : At N j y := by repeat (first | with_reducible apply At.z | with_reducible apply At.s)) (hG : At G g ("range" : Str) := by repeat (first | with_reducible apply At.z | with_reducible apply At.s))
    (hk : X.env.scope.kind = .function := by rfl) (hy : X.env.scope.names.lookup y = some .local := by rfl) (hl : (py.line == pos.line) = true := by rfl) (ha : (scope.names.any fun (n, k) => n == y && (k == .local || k == .cell)) = false := by decide +kernel)
    (hs : starEach [a] X.env = [(false, eval a X.env)] := by rfl) (hs2 : ∀ z, foldedSetIterable (.Call (.Name "range" p) [a] [] cp) X.env z = pure z := by intro _; rfl) (hs1 : starEach (a :: []) X.env = (false, eval a X.env) :: starEach [] X.env := by rfl) :
    wS X (.Assign [.Name y py] (.ListComp elt [⟨.Name x px, .Call (.Name "range" p) [a] [] cp, [c], 0⟩] scope pos) spos) ⟨nx, rt, bk, ct⟩ σ H := by
  refine s_of (ps_setLc (own := [(x, i)]) (g := gName i) (tt := wBkT X Vn G' c scope) (te := wBk X Vn G' elt scope) hc I.nd (I.hi hA) hy (sw_true hk hy hl ha) (pi_range1 (I.g hG) hm (pa_cons pe pa_nil hs1) hs) (B.ok I) (fun s H C cl fp => B.pg I s H C cl fp) (fun s H C cl fp => pts_bk (B.inB I s H C cl fp)) (fun s H C cl fp => pe_bk (B.inB I s H C cl fp)) hs2) (e_mono q fun v H1 q1 => ?_)
  obtain ⟨n, rfl, hn, q2⟩ := q1
  refine ⟨(n : Int), rfl, by omega, by omega, ?_⟩
  rw [Int.toNat_natCast]
  exact fun D hD => lcRf_of (q2 D hD)
end
end Wk

set_option maxHeartbeats 4000000
/-! My own layer: a walk over zip(a, b), each of the two a list or a tuple. -/
namespace Wk
open PySem PySem.Spec PyProof.Rows L2
/-- what stands on one side of a zip -/
inductive Side where
  | l | t
def Side.con : Side → Heap → Addr → Array Value → Prop
  | .l => fun h a xs => h.IsList a xs
  | .t => fun h a xs => h.IsTuple a xs
def Side.itr : Side → Heap → Addr → Addr → Nat → Prop
  | .l => fun h it a i => h.IsListIter it a i
  | .t => fun h it a i => h.IsTupleIter it a i
def Side.ob : Side → Addr → Obj
  | .l => fun a => { cls := .type "list_iterator", data := .fields #[.ref a, .int 0 0] }
  | .t => fun a => { cls := .type "tuple_iterator", data := .fields #[.ref a, .int 0 0] }
def Side.sq (K : PySem.W.Frag) : Side → Hp → Addr → List V → Prop
  | .l => SqL K
  | .t => SqT K
theorem Side.begins (c : Side) (a : Addr) (xs : Array Value) : Begins (.ref a) (c.ob a) fun h => c.con h a xs := by
  cases c with
  | l => exact begins_list a xs
  | t => exact begins_tuple a xs
theorem Side.draws {P : Program} {w : World} {A : Around} (c : Side) (hh : A.handled = none) (it a : Addr) (ne : a ≠ it) (xs : Array Value) : Draws P w A it [it, a] xs.size (fun i v => xs[i]? = some v) (fun i h => c.itr h it a i ∧ c.con h a xs) := by
  cases c with
  | l => exact Draws.list hh it a ne xs
  | t => exact Draws.tuple hh it a ne xs
theorem Side.own {X : Cx} {pins : List (Addr × Obj)} {σ : L2.St} {H : Hp} {s : Shared} {a : Addr} {xs : List V} (I : Inv X pins σ H s) (c : Side) (h : c.sq X.K H a xs) : ∃ its : List Value, Vals xs its ∧ c.con s.heap a its.toArray := by
  cases c with
  | l => obtain ⟨its, r, p, _⟩ := I.list h; exact ⟨its, r, p.isList⟩
  | t => obtain ⟨its, r, p, _⟩ := I.tuple h; exact ⟨its, r, p⟩
theorem Side.inj {X : Cx} {pins : List (Addr × Obj)} {σ : L2.St} {H : Hp} {s : Shared} {a : Addr} {xs ys : List V} (I : Inv X pins σ H s) (c : Side) (h : c.sq X.K H a xs) (h' : c.sq X.K H a ys) : xs = ys := by
  cases c with
  | l => exact I.list_inj h h'
  | t => exact I.tuple_inj h h'
theorem Side.up {h h' : Heap} {it a : Addr} {i : Nat} (c : Side) (x : c.itr h it a i) (k : ∀ o, h.get? it = some o → h'.get? it = some o) : c.itr h' it a i := by
  cases c with
  | l => exact x.at k
  | t => exact x.at k
theorem Side.nocell {h : Heap} {it a : Addr} {i : Nat} (c : Side) (x : c.itr h it a i) : ∃ o, h.get? it = some o ∧ ∀ v, o.data ≠ .cell v := by
  cases c with
  | l => obtain ⟨o, e, _, d⟩ := x; exact ⟨o, e, fun v q => by rw [d] at q; cases q⟩
  | t => obtain ⟨o, e, _, d⟩ := x; exact ⟨o, e, fun v q => by rw [d] at q; cases q⟩
theorem Side.start {h : Heap} {it a : Addr} (c : Side) (e : h.get? it = some (c.ob a)) : c.itr h it a 0 := by
  cases c with
  | l => exact ⟨_, e, rfl, rfl⟩
  | t => exact ⟨_, e, rfl, rfl⟩
theorem Side.lt {h : Heap} {a : Addr} {xs : Array Value} (c : Side) (x : c.con h a xs) : a < h.objs.size := by
  cases c with
  | l => obtain ⟨o, e, _⟩ := x; exact Heap.lt_size e
  | t => obtain ⟨o, e, _⟩ := x; exact Heap.lt_size e
/-- pairs out of the two sides, as they stand at each turn -/
def ItM (K : PySem.W.Frag) (c d : Side) (a b : Addr) : It :=
  ⟨fun i H => ∃ (xs ys : List V) (x y : V), c.sq K H a xs ∧ d.sq K H b ys ∧ xs[i]? = some x ∧ ys[i]? = some y,
    fun i H v H' => ∃ T x y, v = .ref T ∧ H T = none ∧ H' = upd H T (.tup [x, y]) ∧ (∀ xs, c.sq K H a xs → xs[i]? = some x) ∧ ∀ ys, d.sq K H b ys → ys[i]? = some y,
    fun i H => ∃ xs ys : List V, c.sq K H a xs ∧ d.sq K H b ys ∧ i ≤ xs.length ∧ i ≤ ys.length ∧ (i = xs.length ∨ i = ys.length)⟩
theorem turn_zipM {P : Program} {w : World} {K : PySem.W.Frag} {es : List Expr} {kk : Nat} {tp : Pos} {c d : Side} {a b z TI TO i1 i2 : Addr} (S : ZipSep2 z TI TO i1 i2 [i1, a] [i2, b]) (na : a ≠ i1) (nb : b ≠ i2) :
    Turn P w K (.Tuple es kk tp) (ItM K c d a b) [z, TI, TO, i1, i2] z (fun i h => IsZip h z TI TO .none ∧ IsTupOf2 h TI (.ref i1) (.ref i2) ∧ (∃ u v, IsTupOf2 h TO u v) ∧ c.itr h i1 a i ∧ d.itr h i2 b i) where
  mem := List.mem_cons_self ..
  obj := fun i h ⟨q1, q2, ⟨u, v, q3⟩, q4, q5⟩ e he => by
    simp only [List.mem_cons, List.not_mem_nil, or_false] at he
    rcases he with rfl | rfl | rfl | rfl | rfl
    · exact ⟨_, q1, fun _ r => nomatch r⟩
    · exact ⟨_, q2, fun _ r => nomatch r⟩
    · exact ⟨_, q3, fun _ r => nomatch r⟩
    · exact c.nocell q4
    · exact d.nocell q5
  keep := fun i h h' ⟨q1, q2, ⟨u, v, q3⟩, q4, q5⟩ kp => ⟨kp z (by simp) _ q1, kp TI (by simp) _ q2, ⟨u, v, kp TO (by simp) _ q3⟩, c.up q4 (kp i1 (by simp)), d.up q5 (kp i2 (by simp))⟩
  item := by
    intro X hP hw hK hc i pins s σ H E I fpk ⟨q1, q2, ⟨u, v, q3⟩, q4, q5⟩ ⟨xs, ys, x, y, sx, sy, ex, ey⟩
    subst hP hw hK
    obtain ⟨us, rus, cx⟩ := c.own I sx
    obtain ⟨vs, rvs, cy⟩ := d.own I sy
    obtain ⟨g, eg, rg⟩ := rus.get ex
    obtain ⟨g2, eg2, rg2⟩ := rvs.get ey
    have hh : X.A.in1.handled = none := I.ok.hd hc
    refine wpAny_pyNext_zipD2_item S (c.draws hh i1 a na us.toArray) (d.draws hh i2 b nb vs.toArray) q1 q2 q3 ⟨q4, cx⟩ ⟨q5, cy⟩ ?_ ?_ fun x1 x2 h1 tk p1 p2 n1 n2 n3 n4 n5 _ n7 => ?_
    · rw [List.size_toArray]; exact (List.getElem?_eq_some_iff.mp eg).1
    · rw [List.size_toArray]; exact (List.getElem?_eq_some_iff.mp eg2).1
    rw [List.getElem?_toArray, eg] at p1
    rw [List.getElem?_toArray, eg2] at p2
    cases p1
    cases p2
    have zl : z < s.heap.objs.size := Heap.lt_size q1
    refine ⟨_, rfl, wpAny_letOwnedTupleGo_zip (s := { s with heap := h1, toks := tk }) n1 fun h2 m1 sb => ?_⟩
    have tup2 : h2.get? s.heap.objs.size = some { cls := .type "tuple", data := .seq #[g, g2] } := (sb.2 _ (Nat.ne_of_gt zl)).trans n5
    have I1 : Inv X pins σ (upd H s.heap.objs.size (.tup [x, y])) { s with heap := h2, toks := tk } := by
      refine I.turnedNew (t' := tk) (ch := [z, TI, TO, i1, i2]) (fun e o hb q => ?_) fpk (Nat.le_refl _) ⟨by show 2 ≤ 2 ^ 24; decide, [g, g2], .cons rg (.cons rg2 .nil), ⟨_, tup2, rfl, _, rfl⟩⟩
      simp only [List.mem_cons, List.not_mem_nil, or_false, not_or] at hb
      exact (sb.2 e hb.1).trans (n7 e o hb.1 hb.2.2.1 hb.2.2.2.1 hb.2.2.2.2 q)
    have up : ∀ {e : Addr} {o : Obj}, e ≠ z → h1.get? e = some o → h2.get? e = some o := fun ne q => (sb.2 _ ne).trans q
    refine ⟨.ref s.heap.objs.size, _, I1, rfl, ⟨_, x, y, rfl, I.hok.fresh (Nat.le_refl _), rfl, fun l hl => by rw [c.inj I hl sx]; exact ex, fun l hl => by rw [d.inj I hl sy]; exact ey⟩,
      ⟨m1, up S.TIz (n7 TI _ S.TIz S.TITO S.TIi1 S.TIi2 q2), ⟨g, g2, up S.TOz n2⟩, c.up n3.1 fun o q => up (Ne.symm S.zi1) q, d.up n4.1 fun o q => up (Ne.symm S.zi2) q⟩, fun e he => ?_⟩
    rw [upd_ne]
    · exact (fpk e he).1
    · have : e < s.heap.objs.size := by
        simp only [List.mem_cons, List.not_mem_nil, or_false] at he
        rcases he with rfl | rfl | rfl | rfl | rfl
        · exact zl
        · exact Heap.lt_size q2
        · exact Heap.lt_size q3
        · obtain ⟨o, eo, _⟩ := c.nocell q4; exact Heap.lt_size eo
        · obtain ⟨o, eo, _⟩ := d.nocell q5; exact Heap.lt_size eo
      exact Nat.ne_of_lt this
  done := by
    intro X hP hw hK hc i pins s σ H E I fpk ⟨q1, q2, ⟨u, v, q3⟩, q4, q5⟩ ⟨xs, ys, sx, sy, l1, l2, le⟩
    subst hP hw hK
    obtain ⟨us, rus, cx⟩ := c.own I sx
    obtain ⟨vs, rvs, cy⟩ := d.own I sy
    have g1 := rus.length
    have g2 := rvs.length
    have hh : X.A.in1.handled = none := I.ok.hd hc
    refine wpAny_pyNext_zipD2_end S (c.draws hh i1 a na us.toArray) (d.draws hh i2 b nb vs.toArray) q1 q2 q3 ⟨q4, cx⟩ ⟨q5, cy⟩ (by rw [List.size_toArray]; omega) (by rw [List.size_toArray]; omega) (by rw [List.size_toArray, List.size_toArray]; omega) fun h1 tk kp => ⟨rfl, ?_⟩
    refine I.turnedL (t' := tk) (ch := [z, TI, TO, i1, i2]) (fun e o hb q => ?_) fpk
    simp only [List.mem_cons, List.not_mem_nil, or_false, not_or] at hb
    exact kp e o hb.1 hb.2.2.1 hb.2.2.2.1 hb.2.2.2.2 q
  self := fun A i s Q E st h => wpAny_pyIter_zip st.1 h
/-- zip(e, e2) -/
def iZipM (K : PySem.W.Frag) (c d : Side) (ta : TA) : TI := fun σ H R => ta σ H fun vs H1 => ∃ a b xs ys, vs = [.ref a, .ref b] ∧ c.sq K H1 a xs ∧ d.sq K H1 b ys ∧ R (ItM K c d a b) H1
theorem pi_zipM {X : Cx} {e e2 : Expr} {ta : TA} {p pos tp : Pos} {es : List Expr} {kk : Nat} {c d : Side} (hg : Gl X "zip") (hm : X.mg "zip" = none) (ha : PA X [e, e2] ta)
    (hs : starEach [e, e2] X.env = (false, eval e X.env) :: starEach [e2] X.env := by rfl) (hpl : (backTo pos (starEach [e2] X.env)).any (·.1) = false := by rfl) :
    PI X (.Tuple es kk tp) (.Call (.Name "zip" p) [e, e2] [] pos) (iZipM X.K c d ta) := by
  refine ⟨fun pins s σ H R I h => Call_ (ld_blt I hg hm PyProof.Rows.boot_zip (PyProof.Rows.callWith_type1 (thn (ha.run pos pins s σ H _ I h) fun us s1 ⟨vs, H1, I1, r1, a, b, xs, ys, ev, sx, sy, q⟩ => ?_) hs hpl))⟩
  subst ev
  obtain ⟨u, v, rfl, ru, rv⟩ : ∃ u v, us = [u, v] ∧ RelV (.ref a) u ∧ RelV (.ref b) v := by
    cases r1 with
    | cons r t => cases t with
      | cons r' t => cases t; exact ⟨_, _, rfl, r, r'⟩
  cases ru
  cases rv
  obtain ⟨ws, rw1, cx⟩ := c.own I1 sx
  obtain ⟨zs, rw2, cy⟩ := d.own I1 sy
  have la := c.lt cx
  have lb := d.lt cy
  generalize hN : s1.heap.objs.size = N at la lb
  have nw : ∀ e ∈ [N + 4, N + 2, N + 3, N, N + 1], FpOk X pins H1 e := fun e he => by
    have hle : s1.heap.objs.size ≤ e := by
      rw [hN]
      simp only [List.mem_cons, List.not_mem_nil, or_false] at he
      rcases he with z | z | z | z | z <;> (rw [z]; first | exact Nat.le_refl _ | exact Nat.le_add_right _ _)
    exact I1.fpOk hle (I1.hok.fresh hle)
  refine zip_begins2 (c.begins a ws.toArray) (d.begins b zs.toArray) cx cy fun h1 g1 g2 g3 g4 g5 _ kp => wpAny_pyIter_zip g1 ?_
  rw [hN] at g1 g2 g3 g4 g5 ⊢
  have S : ZipSep2 (N + 4) (N + 2) (N + 3) N (N + 1) [N, a] [N + 1, b] := zip_sep2 (fun e he => by rw [List.mem_singleton.mp he]; exact la) (fun e he => by rw [List.mem_singleton.mp he]; exact lb)
  exact ⟨N + 4, [N + 4, N + 2, N + 3, N, N + 1], _, ItM X.K c d a b, H1, rfl, I1.kept (t' := s1.toks) kp, turn_zipM S (Nat.ne_of_lt la) (Nat.ne_of_lt (Nat.lt_succ_of_lt lb)), ⟨g1, g2, ⟨_, _, g3⟩, c.start g4, d.start g5⟩, nw, q⟩
section
variable {X : Cx} {e a b : Expr} {σ : L2.St} {H : Hp} {N G : List Str} {sc : Scope}
/-- for x, y in zip(a, b): both sides stay while the loop goes -/
theorem s_forZ {nx : L2.St → Hp → Prop} {rt : VK} {bk ct : L2.St → Hp → Prop} (c d : Side) {g : Nat} {x y : Str} {i j : Nat} {body : List Stmt} {px py pt p cp pos : Pos} {kk : Nat} (hm : X.mg "zip" = none)
    (q : wE X a σ H fun v H1 => wE X b σ H1 fun u H2 => ∃ va vb xs ys, v = .ref va ∧ u = .ref vb ∧ c.sq X.K H2 va xs ∧ d.sq X.K H2 vb ys ∧ ∃ Pv : Nat → L2.St → Hp → Prop, Pv 0 σ H2 ∧ (∀ k σ H, k ≤ min xs.length ys.length → Pv k σ H → c.sq X.K H va xs ∧ d.sq X.K H vb ys) ∧
      (∀ k u1 u2 T σ H, xs[k]? = some u1 → ys[k]? = some u2 → Pv k σ H → H T = none → wL X body ⟨Pv (k + 1), rt, nx, Pv (k + 1)⟩ ((σ.set i (some u1)).set j (some u2)) (upd H T (.tup [u1, u2]))) ∧ ∀ σ H, Pv (min xs.length ys.length) σ H → nx σ H)
    (I : In X N G sc := by assumption) (hc : X.calm = true := by rfl) (hA : At N i x := by repeat (first | with_reducible apply At.z | with_reducible apply At.s)) (hB : At N j y := by repeat (first | with_reducible apply At.z | with_reducible apply At.s))
    (hG : At G g ("zip" : Str) := by repeat (first | with_reducible apply At.z | with_reducible apply At.s)) (hs : starEach [a, b] X.env = (false, eval a X.env) :: starEach [b] X.env := by rfl) (hpl : (backTo cp (starEach [b] X.env)).any (·.1) = false := by rfl)
    (hs1 : starEach (b :: []) X.env = (false, eval b X.env) :: starEach [] X.env := by rfl) (hs2 : ∀ z, foldedSetIterable (.Call (.Name "zip" p) [a, b] [] cp) X.env z = pure z := by intro _; rfl) :
    wS X (.For (.Tuple [.Name x px, .Name y py] kk pt) (.Call (.Name "zip" p) [a, b] [] cp) body [] pos) ⟨nx, rt, bk, ct⟩ σ H := by
  refine s_of (ps_for I.never hc (pi_zipM (c := c) (d := d) (I.g hG) hm (pa_cons pe (pa_cons pe pa_nil hs1) hs) hs hpl) (pg_tup hc (pgs_cons (pg_name I.nd (I.hi hA) (I.loc hA) I.f) (pgs_cons (pg_name I.nd (I.hi hB) (I.loc hB) I.f) pgs_nil))) pl hs2) (e_mono q fun v H1 q1 => e_mono q1 fun u H2 q2 => ?_)
  obtain ⟨va, vb, xs, ys, rfl, rfl, sx, sy, Pv, h0, hk, hb, hd⟩ := q2
  refine ⟨va, vb, xs, ys, rfl, sx, sy, fun k m σ H => m = min xs.length ys.length - k ∧ k ≤ min xs.length ys.length ∧ Pv k σ H, ⟨_, rfl, Nat.zero_le _, h0⟩, ?_⟩
  rintro k m σ H ⟨rfl, hle, pv⟩
  obtain ⟨tx, ty⟩ := hk k σ H hle pv
  by_cases lt : k < min xs.length ys.length
  · have l1 : k < xs.length := by omega
    have l2 : k < ys.length := by omega
    refine .inr ⟨⟨xs, ys, xs[k], ys[k], tx, ty, List.getElem?_eq_getElem l1, List.getElem?_eq_getElem l2⟩, Pv (k + 1), fun σ' H' p' => ⟨_, by omega, rfl, lt, p'⟩, fun w H' yl => ?_⟩
    obtain ⟨T, u1, u2, rfl, nT, rfl, y1, y2⟩ := yl
    exact ⟨T, [u1, u2], rfl, SqT.of upd_same, rfl, u1, [u2], rfl, u2, [], rfl, rfl, hb k u1 u2 T σ H (y1 xs tx) (y2 ys ty) pv nT⟩
  · have ek : k = min xs.length ys.length := by omega
    subst ek
    refine .inl ⟨⟨xs, ys, tx, ty, by omega, by omega, by omega⟩, hd σ H pv⟩
/-- [elt for x in range(a) if c], as a value -/
theorem e_lcRf {X : Cx} {elt c a : Expr} {σ : L2.St} {H : Hp} {Q : VK} {pos : Pos} {N G G' : List Str} {Vn : List (Nat × Str)} {sc scope : Scope} {i g : Nat} {x : Str} {px p cp : Pos} (B : BkOk X.N Vn G' i x sc scope) (hm : X.mg "range" = none)
    (q : wE X a σ H fun v H1 => ∃ n : Nat, v = .int n ∧ n < 2 ^ 62 ∧ ∀ D, H1 D = none → LcRf X Vn G' elt c scope i n D σ H1 fun H2 => Q (.ref D) H2)
    (I : In X N G sc := by assumption) (hc : X.calm = true := by rfl) (hG : At G g ("range" : Str) := by repeat (first | with_reducible apply At.z | with_reducible apply At.s))
    (hs : starEach [a] X.env = [(false, eval a X.env)] := by rfl) (hs2 : ∀ z, foldedSetIterable (.Call (.Name "range" p) [a] [] cp) X.env z = pure z := by intro _; rfl) (hs1 : starEach (a :: []) X.env = (false, eval a X.env) :: starEach [] X.env := by rfl) :
    wE X (.ListComp elt [⟨.Name x px, .Call (.Name "range" p) [a] [] cp, [c], 0⟩] scope pos) σ H Q := by
  refine e_of (pe_lc (own := [(x, i)]) (g := gName i) (tt := wBkT X Vn G' c scope) (te := wBk X Vn G' elt scope) hc I.nd (pi_range1 (I.g hG) hm (pa_cons pe pa_nil hs1) hs) (B.ok I) (fun s H C cl fp => B.pg I s H C cl fp) (fun s H C cl fp => pts_bk (B.inB I s H C cl fp)) (fun s H C cl fp => pe_bk (B.inB I s H C cl fp)) hs2) (e_mono q fun v H1 q1 => ?_)
  obtain ⟨n, rfl, hn, q2⟩ := q1
  refine ⟨(n : Int), rfl, by omega, by omega, ?_⟩
  rw [Int.toNat_natCast]
  exact fun D hD => lcRf_of (q2 D hD)
/-- for x in reversed(range(a)) -/
theorem s_forRR {X : Cx} {a : Expr} {σ : L2.St} {H : Hp} {N G : List Str} {sc : Scope} {nx : L2.St → Hp → Prop} {rt : VK} {bk ct : L2.St → Hp → Prop} {g g2 : Nat} {x : Str} {i : Nat} {body : List Stmt} {px p p2 cp cp2 pos : Pos} (hm : X.mg "reversed" = none) (hm2 : X.mg "range" = none)
    (q : wE X a σ H fun v H1 => ∃ n : Nat, v = .int n ∧ n < 2 ^ 62 ∧ ∃ Pv : Nat → L2.St → Hp → Prop, Pv 0 σ H1 ∧ (∀ k σ H, k < n → Pv k σ H → wL X body ⟨Pv (k + 1), rt, nx, Pv (k + 1)⟩ (σ.set i (some (.int ((n - 1 - k : Nat) : Int)))) H) ∧ ∀ σ H, Pv n σ H → nx σ H)
    (I : In X N G sc := by assumption) (hc : X.calm = true := by rfl) (hA : At N i x := by repeat (first | with_reducible apply At.z | with_reducible apply At.s))
    (hG : At G g ("reversed" : Str) := by repeat (first | with_reducible apply At.z | with_reducible apply At.s)) (hG2 : At G g2 ("range" : Str) := by repeat (first | with_reducible apply At.z | with_reducible apply At.s))
    (hs : starEach [.Call (.Name "range" p2) [a] [] cp2] X.env = (false, eval (.Call (.Name "range" p2) [a] [] cp2) X.env) :: starEach [] X.env := by rfl) (hs1 : starEach [a] X.env = (false, eval a X.env) :: starEach [] X.env := by rfl)
    (hs2 : ∀ z, foldedSetIterable (.Call (.Name "reversed" p) [.Call (.Name "range" p2) [a] [] cp2] [] cp) X.env z = pure z := by intro _; rfl) :
    wS X (.For (.Name x px) (.Call (.Name "reversed" p) [.Call (.Name "range" p2) [a] [] cp2] [] cp) body [] pos) ⟨nx, rt, bk, ct⟩ σ H := by
  refine s_of (ps_for I.never hc (pi_revR (I.g hG) hm (prg_1 (I.g hG2) hm2 pe hs1) hs) (pg_name I.nd (I.hi hA) (I.loc hA) I.f) pl hs2) (e_mono q fun v H1 q1 => ?_)
  obtain ⟨n, rfl, hn, Pv, h0, hb, hd⟩ := q1
  refine ⟨(n : Int), rfl, by omega, by omega, by omega, by omega, ?_⟩
  rw [show ((n : Int) - 0).toNat = n by omega]
  refine for_rangeC (n := n) Pv h0 (fun k σ H hk pv => ?_) hd
  rw [show (0 : Int) + ((n : Nat) : Int) - 1 + ((k : Nat) : Int) * (-1) = ((n - 1 - k : Nat) : Int) by omega]
  exact hb k σ H hk pv
end
end Wk

set_option maxHeartbeats 4000000
/-! My own layer: list(zip(a, b)), whose pairs the list holds. -/
namespace Wk
open PySem PySem.Spec PyProof.Rows L2
section
variable {prog : Program} {w : World} {A : Around} {E : Value → Shared → Prop} {s : Shared} {z TI TO T i1 i2 : Addr} {fa fb : List Addr} {n1 n2 i : Nat} {Pa Pb : Nat → Value → Prop} {Sa Sb : Nat → Heap → Prop} {fl : Bool} {oT : Obj}
/-- a turn of a zip whose last tuple is still held -/
theorem zh_item {Q : Value → Shared → Prop} (Z : ZipSep2 z TI TO i1 i2 fa fb) (Da : Draws prog w A i1 fa n1 Pa Sa) (Db : Draws prog w A i2 fb n2 Pb Sb)
    (hz : IsZipHeld s.heap z TI TO T fl) (hT : s.heap.get? T = some oT) (hI : IsTupOf2 s.heap TI (.ref i1) (.ref i2)) (ta : Sa i s.heap) (tb : Sb i s.heap) (la : i < n1) (lb : i < n2)
    (k : ∀ x y g tk, Pa i x → Pb i y → IsZipHeld g z TI TO T true → Sa (i + 1) g → Sb (i + 1) g → IsTupOf2 g s.heap.objs.size x y → g.objs.size = s.heap.objs.size + 1 →
      (∀ e o, e ≠ z → e ≠ i1 → e ≠ i2 → s.heap.get? e = some o → g.get? e = some o) → Q (.ref s.heap.objs.size) { s with heap := g, toks := tk }) :
    wpAny (model prog w) A (Builtin.«zip.__next__» ⟨[.ref z], []⟩) (fun r s' => ∃ v, r = .done (.ret v) ∧ Q v s') E s := by
  obtain ⟨h0, gn, dr, t0, os⟩ := s
  show wpAny _ A (field (.ref z) 2 >>= _) _ E _
  refine wpAny_bind (wpAny_field hz rfl (x := Value.bool false) rfl ?_)
  show wpAny _ A (field (.ref z) 3 >>= _) _ E _
  refine wpAny_bind (wpAny_field hz rfl (x := Value.ref TI) rfl ?_)
  refine wpAny_bind (wpAny_seqItems (s := ⟨h0, gn, dr, t0, os⟩) hI rfl ?_)
  show wpAny _ A (Builtin.SmallTypes.ownedTupleIsFree (.ref z) >>= _) _ E _
  refine wpAny_bind (wpAny_tupleHeld_zip (s := ⟨h0, gn, dr, t0, os⟩) hz hT fun h1 z1 b1 => ?_)
  replace b1 : Heap.SameBut z h0 h1 := b1
  simp only [Bool.false_eq_true, if_false]
  refine wpAny_bind ?_
  rw [← Array.forIn_toList]
  simp only [List.forIn_cons, List.forIn_nil]
  refine wpAny_bind (wpAny_bind (wpAny_holding ?_))
  show wpAny _ A (Builtin.SmallTypes.nextOf (.ref i1) >>= _) _ E ⟨h1, gn, dr, t0, os⟩
  refine wpAny_bind (Da.item i _ _ _ la (Da.over ta b1 Z.zf1) fun x h2 t2 px sx b2 => wpAny_pure ?_)
  replace b2 : Heap.SameBut i1 h1 h2 := b2
  refine wpAny_pure ?_
  refine wpAny_bind (wpAny_bind (wpAny_holding ?_))
  show wpAny _ A (Builtin.SmallTypes.nextOf (.ref i2) >>= _) _ E ⟨h2, gn, dr, t2, os⟩
  refine wpAny_bind (Db.item i _ _ _ lb (Db.over (Db.over tb b1 Z.zf2) b2 Z.sep1_2) fun y h3 t3 py sy b3 => wpAny_pure ?_)
  replace b3 : Heap.SameBut i2 h2 h3 := b3
  refine wpAny_pure (wpAny_pure ?_)
  show wpAny _ A (newTuple [x, y] >>= _) _ E ⟨h3, gn, dr, t3, os⟩
  refine wpAny_bind (wpAny_newTuple ?_)
  have sz : h3.objs.size = h0.objs.size := by rw [b3.1, b2.1, b1.1]
  have z3 : IsZipHeld h3 z TI TO T true := b3.extBut _ _ Z.zi2 (b2.extBut _ _ Z.zi1 z1)
  have kp : ∀ e o, e ≠ z → e ≠ i1 → e ≠ i2 → h0.get? e = some o → h3.get? e = some o := fun e o c1 c2 c3 q => b3.extBut _ _ c3 (b2.extBut _ _ c2 (b1.extBut _ _ c1 q))
  have tp : IsTupOf2 (h3.push { cls := .type "tuple", data := .seq #[x, y] }) h3.objs.size x y := Heap.get?_push_size _ rfl
  have s4 : (h3.push { cls := .type "tuple", data := .seq #[x, y] }).objs.size = h3.objs.size + 1 := Heap.size_push ..
  refine wpAny_pure ⟨_, rfl, ?_⟩
  show Q (.ref h3.objs.size) _
  rw [sz] at tp s4 ⊢
  exact k x y _ t3 px py (Heap.get?_push_of_some _ z3) (Da.frame _ _ _ (Da.over sx b3 Z.sep2_1) fun e _ o q => Heap.get?_push_of_some _ q) (Db.frame _ _ _ sy fun e _ o q => Heap.get?_push_of_some _ q) tp s4 fun e o c1 c2 c3 q => Heap.get?_push_of_some _ (kp e o c1 c2 c3 q)
theorem zh_stop {Q : PySem.Fin → Shared → Prop} (Z : ZipSep2 z TI TO i1 i2 fa fb) (Da : Draws prog w A i1 fa n1 Pa Sa) (Db : Draws prog w A i2 fb n2 Pb Sb)
    (hz : IsZipHeld s.heap z TI TO T fl) (hT : s.heap.get? T = some oT) (hI : IsTupOf2 s.heap TI (.ref i1) (.ref i2)) (ta : Sa i s.heap) (tb : Sb i s.heap) (la : i ≤ n1) (lb : i ≤ n2) (hend : i = n1 ∨ i = n2)
    (k : ∀ g tk e, (∀ c o, c ≠ z → c ≠ i1 → c ≠ i2 → s.heap.get? c = some o → g.get? c = some o) → (∃ o, g.get? e = some o ∧ o.cls = .type "StopIteration") → E (.ref e) { s with heap := g, toks := tk }) :
    wpAny (model prog w) A (Builtin.«zip.__next__» ⟨[.ref z], []⟩) Q E s := by
  obtain ⟨h0, gn, dr, t0, os⟩ := s
  show wpAny _ A (field (.ref z) 2 >>= _) _ E _
  refine wpAny_bind (wpAny_field hz rfl (x := Value.bool false) rfl ?_)
  show wpAny _ A (field (.ref z) 3 >>= _) _ E _
  refine wpAny_bind (wpAny_field hz rfl (x := Value.ref TI) rfl ?_)
  refine wpAny_bind (wpAny_seqItems (s := ⟨h0, gn, dr, t0, os⟩) hI rfl ?_)
  show wpAny _ A (Builtin.SmallTypes.ownedTupleIsFree (.ref z) >>= _) _ E _
  refine wpAny_bind (wpAny_tupleHeld_zip (s := ⟨h0, gn, dr, t0, os⟩) hz hT fun h1 z1 b1 => ?_)
  replace b1 : Heap.SameBut z h0 h1 := b1
  simp only [Bool.false_eq_true, if_false]
  refine wpAny_bind ?_
  rw [← Array.forIn_toList]
  simp only [List.forIn_cons, List.forIn_nil]
  refine wpAny_bind (wpAny_bind (wpAny_holding ?_))
  show wpAny _ A (Builtin.SmallTypes.nextOf (.ref i1) >>= _) _ E ⟨h1, gn, dr, t0, os⟩
  by_cases lt : i < n1
  · have e2 : i = n2 := by omega
    refine wpAny_bind (Da.item i _ _ _ lt (Da.over ta b1 Z.zf1) fun x h2 t2 px sx b2 => wpAny_pure ?_)
    replace b2 : Heap.SameBut i1 h1 h2 := b2
    refine wpAny_pure ?_
    refine wpAny_bind (wpAny_bind (wpAny_holding ?_))
    show wpAny _ A (Builtin.SmallTypes.nextOf (.ref i2) >>= _) _ E ⟨h2, gn, dr, t2, os⟩
    refine wpAny_bind (Db.done ⟨h2, gn, dr, t2, os⟩ _ _ (by rw [← e2]; exact Db.over (Db.over tb b1 Z.zf2) b2 Z.sep1_2) fun h3 e b3 he => ?_)
    replace b3 : Heap.ExtBut i2 h2 h3 := b3
    exact k h3 t2 e (fun c o c1 c2 c3 q => b3 _ _ c3 (b2.extBut _ _ c2 (b1.extBut _ _ c1 q))) he
  · have e1 : i = n1 := by omega
    refine wpAny_bind (Da.done ⟨h1, gn, dr, t0, os⟩ _ _ (by rw [← e1]; exact Da.over ta b1 Z.zf1) fun h3 e b3 he => ?_)
    replace b3 : Heap.ExtBut i1 h1 h3 := b3
    exact k h3 t0 e (fun c o c1 c2 _ q => b3 _ _ c2 (b1.extBut _ _ c1 q)) he
/-- how a zip stands whose tuples the list at L holds -/
def ZS (z TI TO i1 i2 L : Addr) (Sa Sb : Nat → Heap → Prop) (i : Nat) (h : Heap) : Prop := IsTupOf2 h TI (.ref i1) (.ref i2) ∧ Sa i h ∧ Sb i h ∧
  ((IsZip h z TI TO .none ∧ ∃ u v, IsTupOf2 h TO u v) ∨ ∃ T fl oT, IsZipHeld h z TI TO T fl ∧ h.get? T = some oT ∧ T ≠ z ∧ T ≠ i1 ∧ T ≠ i2 ∧ T ≠ L)
theorem zs_item {L : Addr} {Q : Option Value → Shared → Prop} (Z : ZipSep2 z TI TO i1 i2 fa fb) (Da : Draws prog w A.in1 i1 fa n1 Pa Sa) (Db : Draws prog w A.in1 i2 fb n2 Pb Sb) (st : ZS z TI TO i1 i2 L Sa Sb i s.heap) (hL : L < s.heap.objs.size) (la : i < n1) (lb : i < n2)
    (k : ∀ x y g tk, Pa i x → Pb i y → ZS z TI TO i1 i2 L Sa Sb (i + 1) g → IsTupOf2 g s.heap.objs.size x y → g.objs.size = s.heap.objs.size + 1 →
      (∀ e o, e ≠ z → e ≠ TO → e ≠ i1 → e ≠ i2 → s.heap.get? e = some o → g.get? e = some o) → Q (some (.ref s.heap.objs.size)) { s with heap := g, toks := tk }) :
    wpAny (model prog w) A (pyNext (.ref z)) Q E s := by
  obtain ⟨hI, ta, tb, hz⟩ := st
  obtain ⟨o1, l1⟩ := Da.live _ _ ta
  obtain ⟨o2, l2⟩ := Db.live _ _ tb
  have n1' : s.heap.objs.size ≠ i1 := Nat.ne_of_gt (Heap.lt_size l1)
  have n2' : s.heap.objs.size ≠ i2 := Nat.ne_of_gt (Heap.lt_size l2)
  rcases hz with ⟨hz, u, v, hO⟩ | ⟨T, fl, oT, hz, hT, r1, r2, r3, r4⟩
  · have nz : s.heap.objs.size ≠ z := Nat.ne_of_gt (Heap.lt_size hz)
    refine wpAny_pyNext_zipD2_item Z Da Db hz hI hO ta tb la lb fun x y g tk px py z' O' sa sb tp sz kp => ?_
    exact k x y g tk px py ⟨kp _ _ Z.TIz Z.TITO Z.TIi1 Z.TIi2 hI, sa, sb, .inr ⟨_, false, _, z', tp, nz, n1', n2', Nat.ne_of_gt hL⟩⟩ tp sz kp
  · have tz : s.TypeIs (.ref z) "zip" := ⟨_, hz, rfl⟩
    unfold pyNext
    exact wpAny_bind (wpAny_attempt (wpAny_callSpecial?_slot (name := Str.ofString "__next__") tz F.slot_zip_next (wpAny_call_entry F.slot_zip_next tz F.entry_zip_next
      (zh_item Z Da Db hz hT hI ta tb la lb fun x y g tk px py z' sa sb tp sz kp => wpAny_pure (k x y g tk px py ⟨kp _ _ Z.TIz Z.TIi1 Z.TIi2 hI, sa, sb, .inr ⟨T, true, oT, z', kp _ _ r1 r2 r3 hT, r1, r2, r3, r4⟩⟩ tp sz fun e o c1 _ c2 c3 q => kp e o c1 c2 c3 q)) (F.args_zip_next_1 _))))
theorem zs_stop {L : Addr} {Q : Option Value → Shared → Prop} (Z : ZipSep2 z TI TO i1 i2 fa fb) (Da : Draws prog w A.in1 i1 fa n1 Pa Sa) (Db : Draws prog w A.in1 i2 fb n2 Pb Sb) (st : ZS z TI TO i1 i2 L Sa Sb i s.heap) (la : i ≤ n1) (lb : i ≤ n2) (hend : i = n1 ∨ i = n2)
    (k : ∀ g tk, (∀ e o, e ≠ z → e ≠ TO → e ≠ i1 → e ≠ i2 → s.heap.get? e = some o → g.get? e = some o) → Q none { s with heap := g, toks := tk }) :
    wpAny (model prog w) A (pyNext (.ref z)) Q E s := by
  obtain ⟨hI, ta, tb, hz⟩ := st
  rcases hz with ⟨hz, u, v, hO⟩ | ⟨T, fl, oT, hz, hT, r1, r2, r3, r4⟩
  · exact wpAny_pyNext_zipD2_end Z Da Db hz hI hO ta tb la lb hend fun g tk kp => k g tk kp
  · have tz : s.TypeIs (.ref z) "zip" := ⟨_, hz, rfl⟩
    unfold pyNext
    refine wpAny_bind (wpAny_attempt (wpAny_callSpecial?_slot (name := Str.ofString "__next__") tz F.slot_zip_next (wpAny_call_entry F.slot_zip_next tz F.entry_zip_next (zh_stop Z Da Db hz hT hI ta tb la lb hend fun g tk e kp he => ?_) (F.args_zip_next_1 _))))
    obtain ⟨o, ho, hc⟩ := he
    refine wpAny_bind (wpAny_isInstance (T := "StopIteration") (b := true) ⟨o, ho, hc⟩ isSubtype_stop ?_)
    exact wpAny_pure (k g tk fun e o c1 _ c2 c3 q => kp e o c1 c2 c3 q)
/-- the pairs in the list: at rising addresses above lo -/
structure ZG (Pa Pb : Nat → Value → Prop) (lo : Addr) (h : Heap) (as : List Addr) : Prop where
  rise : as.Pairwise (· < ·)
  above : ∀ a ∈ as, lo < a
  pr : ∀ (j : Nat) (a : Addr), as[j]? = some a → ∃ x y, Pa j x ∧ Pb j y ∧ IsTupOf2 h a x y
theorem ZG.there {lo : Addr} {h : Heap} {as : List Addr} (g : ZG Pa Pb lo h as) {a : Addr} (ha : a ∈ as) : a < h.objs.size := by
  obtain ⟨j, hj⟩ := List.mem_iff_getElem?.mp ha
  obtain ⟨_, _, _, _, e⟩ := g.pr j a hj
  exact Heap.lt_size e
end
section
variable {prog : Program} {w : World} {A : Around} {s : Shared} {R : Result → Shared → Prop} {z TI TO i1 i2 : Addr} {fa fb : List Addr} {n1 n2 : Nat} {Pa Pb : Nat → Value → Prop} {Sa Sb : Nat → Heap → Prop}
theorem zs_loop {L lo : Addr} (Z : ZipSep2 z TI TO i1 i2 fa fb) (Da : Draws prog w A.in1.in1 i1 fa n1 Pa Sa) (Db : Draws prog w A.in1.in1 i2 fb n2 Pb Sb) (cz : z ≤ lo) (cO : TO ≤ lo) (c1 : i1 ≤ lo) (c2 : i2 ≤ lo) (cL : L ≤ lo) (lz : L ≠ z) (lI : L ≠ TI) (lO : L ≠ TO) (l1 : L ≠ i1) (l2 : L ≠ i2) (la : L ∉ fa) (lb : L ∉ fb) (hn : min n1 n2 ≤ sizeLine) (res : Value) {hb : Heap}
    (hR : ∀ g tk acc c as, (∀ b o, b ≠ L → b ≠ z → b ≠ TO → b ≠ i1 → b ≠ i2 → hb.get? b = some o → g.get? b = some o) → g.get? L = some { cls := .type "list", dict := none, data := .seq acc c, slots := #[] } → as.length = min n1 n2 → ZG Pa Pb lo g as → acc.toList = as.map Value.ref → R (.ok (.ret res)) { s with heap := g, toks := tk }) :
    ∀ (k i : Nat) (h : Heap) (tk c : Nat) (acc : Array Value) (as : List Addr), min n1 n2 - i = k → i ≤ min n1 n2 → ZS z TI TO i1 i2 L Sa Sb i h → (∀ b o, b ≠ L → b ≠ z → b ≠ TO → b ≠ i1 → b ≠ i2 → hb.get? b = some o → h.get? b = some o) →
      h.get? L = some { cls := .type "list", dict := none, data := .seq acc c, slots := #[] } → acc.toList = as.map Value.ref → as.length = i → ZG Pa Pb lo h as → lo < h.objs.size →
      codeAny (model prog w) A (.builtin "list.extend.loop" ⟨[.ref L, .ref z, res], []⟩) R { s with heap := h, toks := tk } := by
  intro k
  induction k with
  | zero =>
    intro i h tk c acc as hk hi st hkp hL hacc hl hG hlo
    refine codeAny_builtin F.entry_extend_loop ?_
    rw [Around.under_plainId F.plain_extend_loop _]
    show wpAny _ A.in1 (pyNext (.ref z) >>= _) _ _ _
    refine wpAny_bind (zs_stop (s := { s with heap := h, toks := tk }) (A := A.in1) Z Da Db st (by omega) (by omega) (by omega) fun g t' kp => ?_)
    refine wpAny_pure (hR g t' acc c as (fun b o q0 q1 q2 q3 q4 e => kp b o q1 q2 q3 q4 (hkp b o q0 q1 q2 q3 q4 e)) (kp L _ lz lO l1 l2 hL) (by omega) ⟨hG.rise, hG.above, fun j a hj => ?_⟩ hacc)
    obtain ⟨x, y, p1, p2, p3⟩ := hG.pr j a hj
    have ab := hG.above a (List.mem_of_getElem? hj)
    exact ⟨x, y, p1, p2, kp a _ (Nat.ne_of_gt (Nat.lt_of_le_of_lt cz ab)) (Nat.ne_of_gt (Nat.lt_of_le_of_lt cO ab)) (Nat.ne_of_gt (Nat.lt_of_le_of_lt c1 ab)) (Nat.ne_of_gt (Nat.lt_of_le_of_lt c2 ab)) p3⟩
  | succ k ih =>
    intro i h tk c acc as hk hi st hkp hL hacc hl hG hlo
    have lt1 : i < n1 := by omega
    have lt2 : i < n2 := by omega
    have hsz : acc.size = i := by rw [← Array.length_toList, hacc, List.length_map, hl]
    refine codeAny_builtin F.entry_extend_loop ?_
    rw [Around.under_plainId F.plain_extend_loop _]
    show wpAny _ A.in1 (pyNext (.ref z) >>= _) _ _ _
    refine wpAny_bind (zs_item (s := { s with heap := h, toks := tk }) (A := A.in1) Z Da Db st (Heap.lt_size hL) lt1 lt2 fun x y g t' px py st' tp sz kp => ?_)
    dsimp only at tp sz kp ⊢
    have hL' := kp L _ lz lO l1 l2 hL
    have Llt : L < h.objs.size := Heap.lt_size hL
    have up : ∀ b o, b ≠ L → g.get? b = some o → (g.update L (Obj.mapSeq (·.push (Value.ref h.objs.size)))).get? b = some o := fun b o nb e => (Heap.get?_update_other _ _ (Ne.symm nb)).trans e
    show wpAny _ A.in1 (updateSeq L (·.push (Value.ref h.objs.size)) >>= _) _ _ _
    refine wpAny_bind ?_
    refine wpAny_updateSeq hL' rfl (wpAny_pure ⟨plainId_quiet F.plain_extend_loop _, ih (i + 1) _ t' _ (acc.push (Value.ref h.objs.size)) (as ++ [h.objs.size]) (by omega) (by omega) ?_
      (fun b o q0 q1 q2 q3 q4 e => up b o q0 (kp b o q1 q2 q3 q4 (hkp b o q0 q1 q2 q3 q4 e))) (Heap.get?_update_self _ hL' rfl) (by rw [Array.toList_push, hacc, List.map_append]; rfl) (by rw [List.length_append, hl]; rfl) ⟨?_, ?_, ?_⟩ ?_⟩) (by rw [hsz]; omega) (by show (acc.push (Value.ref h.objs.size)).size ≤ sizeLine + 1; rw [Array.size_push, hsz]; omega)
    · obtain ⟨q1, q2, q3, q4⟩ := st'
      refine ⟨up _ _ (Ne.symm lI) q1, Da.frame _ _ _ q2 fun b hb o e => up b o (fun q => la (q ▸ hb)) e, Db.frame _ _ _ q3 fun b hb o e => up b o (fun q => lb (q ▸ hb)) e, ?_⟩
      rcases q4 with ⟨q5, u, v, q6⟩ | ⟨T, fl, oT, q5, q6, r1, r2, r3, r4⟩
      · exact .inl ⟨up _ _ (Ne.symm lz) q5, u, v, up _ _ (Ne.symm lO) q6⟩
      · exact .inr ⟨T, fl, oT, up _ _ (Ne.symm lz) q5, up _ _ r4 q6, r1, r2, r3, r4⟩
    · refine List.pairwise_append.mpr ⟨hG.rise, List.pairwise_singleton _ _, fun a ha b hb' => ?_⟩
      rw [List.mem_singleton.mp hb']
      exact hG.there ha
    · intro a ha
      rcases List.mem_append.mp ha with ha | ha
      · exact hG.above a ha
      · rw [List.mem_singleton.mp ha]; exact hlo
    · intro j b hj
      rcases Nat.lt_trichotomy j as.length with q | q | q
      · rw [List.getElem?_append_left q] at hj
        obtain ⟨x', y', p1, p2, p3⟩ := hG.pr j b hj
        have ab := hG.above b (List.mem_of_getElem? hj)
        exact ⟨x', y', p1, p2, up b _ (Nat.ne_of_gt (Nat.lt_of_le_of_lt cL ab)) (kp b _ (Nat.ne_of_gt (Nat.lt_of_le_of_lt cz ab)) (Nat.ne_of_gt (Nat.lt_of_le_of_lt cO ab)) (Nat.ne_of_gt (Nat.lt_of_le_of_lt c1 ab)) (Nat.ne_of_gt (Nat.lt_of_le_of_lt c2 ab)) p3)⟩
      · subst q
        have eb : h.objs.size = b := by simpa using hj
        subst eb
        exact ⟨x, y, by rw [hl]; exact px, by rw [hl]; exact py, up _ _ (Nat.ne_of_gt Llt) tp⟩
      · rw [List.getElem?_eq_none (by rw [List.length_append, List.length_singleton]; omega)] at hj
        cases hj
    · have e : (g.update L (Obj.mapSeq (·.push (Value.ref h.objs.size)))).get? h.objs.size = _ := up _ _ (Nat.ne_of_gt Llt) tp
      exact Nat.lt_trans hlo (Heap.lt_size e)
end
theorem zip_nolen : typeLookup (.type "zip") "__len__" = pure none := by rw [typeLookup_type, builtinLookup_eq_fast]; kernel_rfl
theorem zip_nohint : typeLookup (.type "zip") "__length_hint__" = pure none := by rw [typeLookup_type, builtinLookup_eq_fast]; kernel_rfl
section
variable {prog : Program} {w : World} {A : Around} {E : Value → Shared → Prop} {s : Shared} {z TI TO i1 i2 : Addr} {fa fb : List Addr} {n1 n2 : Nat} {Pa Pb : Nat → Value → Prop} {Sa Sb : Nat → Heap → Prop}
/-- list(z), z a zip that has not begun -/
theorem list_zip {Q : Value → Shared → Prop} (Z : ZipSep2 z TI TO i1 i2 fa fb) (D4 : Draws prog w A.in1.in1.in1 i1 fa n1 Pa Sa) (D5 : Draws prog w A.in1.in1.in1 i2 fb n2 Pb Sb)
    (hz : IsZip s.heap z TI TO .none) (hI : IsTupOf2 s.heap TI (.ref i1) (.ref i2)) (hO : ∃ u v, IsTupOf2 s.heap TO u v) (ta : Sa 0 s.heap) (tb : Sb 0 s.heap) (fa1 : ∀ b ∈ fa, b < s.heap.objs.size) (fb1 : ∀ b ∈ fb, b < s.heap.objs.size) (hn : min n1 n2 ≤ sizeLine)
    (hQ : ∀ g tk acc c as, (∀ b o, b ≠ z → b ≠ TO → b ≠ i1 → b ≠ i2 → s.heap.get? b = some o → g.get? b = some o) → g.get? s.heap.objs.size = some { cls := .type "list", dict := none, data := .seq acc c, slots := #[] } → as.length = min n1 n2 → ZG Pa Pb s.heap.objs.size g as → acc.toList = as.map Value.ref → Q (.ref s.heap.objs.size) { s with heap := g, toks := tk }) :
    wpAny (model prog w) A (call (.type "list") [.ref z]) Q E s := by
  refine callType_codes (Q₁ := fun ob t => ob = .ref s.heap.objs.size ∧ t = { s with heap := s.heap.push { cls := .type "list", data := .seq #[] } }) F.called_list (F.typeCall_list_1 _) F.entry_list_init (code_list_new _ ⟨rfl, rfl⟩) fun ob t h => ?_
  obtain ⟨rfl, rfl⟩ := h
  have hS : (s.heap.push { cls := .type "list", data := .seq #[] }).get? s.heap.objs.size = some { cls := .type "list", data := .seq #[] } := Heap.get?_push_size _ rfl
  have zlt : z < s.heap.objs.size := Heap.lt_size hz
  have Olt : TO < s.heap.objs.size := let ⟨_, _, e⟩ := hO; Heap.lt_size e
  have Ilt : TI < s.heap.objs.size := Heap.lt_size hI
  have lt1 : i1 < s.heap.objs.size := fa1 _ Z.mem1
  have lt2 : i2 < s.heap.objs.size := fb1 _ Z.mem2
  refine ⟨⟨_, hS, rfl⟩, F.args_list_init_2 _ _, ?_⟩
  show wpAny _ A.in1.in1 (do let old ← Builtin.List.listItems (.ref s.heap.objs.size); Builtin.List.listUpdate (.ref s.heap.objs.size) (fun _ => #[]); letGo old.toList.reverse; Builtin.List.listExtendWith (.ref s.heap.objs.size) (.ref z) .none) _ _ _
  refine wpAny_bind ?_
  unfold Builtin.List.listItems
  refine wpAny_bind (wpAny_seqItems hS rfl (wpAny_pure ?_))
  show wpAny _ A.in1.in1 (updateSeq s.heap.objs.size (fun _ => #[]) >>= fun _ => letGo (#[] : Array Value).toList.reverse >>= fun _ => Builtin.List.listExtendWith (.ref s.heap.objs.size) (.ref z) .none) _ _ _
  refine wpAny_bind (wpAny_updateSeq hS rfl ?_)
  have hS2 := Heap.get?_update_self (Obj.mapSeq (fun _ => (#[] : Array Value))) hS rfl
  refine wpAny_bind (wpAny_letGo ?_)
  have up : ∀ (h : Heap) (f : Obj → Obj), (∀ b o, s.heap.get? b = some o → h.get? b = some o) → ∀ b o, s.heap.get? b = some o → (h.update s.heap.objs.size f).get? b = some o := fun h f q b o e => (Heap.get?_update_other _ _ (Ne.symm (Nat.ne_of_lt (Heap.lt_size e)))).trans (q b o e)
  have k1 : ∀ b o, s.heap.get? b = some o → (s.heap.push { cls := .type "list", data := .seq #[] }).get? b = some o := fun b o e => Heap.get?_push_of_some _ e
  have k2 := up _ (Obj.mapSeq (fun _ => (#[] : Array Value))) k1
  unfold Builtin.List.listExtendWith
  have zt : ∀ {h : Heap} {g : Array GenState} {d : Drawn} {tk : Nat} {os : OsState}, (∀ b o, s.heap.get? b = some o → h.get? b = some o) → Shared.TypeIs ⟨h, g, d, tk, os⟩ (.ref z) "zip" := fun {h g d tk os} q => ⟨_, q _ _ hz, rfl⟩
  refine wpAny_bind (wpAny_typeOf (T := "zip") (zt k2) ?_)
  have e1 : Builtin.List.listSameRef (.ref s.heap.objs.size) (.ref z) = false := by simp [Builtin.List.listSameRef, Nat.ne_of_gt zlt]
  have e2 : (Value.type "zip" == Value.type "list") = false := by decide
  have e3 : (Value.type "zip" == Value.type "tuple") = false := by decide
  simp only [e1, e2, e3, Bool.or_false, Bool.false_eq_true, if_false]
  refine wpAny_bind (wpAny_pyIter_zip (s := { s with heap := _ }) (k2 _ _ hz) ?_)
  refine wpAny_bind (wpAny_holding ?_)
  unfold Builtin.List.listLengthHint
  refine wpAny_bind (wpAny_specialOf (zt k2) zip_nolen ?_)
  show wpAny _ A.in1.in1 (specialOf (Value.ref z) (Str.ofString "__length_hint__") >>= _) _ _ _
  refine wpAny_bind (wpAny_specialOf (zt k2) zip_nohint ?_)
  refine wpAny_pure ?_
  show wpAny _ A.in1.in1 (rule "list.extend.makes-room" >>= fun _ => Builtin.List.listTouch (.ref s.heap.objs.size) >>= fun _ => again (.builtin "list.extend.loop" ⟨[.ref s.heap.objs.size, .ref z, .none], []⟩)) _ _ _
  refine wpAny_bind (wpAny_rule ?_)
  refine wpAny_bind ?_
  show wpAny _ A.in1.in1 (updateSeq s.heap.objs.size (·.push .none) >>= fun _ => updateSeq s.heap.objs.size (·.pop)) _ _ _
  refine wpAny_bind (wpAny_updateSeq hS2 rfl ?_)
  have hS3 := Heap.get?_update_self (Obj.mapSeq (·.push Value.none)) hS2 rfl
  refine wpAny_updateSeq (hz := by seq_fits) hS3 rfl ?_
  have hS4 := Heap.get?_update_self (Obj.mapSeq (·.pop)) hS3 rfl
  have k3 := up _ (Obj.mapSeq (·.push Value.none)) k2
  have k4 := up _ (Obj.mapSeq (·.pop)) k3
  refine wpAny_pure ⟨plainId_quiet F.plain_extend_loop _, zs_loop (A := A.in1) (s := s) (L := s.heap.objs.size) (lo := s.heap.objs.size) (hb := s.heap) Z D4 D5 (Nat.le_of_lt zlt) (Nat.le_of_lt Olt) (Nat.le_of_lt lt1) (Nat.le_of_lt lt2) (Nat.le_refl _) (Nat.ne_of_gt zlt) (Nat.ne_of_gt Ilt) (Nat.ne_of_gt Olt) (Nat.ne_of_gt lt1) (Nat.ne_of_gt lt2)
    (fun q => Nat.lt_irrefl _ (fa1 _ q)) (fun q => Nat.lt_irrefl _ (fb1 _ q)) hn .none (fun g tk acc c as kp hL hl hG hacc => ?_) (min n1 n2) 0 _ s.toks _ #[] [] (Nat.sub_zero _) (Nat.zero_le _)
    ⟨k4 _ _ hI, D4.frame _ _ _ ta fun b _ o e => k4 b o e, D5.frame _ _ _ tb fun b _ o e => k4 b o e, .inl ⟨k4 _ _ hz, let ⟨u, v, e⟩ := hO; ⟨u, v, k4 _ _ e⟩⟩⟩ (fun b o _ _ _ _ _ e => k4 b o e) hS4 rfl rfl ⟨List.Pairwise.nil, (fun a ha => by cases ha), fun j a hj => by simp at hj⟩ (Heap.lt_size hS4)⟩
  exact ⟨rfl, hQ g tk acc c as (fun b o q1 q2 q3 q4 e => kp b o (Nat.ne_of_lt (Heap.lt_size e)) q1 q2 q3 q4 e) hL hl hG hacc⟩
end
/-! ### in the abstract heap -/
def putP : Hp → List Addr → List (V × V) → Hp
  | H, a :: as, p :: ps => putP (upd H a (.tup [p.1, p.2])) as ps
  | H, [], _ => H
  | H, _ :: _, [] => H
theorem putP_off {b : Addr} : ∀ (as : List Addr) (ps : List (V × V)) (H : Hp), b ∉ as → putP H as ps b = H b
  | [], _, _, _ => by unfold putP; rfl
  | _ :: _, [], _, _ => by unfold putP; rfl
  | a :: as, p :: ps, H, h => by
    unfold putP
    rw [putP_off as ps _ (fun q => h (List.mem_cons_of_mem _ q)), upd_ne (fun q => h (by rw [q]; exact List.mem_cons_self))]
theorem putP_at : ∀ (as : List Addr) (ps : List (V × V)) (H : Hp), as.length = ps.length → as.Nodup → ∀ (j : Nat) (a : Addr), as[j]? = some a → ∃ q, ps[j]? = some q ∧ putP H as ps a = some (.tup [q.1, q.2])
  | [], _, _, _, _, j, a, h => by simp at h
  | _ :: _, [], _, h, _, _, _, _ => by simp at h
  | b :: as, p :: ps, H, h, nd, j, a, hj => by
    have nd' := List.nodup_cons.mp nd
    cases j with
    | zero =>
      have e : b = a := by simpa using hj
      subst e
      refine ⟨p, rfl, ?_⟩
      unfold putP
      rw [putP_off as ps _ nd'.1, upd_same]
    | succ j =>
      obtain ⟨q, h1, h2⟩ := putP_at as ps (upd H b (.tup [p.1, p.2])) (by simpa using h) nd'.2 j a (by simpa using hj)
      refine ⟨q, by simpa using h1, ?_⟩
      unfold putP
      exact h2
theorem refs_vals : ∀ as : List Addr, Vals (as.map V.ref) (as.map Value.ref)
  | [] => .nil
  | _ :: as => .cons rfl (refs_vals as)
/-- the list and its pairs are tracked -/
theorem pairs_laid {X : Cx} {pins : List (Addr × Obj)} {σ : L2.St} {H : Hp} {s : Shared} {g : Heap} {tk : Nat} {ps : List (V × V)} {acc : Array Value} {c : Nat} {as : List Addr} {L : Addr} (I : Inv X pins σ H s) (hz : ps.length ≤ sizeLine) (kp : ∀ b o, s.heap.get? b = some o → g.get? b = some o) (hL : s.heap.objs.size ≤ L)
    (hS : g.get? L = some { cls := .type "list", dict := none, data := .seq acc c, slots := #[] }) (hl : as.length = ps.length) (rise : as.Pairwise (· < ·)) (ab : ∀ a ∈ as, L < a) (hacc : acc.toList = as.map Value.ref)
    (pr : ∀ (j : Nat) (a : Addr) (q : V × V), as[j]? = some a → ps[j]? = some q → ∃ x y, RelV q.1 x ∧ RelV q.2 y ∧ IsTupOf2 g a x y) :
    ∃ H' : Hp, Same H H' ∧ H L = none ∧ H' L = some (.lst (as.map V.ref)) ∧ (∀ (j : Nat) (a : Addr), as[j]? = some a → ∃ q, ps[j]? = some q ∧ H' a = some (.tup [q.1, q.2])) ∧ Inv X pins σ H' { s with heap := g, toks := tk } := by
  have nL : L ∉ as := fun q => Nat.lt_irrefl _ (ab _ q)
  have nd : as.Nodup := List.Pairwise.imp (fun {a b} (h : a < b) => Nat.ne_of_lt h) rise
  have nw : ∀ t ∈ as, H t = none := fun t ht => I.hok.fresh (Nat.le_trans hL (Nat.le_of_lt (ab t ht)))
  have nwL : H L = none := I.hok.fresh hL
  have at' := putP_at as ps (upd H L (.lst (as.map V.ref))) hl nd
  have off : ∀ b, b ∉ as → b ≠ L → putP (upd H L (.lst (as.map V.ref))) as ps b = H b := fun b h1 h2 => by rw [putP_off as ps _ h1, upd_ne h2]
  have low : ∀ b o, s.heap.get? b = some o → b ∉ as ∧ b ≠ L := fun b o e => ⟨fun q => absurd (Nat.lt_trans (Nat.lt_of_lt_of_le (Heap.lt_size e) hL) (ab b q)) (Nat.lt_irrefl _), fun q => absurd (Nat.lt_of_lt_of_le (Heap.lt_size e) hL) (by rw [q]; exact Nat.lt_irrefl _)⟩
  have kH : ∀ b u, H b = some u → putP (upd H L (.lst (as.map V.ref))) as ps b = some u := fun b u e => by
    rw [off b (fun q => by rw [nw b q] at e; cases e) (fun q => by rw [q, nwL] at e; cases e)]
    exact e
  have eL : putP (upd H L (.lst (as.map V.ref))) as ps L = some (.lst (as.map V.ref)) := by rw [putP_off as ps _ nL, upd_same]
  refine ⟨_, kH, nwL, eL, at', ?_⟩
  refine I.call' (ch := []) rfl ⟨fun b o q _ _ _ => kp b o q, fun b o q _ _ _ => ⟨o.slots, kp b o q⟩, fun b o q n _ => ?_, fun b o q _ => ⟨o, kp b o q⟩, fun b xs q => kH b _ q, fun b o u q => kH b _ q, fun b qs q => ⟨#[], by rw [kH b _ q]; simp⟩⟩ (fun b u q => ?_) I.bare fun b q => by simp at q
  · obtain ⟨z1, z2⟩ := low b o q
    rw [off b z1 z2]
    exact n
  · by_cases hb : b ∈ as
    · obtain ⟨j, hj⟩ := List.mem_iff_getElem?.mp hb
      obtain ⟨pq, e1, e2⟩ := at' j b hj
      rw [e2] at q
      cases q
      obtain ⟨x, y, r1, r2, tp⟩ := pr j b pq hj e1
      exact ⟨by show 2 ≤ 2 ^ 24; decide, [x, y], .cons r1 (.cons r2 .nil), ⟨_, tp, rfl, _, rfl⟩⟩
    · by_cases hb2 : b = L
      · rw [hb2] at q ⊢
        rw [eL] at q
        cases q
        refine ⟨by rw [List.length_map]; omega, acc.toList, c, by rw [hacc]; exact refs_vals as, ?_⟩
        rw [Array.toArray_toList]
        exact hS
      · rw [off b hb hb2] at q
        exact (I.hok b u q).stay (fun d v _ y => kp d v y) (fun d y => kH d _ y) fun d xs y => kH d _ y
end Wk
namespace Wk
open PySem PySem.Spec PyProof.Rows L2
section
variable {X : Cx} {e a b c elt kx vx o : Expr} {es rest : List Expr} {σ : L2.St} {H : Hp} {Q : VK} {pos p0 apos : Pos} {N G G' : List Str} {Vn : List (Nat × Str)} {sc scope : Scope}
/-- list(zip(a, b)) -/
theorem e_listZ (c d : Side) {g g2 : Nat} {p p2 pos2 : Pos} (hm : X.mg "list" = none) (hmz : X.mg "zip" = none)
    (q : wE X a σ H fun v H1 => wE X b σ H1 fun u H2 => ∃ va vb xs ys, v = .ref va ∧ u = .ref vb ∧ c.sq X.K H2 va xs ∧ d.sq X.K H2 vb ys ∧ min xs.length ys.length ≤ 200000 ∧
      ∀ (L : Addr) (as : List Addr) (H3 : Hp), Same H2 H3 → H2 L = none → H3 L = some (.lst (as.map V.ref)) → as.length = min xs.length ys.length → (∀ (j : Nat) (t : Addr), as[j]? = some t → ∃ x y, xs[j]? = some x ∧ ys[j]? = some y ∧ H3 t = some (.tup [x, y])) → Q (.ref L) H3)
    (I : In X N G sc := by assumption) (hc : X.calm = true := by rfl) (hG : At G g ("list" : Str) := by repeat (first | with_reducible apply At.z | with_reducible apply At.s)) (hGz : At G g2 ("zip" : Str) := by repeat (first | with_reducible apply At.z | with_reducible apply At.s))
    (hs : starEach [.Call (.Name "zip" p2) [a, b] [] pos2] X.env = (false, eval (.Call (.Name "zip" p2) [a, b] [] pos2) X.env) :: starEach [] X.env := by rfl) (hs0 : starEach [a, b] X.env = (false, eval a X.env) :: starEach [b] X.env := by rfl) (hpl : (backTo pos2 (starEach [b] X.env)).any (·.1) = false := by rfl)
    (hs1 : starEach (b :: []) X.env = (false, eval b X.env) :: starEach [] X.env := by rfl) :
    wE X (.Call (.Name "list" p) [.Call (.Name "zip" p2) [a, b] [] pos2] [] pos) σ H Q := by
  unfold wE
  intro pins s I0
  refine wpAny_Call_Name_kw (ld_blt I0 (I.g hG) hm b_list ?_ (I.gn hG) (I.gd hG))
  refine PyProof.Rows.callWith_type1 ?_ hs rfl
  rw [hs]
  show wpAny _ _ (spliced ((false, eval (.Call (.Name "zip" p2) [a, b] [] pos2) X.env) :: backTo pos (starEach [] X.env))) _ _ s
  refine Calls.spliced_cons ?_
  refine Call_ (ld_blt I0 (I.g hGz) hmz PyProof.Rows.boot_zip (PyProof.Rows.callWith_type1 (thn ((pa_cons pe (pa_cons pe pa_nil hs1) hs0).run pos2 pins s σ H (fun vs H2 => ∃ va vb xs ys, vs = [.ref va, .ref vb] ∧ c.sq X.K H2 va xs ∧ d.sq X.K H2 vb ys ∧ min xs.length ys.length ≤ 200000 ∧
      ∀ (L : Addr) (as : List Addr) (H3 : Hp), Same H2 H3 → H2 L = none → H3 L = some (.lst (as.map V.ref)) → as.length = min xs.length ys.length → (∀ (j : Nat) (t : Addr), as[j]? = some t → ∃ x y, xs[j]? = some x ∧ ys[j]? = some y ∧ H3 t = some (.tup [x, y])) → Q (.ref L) H3) I0 (e_mono q fun v H1 q1 => e_mono q1 fun u H2 ⟨va, vb, xs, ys, e1, e2, z⟩ => ⟨va, vb, xs, ys, by rw [e1, e2], z⟩)) fun us s1 ⟨vs, H1, I1, r1, va, vb, xs, ys, ev, sx, sy, hz, k⟩ => ?_) hs0 hpl))
  subst ev
  obtain ⟨u, v, rfl, ru, rv⟩ : ∃ u v, us = [u, v] ∧ RelV (.ref va) u ∧ RelV (.ref vb) v := by
    cases r1 with
    | cons r t => cases t with
      | cons r' t => cases t; exact ⟨_, _, rfl, r, r'⟩
  cases ru
  cases rv
  obtain ⟨ws, rw1, cx⟩ := c.own I1 sx
  obtain ⟨zs, rw2, cy⟩ := d.own I1 sy
  have la := c.lt cx
  have lb := d.lt cy
  have hh : X.A.handled = none := I1.ok.hd hc
  have lw := rw1.length
  have lz := rw2.length
  generalize hN : s1.heap.objs.size = M at la lb
  refine zip_begins2 (c.begins va ws.toArray) (d.begins vb zs.toArray) cx cy fun h1 g1 g2 g3 g4 g5 gsz kp => ?_
  rw [hN] at g1 g2 g3 g4 g5 gsz ⊢
  refine Calls.spliced_nil ?_
  have S : ZipSep2 (M + 4) (M + 2) (M + 3) M (M + 1) [M, va] [M + 1, vb] := zip_sep2 (fun e he => by rw [List.mem_singleton.mp he]; exact la) (fun e he => by rw [List.mem_singleton.mp he]; exact lb)
  have cu : ∀ (cc : Side) (x : Addr) (us : Array Value), cc.con s1.heap x us → cc.con h1 x us := fun cc x us hx => by
    cases cc with
    | l => exact hx.at fun o q => kp _ o q
    | t => exact hx.at fun o q => kp _ o q
  refine list_zip (s := { s1 with heap := h1 }) S (c.draws (A := X.A.in1.in1.in1) hh M va (Nat.ne_of_lt la) ws.toArray) (d.draws (A := X.A.in1.in1.in1) hh (M + 1) vb (Nat.ne_of_lt (Nat.lt_succ_of_lt lb)) zs.toArray) g1 g2 ⟨_, _, g3⟩ ⟨c.start g4, cu c _ _ cx⟩ ⟨d.start g5, cu d _ _ cy⟩ (fun e he => ?_) (fun e he => ?_) ?_ fun g tk acc cc as kg hL hl hG hacc => ?_
  · show e < h1.objs.size
    rw [gsz]
    simp only [List.mem_cons, List.not_mem_nil, or_false] at he
    rcases he with rfl | rfl
    · exact Nat.lt_add_of_pos_right (by decide)
    · exact Nat.lt_of_lt_of_le la (Nat.le_add_right _ _)
  · show e < h1.objs.size
    rw [gsz]
    simp only [List.mem_cons, List.not_mem_nil, or_false] at he
    rcases he with rfl | rfl
    · exact Nat.add_lt_add_left (by decide) M
    · exact Nat.lt_of_lt_of_le lb (Nat.le_add_right _ _)
  · rw [List.size_toArray, List.size_toArray, ← lw, ← lz]
    show _ ≤ 2 ^ 24
    omega
  · dsimp only at kg hL hG
    have lo : ∀ b o, s1.heap.get? b = some o → b < M := fun b o q => hN ▸ Heap.lt_size q
    have lm : min xs.length ys.length = (xs.zip ys).length := by rw [List.length_zip]
    have hl2 : as.length = (xs.zip ys).length := by rw [hl, List.size_toArray, List.size_toArray, ← lw, ← lz, lm]
    obtain ⟨H', e1, e2, e3, e4, J⟩ := pairs_laid (tk := tk) (ps := xs.zip ys) (L := h1.objs.size) I1 (by rw [← lm]; show _ ≤ 2 ^ 24; omega) (fun b o q => kg b o (Nat.ne_of_lt (Nat.lt_of_lt_of_le (lo b o q) (Nat.le_add_right M 4))) (Nat.ne_of_lt (Nat.lt_of_lt_of_le (lo b o q) (Nat.le_add_right M 3))) (Nat.ne_of_lt (lo b o q)) (Nat.ne_of_lt (Nat.lt_of_lt_of_le (lo b o q) (Nat.le_add_right M 1))) (kp b o q)) (by omega) hL hl2 hG.rise hG.above hacc
      (fun j t pq hj hq => by
        obtain ⟨x', y', p1, p2, p3⟩ := hG.pr j t hj
        obtain ⟨q1, q2⟩ := List.getElem?_zip_eq_some.mp hq
        obtain ⟨w1, f1, f2⟩ := rw1.get q1
        obtain ⟨w2, f3, f4⟩ := rw2.get q2
        rw [List.getElem?_toArray, f1] at p1
        rw [List.getElem?_toArray, f3] at p2
        cases p1
        cases p2
        exact ⟨_, _, f2, f4, p3⟩)
    refine ⟨.ref h1.objs.size, H', J, rfl, k _ as H' e1 e2 e3 (by rw [hl2, lm]) fun j t hj => ?_⟩
    obtain ⟨pq, q1, q2⟩ := e4 j t hj
    obtain ⟨q3, q4⟩ := List.getElem?_zip_eq_some.mp q1
    exact ⟨pq.1, pq.2, q3, q4, q2⟩
/-- for x, y in reversed(xs), xs a list of pairs -/
theorem s_forRv2 {nx : L2.St → Hp → Prop} {rt : VK} {bk ct : L2.St → Hp → Prop} {g : Nat} {x y : Str} {i j : Nat} {body : List Stmt} {px py pt p cp pos : Pos} {kk : Nat} (hm : X.mg "reversed" = none)
    (q : wE X a σ H fun v H1 => ∃ ad xs, v = .ref ad ∧ SqL X.K H1 ad xs ∧ ∃ Pv : Nat → L2.St → Hp → Prop, Pv 0 σ H1 ∧ (∀ k σ H, k ≤ xs.length → Pv k σ H → SqL X.K H ad xs) ∧
      (∀ k y σ H, xs.reverse[k]? = some y → Pv k σ H → ∃ t u1 u2, y = .ref t ∧ SqT X.K H t [u1, u2] ∧ wL X body ⟨Pv (k + 1), rt, nx, Pv (k + 1)⟩ ((σ.set i (some u1)).set j (some u2)) H) ∧ ∀ σ H, Pv xs.length σ H → nx σ H)
    (I : In X N G sc := by assumption) (hc : X.calm = true := by rfl) (hA : At N i x := by repeat (first | with_reducible apply At.z | with_reducible apply At.s)) (hB : At N j y := by repeat (first | with_reducible apply At.z | with_reducible apply At.s)) (hG : At G g ("reversed" : Str) := by repeat (first | with_reducible apply At.z | with_reducible apply At.s))
    (hs : starEach [a] X.env = (false, eval a X.env) :: starEach [] X.env := by rfl) (hs2 : ∀ z, foldedSetIterable (.Call (.Name "reversed" p) [a] [] cp) X.env z = pure z := by intro _; rfl) :
    wS X (.For (.Tuple [.Name x px, .Name y py] kk pt) (.Call (.Name "reversed" p) [a] [] cp) body [] pos) ⟨nx, rt, bk, ct⟩ σ H := by
  refine s_of (ps_for I.never hc (RT.pi_revA (I.g hG) hm pe hs) (pg_tup hc (pgs_cons (pg_name I.nd (I.hi hA) (I.loc hA) I.f) (pgs_cons (pg_name I.nd (I.hi hB) (I.loc hB) I.f) pgs_nil))) pl hs2) (e_mono q fun v H1 q1 => ?_)
  obtain ⟨ad, xs, rfl, hl, Pv, h0, hk, hb, hd⟩ := q1
  refine ⟨ad, xs, rfl, .inl ⟨hl, fun k m σ H => m = xs.length - k ∧ k ≤ xs.length ∧ Pv k σ H, ⟨xs.length, by simp, Nat.zero_le _, h0⟩, ?_⟩⟩
  rintro k m σ H ⟨rfl, hi, p⟩
  have q := hk k σ H hi p
  by_cases hlt : k < xs.length
  · refine .inr ⟨⟨hlt, xs, xs[xs.length - 1 - k]'(by omega), q, by simp⟩, Pv (k + 1), fun σ' H' p' => ⟨xs.length - (k + 1), by omega, rfl, hlt, p'⟩, fun x H' y => ?_⟩
    obtain ⟨e, y⟩ := y
    subst e
    obtain ⟨t, u1, u2, rfl, hq, z⟩ := hb k x σ _ (by rw [List.getElem?_reverse hlt]; exact y xs q) p
    exact ⟨t, [u1, u2], rfl, hq, rfl, u1, [u2], rfl, u2, [], rfl, rfl, z⟩
  · have e : k = xs.length := by omega
    subst e
    exact .inl ⟨Nat.le_refl _, hd σ H p⟩
/-- what the turns of a dict's comprehension over a dict ask, with a test or without -/
def DTurn (X : Cx) (Vn : List (Nat × Str)) (G' : List Str) (kx vx : Expr) (scope : Scope) (i : Nat) (D : Addr) (σ : L2.St) (x : V) (H2 : Hp) (nxt : Hp → Prop) : Prop := ∀ s0 H0 C cl fp, InB (Bk X s0 H0 scope C cl fp) Vn G' →
  wE (Bk X s0 H0 scope C cl fp) kx ((wipe σ [i]).set i (some x)) H2 fun y H3 => ∀ s0 H0 C cl fp, InB (Bk X s0 H0 scope C cl fp) Vn G' →
    wE (Bk X s0 H0 scope C cl fp) vx ((wipe σ [i]).set i (some x)) H3 fun z H4 => ∃ kvs ky, y = kV ky ∧ H4 D = some (.dK kvs) ∧ kvs.length < sizeLine ∧ nxt (upd H4 D (.dK (putK kvs ky z)))
def DcD (X : Cx) (Vn : List (Nat × Str)) (G' : List Str) (kx vx : Expr) (scope : Scope) (i : Nat) (d : Addr) (o : Obj) (kvs : List (Key × V)) (D : Addr) (σ : L2.St) (H1 : Hp) (Qd : Hp → Prop) : Prop := ∃ Pv : Nat → Hp → Prop, Pv 0 (upd H1 D (.dK [])) ∧ (∀ k H2, k ≤ kvs.length → Pv k H2 → H2 d = some (.frz o (.dK kvs))) ∧
  (∀ k y v H2, kvs[k]? = some (y, v) → Pv k H2 → DTurn X Vn G' kx vx scope i D σ (kV y) H2 (Pv (k + 1))) ∧ ∀ H2, Pv kvs.length H2 → Qd H2
def DcDf (X : Cx) (Vn : List (Nat × Str)) (G' : List Str) (kx vx c : Expr) (scope : Scope) (i : Nat) (d : Addr) (o : Obj) (kvs : List (Key × V)) (D : Addr) (σ : L2.St) (H1 : Hp) (Qd : Hp → Prop) : Prop := ∃ Pv : Nat → Hp → Prop, Pv 0 (upd H1 D (.dK [])) ∧ (∀ k H2, k ≤ kvs.length → Pv k H2 → H2 d = some (.frz o (.dK kvs))) ∧
  (∀ k y v H2, kvs[k]? = some (y, v) → Pv k H2 → ∀ s0 H0 C cl fp, InB (Bk X s0 H0 scope C cl fp) Vn G' → wT (Bk X s0 H0 scope C cl fp) c ((wipe σ [i]).set i (some (kV y))) H2 fun t H3 => if t = true then DTurn X Vn G' kx vx scope i D σ (kV y) H3 (Pv (k + 1)) else Pv (k + 1) H3) ∧ ∀ H2, Pv kvs.length H2 → Qd H2
theorem dturn_of {i : Nat} {D : Addr} {x : V} {H2 : Hp} {nxt : Hp → Prop} (q : DTurn X Vn G' kx vx scope i D σ x H2 nxt) : wBk X Vn G' kx scope ((wipe σ [i]).set i (some x)) H2 fun y H4 => wBk X Vn G' vx scope ((wipe σ [i]).set i (some x)) H4 fun z H5 => ∃ kvs k, y = kV k ∧ H5 D = some (.dK kvs) ∧ kvs.length < sizeLine ∧ nxt (upd H5 D (.dK (putK kvs k z))) := by
  unfold wBk
  exact q
theorem dcD_of {i : Nat} {d : Addr} {ob : Obj} {kvs : List (Key × V)} {D : Addr} {H1 : Hp} {Qd : Hp → Prop} (q : DcD X Vn G' kx vx scope i d ob kvs D σ H1 Qd) : ∃ W : Nat → Nat → Hp → Prop, (∃ m, W 0 m (upd H1 D (.dK []))) ∧ ∀ k m H, W k m H →
    ((Itk d ob kvs).stop k H ∧ Qd H) ∨ ((Itk d ob kvs).go k H ∧ ∃ Nx : Hp → Prop, (∀ H', Nx H' → ∃ m', m' < m ∧ W (k + 1) m' H') ∧ ∀ x H', (Itk d ob kvs).yld k H x H' → gName i x (wipe σ [i]) H' fun σ2 H2 => wipe σ2 [i] = wipe σ [i] ∧ tYes σ2 H2 fun b H3 =>
      if b = true then wBk X Vn G' kx scope σ2 H3 fun y H4 => wBk X Vn G' vx scope σ2 H4 fun z H5 => ∃ kvs k, y = kV k ∧ H5 D = some (.dK kvs) ∧ kvs.length < sizeLine ∧ Nx (upd H5 D (.dK (putK kvs k z))) else Nx H3) := by
  obtain ⟨Pv, h0, hl, hs, hd⟩ := q
  refine ⟨fun k m H => m = kvs.length - k ∧ k ≤ kvs.length ∧ Pv k H, ⟨kvs.length, rfl, Nat.zero_le _, h0⟩, ?_⟩
  rintro k m H ⟨rfl, hk, p⟩
  have fz := hl k H hk p
  by_cases lt : k < kvs.length
  · refine .inr ⟨⟨fz, lt⟩, Pv (k + 1), fun H' p' => ⟨kvs.length - (k + 1), by omega, rfl, lt, p'⟩, fun x H' y => ?_⟩
    obtain ⟨rfl, ky, v, hkv, rfl⟩ := y
    refine ⟨wipe_set σ i _, ?_⟩
    unfold tYes
    exact iteT (dturn_of (hs k ky v _ hkv p))
  · have ek : k = kvs.length := by omega
    subst ek
    exact .inl ⟨⟨fz, Nat.le_refl _⟩, hd H p⟩
theorem dcDf_of {i : Nat} {d : Addr} {ob : Obj} {kvs : List (Key × V)} {D : Addr} {H1 : Hp} {Qd : Hp → Prop} (q : DcDf X Vn G' kx vx c scope i d ob kvs D σ H1 Qd) : ∃ W : Nat → Nat → Hp → Prop, (∃ m, W 0 m (upd H1 D (.dK []))) ∧ ∀ k m H, W k m H →
    ((Itk d ob kvs).stop k H ∧ Qd H) ∨ ((Itk d ob kvs).go k H ∧ ∃ Nx : Hp → Prop, (∀ H', Nx H' → ∃ m', m' < m ∧ W (k + 1) m' H') ∧ ∀ x H', (Itk d ob kvs).yld k H x H' → gName i x (wipe σ [i]) H' fun σ2 H2 => wipe σ2 [i] = wipe σ [i] ∧ wBkT X Vn G' c scope σ2 H2 fun b H3 =>
      if b = true then wBk X Vn G' kx scope σ2 H3 fun y H4 => wBk X Vn G' vx scope σ2 H4 fun z H5 => ∃ kvs k, y = kV k ∧ H5 D = some (.dK kvs) ∧ kvs.length < sizeLine ∧ Nx (upd H5 D (.dK (putK kvs k z))) else Nx H3) := by
  obtain ⟨Pv, h0, hl, hs, hd⟩ := q
  refine ⟨fun k m H => m = kvs.length - k ∧ k ≤ kvs.length ∧ Pv k H, ⟨kvs.length, rfl, Nat.zero_le _, h0⟩, ?_⟩
  rintro k m H ⟨rfl, hk, p⟩
  have fz := hl k H hk p
  by_cases lt : k < kvs.length
  · refine .inr ⟨⟨fz, lt⟩, Pv (k + 1), fun H' p' => ⟨kvs.length - (k + 1), by omega, rfl, lt, p'⟩, fun x H' y => ?_⟩
    obtain ⟨rfl, ky, v, hkv, rfl⟩ := y
    refine ⟨wipe_set σ i _, ?_⟩
    unfold wBkT
    intro s0 H0 C cl fp IB
    refine t_mono (hs k ky v _ hkv p s0 H0 C cl fp IB) fun t H3 z => ?_
    cases t with
    | true => exact iteT (dturn_of z)
    | false => exact z
  · have ek : k = kvs.length := by omega
    subst ek
    exact .inl ⟨⟨fz, Nat.le_refl _⟩, hd H p⟩
/-- {kx: vx for x in d}, d a dict that stands at ad -/
theorem e_dcD {i : Nat} {x : Str} {px : Pos} {ad : Addr} {kvs : List (Key × V)} (B : BkOk X.N Vn G' i x sc scope) (hd : H ad = some (.dK kvs))
    (q : ∀ o, wE X a σ (upd H ad (.frz o (.dK kvs))) fun v H1 => v = .ref ad ∧ H1 ad = some (.frz o (.dK kvs)) ∧ ∀ D, H1 D = none → DcD X Vn G' kx vx scope i ad o kvs D σ H1 fun H2 => H2 ad = some (.frz o (.dK kvs)) ∧ Q (.ref D) (upd H2 ad (.dK kvs)))
    (I : In X N G sc := by assumption) (hc : X.calm = true := by rfl) (hs2 : ∀ z, foldedSetIterable a X.env z = pure z := by intro _; rfl) :
    wE X (.DictComp kx vx [⟨.Name x px, a, [], 0⟩] scope pos) σ H Q := by
  refine e_of (pe_lock (pe_dc (own := [(x, i)]) (g := gName i) (tt := tYes) (tk := wBk X Vn G' kx scope) (tv := wBk X Vn G' vx scope) hc I.nd (pi_keys pe) (B.ok I) (fun s H C cl fp => B.pg I s H C cl fp) (fun _ _ _ _ _ => pts_nil) (fun s H C cl fp => pe_bk (B.inB I s H C cl fp)) (fun s H C cl fp => pe_bk (B.inB I s H C cl fp)) hs2)) ?_
  refine ⟨ad, .dK kvs, hd, trivial, fun o => e_mono (q o) fun v H1 q1 => ?_⟩
  obtain ⟨rfl, h1, q2⟩ := q1
  exact ⟨ad, o, rfl, .inl ⟨kvs, h1, fun D hD => dcD_of (q2 D hD)⟩⟩
theorem s_dcD {nx : L2.St → Hp → Prop} {rt : VK} {bk ct : L2.St → Hp → Prop} {i j : Nat} {x y : Str} {px py spos : Pos} {ad : Addr} {kvs : List (Key × V)} (B : BkOk X.N Vn G' i x sc scope) (hd : H ad = some (.dK kvs))
    (q : ∀ o, wE X a σ (upd H ad (.frz o (.dK kvs))) fun v H1 => v = .ref ad ∧ H1 ad = some (.frz o (.dK kvs)) ∧ ∀ D, H1 D = none → DcD X Vn G' kx vx scope i ad o kvs D σ H1 fun H2 => H2 ad = some (.frz o (.dK kvs)) ∧ nx (σ.set j (some (.ref D))) (upd H2 ad (.dK kvs)))
    (I : In X N G sc := by assumption) (hc : X.calm = true := by rfl) (hA : At N j y := by repeat (first | with_reducible apply At.z | with_reducible apply At.s))
    (hk : X.env.scope.kind = .function := by rfl) (hy : X.env.scope.names.lookup y = some .local := by rfl) (hl : (py.line == pos.line) = true := by rfl) (ha : (scope.names.any fun (n, k) => n == y && (k == .local || k == .cell)) = false := by decide +kernel) (hs2 : ∀ z, foldedSetIterable a X.env z = pure z := by intro _; rfl) :
    wS X (.Assign [.Name y py] (.DictComp kx vx [⟨.Name x px, a, [], 0⟩] scope pos) spos) ⟨nx, rt, bk, ct⟩ σ H := by
  refine s_of (ps_lock (ps_setDc (own := [(x, i)]) (g := gName i) (tt := tYes) (tk := wBk X Vn G' kx scope) (tv := wBk X Vn G' vx scope) hc I.nd (I.hi hA) hy (sw_trueD hk hy hl ha) (pi_keys pe) (B.ok I) (fun s H C cl fp => B.pg I s H C cl fp) (fun _ _ _ _ _ => pts_nil) (fun s H C cl fp => pe_bk (B.inB I s H C cl fp)) (fun s H C cl fp => pe_bk (B.inB I s H C cl fp)) hs2)) ?_
  refine ⟨ad, .dK kvs, hd, trivial, fun o => e_mono (q o) fun v H1 q1 => ?_⟩
  obtain ⟨rfl, h1, q2⟩ := q1
  exact ⟨ad, o, rfl, .inl ⟨kvs, h1, fun D hD => dcD_of (q2 D hD)⟩⟩
theorem s_dcDf {nx : L2.St → Hp → Prop} {rt : VK} {bk ct : L2.St → Hp → Prop} {i j : Nat} {x y : Str} {px py spos : Pos} {ad : Addr} {kvs : List (Key × V)} (B : BkOk X.N Vn G' i x sc scope) (hd : H ad = some (.dK kvs))
    (q : ∀ o, wE X a σ (upd H ad (.frz o (.dK kvs))) fun v H1 => v = .ref ad ∧ H1 ad = some (.frz o (.dK kvs)) ∧ ∀ D, H1 D = none → DcDf X Vn G' kx vx c scope i ad o kvs D σ H1 fun H2 => H2 ad = some (.frz o (.dK kvs)) ∧ nx (σ.set j (some (.ref D))) (upd H2 ad (.dK kvs)))
    (I : In X N G sc := by assumption) (hc : X.calm = true := by rfl) (hA : At N j y := by repeat (first | with_reducible apply At.z | with_reducible apply At.s))
    (hk : X.env.scope.kind = .function := by rfl) (hy : X.env.scope.names.lookup y = some .local := by rfl) (hl : (py.line == pos.line) = true := by rfl) (ha : (scope.names.any fun (n, k) => n == y && (k == .local || k == .cell)) = false := by decide +kernel) (hs2 : ∀ z, foldedSetIterable a X.env z = pure z := by intro _; rfl) :
    wS X (.Assign [.Name y py] (.DictComp kx vx [⟨.Name x px, a, [c], 0⟩] scope pos) spos) ⟨nx, rt, bk, ct⟩ σ H := by
  refine s_of (ps_lock (ps_setDc (own := [(x, i)]) (g := gName i) (tt := wBkT X Vn G' c scope) (tk := wBk X Vn G' kx scope) (tv := wBk X Vn G' vx scope) hc I.nd (I.hi hA) hy (sw_trueD hk hy hl ha) (pi_keys pe) (B.ok I) (fun s H C cl fp => B.pg I s H C cl fp) (fun s H C cl fp => pts_bk (B.inB I s H C cl fp)) (fun s H C cl fp => pe_bk (B.inB I s H C cl fp)) (fun s H C cl fp => pe_bk (B.inB I s H C cl fp)) hs2)) ?_
  refine ⟨ad, .dK kvs, hd, trivial, fun o => e_mono (q o) fun v H1 q1 => ?_⟩
  obtain ⟨rfl, h1, q2⟩ := q1
  exact ⟨ad, o, rfl, .inl ⟨kvs, h1, fun D hD => dcDf_of (q2 D hD)⟩⟩
/-- w, x, y, z = a tuple -/
theorem s_tup4 {nx : L2.St → Hp → Prop} {rt : VK} {bk ct : L2.St → Hp → Prop} {i1 i2 i3 i4 : Nat} {x1 x2 x3 x4 : Str} {k : Nat} {p1 p2 p3 p4 pt : Pos} (q : wE X e σ H fun v H1 => ∃ a u1 u2 u3 u4, v = .ref a ∧ SqT X.K H1 a [u1, u2, u3, u4] ∧ nx ((((σ.set i1 (some u1)).set i2 (some u2)).set i3 (some u3)).set i4 (some u4)) H1)
    (I : In X N G sc := by assumption) (hc : X.calm = true := by rfl) (h1 : At N i1 x1 := by repeat (first | with_reducible apply At.z | with_reducible apply At.s)) (h2 : At N i2 x2 := by repeat (first | with_reducible apply At.z | with_reducible apply At.s)) (h3 : At N i3 x3 := by repeat (first | with_reducible apply At.z | with_reducible apply At.s)) (h4 : At N i4 x4 := by repeat (first | with_reducible apply At.z | with_reducible apply At.s))
    (hs : swapsWithSole [.Tuple [.Name x1 p1, .Name x2 p2, .Name x3 p3, .Name x4 p4] k pt] e pos.line X.env = pure false := by rfl) (hw : swappedStores [.Tuple [.Name x1 p1, .Name x2 p2, .Name x3 p3, .Name x4 p4] k pt] e X.env = pure none := by rfl) (hp : (assignEach [.Tuple [.Name x1 p1, .Name x2 p2, .Name x3 p3, .Name x4 p4] k pt] X.env).map (·.2) = [assign (.Tuple [.Name x1 p1, .Name x2 p2, .Name x3 p3, .Name x4 p4] k pt) X.env] := by rfl) :
    wS X (.Assign [.Tuple [.Name x1 p1, .Name x2 p2, .Name x3 p3, .Name x4 p4] k pt] e pos) ⟨nx, rt, bk, ct⟩ σ H := by
  refine s_of (ps_asg pe (pg_tup hc (pgs_cons (pg_name I.nd (I.hi h1) (I.loc h1) I.f) (pgs_cons (pg_name I.nd (I.hi h2) (I.loc h2) I.f) (pgs_cons (pg_name I.nd (I.hi h3) (I.loc h3) I.f) (pgs_cons (pg_name I.nd (I.hi h4) (I.loc h4) I.f) pgs_nil))))) hs hw hp) (e_mono q fun v H1 q1 => ?_)
  obtain ⟨ad, u1, u2, u3, u4, ev, hq, q2⟩ := q1
  exact ⟨ad, [u1, u2, u3, u4], ev, hq, rfl, u1, [u2, u3, u4], rfl, u2, [u3, u4], rfl, u3, [u4], rfl, u4, [], rfl, rfl, q2⟩
theorem op_inDt (hu : X.A.units + 1 < cLine) : OpR X (compareOp .In) (fun x y H Q => ∃ a o, y = .ref a ∧ DGet H a x o ∧ Q (.bl o.isSome) H) := by
  intro pins s σ H x y v u Q I rx ry h
  obtain ⟨ad, ov, rfl, g, q⟩ := h
  cases ry
  exact d_in hu I g rx fun s3 I3 => ⟨.bl ov.isSome, H, I3, rfl, q⟩
theorem op_ninDt (hu : X.A.units + 1 < cLine) : OpR X (compareOp .NotIn) (fun x y H Q => ∃ a o, y = .ref a ∧ DGet H a x o ∧ Q (.bl (!o.isSome)) H) := by
  intro pins s σ H x y v u Q I rx ry h
  obtain ⟨ad, ov, rfl, g, q⟩ := h
  cases ry
  exact d_notIn hu I g rx fun s3 I3 => ⟨.bl (!ov.isSome), H, I3, rfl, q⟩
theorem o_inD {n : Nat} {x : V} {d : Addr} {ov : Option V} (hr : Room n X.A) (g : DGet H d x ov) (q : Q (.bl ov.isSome) H) : wK X .In x (.ref d) H Q := k_of (op_inDt (hu_of hr)) ⟨d, ov, rfl, g, q⟩
theorem o_ninD {n : Nat} {x : V} {d : Addr} {ov : Option V} (hr : Room n X.A) (g : DGet H d x ov) (q : Q (.bl (!ov.isSome)) H) : wK X .NotIn x (.ref d) H Q := k_of (op_ninDt (hu_of hr)) ⟨d, ov, rfl, g, q⟩
theorem dg_K {ad : Addr} {kvs : List (Key × V)} {k : Key} (h : H ad = some (.dK kvs)) : DGet H ad (kV k) (valV kvs k) := .inl ⟨kvs, k, .inl h, rfl, rfl⟩
theorem dg_F {ad : Addr} {ob : Obj} {kvs : List (Key × V)} {k : Key} (h : H ad = some (.frz ob (.dK kvs))) : DGet H ad (kV k) (valV kvs k) := .inl ⟨kvs, k, .inr ⟨ob, h⟩, rfl, rfl⟩
theorem c_lenD {d : Addr} {kvs : List (Key × V)} (h : H d = some (.dK kvs)) (q : Q (.int kvs.length) H) : wC X (.builtin "len") [.ref d] H Q := c_of call_lenD ⟨d, kvs, rfl, h, q⟩
theorem c_sumL {l : Addr} {ns : List Int} (hc : X.calm = true) (h : SqL X.K H l (ns.map V.int)) (q : Q (.int ns.sum) H) : wC X (.builtin "sum") [.ref l] H Q := c_of (cr_sum hc) ⟨l, ns, rfl, h, q⟩
theorem ty_dk {K : PySem.W.Frag} {H : Hp} {d : Addr} {kvs : List (Key × V)} (h : H d = some (.dK kvs)) : TyX K H (.ref d) (.type "dict") := .base (.dK h)
theorem e_dclr (q : wE X o σ H fun x H1 => ∃ d kvs, x = .ref d ∧ H1 d = some (.dK kvs) ∧ Q .non (upd H1 d (.dK [])))
    (hbase : attributeBase o "clear" X.env (eval o X.env) = eval o X.env := by rfl) (hline : (apos.endLine == pos.line) = true := by rfl) : wE X (.Call (.Attribute o "clear" apos) [] [] pos) σ H Q := by
  refine e_of (pe_dclear pe hbase hline) (e_mono q fun x H1 z => ?_)
  obtain ⟨d, kvs, rfl, h1, h2⟩ := z
  exact ⟨.inr (.inr (.inl ⟨rfl, .inl ⟨kvs, h1⟩⟩)), d, kvs, rfl, rfl, h1, h2⟩
/-- {k: v}, k a text or a number -/
theorem e_dk1 {k v : Expr} (q : ∀ p, H p = none → wE X k σ (upd H p (.dK [])) fun x H1 => wE X v σ H1 fun y H2 => H2 p = some (.dK []) ∧ ∃ z, x = kV z ∧ Q (.ref p) (upd H2 p (.dK [(z, y)]))) : wE X (.Dict [some k] [v] pos) σ H Q := by
  refine e_of (pe_disp (pps_cons pe pe pps_nil) rfl rfl (by simp) (by simp)) fun p np => e_mono (q p np) fun x H1 q1 => e_mono q1 fun y H2 q2 => ?_
  obtain ⟨h, z, rfl, q3⟩ := q2
  exact ⟨h, [(z, y)], rfl, by simp, q3⟩
end
end Wk
namespace Wk
open PySem PySem.Spec
/-! places in a text -/
def nE : Expr := .Name "" ⟨0, 0, 0, 0⟩
def exA : Expr → Nat → Expr
  | .BoolOp _ es _, n => es.getD n nE
  | .BinOp a _ b _, n => [a, b].getD n nE
  | .UnaryOp _ a _, _ => a
  | .IfExp c a b _, n => [c, a, b].getD n nE
  | .Dict _ vs _, n => vs.getD n nE
  | .ListComp e gs _ _, n => (e :: gs.flatMap fun g => g.iter :: g.ifs).getD n nE
  | .DictComp e f gs _ _, n => (e :: f :: gs.flatMap fun g => g.iter :: g.ifs).getD n nE
  | .Compare a _ bs _, n => (a :: bs).getD n nE
  | .Call f as ks _, n => (f :: as ++ ks.map (·.value)).getD n nE
  | .Attribute a _ _, _ => a
  | .Subscript a b _, n => [a, b].getD n nE
  | .List es _, n => es.getD n nE
  | .Tuple es _ _, n => es.getD n nE
  | e, _ => e
def stE : Stmt → Expr
  | .Return (some e) _ => e
  | .Assign _ e _ => e
  | .For _ e _ _ _ => e
  | .While e _ _ _ => e
  | .If e _ _ _ => e
  | .Expr e _ => e
  | _ => nE
def nS : Stmt := .Pass ⟨0, 0, 0, 0⟩
def stB : Stmt → Nat → Nat → Stmt
  | .For _ _ a b _, j, n => ((if j = 0 then a else b).getD n nS)
  | .While _ a b _, j, n => ((if j = 0 then a else b).getD n nS)
  | .If _ a b _, j, n => ((if j = 0 then a else b).getD n nS)
  | .Try a _ b _ _, j, n => ((if j = 0 then a else b).getD n nS)
  | _, _, _ => nS
def xSc : Expr → Scope
  | .ListComp _ _ sc _ => sc
  | .DictComp _ _ _ sc _ => sc
  | _ => { kind := .function, names := [], isGenerator := false, isCoroutine := false }
end Wk
namespace Wk
open PySem PySem.Spec PyProof.Rows L2
section
variable {X : Cx} {o e : Expr} {σ : L2.St} {H : Hp} {Q : VK} {pos apos : Pos}
/-- t.index(e), t a tuple of texts of the module's top -/
theorem e_tIx (q : wE X o σ H fun x H1 => ∃ p, x = .ref p ∧ (∃ ob, X.K.lookup p = some ob ∧ ob.cls = .type "tuple" ∧ ob.dict = none) ∧ wE X e σ H1 fun y H2 => ∃ (ys : List Str) (z : Str) (j : Nat), y = .str z ∧ SqT X.K H2 p (ys.map V.str) ∧ ys[j]? = some z ∧ (∀ m, m < j → ys[m]? ≠ some z) ∧ Q (.int (j : Int)) H2)
    (hbase : attributeBase o "index" X.env (eval o X.env) = eval o X.env := by rfl)
    (hfew : ((backTo pos (starEach (e :: []) X.env)).all (fun x => !x.1) && (backToKw pos (keywordEach [] X.env)).all (fun x => x.1.isSome)
      && decide ((e :: []).length + ([] : List Keyword).length + (if ([] : List Keyword).isEmpty then 0 else 1) < 30)) = true := by rfl)
    (hline : (apos.endLine == pos.line) = true := by rfl) (hs : starEach (e :: []) X.env = (false, eval e X.env) :: starEach [] X.env := by rfl) (hplain : (backTo pos (starEach [] X.env)).any (·.1) = false := by rfl) :
    wE X (.Call (.Attribute o "index" apos) [e] [] pos) σ H Q := by
  refine e_of (pe_bm PySem.F.plainAttrs_tuple PySem.F.slot_tuple_index PySem.F.type_tuple_index mt_tup_index pe (pa_cons pe pa_nil hs) hbase hfew hline hs hplain) (e_mono q fun x H1 z => ?_)
  obtain ⟨p, rfl, ho, z⟩ := z
  refine ⟨.inr (.inl ⟨rfl, ho⟩), e_mono z fun y H2 z2 => ?_⟩
  obtain ⟨ys, z, j, rfl, h1, h2, h3, h4⟩ := z2
  exact ⟨p, ys, z, j, rfl, rfl, h1, h2, h3, h4⟩
end
end Wk

set_option maxHeartbeats 4000000
/-! My own layer: enumerate, ranges that are held, list(range(..)), all of a list, dicts of lists compared, classes whose making may raise. -/
namespace Wk
open PySem PySem.Spec PyProof.Rows L2
section
variable {X : Cx} {e a b : Expr} {σ : L2.St} {H : Hp} {Q : VK} {N G G' : List Str} {sc scope : Scope} {Vn : List (Nat × Str)} {elt : Expr} {pos : Pos}
/-- for x, y in enumerate(a) -/
theorem s_forE {nx : L2.St → Hp → Prop} {rt : VK} {bk ct : L2.St → Hp → Prop} {g : Nat} {x y : Str} {i j : Nat} {body : List Stmt} {px py pt p cp pos : Pos} {kk : Nat} (hm : X.mg "enumerate" = none)
    (q : wE X a σ H fun v H1 => ∃ va xs, v = .ref va ∧ SqL X.K H1 va xs ∧ ∃ Pv : Nat → L2.St → Hp → Prop, Pv 0 σ H1 ∧ (∀ k σ H, k ≤ xs.length → Pv k σ H → SqL X.K H va xs) ∧
      (∀ k u T σ H, xs[k]? = some u → Pv k σ H → H T = none → wL X body ⟨Pv (k + 1), rt, nx, Pv (k + 1)⟩ ((σ.set i (some (.int (k : Nat)))).set j (some u)) (upd H T (.tup [.int (k : Nat), u]))) ∧ ∀ σ H, Pv xs.length σ H → nx σ H)
    (I : In X N G sc := by assumption) (hc : X.calm = true := by rfl) (hA : At N i x := by repeat (first | with_reducible apply At.z | with_reducible apply At.s)) (hB : At N j y := by repeat (first | with_reducible apply At.z | with_reducible apply At.s))
    (hG : At G g ("enumerate" : Str) := by repeat (first | with_reducible apply At.z | with_reducible apply At.s)) (hs : starEach [a] X.env = [(false, eval a X.env)] := by rfl)
    (hs1 : starEach (a :: []) X.env = (false, eval a X.env) :: starEach [] X.env := by rfl) (hs2 : ∀ z, foldedSetIterable (.Call (.Name "enumerate" p) [a] [] cp) X.env z = pure z := by intro _; rfl) :
    wS X (.For (.Tuple [.Name x px, .Name y py] kk pt) (.Call (.Name "enumerate" p) [a] [] cp) body [] pos) ⟨nx, rt, bk, ct⟩ σ H := by
  refine s_of (ps_for I.never hc (pi_enum (I.g hG) hm (pa_cons pe pa_nil hs1) hs) (pg_tup hc (pgs_cons (pg_name I.nd (I.hi hA) (I.loc hA) I.f) (pgs_cons (pg_name I.nd (I.hi hB) (I.loc hB) I.f) pgs_nil))) pl hs2) (e_mono q fun v H1 q1 => ?_)
  obtain ⟨va, xs, rfl, sx, Pv, h0, hk, hb, hd⟩ := q1
  refine ⟨va, xs, rfl, sx, fun k m σ H => m = xs.length - k ∧ k ≤ xs.length ∧ Pv k σ H, ⟨_, rfl, Nat.zero_le _, h0⟩, ?_⟩
  rintro k m σ H ⟨rfl, hle, pv⟩
  have tx := hk k σ H hle pv
  by_cases lt : k < xs.length
  · refine .inr ⟨⟨xs, xs[k], tx, List.getElem?_eq_getElem lt⟩, Pv (k + 1), fun σ' H' p' => ⟨_, by omega, rfl, lt, p'⟩, fun w H' yl => ?_⟩
    obtain ⟨T, u1, rfl, nT, rfl, y1⟩ := yl
    exact ⟨T, [.int (k : Nat), u1], rfl, SqT.of upd_same, rfl, .int (k : Nat), [u1], rfl, u1, [], rfl, rfl, hb k u1 T σ H (y1 xs tx) pv nT⟩
  · have ek : k = xs.length := by omega
    subst ek
    refine .inl ⟨⟨xs, tx, by omega⟩, hd σ H pv⟩
theorem cr_range1 : CallR X (.type "range") (fun vs H Q => ∃ j, vs = [V.int j] ∧ ∀ p, H p = none → Q (.ref p) (upd H p (.rng 0 j))) := by
  intro pins s σ H vs us Q I r h
  obtain ⟨j, rfl, q⟩ := h
  cases r with
  | cons r1 rr =>
    cases rr
    obtain ⟨t, rfl⟩ := r1
    exact call_range_1 ⟨.ref s.heap.objs.size, upd H s.heap.objs.size (.rng 0 j), I.laid (t' := s.toks + 1 + 1) (fun b o e => Heap.get?_push_of_some _ e) (Nat.le_refl _) ⟨_, _, _, Heap.get?_push_size _ rfl⟩, rfl, q _ (I.hok.fresh (Nat.le_refl _))⟩
theorem c_rng1 {j : Int} (q : ∀ p, H p = none → Q (.ref p) (upd H p (.rng 0 j))) : wC X (.type "range") [.int j] H Q := c_of cr_range1 ⟨j, rfl, q⟩
def iRngV (tl : TE) : TI := fun σ H R => tl σ H fun x H1 => ∃ ad lo hi, x = .ref ad ∧ H1 ad = some (.rng lo hi) ∧ (-(2 ^ 62) ≤ lo ∧ lo < 2 ^ 62 ∧ -(2 ^ 62) ≤ hi ∧ hi < 2 ^ 62) ∧ R (Itr lo (hi - lo).toNat) H1
/-- a range object that stands -/
theorem pi_rngV {tg l : Expr} {tl : TE} (hl : PE X l tl) : PI X tg l (iRngV tl) := by
  refine ⟨fun pins s σ H R I h => thn (hl.run pins s σ H _ I h) fun v s1 ⟨x, H1, I1, r1, ad, lo, hi, ex, had, ⟨b1, b2, b3, b4⟩, q⟩ => ?_⟩
  subst ex
  cases r1
  obtain ⟨t, u, w, ho⟩ := I1.hok ad _ had
  refine wpAny_pyIter_range (show IsRange s1.heap ad lo hi 1 t u w from ho) (small_one b1 b2 b3 b4) ?_
  refine ⟨s1.heap.objs.size, [s1.heap.objs.size], _, _, H1, rfl, I1.kept (t' := s1.toks) fun b o e => Heap.get?_push_of_some _ e, turn_range _ lo (hi - lo).toNat, ?_, fun b hb => ?_, q⟩
  · have z1 : lo + ((0 : Nat) : Int) * 1 = lo := by simp
    have z2 : (((hi - lo).toNat : Nat) : Int) - ((0 : Nat) : Int) = Builtin.Range.rangeSize lo hi 1 := by rw [rangeSize_one]; split <;> omega
    show IsRangeIter _ _ (lo + ((0 : Nat) : Int) * 1) ((((hi - lo).toNat : Nat) : Int) - ((0 : Nat) : Int)) 1
    rw [z1, z2]
    exact Heap.get?_push_size _ rfl
  · obtain rfl : b = s1.heap.objs.size := by simpa using hb
    exact I1.fpOk (Nat.le_refl _) (I1.hok.fresh (Nat.le_refl _))
/-- [elt for x in a], a holds range(n) -/
theorem e_lcRv {i : Nat} {x : Str} {px : Pos} (B : BkOk X.N Vn G' i x sc scope)
    (q : wE X a σ H fun v H1 => ∃ (ad : Addr) (n : Nat), v = .ref ad ∧ H1 ad = some (.rng 0 n) ∧ n < 2 ^ 62 ∧ ∀ D, H1 D = none → LcR X Vn G' elt scope i n D σ H1 fun H2 => Q (.ref D) H2)
    (I : In X N G sc := by assumption) (hc : X.calm = true := by rfl) (hs2 : ∀ z, foldedSetIterable a X.env z = pure z := by intro _; rfl) :
    wE X (.ListComp elt [⟨.Name x px, a, [], 0⟩] scope pos) σ H Q := by
  refine e_of (pe_lc (own := [(x, i)]) (g := gName i) (tt := tYes) (te := wBk X Vn G' elt scope) hc I.nd (pi_rngV pe) (B.ok I) (fun s H C cl fp => B.pg I s H C cl fp) (fun _ _ _ _ _ => pts_nil) (fun s H C cl fp => pe_bk (B.inB I s H C cl fp)) hs2) (e_mono q fun v H1 q1 => ?_)
  obtain ⟨ad, n, rfl, had, hn, q2⟩ := q1
  refine ⟨ad, 0, n, rfl, had, ⟨by omega, by omega, by omega, by omega⟩, ?_⟩
  rw [Int.sub_zero, Int.toNat_natCast]
  exact fun D hD => lcR_of (q2 D hD)
theorem c_allL {l : Addr} {bs : List Bool} (hc : X.calm = true) (h : SqL X.K H l (bs.map V.bl)) (q : Q (.bl (bs.all id)) H) : wC X (.builtin "all") [.ref l] H Q := c_of (cr_all hc) ⟨l, bs, rfl, h, q⟩
theorem b_all : bootBuiltins "all" = some (.builtin "all") := by decide +kernel
theorem b_range : bootBuiltins "range" = some (.type "range") := by decide +kernel
/-- list(range(a)) -/
theorem e_listRg {g g2 : Nat} {p p2 cp cp2 : Pos} (hm : X.mg "list" = none) (hm2 : X.mg "range" = none) (q : wE X a σ H fun v H1 => ∃ n : Nat, v = .int n ∧ n ≤ 100000 ∧ ∀ l, H1 l = none → Q (.ref l) (upd H1 l (.lst ((List.range n).map fun (k : Nat) => V.int (k : Int)))))
    (I : In X N G sc := by assumption) (hc : X.calm = true := by rfl) (hG : At G g ("list" : Str) := by repeat (first | with_reducible apply At.z | with_reducible apply At.s)) (hG2 : At G g2 ("range" : Str) := by repeat (first | with_reducible apply At.z | with_reducible apply At.s))
    (hs : starEach [a] X.env = (false, eval a X.env) :: starEach [] X.env := by rfl) (na : starEach [.Call (.Name "range" p2) [a] [] cp2] X.env = (false, eval (.Call (.Name "range" p2) [a] [] cp2) X.env) :: starEach [] X.env := by rfl) :
    wE X (.Call (.Name "list" p) [.Call (.Name "range" p2) [a] [] cp2] [] cp) σ H Q := by
  refine e_of (pe_listRg hc (I.g hG) hm (prg_1 (I.g hG2) hm2 pe hs) na) (e_mono q fun v H1 q1 => ?_)
  obtain ⟨n, rfl, hn, q2⟩ := q1
  refine ⟨n, rfl, ⟨by omega, by omega, by omega, by omega, by omega⟩, fun l nl => ?_⟩
  have := q2 l nl
  have e : rgV 0 (n : Int) = (List.range n).map fun (k : Nat) => V.int (k : Int) := by
    unfold rgV
    simp
  rw [e]
  exact this
end
/-! ### dicts of lists of numbers -/
abbrev iV (l : List Int) : List V := l.map V.int
theorem dp_ints {K : PySem.W.Frag} {H : Hp} : ∀ l : List Int, DpAll K H (iV l) (l.map PyData.int)
  | [] => .nil
  | i :: l => .cons (.int i) (dp_ints l)
theorem plain_ints : ∀ l : List Int, PyData.plainAll (l.map PyData.int) = true
  | [] => rfl
  | _ :: l => by show (true && PyData.plainAll _) = true; rw [plain_ints l]; rfl
theorem depth_ints : ∀ l : List Int, PyData.depthAll (l.map PyData.int) = 0
  | [] => rfl
  | _ :: l => by show max 0 (PyData.depthAll _) = 0; rw [depth_ints l]; rfl
/-- the same numbers, under each name -/
def rNeDL (K : PySem.W.Frag) : R2 := fun x y H Q => ∃ a b ks ls, x = .ref a ∧ y = .ref b ∧ H a = some (.dK ks) ∧ H b = some (.dK ls) ∧ ks.length = ls.length ∧ (∀ p ∈ ks, ∃ c d l, p.2 = .ref c ∧ valV ls p.1 = some (.ref d) ∧ SqL K H c (iV l) ∧ SqL K H d (iV l)) ∧ Q (.bl false) H
theorem op_neDL {X : Cx} (hu : X.A.units + 64 < cLine) : OpR X (compareOp .NotEq) (rNeDL X.K) := by
  intro pins s σ H x y v u Q I rx ry h
  obtain ⟨a, b, ks, ls, rfl, rfl, ea, eb, hlen, hp, q⟩ := h
  cases rx
  cases ry
  obtain ⟨_, ya, va, ra, da⟩ := (show ObjOk X.prog X.w H s.heap a (.dK ks) from I.hok a _ ea)
  obtain ⟨_, yb, vb, rb, db⟩ := (show ObjOk X.prog X.w H s.heap b (.dK ls) from I.hok b _ eb)
  have hits : ∀ {ks : List (Key × V)} {va : List (Key × Value)}, KV ks va → (∀ p ∈ ks, ∃ c d l, p.2 = .ref c ∧ valV ls p.1 = some (.ref d) ∧ SqL X.K H c (iV l) ∧ SqL X.K H d (iV l)) → PySem.W.KeqHits X.A.in1 s vb va true := by
    intro ks va ra
    unfold KV at ra
    induction ra with
    | nil => intro _; exact .nil
    | @cons p q ps qs h1 t ih =>
      intro hp
      obtain ⟨hk, hv⟩ := h1
      obtain ⟨c, d, l, e1, e2, s1, s2⟩ := hp p List.mem_cons_self
      have rr : RelO (some (V.ref d)) (valueAt vb p.1) := by rw [← e2]; exact rb.val p.1
      obtain ⟨y, hy, ry⟩ := rr.some_of
      obtain ⟨k, v⟩ := q
      have hk' : p.1 = k := hk
      rw [hk'] at hy
      rw [e1] at hv
      have hv' : RelV (.ref c) v := hv
      obtain ⟨as, r1⟩ := Dp.reads I (.list (l.map .int)) _ _ (.lst s1 (dp_ints l)) hv'
      obtain ⟨bs, r2⟩ := Dp.reads I (.list (l.map .int)) _ _ (.lst s2 (dp_ints l)) ry
      have hpl : (PyData.list (l.map .int)).plain = true := plain_ints l
      have hq := PySem.SeqAt.eqAt_plain _ _ X.A.in1 s _ _ as bs r1 r2 hpl hpl (by
        have : (PyData.list (l.map .int)).depth = 1 := by show PyData.depthAll _ + 1 = 1; rw [depth_ints]
        rw [this]
        have : X.A.in1.units ≤ X.A.units + 2 := by simp [Around.in1, Around.units] <;> omega
        omega)
      rw [PySem.SeqAt.eqv_refl_plain _ hpl] at hq
      show PySem.W.KeqHits _ s vb ((k, v) :: qs) (true && true)
      exact .hit hy hq (ih fun p' hm => hp p' (List.mem_cons_of_mem _ hm))
  have hl : va.length = vb.length := by rw [← ra.length, ← rb.length]; exact hlen
  exact PySem.W.keq_ne (knd := mixKind X.prog X.w) (r := true) ya yb da db (by omega) (fun _ => hits ra hp) (fin_bl I q (by simp [hl]))
/-! ### a class whose making may raise -/
section
variable {P : Program} {w : World} {K : PySem.W.Frag} {mg : Str → Option Value} {base : Heap}
theorem me_okN {x qual : Str} {C : Addr} {st : Stmt} {N D G ps : List Str} {k : Nat} {sp : Sp} (T : TopM K C x qual st) (S : FnScope (N ++ D) ps (defScope st)) (O : ScOk N G (defScope st)) (len : ∀ vs H Q E, sp vs H Q E → vs.length = ps.length)
    (hb : ∀ (kV doc pm : Value) (an : Option Addr) (cdv ct : Value) (us : List Value), us.length = ps.length → bindArgs (PySem.W.fnOf x qual (defArgs st) (defBody st) (defScope st) .none kV doc pm an cdv ct) ⟨us, []⟩ = pure (ps.zip us))
    (hbody : ∀ (f : Addr) (cdv : Value) (A : Around) (outer : List Env) (s : Shared) (H : Hp) (vs : List V) (Q : VK) (E : XK), Room k (A.deeper (envOfC qual (defScope st) s.heap.objs.size f cdv)) → sp vs H Q E → In (cxOf (L2N.CX P w) P w K mg base (N ++ D) qual (defScope st) f cdv A outer s H E) N G (defScope st) →
      L2N.Takes (cxOf (L2N.CX P w) P w K mg base (N ++ D) qual (defScope st) f cdv A outer s H E) (fun cls d _ H => E cls d H) →
      wL (cxOf (L2N.CX P w) P w K mg base (N ++ D) qual (defScope st) f cdv A outer s H E) (defBody st) { nx := fun _ H' => Q .non H', rt := Q } (start (N ++ D) vs) H) :
    ∃ (f : Addr) (fd : FuncData), FnOk P w K mg base (L2N.CX P w) (k + 1) f fd ps sp ∧ Binds K fd ps [] ∧ PySem.W.findIn K (.ref C) x = some (some (.ref f)) ∧ PySem.W.isFn K (.ref f) = true ∧ PySem.W.keepIn K (.ref f) = true := by
  obtain ⟨f, fd, F, hf, hi⟩ := T.ex
  obtain ⟨oc, od, kV, doc, pm, an, cdv, ct, osl, rfl, lk, hcd⟩ := id F.ex
  exact ⟨f, _, fn_of lk hcd S len (fun A outer s H vs Q E hr h => ⟨_, pl, hbody f cdv A outer s H vs Q E hr h ⟨O, ⟨D, rfl⟩, S.nd, rfl, rfl, passes_of rfl⟩ (L2N.takes_of rfl rfl rfl rfl)⟩), F.binds hb, hf, hi, F.kp⟩
structure KlN (P : Program) (w : World) (K : PySem.W.Frag) (mg : Str → Option Value) (base : Heap) (k : Nat) (x : Str) (C : Addr) (sp : Sp) : Prop where
  ex : ∃ (f : Addr) (fd : FuncData) (ps : List Str), FnOk P w K mg base (L2N.CX P w) k f fd ps sp ∧ mg x = some (.ref C) ∧ Mk K C f ∧ Binds K fd ps []
theorem cx_weak {outer : List Env} {H : Hp} {s s' : Shared} {E E' : XK} {u : Value} (h : L2N.CX P w outer H s E u s') (m : ∀ cls d H, E cls d H → E' cls d H) : L2N.CX P w outer H s E' u s' := by
  obtain ⟨a, B, H', cls, d, h1, h2, h3, h4, h5, h6, h7, h8⟩ := h
  exact ⟨a, B, H', cls, d, h1, h2, h3, h4, h5, h6, h7, m _ _ _ h8⟩
end
section
variable {X : Cx} {e : Expr} {es : List Expr} {pos p0 : Pos} {σ : L2.St} {H : Hp} {Q : VK} {N G : List Str} {sc : Scope}
theorem e_makeN {g k n : Nat} {x : Str} {C : Addr} {sp : Sp} {W : WX} (F : KlN X.prog X.w X.K X.mg X.base k x C sp) (tk : L2N.Takes X W) (hr : Room n X.A) (hk : k + 1 ≤ n)
    (q : wA X (e :: es) σ H fun vs H1 => ∀ x dx, H1 x = none → H1 dx = none → dx ≠ x → sp (.ref x :: vs) (upd (upd H1 dx (.own x)) x (.ins C dx [])) (fun v H2 => v = .non ∧ Q (.ref x) H2) (fun cls d H' => ∀ σ' : L2.St, σ'.length = X.N.length → W cls d σ' H'))
    (I : In X N G sc := by assumption) (hG : At G g x := by repeat (first | with_reducible apply At.z | with_reducible apply At.s)) (he : starEach (e :: es) X.env = (false, eval e X.env) :: starEach es X.env := by rfl) (hpl : (backTo pos (starEach es X.env)).any (·.1) = false := by rfl) : wE X (.Call (.Name x p0) (e :: es) [] pos) σ H Q := by
  obtain ⟨f, fd, ps, F0, hm, M, hb⟩ := F.ex
  have hx : Passes (L2N.CX X.prog X.w) X (fun cls d H' => ∀ σ' : L2.St, σ'.length = X.N.length → W cls d σ' H') := fun pins σ' H s e s' I0 c => L2N.passAt tk σ' pins H s e s' I0 (cx_weak c fun cls d H z => z σ' I0.len)
  refine e_of (pe_make M F0 (hr.mono hk) (I.g hG) hm hb .nil hx pa (I.gd hG) he hpl) ?_
  show wA X (e :: es) σ H fun vs H1 => ∀ x dx, H1 x = none → H1 dx = none → dx ≠ x → sp (.ref x :: (vs ++ [])) (upd (upd H1 dx (.own x)) x (.ins C dx [])) (fun v H2 => v = .non ∧ Q (.ref x) H2) _
  simp only [List.append_nil]
  exact q
end
/-! ### len of an instance whose class has its own __len__ -/
structure LnO (P : Program) (w : World) (K : PySem.W.Frag) (mg : Str → Option Value) (base : Heap) (k : Nat) (C : Addr) (sp : Sp) : Prop where
  ex : ∃ (f : Addr) (fd : FuncData) (pn : List Str), FnOk P w K mg base CX0 k f fd pn sp ∧ PySem.W.findIn K (.ref C) "__len__" = some (some (.ref f)) ∧ PySem.W.isFn K (.ref f) = true ∧ Binds K fd pn []
theorem c_lenO {X : Cx} {H : Hp} {Q : VK} {k n : Nat} {C a dx : Addr} {fs : List (Str × V)} {sp : Sp} (F : LnO X.prog X.w X.K X.mg X.base k C sp) (hr : Room (n + 1) X.A) (hk : k ≤ n) (ha : H a = some (.ins C dx fs))
    (q : sp [.ref a] H (fun v H' => ∃ m : Nat, v = .int (m : Int) ∧ m < 2 ^ 62 ∧ Q (.int (m : Int)) H') E0) : wC X (.builtin "len") [.ref a] H Q := by
  obtain ⟨f, fd, pn, F0, hs, hf, hb⟩ := F.ex
  refine c_of (r := fun xs H Q => xs = [.ref a] ∧ H a = some (.ins C dx fs) ∧ sp [.ref a] H (fun v H' => ∃ m : Nat, v = .int (m : Int) ∧ m < 2 ^ 62 ∧ Q (.int (m : Int)) H') E0) ?_ ⟨rfl, ha, q⟩
  intro pins s σ H xs us Q I r h
  obtain ⟨rfl, ha, q⟩ := h
  cases r with
  | cons r1 rr =>
    cases rr
    cases r1
    obtain ⟨mA, J, _⟩ := ins_get I.hok ha
    obtain ⟨od, J, _⟩ := J.look
    obtain ⟨m, hF⟩ := I.fr
    refine PySem.W.len_K hF I.ok.mod.kin J hs hf ?_
    have hl : ([Value.ref a] : List Value).length = pn.length := F0.len _ _ _ _ q
    refine wpAny_call (codeAny_mono (F0.run X.A.in1 X.stack s H ⟨[.ref a], []⟩ [.ref a] [.ref a] _ E0 (hr.in1.mono hk) I.env0.in1 (hb s [.ref a] I.kIn hl) (.cons rfl .nil) q) fun r s' hq => ?_)
    cases r with
    | error e => exact pass0 pins σ H s e s' I hq
    | ok fl =>
      cases fl with
      | ret u =>
        obtain ⟨v, H', I', rv, m, rfl, hm, q2⟩ := I.after hq
        obtain ⟨t, rfl⟩ := rv
        exact ⟨⟨by omega, by omega⟩, .int (m : Int), H', I'.tok _, ⟨_, rfl⟩, q2⟩
      | next => exact False.elim hq
      | brk => exact False.elim hq
      | cont => exact False.elim hq
section
variable {X : Cx} {σ : L2.St} {H : Hp}
/-- for x in range(a, b), a below b + 1 -/
theorem s_forR12 {nx : L2.St → Hp → Prop} {rt : VK} {bk ct : L2.St → Hp → Prop} {g : Nat} {N G : List Str} {sc : Scope} {x : Str} {i : Nat} {a b : Expr} {body : List Stmt} {px p cp pos : Pos} (hm : X.mg "range" = none)
    (q : wE X a σ H fun v H1 => wE X b σ H1 fun u H2 => ∃ lo n : Nat, v = .int (lo : Int) ∧ u = .int ((lo + n : Nat) : Int) ∧ lo + n < 2 ^ 62 ∧ ∃ Pv : Nat → L2.St → Hp → Prop, Pv 0 σ H2 ∧ (∀ k σ H, k < n → Pv k σ H → wL X body ⟨Pv (k + 1), rt, nx, Pv (k + 1)⟩ (σ.set i (some (.int ((lo + k : Nat) : Int)))) H) ∧ ∀ σ H, Pv n σ H → nx σ H)
    (I : In X N G sc := by assumption) (hc : X.calm = true := by rfl) (hA : At N i x := by repeat (first | with_reducible apply At.z | with_reducible apply At.s))
    (hG : At G g ("range" : Str) := by repeat (first | with_reducible apply At.z | with_reducible apply At.s)) (hs : starEach [a, b] X.env = [(false, eval a X.env), (false, eval b X.env)] := by rfl) (hsb : starEach [b] X.env = [(false, eval b X.env)] := by rfl)
    (hs2 : ∀ z, foldedSetIterable (.Call (.Name "range" p) [a, b] [] cp) X.env z = pure z := by intro _; rfl)
    (h1 : starEach (a :: [b]) X.env = (false, eval a X.env) :: starEach [b] X.env := by rfl) (h2 : starEach (b :: []) X.env = (false, eval b X.env) :: starEach [] X.env := by rfl) :
    wS X (.For (.Name x px) (.Call (.Name "range" p) [a, b] [] cp) body [] pos) ⟨nx, rt, bk, ct⟩ σ H := by
  refine s_of (ps_for I.never hc (pi_range2 (I.g hG) hm (pa_cons pe (pa_cons pe pa_nil h2) h1) hs hsb) (pg_name I.nd (I.hi hA) (I.loc hA) I.f) pl hs2) (e_mono q fun v H1 q1 => e_mono q1 fun u H2 q2 => ?_)
  obtain ⟨lo, n, rfl, rfl, hn, Pv, h0, hb, hd⟩ := q2
  refine ⟨(lo : Int), ((lo + n : Nat) : Int), rfl, ⟨by omega, by omega, by omega, by omega⟩, ?_⟩
  rw [show (((lo + n : Nat) : Int) - (lo : Int)).toNat = n by omega]
  refine for_range (n := n) Pv h0 (fun k σ H hk p => ?_) hd
  have := hb k σ H hk p
  rwa [show ((lo + k : Nat) : Int) = (lo : Int) + (k : Int) by omega] at this
theorem o_bor {X : Cx} {H : Hp} {Q : VK} {i j : Int} (q : Q (.int (Builtin.bitOr i j)) H) : wB X .BitOr (.int i) (.int j) H Q := b_of op_or ⟨i, j, rfl, rfl, q⟩
theorem bor_nn : ∀ a < 32, ∀ b < 32, 0 ≤ Builtin.bitOr ((a : Nat) : Int) ((b : Nat) : Int) := by decide +kernel
end
end Wk

/-! str of plain lists and tuples: it asks what is under way below (A.guards), so a def that shows them is promised where nothing is: FnG. -/
namespace Wk
open PySem PySem.Spec PyProof.Rows L2
section
variable {X : Cx} {H : Hp} {Q : VK}
/-- str of a list or a tuple of plain data, where nothing is being shown below -/
theorem call_strD (hg : X.A.guards = some []) (hu : X.A.units + 80 < cLine) :
    CallR X (.type "str") (fun xs H Q => ∃ a d, xs = [.ref a] ∧ Dp X.K H (.ref a) d ∧ d.showable = true ∧ d.hasDict = false ∧ d.depth ≤ 70 ∧ d.shown.length ≤ sizeLine ∧ Q (.str d.shown) H) := by
  intro pins s σ H xs us Q I r h
  obtain ⟨a, d, rfl, hd, h1, h2, h3, h4, q⟩ := h
  obtain ⟨u, rfl, rr⟩ := vals1 r
  obtain ⟨as, rd⟩ := Dp.reads I d _ _ hd rr
  cases rr
  exact PySem.str_of_reads rd h1 (fun z => by rw [h2] at z; cases z) hg (by omega) (fun _ _ e => e) (fun h' u tk hk => ⟨.str d.shown, H, I.turnedL (ch := []) (fun b o _ e => hk b o e) (fun b hb => by cases hb), ⟨_, rfl⟩, q⟩) h4
end
end Wk
namespace Wk
open PySem PySem.Spec PyProof.Rows L2
section
variable {P : Program} {w : World} {K : PySem.W.Frag} {mg : Str → Option Value} {base : Heap}
/-- a def that is promised where nothing is being shown below -/
structure FnG (P : Program) (w : World) (K : PySem.W.Frag) (mg : Str → Option Value) (base : Heap) (k : Nat) (f : Addr) (fd : FuncData) (ps : List Str) (sp : Sp) : Prop where
  len : ∀ vs H Q E, sp vs H Q E → vs.length = ps.length
  run : ∀ (A : Around) (outer : List Env) (s : Shared) (H : Hp) (args : Args) (us : List Value) (vs : List V) (Q : VK) (E : XK), A.guards = some [] → Room k A → Env0 P w K mg base A outer s H → BindsTo s fd args (ps.zip us) → Vals vs us → sp vs H Q E →
    codeAny (model P w) A (.call (.ref f) args) (CR CX0 outer P w H s Q E) s
theorem FnG.mono {j k : Nat} {f : Addr} {fd : FuncData} {ps : List Str} {sp : Sp} (F : FnG P w K mg base j f fd ps sp) (h : j ≤ k) : FnG P w K mg base k f fd ps sp :=
  ⟨F.len, fun A outer s H args us vs Q E hg hr => F.run A outer s H args us vs Q E hg (hr.mono h)⟩
/-- by its body, which knows that nothing is being shown below it -/
theorem fun_okG {x qual : Str} {st : Stmt} {f : Addr} {fd : FuncData} {N ps : List Str} {k : Nat} {sp : Sp} (F : Fun K x qual st f fd) (S : FnScope N ps (defScope st)) (len : ∀ vs H Q E, sp vs H Q E → vs.length = ps.length)
    (hbody : ∀ (cdv : Value) (A : Around) (outer : List Env) (s : Shared) (H : Hp) (vs : List V) (Q : VK) (E : XK), A.guards = some [] → Room k (A.deeper (envOfC qual (defScope st) s.heap.objs.size f cdv)) → sp vs H Q E →
      ∃ t, PSs (cxOf CX0 P w K mg base N qual (defScope st) f cdv A outer s H E).nox (defBody st) t ∧ t { nx := fun _ H' => Q .non H', rt := Q } (start N vs) H) : FnG P w K mg base (k + 1) f fd ps sp := by
  obtain ⟨oc, od, kV, doc, pm, an, cdv, ct, osl, rfl, lk, hcd⟩ := F.ex
  refine ⟨len, fun A outer s H args us vs Q E hg hr e0 hb r hsp => ?_⟩
  obtain ⟨t, ht, hq⟩ := hbody cdv A outer s H vs Q E hg (hr.deeper _) hsp
  have own : K.In s.heap := e0.mod.kin.keeps fun b o e => (e0.bs b o e).1
  have kinds : ∀ y ∈ ps.zip us, (defScope st).names.lookup y.1 = some .local ∨ ((defScope st).names.lookup y.1 = some .cell ∧ ((cellsFrom (s.heap.objs.size + 1) (defScope st).names []).lookup y.1).isSome = true) := by
    intro y hy
    obtain ⟨n, v⟩ := y
    cases S.par n (List.of_mem_zip hy).1 with
    | inl q => exact .inl q
    | inr q => exact .inr ⟨q, PySem.W.cellsFrom_some _ _ _ (.inl q)⟩
  refine codeAny_call_function hr.depth (own _ _ lk) rfl S.co S.gen rfl (PySem.W.codeRec_of own hcd) (hb _ _ _ _ (wpAny_newFunctionEnv_cells S.kind kinds fun env he s1 x => ?_))
  cases he
  refine ⟨(e0.mod.nolimit.keeps fun b o e => (e0.bs b o e).1).keeps x.toInCall.keep, codeAny_func (wpAny_mono (ht.nox.run [] s1 (start N vs) H _ (inv_start S hr.hd e0 (len _ _ _ _ hsp) r x) hq) (fun fl s' hs => ?_) fun e s' hs => hs)⟩
  cases fl with
  | next => exact let ⟨_, H', J, q⟩ := hs; ⟨.non, H', J.os, J.bare, J.base, J.hok, rfl, q⟩
  | ret u => exact let ⟨v, _, H', J, rv, q⟩ := hs; ⟨v, H', J.os, J.bare, J.base, J.hok, rv, q⟩
  | brk => exact (let ⟨_, _, _, q⟩ := hs; q : False).elim
  | cont => exact (let ⟨_, _, _, q⟩ := hs; q : False).elim
end
end Wk
namespace Wk
open PySem PySem.Spec PyProof.Rows L2
section
variable {X : Cx}
theorem run_fnG {k : Nat} {f : Addr} {fd : FuncData} {ps : List Str} {sp : Sp} {pins : List (Addr × Obj)} {σ : L2.St} {H : Hp} {s : Shared} {Q : VK} {us : List Value} {vs : List V} (F : FnG X.prog X.w X.K X.mg X.base k f fd ps sp) (hg : X.A.guards = some []) (hr : Room k X.A) (hb : Binds X.K fd ps [])
    (I : Inv X pins σ H s) (r : Vals vs us) (h : sp vs H Q E0) : wpAny (model X.prog X.w) X.A (call (.ref f) us) (EP X pins σ Q) X.xe s := by
  have hl : (us ++ []).length = ps.length := by rw [List.append_nil, ← r.length]; exact F.len _ _ _ _ h
  refine wpAny_call (codeAny_mono (F.run X.A X.stack s H ⟨us, []⟩ us vs Q E0 hg hr I.env0 (by have := hb s us I.kIn hl; rwa [List.append_nil] at this) r h) fun r s' hq => ?_)
  cases r with
  | error e => exact False.elim hq
  | ok fl =>
    cases fl with
    | ret u => exact I.after hq
    | next => exact False.elim hq
    | brk => exact False.elim hq
    | cont => exact False.elim hq
/-- a def of the module that is promised where nothing is being shown below -/
structure FnS (P : Program) (w : World) (K : PySem.W.Frag) (mg : Str → Option Value) (base : Heap) (k : Nat) (x : Str) (sp : Sp) : Prop where
  ex : ∃ (f : Addr) (fd : FuncData) (ps : List Str), FnG P w K mg base k f fd ps sp ∧ mg x = some (.ref f) ∧ PySem.W.keepIn K (.ref f) = true ∧ Binds K fd ps []
theorem pe_callG {x : Str} {p pos : Pos} {e : Expr} {es : List Expr} {t : TA} {k : Nat} {f : Addr} {fd : FuncData} {ps : List Str} {sp : Sp} (F : FnG X.prog X.w X.K X.mg X.base k f fd ps sp) (hgd : X.A.guards = some []) (hr : Room k X.A) (hg : Gl X x) (hm : X.mg x = some (.ref f)) (hk : PySem.W.keepIn X.K (.ref f) = true) (hb : Binds X.K fd ps [])
    (ha : PA X (e :: es) t) (hdb : (x == ("__debug__" : Str)) = false) (he : starEach (e :: es) X.env = (false, eval e X.env) :: starEach es X.env) (hpl : (backTo pos (starEach es X.env)).any (·.1) = false) :
    PE X (.Call (.Name x p) (e :: es) [] pos) (tCall sp [] E0 t) := by
  refine ⟨fun pins s σ H Q I h => wpAny_Call_Name_kw (ld_glob I hg hm (PySem.W.callWith_K (h₀ := X.base) I.ok.mod.kin hk (thn (ha.run pos pins s σ H _ I h) fun us s1 z => ?_) he hpl) hdb)⟩
  obtain ⟨vs, H1, I1, r, q⟩ := z
  exact ⟨I1.kIn, run_fnG F hgd hr hb I1 r (by rwa [List.append_nil] at q)⟩
theorem e_callG {N G : List Str} {sc : Scope} {e : Expr} {es : List Expr} {pos p0 : Pos} {σ : L2.St} {H : Hp} {Q : VK} {g : Nat} {k n : Nat} {x : Str} {sp : Sp} (F : FnS X.prog X.w X.K X.mg X.base k x sp) (hgd : X.A.guards = some []) (hr : Room n X.A) (hk : k ≤ n) (q : wA X (e :: es) σ H fun vs H1 => sp vs H1 Q E0)
    (I : In X N G sc := by assumption) (hG : At G g x := by repeat (first | with_reducible apply At.z | with_reducible apply At.s))
    (he : starEach (e :: es) X.env = (false, eval e X.env) :: starEach es X.env := by rfl) (hpl : (backTo pos (starEach es X.env)).any (·.1) = false := by rfl) : wE X (.Call (.Name x p0) (e :: es) [] pos) σ H Q := by
  obtain ⟨f, fd, ps, F0, hm, hkp, hb⟩ := F.ex
  refine e_of (pe_callG F0 hgd (hr.mono hk) (I.g hG) hm hkp hb pa (I.gd hG) he hpl) ?_
  show wA X (e :: es) σ H fun vs H1 => sp (vs ++ []) H1 Q E0
  simp only [List.append_nil]
  exact q
end
end Wk
namespace Wk
open PySem PySem.Spec PyProof.Rows L2
section
variable {P : Program} {w : World} {K : PySem.W.Frag}
/-- the heap in which the script alone is told (unless it is an object of the module) -/
def toldS (K : PySem.W.Frag) (a : Addr) (vs : List Value) (ns : List Int) : Hp := fun b =>
  if b = a ∧ (K.lookup a).isNone = true then some (.frz { cls := .type "list", data := .seq vs.toArray } (.lst (ns.map V.int))) else none
theorem toldS_some {a b : Addr} {vs : List Value} {ns : List Int} {u : HO} (h : toldS K a vs ns b = some u) : b = a ∧ K.lookup a = none ∧ u = .frz { cls := .type "list", data := .seq vs.toArray } (.lst (ns.map V.int)) := by
  unfold toldS at h
  split at h
  · rename_i hc
    cases h
    exact ⟨hc.1, Option.isNone_iff_eq_none.mp hc.2, rfl⟩
  · cases h
theorem toldS_none {a b : Addr} {vs : List Value} {ns : List Int} (h : ¬ (b = a ∧ K.lookup a = none)) : toldS K a vs ns b = none := by
  cases e : toldS K a vs ns b with
  | none => rfl
  | some u => exact absurd ⟨(toldS_some e).1, (toldS_some e).2.1⟩ h
theorem law_callG {mg mb : Str → Option Value} {k : Nat} {fa a : Addr} {fd : FuncData} {x : Str} {sp : Sp} {s : Shared} {vs : List Value} {ns : List Int}
    (KX : K.In s.heap) (hns : s.heap.Ns mainGlobals mg) (hb : s.heap.Ns builtinsNs mb) (hbb : ∀ x : Str, x ≠ "__name__" → mb x = bootBuiltins x) (hlim : s.heap.NoLimit) (hg : s.gens = #[])
    (ha : s.heap.get? a = some { cls := .type "list", data := .seq vs.toArray }) (hi : IntsAre vs ns) (hl : ns.length ≤ sizeLine) (hr : Room k callerA)
    (F : ∀ base : Heap, K.In base → base.Ns mainGlobals mg → FnG P w K mg base k fa fd [x] sp) (hbind : ∀ (s : Shared) (u : Value), BindsTo s fd ⟨[u], []⟩ [(x, u)])
    (hsp : ∀ H : Hp, Only H → SqL K H a (ns.map V.int) → sp [.ref a] H (fun v _ => v = .bl true) fun _ _ _ => False) :
    codeAny (model P w) callerA (.call (.ref fa) ⟨[.ref a], []⟩) (fun r s' => r = .ok (.ret (.bool true)) ∧ OldK s.heap s'.heap ∧ s'.os = s.os ∧ AllBare s'.gens) s := by
  have hT : ∀ {b : Addr} {u : HO}, toldS K a vs ns b = some u → b = a ∧ K.lookup a = none ∧ u = .frz { cls := .type "list", data := .seq vs.toArray } (.lst (ns.map V.int)) := toldS_some
  have hN : ∀ {b : Addr}, ¬ (b = a ∧ K.lookup a = none) → toldS K a vs ns b = none := toldS_none
  have hS : SqL K (toldS K a vs ns) a (ns.map V.int) := by
    cases hk : K.lookup a with
    | none => exact .inl (.inr ⟨_, if_pos ⟨rfl, by rw [hk]; rfl⟩⟩)
    | some o =>
      have e := KX a o hk
      rw [ha] at e
      cases e
      exact .inr ⟨_, vs.toArray, _, hk, rfl, rfl, rfl, by rw [List.size_toArray, hi.length]; exact hl, by simpa using vals_ints hi⟩
  generalize toldS K a vs ns = H at hT hN hS
  have only : Only H := fun b => by
    cases e : H b with
    | none => exact .inl rfl
    | some u => exact .inr ⟨_, _, by rw [(hT e).2.2]⟩
  have notDict : ∀ {b : Addr} {o : Obj} {es : Array DictEntry} {n : Nat}, s.heap.get? b = some o → o.data = .dict es n → H b = none := fun {b o es n} e d => hN fun z => by
    obtain ⟨rfl, _⟩ := z
    rw [ha] at e
    cases e
    cases (show Data.seq vs.toArray _ = Data.dict es n from d)
  have names : ∀ {b : Addr} {m : Str → Option Value}, s.heap.Ns b m → (hidT s.heap H).Ns b m := fun z => let ⟨o, es, n, e, d, r⟩ := z; ⟨o, es, n, hidT_get e (notDict e d), d, r⟩
  have inB : K.In (hidT s.heap H) := fun b o e => hidT_get (KX b o e) (hN fun z => by rw [← z.1, e] at z; cases z.2)
  have md : Mod K mg (hidT s.heap H) := ⟨inB, names hns, ⟨mb, names hb, hbb⟩, let ⟨m, z1, z2⟩ := hlim; ⟨m, names z1, z2⟩⟩
  have hok : HOk P w H s.heap := fun b u e => by
    obtain ⟨rfl, _, rfl⟩ := hT e
    exact ⟨ha, by rw [List.length_map]; exact hl, vs, _, vals_ints hi, ha⟩
  have env : Env0 P w K mg (hidT s.heap H) callerA [] s H := ⟨rfl, md, fun b o e => of_hidT e, Nat.le_of_eq (hidT_size _ _), trivial, fun b z => (List.not_mem_nil z).elim, hok, .of_eq hg⟩
  refine codeAny_mono ((F _ inB (names hns)).run callerA [] s H ⟨[.ref a], []⟩ [.ref a] [.ref a] _ _ rfl hr env (hbind s (.ref a)) (.cons rfl .nil) (hsp H only hS)) fun r s' z => ?_
  cases r with
  | error e => exact False.elim z
  | ok fl =>
    cases fl with
    | ret u =>
      obtain ⟨v, H', os, bare, un, hok', rv, q⟩ := z
      cases (show v = .bl true from q)
      cases (show u = Value.bool true from rv)
      refine ⟨rfl, OldK.of_keep fun b o e => ?_, os, bare⟩
      cases t : H b with
      | none => exact un.keep b o e t (List.not_mem_nil) (by simp)
      | some u =>
        obtain ⟨rfl, _, rfl⟩ := hT t
        have e2 := (hok' b _ (un.frzs b _ _ t)).1
        rw [ha] at e
        cases e
        exact e2
    | next => exact False.elim z
    | brk => exact False.elim z
    | cont => exact False.elim z
/-- the law's end, by a promise where nothing is being shown below -/
theorem walk_ofG {l : PySem.W.OpenLaw} {n k : Nat} {q : Program} {loose : List Str} {XP : (Str → Option Value) → Heap → Prop} {YP : World → Heap → Prop} {d : DefRec} {K : Params → PySem.W.Frag} {sp : World → Sp} {x : Str}
    (hn : l.most = some n) (hn2 : n ≤ sizeLine) (hdf : d.params.defaults = []) (hr : Room k callerA)
    (hY : ∀ (w : World) (h : Heap), YP w h → (K w.params).In h)
    (F : ∀ (w : World) (mg : Str → Option Value) (fa : Addr) (h : Heap), (K w.params).In h → h.Ns mainGlobals mg → mg d.name = some (.ref fa) →
      ∃ fd : FuncData, (∀ (s : Shared) (u : Value), BindsTo s fd ⟨[u], []⟩ [(x, u)]) ∧
        ∀ base : Heap, (K w.params).In base → base.Ns mainGlobals mg → FnG l.prog w (K w.params) mg base k fa fd [x] (sp w))
    (hsp : ∀ (w : World) (H : Hp) (a : Addr) (ns : List Int), ns.length ≤ n → Only H → SqL (K w.params) H a (ns.map V.int) → sp w [.ref a] H (fun v _ => v = .bl true) fun _ _ _ => False) :
    PySem.W.WalkO q loose XP YP l.row.toRowW d [] (fun f vs => PySem.call f vs) :=
  Att.attach_call hn hdf fun w s₀ s₁ mg mb fa o pm cd doc a vs ns G Y ho hd hcd hmg hobj hints hlen hg => by
    obtain ⟨fd, hb, hF⟩ := F w mg fa _ (hY w _ Y) G.T.g hmg
    exact law_callG (hY w _ Y) G.T.g G.T.b G.T.builtins G.T.nolimit hg hobj hints (Nat.le_trans hlen hn2) hr hF hb fun H hO hS => hsp w H a ns hlen hO hS
end
end Wk

set_option maxHeartbeats 4000000
/-! My own layer: comprehensions inside of comprehensions, comprehensions over zip, a loop over zip that unpacks triples, not of a list, methods that raise, errors without own __init__. -/
namespace Wk
open PySem PySem.Spec PyProof.Rows L2
/-- where a block's scope stands in -/
structure Sc (X : Cx) (sc : Scope) : Prop where
  nd : X.N.Nodup
  sc : X.env.scope = sc
section
variable {X : Cx} {e a b c elt o : Expr} {es rest : List Expr} {σ : L2.St} {H : Hp} {Q : VK} {pos p0 apos : Pos} {N G G' : List Str} {Vn : List (Nat × Str)} {sc scope : Scope}
theorem In.s (I : In X N G sc) : Sc X sc := ⟨I.nd, I.sc⟩
theorem Sc.bk (S : Sc X sc) {s : Shared} {H : Hp} {C : Addr} {cl : List (Str × Addr)} {fp : List Addr} : Sc (Bk X s H scope C cl fp) (relS scope sc) := ⟨S.nd, rel_eq S.sc C cl⟩
theorem BkOk.inS {i : Nat} {x : Str} (B : BkOk X.N Vn G' i x sc scope) (I : Sc X sc) (s : Shared) (H : Hp) (C : Addr) (cl : List (Str × Addr)) (fp : List Addr) : InB (Bk X s H scope C cl fp) Vn G' := by
  have e : (compEnvC scope cl C X.env).scope = relS scope sc := rel_eq I.sc C cl
  refine ⟨I.nd, fun p hp => ?_, fun y hy => ?_⟩
  · obtain ⟨h1, h2, h3, h4⟩ := B.lo p hp
    exact ⟨h1, by show Vis (compEnvC scope cl C X.env).scope p.2; rw [e]; exact h2, h3, h4⟩
  · obtain ⟨h1, h2, h3⟩ := B.gl y hy
    exact ⟨by show (compEnvC scope cl C X.env).scope.names.lookup y = _; rw [e]; exact h1, h2, h3⟩
theorem BkOk.pgS {i : Nat} {x : Str} {px : Pos} (B : BkOk X.N Vn G' i x sc scope) (I : Sc X sc) (s : Shared) (H : Hp) (C : Addr) (cl : List (Str × Addr)) (fp : List Addr) : PG (Bk X s H scope C cl fp) (.Name x px) (gName i) := by
  have e : (compEnvC scope cl C X.env).scope = relS scope sc := rel_eq I.sc C cl
  have l : (Bk X s H scope C cl fp).env.scope.names.lookup x = some .local := by
    show (compEnvC scope cl C X.env).scope.names.lookup x = _
    rw [e]
    exact B.own.2
  exact pg_name I.nd B.own.1 (.inl l) (.inr l)
theorem BkOk.okS {i : Nat} {x : Str} (B : BkOk X.N Vn G' i x sc scope) (I : Sc X sc) : BlkOk X.N X.env.scope scope [(x, i)] := by
  rw [I.sc]
  exact blkOk_by B.blk
/-- a block whose own name is captured by a block inside of it -/
structure BkOkC (N : List Str) (Vn : List (Nat × Str)) (G : List Str) (i : Nat) (x : Str) (sc scope : Scope) : Prop where
  lo : ∀ p ∈ Vn, N[p.1]? = some p.2 ∧ Vis (relS scope sc) p.2 ∧ (p.2 == ("__debug__" : Str)) = false ∧ (p.2 == ("__classdict__" : Str)) = false
  gl : ∀ x ∈ G, (relS scope sc).names.lookup x = some .globalImplicit ∧ (x == ("__debug__" : Str)) = false ∧ x ≠ "__name__"
  own : N[i]? = some x ∧ (relS scope sc).names.lookup x = some .cell
  cel : (scope.names.lookup x == some .cell) = true
  blk : blkC N sc scope [(x, i)] = true
theorem BkOkC.inS {i : Nat} {x : Str} (B : BkOkC X.N Vn G' i x sc scope) (I : Sc X sc) (s : Shared) (H : Hp) (C : Addr) (cl : List (Str × Addr)) (fp : List Addr) : InB (Bk X s H scope C cl fp) Vn G' := by
  have e : (compEnvC scope cl C X.env).scope = relS scope sc := rel_eq I.sc C cl
  refine ⟨I.nd, fun p hp => ?_, fun y hy => ?_⟩
  · obtain ⟨h1, h2, h3, h4⟩ := B.lo p hp
    exact ⟨h1, by show Vis (compEnvC scope cl C X.env).scope p.2; rw [e]; exact h2, h3, h4⟩
  · obtain ⟨h1, h2, h3⟩ := B.gl y hy
    exact ⟨by show (compEnvC scope cl C X.env).scope.names.lookup y = _; rw [e]; exact h1, h2, h3⟩
theorem BkOkC.pgS {i : Nat} {x : Str} {px : Pos} (B : BkOkC X.N Vn G' i x sc scope) (I : Sc X sc) (s : Shared) (H : Hp) (C : Addr) (cl : List (Str × Addr)) (fp : List Addr) : PG (Bk X s H scope C cl fp) (.Name x px) (gName i) := by
  have e : (compEnvC scope cl C X.env).scope = relS scope sc := rel_eq I.sc C cl
  have l : (Bk X s H scope C cl fp).env.scope.names.lookup x = some .cell := by
    show (compEnvC scope cl C X.env).scope.names.lookup x = _
    rw [e]
    exact B.own.2
  exact pg_name I.nd B.own.1 (.inr l) (.inl B.cel)
theorem BkOkC.okS {i : Nat} {x : Str} (B : BkOkC X.N Vn G' i x sc scope) (I : Sc X sc) : BlkOk X.N X.env.scope scope [(x, i)] := by
  rw [I.sc]
  exact blkOk_by B.blk
theorem e_lcLC {i : Nat} {x : Str} {px : Pos} (B : BkOkC X.N Vn G' i x sc scope)
    (q : wE X a σ H fun v H1 => ∃ ad xs, v = .ref ad ∧ SqL X.K H1 ad xs ∧ ∀ D, H1 D = none → LcL X Vn G' elt scope i ad xs D σ H1 fun H2 => Q (.ref D) H2)
    (I : In X N G sc := by assumption) (hc : X.calm = true := by rfl) (hs2 : ∀ z, foldedSetIterable a X.env z = pure z := by intro _; rfl) :
    wE X (.ListComp elt [⟨.Name x px, a, [], 0⟩] scope pos) σ H Q := by
  refine e_of (pe_lc (own := [(x, i)]) (g := gName i) (tt := tYes) (te := wBk X Vn G' elt scope) hc I.nd (pi_list pe) (B.okS I.s) (fun s H C cl fp => B.pgS I.s s H C cl fp) (fun _ _ _ _ _ => pts_nil) (fun s H C cl fp => pe_bk (B.inS I.s s H C cl fp)) hs2) (e_mono q fun v H1 q1 => ?_)
  obtain ⟨ad, xs, rfl, hl, q2⟩ := q1
  exact ⟨ad, rfl, ⟨xs, hl⟩, fun D hD => lcL_of (q2 D hD)⟩
theorem e_lcRC {i g : Nat} {x : Str} {px p cp : Pos} (B : BkOkC X.N Vn G' i x sc scope) (hm : X.mg "range" = none)
    (q : wE X a σ H fun v H1 => ∃ n : Nat, v = .int n ∧ n < 2 ^ 62 ∧ ∀ D, H1 D = none → LcR X Vn G' elt scope i n D σ H1 fun H2 => Q (.ref D) H2)
    (I : In X N G sc := by assumption) (hc : X.calm = true := by rfl) (hG : At G g ("range" : Str) := by repeat (first | with_reducible apply At.z | with_reducible apply At.s)) (hs : starEach [a] X.env = [(false, eval a X.env)] := by rfl) (hs2 : ∀ z, foldedSetIterable (.Call (.Name "range" p) [a] [] cp) X.env z = pure z := by intro _; rfl)
    (hs1 : starEach (a :: []) X.env = (false, eval a X.env) :: starEach [] X.env := by rfl) :
    wE X (.ListComp elt [⟨.Name x px, .Call (.Name "range" p) [a] [] cp, [], 0⟩] scope pos) σ H Q := by
  refine e_of (pe_lc (own := [(x, i)]) (g := gName i) (tt := tYes) (te := wBk X Vn G' elt scope) hc I.nd (pi_range1 (I.g hG) hm (pa_cons pe pa_nil hs1) hs) (B.okS I.s) (fun s H C cl fp => B.pgS I.s s H C cl fp) (fun _ _ _ _ _ => pts_nil) (fun s H C cl fp => pe_bk (B.inS I.s s H C cl fp)) hs2) (e_mono q fun v H1 q1 => ?_)
  obtain ⟨n, rfl, hn, q2⟩ := q1
  refine ⟨(n : Int), rfl, by omega, by omega, ?_⟩
  rw [Int.toNat_natCast]
  exact fun D hD => lcR_of (q2 D hD)
/-- [elt for x in a], a list, inside of a block -/
theorem n_lcL {i : Nat} {x : Str} {px : Pos} (S : Sc X sc) (B : BkOk X.N Vn G' i x sc scope)
    (q : wE X a σ H fun v H1 => ∃ ad xs, v = .ref ad ∧ SqL X.K H1 ad xs ∧ ∀ D, H1 D = none → LcL X Vn G' elt scope i ad xs D σ H1 fun H2 => Q (.ref D) H2)
    (hc : X.calm = true := by rfl) (hs2 : ∀ z, foldedSetIterable a X.env z = pure z := by intro _; rfl) :
    wE X (.ListComp elt [⟨.Name x px, a, [], 0⟩] scope pos) σ H Q := by
  refine e_of (pe_lc (own := [(x, i)]) (g := gName i) (tt := tYes) (te := wBk X Vn G' elt scope) hc S.nd (pi_list pe) (B.okS S) (fun s H C cl fp => B.pgS S s H C cl fp) (fun _ _ _ _ _ => pts_nil) (fun s H C cl fp => pe_bk (B.inS S s H C cl fp)) hs2) (e_mono q fun v H1 q1 => ?_)
  obtain ⟨ad, xs, rfl, hl, q2⟩ := q1
  exact ⟨ad, rfl, ⟨xs, hl⟩, fun D hD => lcL_of (q2 D hD)⟩
theorem n_lcLf {i : Nat} {x : Str} {px : Pos} (S : Sc X sc) (B : BkOk X.N Vn G' i x sc scope)
    (q : wE X a σ H fun v H1 => ∃ ad xs, v = .ref ad ∧ SqL X.K H1 ad xs ∧ ∀ D, H1 D = none → LcLf X Vn G' elt c scope i ad xs D σ H1 fun H2 => Q (.ref D) H2)
    (hc : X.calm = true := by rfl) (hs2 : ∀ z, foldedSetIterable a X.env z = pure z := by intro _; rfl) :
    wE X (.ListComp elt [⟨.Name x px, a, [c], 0⟩] scope pos) σ H Q := by
  refine e_of (pe_lc (own := [(x, i)]) (g := gName i) (tt := wBkT X Vn G' c scope) (te := wBk X Vn G' elt scope) hc S.nd (pi_list pe) (B.okS S) (fun s H C cl fp => B.pgS S s H C cl fp) (fun s H C cl fp => pts_bk (B.inS S s H C cl fp)) (fun s H C cl fp => pe_bk (B.inS S s H C cl fp)) hs2) (e_mono q fun v H1 q1 => ?_)
  obtain ⟨ad, xs, rfl, hl, q2⟩ := q1
  exact ⟨ad, rfl, ⟨xs, hl⟩, fun D hD => lcLf_of (q2 D hD)⟩
/-- [elt for x in a if c], a holds range(n) -/
theorem e_lcRvf {i : Nat} {x : Str} {px : Pos} (B : BkOk X.N Vn G' i x sc scope)
    (q : wE X a σ H fun v H1 => ∃ (ad : Addr) (n : Nat), v = .ref ad ∧ H1 ad = some (.rng 0 n) ∧ n < 2 ^ 62 ∧ ∀ D, H1 D = none → LcRf X Vn G' elt c scope i n D σ H1 fun H2 => Q (.ref D) H2)
    (I : In X N G sc := by assumption) (hc : X.calm = true := by rfl) (hs2 : ∀ z, foldedSetIterable a X.env z = pure z := by intro _; rfl) :
    wE X (.ListComp elt [⟨.Name x px, a, [c], 0⟩] scope pos) σ H Q := by
  refine e_of (pe_lc (own := [(x, i)]) (g := gName i) (tt := wBkT X Vn G' c scope) (te := wBk X Vn G' elt scope) hc I.nd (pi_rngV pe) (B.ok I) (fun s H C cl fp => B.pg I s H C cl fp) (fun s H C cl fp => pts_bk (B.inB I s H C cl fp)) (fun s H C cl fp => pe_bk (B.inB I s H C cl fp)) hs2) (e_mono q fun v H1 q1 => ?_)
  obtain ⟨ad, n, rfl, had, hn, q2⟩ := q1
  refine ⟨ad, 0, n, rfl, had, ⟨by omega, by omega, by omega, by omega⟩, ?_⟩
  rw [Int.sub_zero, Int.toNat_natCast]
  exact fun D hD => lcRf_of (q2 D hD)
/-- not a, by its truth -/
theorem e_notT (q : wE X a σ H fun x H1 => ∃ k, TruV X.K x H1 k ∧ Q (.bl (!k)) H1) : wE X (.UnaryOp .Not a pos) σ H Q := e_of (pe_notT pe) q
/-- [elt for x, y in zip(a, b)] -/
def LcZ (X : Cx) (Vn : List (Nat × Str)) (G' : List Str) (c d : Side) (elt : Expr) (scope : Scope) (i j : Nat) (va vb : Addr) (xs ys : List L2.V) (D : Addr) (σ : L2.St) (H1 : Hp) (Qd : Hp → Prop) : Prop := ∃ Pv : Nat → Hp → Prop, Pv 0 (upd H1 D (.lst [])) ∧ (∀ k H2, k ≤ min xs.length ys.length → Pv k H2 → c.sq X.K H2 va xs ∧ d.sq X.K H2 vb ys) ∧
  (∀ k u1 u2 T H2, xs[k]? = some u1 → ys[k]? = some u2 → Pv k H2 → H2 T = none → ∀ s0 H0 C cl fp, InB (Bk X s0 H0 scope C cl fp) Vn G' → wE (Bk X s0 H0 scope C cl fp) elt (((wipe σ [i, j]).set i (some u1)).set j (some u2)) (upd H2 T (.tup [u1, u2])) fun y H4 => ∃ acc, H4 D = some (.lst acc) ∧ acc.length < sizeLine ∧ Pv (k + 1) (upd H4 D (.lst (acc ++ [y])))) ∧
  ∀ H2, Pv (min xs.length ys.length) H2 → Qd H2
theorem e_lcZ (cs ds : Side) {i j g : Nat} {x y : Str} {px py pt p cp : Pos} {kt : Nat} (B : BkOk2 X.N Vn G' i j x y sc scope) (hm : X.mg "zip" = none)
    (q : wE X a σ H fun v H1 => wE X b σ H1 fun u H2 => ∃ va vb xs ys, v = .ref va ∧ u = .ref vb ∧ cs.sq X.K H2 va xs ∧ ds.sq X.K H2 vb ys ∧ ∀ D, H2 D = none → LcZ X Vn G' cs ds elt scope i j va vb xs ys D σ H2 fun H3 => Q (.ref D) H3)
    (I : In X N G sc := by assumption) (hc : X.calm = true := by rfl) (hG : At G g ("zip" : Str) := by repeat (first | with_reducible apply At.z | with_reducible apply At.s)) (hs : starEach [a, b] X.env = (false, eval a X.env) :: starEach [b] X.env := by rfl) (hpl : (backTo cp (starEach [b] X.env)).any (·.1) = false := by rfl)
    (hs1 : starEach (b :: []) X.env = (false, eval b X.env) :: starEach [] X.env := by rfl) (hs2 : ∀ z, foldedSetIterable (.Call (.Name "zip" p) [a, b] [] cp) X.env z = pure z := by intro _; rfl) :
    wE X (.ListComp elt [⟨.Tuple [.Name x px, .Name y py] kt pt, .Call (.Name "zip" p) [a, b] [] cp, [], 0⟩] scope pos) σ H Q := by
  refine e_of (pe_lc (own := [(x, i), (y, j)]) (g := gT2 X.K i j) (tt := tYes) (te := wBk X Vn G' elt scope) hc I.nd (pi_zipM (c := cs) (d := ds) (I.g hG) hm (pa_cons pe (pa_cons pe pa_nil hs1) hs) hs hpl) (B.ok I) (fun s H C cl fp => B.pg hc I s H C cl fp) (fun _ _ _ _ _ => pts_nil) (fun s H C cl fp => pe_bk (B.inB I s H C cl fp)) hs2) (e_mono q fun v H1 q1 => e_mono q1 fun u H2 q2 => ?_)
  obtain ⟨va, vb, xs, ys, rfl, rfl, sx, sy, q3⟩ := q2
  refine ⟨va, vb, xs, ys, rfl, sx, sy, fun D hD => ?_⟩
  obtain ⟨Pv, h0, hk, hb, hd⟩ := q3 D hD
  refine ⟨fun k m H => m = min xs.length ys.length - k ∧ k ≤ min xs.length ys.length ∧ Pv k H, ⟨_, rfl, Nat.zero_le _, h0⟩, ?_⟩
  rintro k m H ⟨rfl, hle, pv⟩
  obtain ⟨tx, ty⟩ := hk k H hle pv
  by_cases lt : k < min xs.length ys.length
  · have l1 : k < xs.length := by omega
    have l2 : k < ys.length := by omega
    refine .inr ⟨⟨xs, ys, xs[k], ys[k], tx, ty, List.getElem?_eq_getElem l1, List.getElem?_eq_getElem l2⟩, Pv (k + 1), fun H' p' => ⟨_, by omega, rfl, lt, p'⟩, fun w H' yl => ?_⟩
    obtain ⟨T, u1, u2, rfl, nT, rfl, y1, y2⟩ := yl
    refine ⟨T, u1, u2, rfl, SqT.of upd_same, wipe_set2 σ B.ne u1 u2, ?_⟩
    unfold tYes
    refine iteT ?_
    unfold wBk
    exact fun s0 H0 C cl fp I => hb k u1 u2 T H (y1 xs tx) (y2 ys ty) pv nT s0 H0 C cl fp I
  · have ek : k = min xs.length ys.length := by omega
    subst ek
    exact .inl ⟨⟨xs, ys, tx, ty, by omega, by omega, by omega⟩, hd H pv⟩
/-- for (x1, x2, x3), y in zip(a, b) -/
theorem s_forZ3 {nx : L2.St → Hp → Prop} {rt : VK} {bk ct : L2.St → Hp → Prop} (c d : Side) {g : Nat} {x1 x2 x3 y : Str} {i1 i2 i3 j : Nat} {body : List Stmt} {p1 p2 p3 py pt pt2 p cp pos : Pos} {kk kk2 : Nat} (hm : X.mg "zip" = none)
    (q : wE X a σ H fun v H1 => wE X b σ H1 fun u H2 => ∃ va vb xs ys, v = .ref va ∧ u = .ref vb ∧ c.sq X.K H2 va xs ∧ d.sq X.K H2 vb ys ∧ ∃ Pv : Nat → L2.St → Hp → Prop, Pv 0 σ H2 ∧ (∀ k σ H, k ≤ min xs.length ys.length → Pv k σ H → c.sq X.K H va xs ∧ d.sq X.K H vb ys) ∧
      (∀ k u1 u2 T σ H, xs[k]? = some u1 → ys[k]? = some u2 → Pv k σ H → H T = none → ∃ t v1 v2 v3, u1 = .ref t ∧ SqT X.K (upd H T (.tup [u1, u2])) t [v1, v2, v3] ∧ wL X body ⟨Pv (k + 1), rt, nx, Pv (k + 1)⟩ ((((σ.set i1 (some v1)).set i2 (some v2)).set i3 (some v3)).set j (some u2)) (upd H T (.tup [u1, u2]))) ∧ ∀ σ H, Pv (min xs.length ys.length) σ H → nx σ H)
    (I : In X N G sc := by assumption) (hc : X.calm = true := by rfl) (hA1 : At N i1 x1 := by repeat (first | with_reducible apply At.z | with_reducible apply At.s)) (hA2 : At N i2 x2 := by repeat (first | with_reducible apply At.z | with_reducible apply At.s)) (hA3 : At N i3 x3 := by repeat (first | with_reducible apply At.z | with_reducible apply At.s)) (hB : At N j y := by repeat (first | with_reducible apply At.z | with_reducible apply At.s))
    (hG : At G g ("zip" : Str) := by repeat (first | with_reducible apply At.z | with_reducible apply At.s)) (hs : starEach [a, b] X.env = (false, eval a X.env) :: starEach [b] X.env := by rfl) (hpl : (backTo cp (starEach [b] X.env)).any (·.1) = false := by rfl)
    (hs1 : starEach (b :: []) X.env = (false, eval b X.env) :: starEach [] X.env := by rfl) (hs2 : ∀ z, foldedSetIterable (.Call (.Name "zip" p) [a, b] [] cp) X.env z = pure z := by intro _; rfl) :
    wS X (.For (.Tuple [.Tuple [.Name x1 p1, .Name x2 p2, .Name x3 p3] kk2 pt2, .Name y py] kk pt) (.Call (.Name "zip" p) [a, b] [] cp) body [] pos) ⟨nx, rt, bk, ct⟩ σ H := by
  refine s_of (ps_for I.never hc (pi_zipM (c := c) (d := d) (I.g hG) hm (pa_cons pe (pa_cons pe pa_nil hs1) hs) hs hpl) (pg_tup hc (pgs_cons (pg_tup hc (pgs_cons (pg_name I.nd (I.hi hA1) (I.loc hA1) I.f) (pgs_cons (pg_name I.nd (I.hi hA2) (I.loc hA2) I.f) (pgs_cons (pg_name I.nd (I.hi hA3) (I.loc hA3) I.f) pgs_nil)))) (pgs_cons (pg_name I.nd (I.hi hB) (I.loc hB) I.f) pgs_nil))) pl hs2) (e_mono q fun v H1 q1 => e_mono q1 fun u H2 q2 => ?_)
  obtain ⟨va, vb, xs, ys, rfl, rfl, sx, sy, Pv, h0, hk, hb, hd⟩ := q2
  refine ⟨va, vb, xs, ys, rfl, sx, sy, fun k m σ H => m = min xs.length ys.length - k ∧ k ≤ min xs.length ys.length ∧ Pv k σ H, ⟨_, rfl, Nat.zero_le _, h0⟩, ?_⟩
  rintro k m σ H ⟨rfl, hle, pv⟩
  obtain ⟨tx, ty⟩ := hk k σ H hle pv
  by_cases lt : k < min xs.length ys.length
  · have l1 : k < xs.length := by omega
    have l2 : k < ys.length := by omega
    refine .inr ⟨⟨xs, ys, xs[k], ys[k], tx, ty, List.getElem?_eq_getElem l1, List.getElem?_eq_getElem l2⟩, Pv (k + 1), fun σ' H' p' => ⟨_, by omega, rfl, lt, p'⟩, fun w H' yl => ?_⟩
    obtain ⟨T, u1, u2, rfl, nT, rfl, y1, y2⟩ := yl
    obtain ⟨t, v1, v2, v3, rfl, ht, z⟩ := hb k u1 u2 T σ H (y1 xs tx) (y2 ys ty) pv nT
    exact ⟨T, [.ref t, u2], rfl, SqT.of upd_same, rfl, .ref t, [u2], rfl, t, [v1, v2, v3], rfl, ht, rfl, v1, [v2, v3], rfl, v2, [v3], rfl, v3, [], rfl, rfl, u2, [], rfl, rfl, z⟩
  · have ek : k = min xs.length ys.length := by omega
    subst ek
    exact .inl ⟨⟨xs, ys, tx, ty, by omega, by omega, by omega⟩, hd σ H pv⟩
/-! ### errors without own __init__, methods that raise -/
abbrev bmVE : List Value := [.type "ValueError", .type "Exception", .type "BaseException", .type "object"]
structure Ei (K : PySem.W.Frag) (mg : Str → Option Value) (x : Str) (C : Addr) : Prop where
  mgC : mg x = some (.ref C)
  kp : PySem.W.keepIn K (.ref C) = true
  ex : PySem.W.excIn K C bmVE "ValueError.__new__" = true
  sub : PySem.W.subIn K (.ref C) (.type "BaseException") = some true
  ty : PySem.W.typeIn K (.ref C) = some (.type "type")
theorem pmk0N {x : Str} {C : Addr} (R : Ei X.K X.mg x C) (hg : Gl X x) (hdb : (x == ("__debug__" : Str)) = false) : L2N.PMk X (.Call (.Name x p0) [] [] pos) (fun _ H Q => Q (.ref C) none H) := by
  intro pins s σ H Q I h
  refine wpAny_Call_Name_kw (ld_glob I hg R.mgC ?_ hdb)
  refine PySem.W.callWith_K0 I.kIn R.kp ?_
  obtain ⟨bm, N, nm, qn, bs, hdct, sn, sub, ab, col, dd, k0, k1, k2, k3, k5, mN, hC, hN, hni, T⟩ := exc_obj I.kIn R.ex
  refine wpAny_call_exc_subT F.excBase_ValueError T hC hN hni (fun h' e hm => ?_) (Nat.zero_le _)
  exact L2N.mk_of I hm (raises_own R.sub R.ty) h (I.hok.gone hm.new)
/-- raise C() -/
theorem s_raise0 {nx : L2.St → Hp → Prop} {rt : VK} {bk ct : L2.St → Hp → Prop} {g : Nat} {x : Str} {C : Addr} {W : WX} {pos' : Pos} (R : Ei X.K X.mg x C) (tk : L2N.Takes X W) (q : W (.ref C) none σ H)
    (I : In X N G sc := by assumption) (hG : At G g x := by repeat (first | with_reducible apply At.z | with_reducible apply At.s)) (hc : X.calm = true := by rfl) :
    wS X (.Raise (some (.Call (.Name x p0) [] [] pos)) none pos') ⟨nx, rt, bk, ct⟩ σ H :=
  s_of (L2N.ps_raise hc tk (pmk0N R (I.g hG) (I.gd hG))) q
structure MtN (P : Program) (w : World) (K : PySem.W.Frag) (mg : Str → Option Value) (base : Heap) (k : Nat) (C : Addr) (m : Str) (sp : Sp) : Prop where
  ex : ∃ (f : Addr) (fd : FuncData) (ps : List Str), FnOk P w K mg base (L2N.CX P w) k f fd ps sp ∧ Meth K C m f ∧ Binds K fd ps [] ∧ Cls K C
theorem e_methN {k n : Nat} {m : Str} {C : Addr} {pl : Sem Bool} {sp : Sp} {W : WX} (F : MtN X.prog X.w X.K X.mg X.base k C m sp) (tk : L2N.Takes X W) (hr : Room n X.A) (hk : k ≤ n)
    (q : wE X o σ H fun x H1 => ∃ a dx fs, x = .ref a ∧ H1 a = some (.ins C dx fs) ∧ fs.lookup m = none ∧ wA X (e :: es) σ H1 fun vs H2 => sp (x :: vs) H2 Q (fun cls d H' => W cls d σ H'))
    (hst : starEach (e :: es) X.env = (false, eval e X.env) :: starEach es X.env := by rfl) (hpl : (backTo pos (starEach es X.env)).any (·.1) = false := by rfl)
    (ht : eval (.Call (.Attribute o m apos) (e :: es) [] pos) X.env = (do let ov ← eval o X.env; standAt apos.atName; let (f, first) ← holding [ov] (getMethod ov m pl); callWith pos f first (backTo pos (starEach (e :: es) X.env)) (backToKw pos (keywordEach [] X.env))) := by rfl) :
    wE X (.Call (.Attribute o m apos) (e :: es) [] pos) σ H Q := by
  obtain ⟨f, fd, ps, F0, M, hb, c⟩ := F.ex
  refine e_of (t := fun σ H Q => wE X o σ H fun x H1 => ∃ a dx fs, x = .ref a ∧ H1 a = some (.ins C dx fs) ∧ fs.lookup m = none ∧ wA X (e :: es) σ H1 fun vs H2 => sp (x :: vs) H2 Q (fun cls d H' => W cls d σ H')) ⟨fun pins s σ H Q I h => ?_⟩ q
  refine PySem.W.methodCall_KW (pl := pl) (thn (pe.run pins s σ H _ I h) fun u s1 ⟨x, H1, I1, rx, a, dx, fs, ex, ea, l, q⟩ => ?_) ht
  subst ex
  obtain rfl : u = Value.ref a := rx
  refine getmeth_ok I1 ea c M l ?_
  refine PySem.W.callWith_K (first := [.ref a]) (h₀ := X.base) I.ok.mod.kin M.kp (thn (pa.run pos pins s1 σ H1 _ I1 q) fun us s2 ⟨vs, H2, I2, r, q2⟩ => ⟨I2.kIn, ?_⟩) hst hpl
  exact run_fnSD (us := .ref a :: us) (vs := .ref a :: vs) (E := fun σ cls d H' => W cls d σ H') F0 (hr.mono hk) hb .nil (L2N.passAt tk σ) I2 (.cons rfl r) (by rw [List.append_nil]; exact q2)
end
end Wk

set_option maxHeartbeats 4000000
namespace K18
open PySem PySem.Spec PyProof.Rows L2 Wk
def topS (i : Nat) : Stmt := PySem.Challenge.pw_heldproofs_k18_true_at_elements.main.body.getD i (.Pass ⟨0, 0, 0, 0⟩)
abbrev s_BadWorld___init : Stmt := inClass (topS 2) 0
abbrev N_BadWorld___init : List Str := ["self", "reason"]
abbrev P_BadWorld___init : List Str := ["self", "reason"]
abbrev G_BadWorld___init : List Str := []
theorem so_BadWorld___init : ScOk N_BadWorld___init G_BadWorld___init (defScope s_BadWorld___init) := ⟨by decide +kernel, by decide +kernel, by decide +kernel⟩
theorem sc_BadWorld___init : FnScope N_BadWorld___init P_BadWorld___init (defScope s_BadWorld___init) := ⟨rfl, rfl, rfl, by decide +kernel, rfl, by decide +kernel, by decide +kernel⟩
abbrev s_is_all_once : Stmt := topS 8
abbrev N_is_all_once : List Str := ["sentence", "waiting", "here"]
abbrev P_is_all_once : List Str := ["sentence"]
abbrev G_is_all_once : List Str := []
theorem so_is_all_once : ScOk N_is_all_once G_is_all_once (defScope s_is_all_once) := ⟨by decide +kernel, by decide +kernel, by decide +kernel⟩
theorem sc_is_all_once : FnScope N_is_all_once P_is_all_once (defScope s_is_all_once) := ⟨rfl, rfl, rfl, by decide +kernel, rfl, by decide +kernel, by decide +kernel⟩
abbrev s_World___init : Stmt := inClass (topS 10) 0
abbrev N_World___init : List Str := ["self", "products", "facts", "reason"]
abbrev P_World___init : List Str := ["self", "products", "facts"]
abbrev G_World___init : List Str := ["fault_of", "BadWorld"]
theorem so_World___init : ScOk N_World___init G_World___init (defScope s_World___init) := ⟨by decide +kernel, by decide +kernel, by decide +kernel⟩
abbrev C_World___init : List Str := ["row", "name"]
theorem sc_World___init : FnScope (N_World___init ++ C_World___init) P_World___init (defScope s_World___init) := ⟨rfl, rfl, rfl, by decide +kernel, rfl, by decide +kernel, by decide +kernel⟩
abbrev s_World___len : Stmt := inClass (topS 10) 1
abbrev N_World___len : List Str := ["self"]
abbrev P_World___len : List Str := ["self"]
abbrev G_World___len : List Str := ["len"]
theorem so_World___len : ScOk N_World___len G_World___len (defScope s_World___len) := ⟨by decide +kernel, by decide +kernel, by decide +kernel⟩
theorem sc_World___len : FnScope N_World___len P_World___len (defScope s_World___len) := ⟨rfl, rfl, rfl, by decide +kernel, rfl, by decide +kernel, by decide +kernel⟩
abbrev s_World_product : Stmt := inClass (topS 10) 2
abbrev N_World_product : List Str := ["self", "a", "b"]
abbrev P_World_product : List Str := ["self", "a", "b"]
abbrev G_World_product : List Str := []
theorem so_World_product : ScOk N_World_product G_World_product (defScope s_World_product) := ⟨by decide +kernel, by decide +kernel, by decide +kernel⟩
theorem sc_World_product : FnScope N_World_product P_World_product (defScope s_World_product) := ⟨rfl, rfl, rfl, by decide +kernel, rfl, by decide +kernel, by decide +kernel⟩
abbrev s_World_has : Stmt := inClass (topS 10) 3
abbrev N_World_has : List Str := ["self", "element", "sentence"]
abbrev P_World_has : List Str := ["self", "element", "sentence"]
abbrev G_World_has : List Str := ["is_all_once", "NotOnce", "truths"]
theorem so_World_has : ScOk N_World_has G_World_has (defScope s_World_has) := ⟨by decide +kernel, by decide +kernel, by decide +kernel⟩
theorem sc_World_has : FnScope N_World_has P_World_has (defScope s_World_has) := ⟨rfl, rfl, rfl, by decide +kernel, rfl, by decide +kernel, by decide +kernel⟩
abbrev s_World_fails : Stmt := inClass (topS 10) 4
abbrev N_World_fails : List Str := ["self", "claim", "places", "holds", "goal", "whole", "_", "sentence", "place"]
abbrev P_World_fails : List Str := ["self", "claim", "places"]
abbrev G_World_fails : List Str := ["require_once", "zip", "truths"]
theorem so_World_fails : ScOk N_World_fails G_World_fails (defScope s_World_fails) := ⟨by decide +kernel, by decide +kernel, by decide +kernel⟩
theorem sc_World_fails : FnScope N_World_fails P_World_fails (defScope s_World_fails) := ⟨rfl, rfl, rfl, by decide +kernel, rfl, by decide +kernel, by decide +kernel⟩
abbrev s_require_once : Stmt := topS 11
abbrev N_require_once : List Str := ["claim", "holds", "goal", "_", "kind", "sentence"]
abbrev P_require_once : List Str := ["claim"]
abbrev G_require_once : List Str := ["is_all_once", "NotOnce"]
theorem so_require_once : ScOk N_require_once G_require_once (defScope s_require_once) := ⟨by decide +kernel, by decide +kernel, by decide +kernel⟩
theorem sc_require_once : FnScope N_require_once P_require_once (defScope s_require_once) := ⟨rfl, rfl, rfl, by decide +kernel, rfl, by decide +kernel, by decide +kernel⟩
abbrev s_truths : Stmt := topS 12
abbrev N_truths : List Str := ["products", "facts", "sentence", "numbers", "listed", "first", "second", "priced"]
abbrev P_truths : List Str := ["products", "facts", "sentence"]
abbrev G_truths : List Str := ["range", "len", "truths", "zip"]
theorem so_truths : ScOk N_truths G_truths (defScope s_truths) := ⟨by decide +kernel, by decide +kernel, by decide +kernel⟩
abbrev C_truths : List Str := ["element", "left", "right", "row"]
theorem sc_truths : FnScope (N_truths ++ C_truths) P_truths (defScope s_truths) := ⟨rfl, rfl, rfl, by decide +kernel, rfl, by decide +kernel, by decide +kernel⟩
abbrev s_fault_of : Stmt := topS 13
abbrev N_fault_of : List Str := ["products", "facts", "many", "a", "b", "name"]
abbrev P_fault_of : List Str := ["products", "facts"]
abbrev G_fault_of : List Str := ["len", "all", "list", "range", "does_grouping_hold"]
theorem so_fault_of : ScOk N_fault_of G_fault_of (defScope s_fault_of) := ⟨by decide +kernel, by decide +kernel, by decide +kernel⟩
abbrev C_fault_of : List Str := ["row", "element"]
theorem sc_fault_of : FnScope (N_fault_of ++ C_fault_of) P_fault_of (defScope s_fault_of) := ⟨rfl, rfl, rfl, by decide +kernel, rfl, by decide +kernel, by decide +kernel⟩
abbrev s_has_shape : Stmt := topS 14
abbrev N_has_shape : List Str := ["row", "many"]
abbrev P_has_shape : List Str := ["row", "many"]
abbrev G_has_shape : List Str := ["len", "all"]
theorem so_has_shape : ScOk N_has_shape G_has_shape (defScope s_has_shape) := ⟨by decide +kernel, by decide +kernel, by decide +kernel⟩
abbrev C_has_shape : List Str := ["item"]
theorem sc_has_shape : FnScope (N_has_shape ++ C_has_shape) P_has_shape (defScope s_has_shape) := ⟨rfl, rfl, rfl, by decide +kernel, rfl, by decide +kernel, by decide +kernel⟩
abbrev s_does_grouping_hold : Stmt := topS 15
abbrev N_does_grouping_hold : List Str := ["products", "a", "row", "b", "first"]
abbrev P_does_grouping_hold : List Str := ["products"]
abbrev G_does_grouping_hold : List Str := ["enumerate"]
theorem so_does_grouping_hold : ScOk N_does_grouping_hold G_does_grouping_hold (defScope s_does_grouping_hold) := ⟨by decide +kernel, by decide +kernel, by decide +kernel⟩
abbrev C_does_grouping_hold : List Str := ["inner"]
theorem sc_does_grouping_hold : FnScope (N_does_grouping_hold ++ C_does_grouping_hold) P_does_grouping_hold (defScope s_does_grouping_hold) := ⟨rfl, rfl, rfl, by decide +kernel, rfl, by decide +kernel, by decide +kernel⟩
abbrev s_cell : Stmt := topS 17
abbrev N_cell : List Str := ["_law_script", "_law_k"]
abbrev P_cell : List Str := ["_law_script", "_law_k"]
abbrev G_cell : List Str := ["len", "abs"]
theorem so_cell : ScOk N_cell G_cell (defScope s_cell) := ⟨by decide +kernel, by decide +kernel, by decide +kernel⟩
theorem sc_cell : FnScope N_cell P_cell (defScope s_cell) := ⟨rfl, rfl, rfl, by decide +kernel, rfl, by decide +kernel, by decide +kernel⟩
abbrev s_pool : Stmt := topS 18
abbrev N_pool : List Str := ["_law_script", "_law_k", "_law_cell_here"]
abbrev P_pool : List Str := ["_law_script", "_law_k"]
abbrev G_pool : List Str := ["_law_cell", "int"]
theorem so_pool : ScOk N_pool G_pool (defScope s_pool) := ⟨by decide +kernel, by decide +kernel, by decide +kernel⟩
theorem sc_pool : FnScope N_pool P_pool (defScope s_pool) := ⟨rfl, rfl, rfl, by decide +kernel, rfl, by decide +kernel, by decide +kernel⟩
abbrev s_next : Stmt := topS 19
abbrev N_next : List Str := ["_law_pool_here", "_law_many", "_law_digit", "_law_mixed"]
abbrev P_next : List Str := ["_law_pool_here", "_law_many"]
abbrev G_next : List Str := ["int"]
theorem so_next : ScOk N_next G_next (defScope s_next) := ⟨by decide +kernel, by decide +kernel, by decide +kernel⟩
theorem sc_next : FnScope N_next P_next (defScope s_next) := ⟨rfl, rfl, rfl, by decide +kernel, rfl, by decide +kernel, by decide +kernel⟩
abbrev s_name : Stmt := topS 20
abbrev N_name : List Str := ["_law_pool_here", "_law_taken", "_law_stems", "_law_name_here", "_law_k"]
abbrev P_name : List Str := ["_law_pool_here", "_law_taken"]
abbrev G_name : List Str := ["_law_next", "range", "str", "len"]
theorem so_name : ScOk N_name G_name (defScope s_name) := ⟨by decide +kernel, by decide +kernel, by decide +kernel⟩
theorem sc_name : FnScope N_name P_name (defScope s_name) := ⟨rfl, rfl, rfl, by decide +kernel, rfl, by decide +kernel, by decide +kernel⟩
abbrev s_state : Stmt := topS 21
abbrev N_state : List Str := ["_law_pool_here", "_law_forms", "_law_most", "_law_stems", "_law_first", "_law_words"]
abbrev P_state : List Str := ["_law_pool_here", "_law_forms", "_law_most"]
abbrev G_state : List Str := ["_law_next", "range"]
theorem so_state : ScOk N_state G_state (defScope s_state) := ⟨by decide +kernel, by decide +kernel, by decide +kernel⟩
abbrev C_state : List Str := ["_law_k"]
theorem sc_state : FnScope (N_state ++ C_state) P_state (defScope s_state) := ⟨rfl, rfl, rfl, by decide +kernel, rfl, by decide +kernel, by decide +kernel⟩
abbrev s_sentence : Stmt := topS 22
abbrev N_sentence : List Str := ["_law_state_here", "_law_depth", "_law_pool_here", "_law_pick", "_law_one", "_law_two"]
abbrev P_sentence : List Str := ["_law_state_here", "_law_depth"]
abbrev G_sentence : List Str := ["_law_next", "len", "_law_sentence"]
theorem so_sentence : ScOk N_sentence G_sentence (defScope s_sentence) := ⟨by decide +kernel, by decide +kernel, by decide +kernel⟩
theorem sc_sentence : FnScope N_sentence P_sentence (defScope s_sentence) := ⟨rfl, rfl, rfl, by decide +kernel, rfl, by decide +kernel, by decide +kernel⟩
abbrev s_product : Stmt := topS 23
abbrev N_product : List Str := ["_law_pick", "_law_many", "_law_a", "_law_b"]
abbrev P_product : List Str := ["_law_pick", "_law_many", "_law_a", "_law_b"]
abbrev G_product : List Str := ["min", "int", "max"]
theorem so_product : ScOk N_product G_product (defScope s_product) := ⟨by decide +kernel, by decide +kernel, by decide +kernel⟩
theorem sc_product : FnScope N_product P_product (defScope s_product) := ⟨rfl, rfl, rfl, by decide +kernel, rfl, by decide +kernel, by decide +kernel⟩
abbrev s_renamed : Stmt := topS 24
abbrev N_renamed : List Str := ["_law_pool_here", "_law_rows", "_law_many", "_law_names", "_law_k", "_law_at", "_law_held", "_law_a", "_law_new", "_law_row", "_law_b"]
abbrev P_renamed : List Str := ["_law_pool_here", "_law_rows"]
abbrev G_renamed : List Str := ["len", "list", "range", "_law_next"]
theorem so_renamed : ScOk N_renamed G_renamed (defScope s_renamed) := ⟨by decide +kernel, by decide +kernel, by decide +kernel⟩
theorem sc_renamed : FnScope N_renamed P_renamed (defScope s_renamed) := ⟨rfl, rfl, rfl, by decide +kernel, rfl, by decide +kernel, by decide +kernel⟩
abbrev s_table : Stmt := topS 25
abbrev N_table : List Str := ["_law_pool_here", "_law_picks", "_law_many", "_law_pick", "_law_rows", "_law_a"]
abbrev P_table : List Str := ["_law_pool_here", "_law_picks"]
abbrev G_table : List Str := ["_law_next", "max", "range", "_law_renamed"]
theorem so_table : ScOk N_table G_table (defScope s_table) := ⟨by decide +kernel, by decide +kernel, by decide +kernel⟩
abbrev C_table : List Str := ["_law_b"]
theorem sc_table : FnScope (N_table ++ C_table) P_table (defScope s_table) := ⟨rfl, rfl, rfl, by decide +kernel, rfl, by decide +kernel, by decide +kernel⟩
abbrev s_facts : Stmt := topS 26
abbrev N_facts : List Str := ["_law_pool_here", "_law_words", "_law_many", "_law_picks", "_law_facts_here", "_law_name_here", "_law_pick", "_law_at", "_law_found"]
abbrev P_facts : List Str := ["_law_pool_here", "_law_words", "_law_many", "_law_picks"]
abbrev G_facts : List Str := ["_law_next", "range"]
theorem so_facts : ScOk N_facts G_facts (defScope s_facts) := ⟨by decide +kernel, by decide +kernel, by decide +kernel⟩
abbrev C_facts : List Str := ["_law_k"]
theorem sc_facts : FnScope (N_facts ++ C_facts) P_facts (defScope s_facts) := ⟨rfl, rfl, rfl, by decide +kernel, rfl, by decide +kernel, by decide +kernel⟩
abbrev s_true : Stmt := topS 27
abbrev N_true : List Str := ["_law_rows", "_law_facts_here", "_law_sentence_here", "_law_many", "_law_one", "_law_two", "_law_able"]
abbrev P_true : List Str := ["_law_rows", "_law_facts_here", "_law_sentence_here"]
abbrev G_true : List Str := ["len", "range", "_law_true"]
theorem so_true : ScOk N_true G_true (defScope s_true) := ⟨by decide +kernel, by decide +kernel, by decide +kernel⟩
abbrev C_true : List Str := ["_law_k", "_law_v"]
theorem sc_true : FnScope (N_true ++ C_true) P_true (defScope s_true) := ⟨rfl, rfl, rfl, by decide +kernel, rfl, by decide +kernel, by decide +kernel⟩
abbrev s_once : Stmt := topS 28
abbrev N_once : List Str := ["_law_sentence_here"]
abbrev P_once : List Str := ["_law_sentence_here"]
abbrev G_once : List Str := ["_law_once"]
theorem so_once : ScOk N_once G_once (defScope s_once) := ⟨by decide +kernel, by decide +kernel, by decide +kernel⟩
theorem sc_once : FnScope N_once P_once (defScope s_once) := ⟨rfl, rfl, rfl, by decide +kernel, rfl, by decide +kernel, by decide +kernel⟩
abbrev s_has : Stmt := topS 29
abbrev N_has : List Str := ["_law_world", "_law_element", "_law_sentence_here", "e"]
abbrev P_has : List Str := ["_law_world", "_law_element", "_law_sentence_here"]
abbrev G_has : List Str := ["NotOnce", "isinstance", "HeldError", "BadWorld", "NotPlain", "NotSimple", "WrongGoal"]
theorem so_has : ScOk N_has G_has (defScope s_has) := ⟨by decide +kernel, by decide +kernel, by decide +kernel⟩
theorem sc_has : FnScope N_has P_has (defScope s_has) := ⟨rfl, rfl, rfl, by decide +kernel, rfl, by decide +kernel, by decide +kernel⟩
abbrev s_fails : Stmt := topS 30
abbrev N_fails : List Str := ["_law_world", "_law_claim_here", "_law_places", "_law_passed", "_law_told", "e"]
abbrev P_fails : List Str := ["_law_world", "_law_claim_here", "_law_places"]
abbrev G_fails : List Str := ["list", "NotOnce", "isinstance", "HeldError", "BadWorld", "NotPlain", "NotSimple", "WrongGoal"]
theorem so_fails : ScOk N_fails G_fails (defScope s_fails) := ⟨by decide +kernel, by decide +kernel, by decide +kernel⟩
theorem sc_fails : FnScope N_fails P_fails (defScope s_fails) := ⟨rfl, rfl, rfl, by decide +kernel, rfl, by decide +kernel, by decide +kernel⟩
abbrev s_claim : Stmt := topS 31
abbrev N_claim : List Str := ["_law_state_here", "_law_rows", "_law_facts_here", "_law_pool_here", "_law_holds", "_law_places", "_law_k", "_law_mode", "_law_sentence_here", "_law_found", "_law_able", "_law_place"]
abbrev P_claim : List Str := ["_law_state_here", "_law_rows", "_law_facts_here"]
abbrev G_claim : List Str := ["range", "_law_next", "_law_sentence", "_law_true", "len", "_law_name", "tuple"]
theorem so_claim : ScOk N_claim G_claim (defScope s_claim) := ⟨by decide +kernel, by decide +kernel, by decide +kernel⟩
abbrev C_claim : List Str := ["_law_v"]
theorem sc_claim : FnScope (N_claim ++ C_claim) P_claim (defScope s_claim) := ⟨rfl, rfl, rfl, by decide +kernel, rfl, by decide +kernel, by decide +kernel⟩
abbrev s_due : Stmt := topS 32
abbrev N_due : List Str := ["_law_rows", "_law_facts_here", "_law_claim_here", "_law_places", "_law_sentences", "_law_total", "_law_fine", "_law_k"]
abbrev P_due : List Str := ["_law_rows", "_law_facts_here", "_law_claim_here", "_law_places"]
abbrev G_due : List Str := ["range", "len", "_law_true"]
theorem so_due : ScOk N_due G_due (defScope s_due) := ⟨by decide +kernel, by decide +kernel, by decide +kernel⟩
abbrev C_due : List Str := ["_law_row", "_law_one"]
theorem sc_due : FnScope (N_due ++ C_due) P_due (defScope s_due) := ⟨rfl, rfl, rfl, by decide +kernel, rfl, by decide +kernel, by decide +kernel⟩
abbrev s_near : Stmt := topS 33
abbrev N_near : List Str := ["_law_pool_here", "_law_words", "_law_found", "_law_word", "_law_old", "_law_at", "_law_new"]
abbrev P_near : List Str := ["_law_pool_here", "_law_words"]
abbrev G_near : List Str := ["_law_next", "len"]
theorem so_near : ScOk N_near G_near (defScope s_near) := ⟨by decide +kernel, by decide +kernel, by decide +kernel⟩
theorem sc_near : FnScope N_near P_near (defScope s_near) := ⟨rfl, rfl, rfl, by decide +kernel, rfl, by decide +kernel, by decide +kernel⟩
abbrev s_case : Stmt := topS 34
abbrev N_case : List Str := ["_law_script", "_law_at", "_law_pool_here", "_law_state_here", "_law_rows", "_law_facts_here", "_law_sentences", "_law_claims", "_law_world"]
abbrev P_case : List Str := ["_law_script", "_law_at"]
abbrev G_case : List Str := ["_law_pool", "_law_state", "_law_next", "_law_near", "_law_table", "_law_facts", "len", "range", "World", "dict"]
theorem so_case : ScOk N_case G_case (defScope s_case) := ⟨by decide +kernel, by decide +kernel, by decide +kernel⟩
abbrev C_case : List Str := ["_law_k", "_law_row"]
theorem sc_case : FnScope (N_case ++ C_case) P_case (defScope s_case) := ⟨rfl, rfl, rfl, by decide +kernel, rfl, by decide +kernel, by decide +kernel⟩
abbrev s_law : Stmt := topS 35
abbrev N_law : List Str := ["_law_script", "_law_cases", "_law_k", "_law_case_here", "_law_sentence_here", "_law_found", "_law_element", "_law_due_here", "_law_pair"]
abbrev P_law : List Str := ["_law_script"]
abbrev G_law : List Str := ["_law_case", "range", "int", "_law_true", "len", "_law_once", "str", "_law_has", "_law_due", "_law_fails"]
theorem so_law : ScOk N_law G_law (defScope s_law) := ⟨by decide +kernel, by decide +kernel, by decide +kernel⟩
theorem sc_law : FnScope N_law P_law (defScope s_law) := ⟨rfl, rfl, rfl, by decide +kernel, rfl, by decide +kernel, by decide +kernel⟩
theorem bk_World___init0 : BkOk (N_World___init ++ C_World___init) [(4, "row")] ["list"] 4 "row" (defScope s_World___init) (xSc (stE ((defBody s_World___init).getD 0 nS))) := ⟨by decide +kernel, by decide +kernel, by decide +kernel, by decide +kernel⟩
theorem bk_World___init1 : BkOk (N_World___init ++ C_World___init) [(5, "name"), (2, "facts")] ["list"] 5 "name" (defScope s_World___init) (xSc (stE ((defBody s_World___init).getD 1 nS))) := ⟨by decide +kernel, by decide +kernel, by decide +kernel, by decide +kernel⟩
theorem bk_truths0 : BkOk (N_truths ++ C_truths) [(8, "element"), (4, "listed")] [] 8 "element" (defScope s_truths) (xSc (stE (stB ((defBody s_truths).getD 1 nS) 0 1))) := ⟨by decide +kernel, by decide +kernel, by decide +kernel, by decide +kernel⟩
theorem bk_truths1 : BkOk2 (N_truths ++ C_truths) [(9, "left"), (10, "right")] [] 9 10 "left" "right" (defScope s_truths) (xSc (stE (stB ((defBody s_truths).getD 4 nS) 0 0))) := ⟨by decide +kernel, by decide +kernel, by decide +kernel, by decide +kernel, by decide, by decide +kernel⟩
theorem bk_truths2 : BkOk (N_truths ++ C_truths) [(8, "element"), (5, "first")] [] 8 "element" (defScope s_truths) (xSc (stE ((defBody s_truths).getD 5 nS))) := ⟨by decide +kernel, by decide +kernel, by decide +kernel, by decide +kernel⟩
theorem bk_fault_of0 : BkOk (N_fault_of ++ C_fault_of) [(6, "row"), (2, "many")] ["has_shape"] 6 "row" (defScope s_fault_of) (xSc (exA (exA (exA (stE ((defBody s_fault_of).getD 1 nS)) 1) 0) 1)) := ⟨by decide +kernel, by decide +kernel, by decide +kernel, by decide +kernel⟩
theorem bk_fault_of1 : BkOk (N_fault_of ++ C_fault_of) [(7, "element"), (2, "many")] [] 7 "element" (defScope s_fault_of) (xSc (exA (exA (stE (stB ((defBody s_fault_of).getD 5 nS) 0 0)) 0) 1)) := ⟨by decide +kernel, by decide +kernel, by decide +kernel, by decide +kernel⟩
theorem bk_has_shape0 : BkOk (N_has_shape ++ C_has_shape) [(2, "item"), (1, "many")] [] 2 "item" (defScope s_has_shape) (xSc (exA (exA (stE ((defBody s_has_shape).getD 0 nS)) 1) 1)) := ⟨by decide +kernel, by decide +kernel, by decide +kernel, by decide +kernel⟩
theorem bk_does_grouping_hold0 : BkOk (N_does_grouping_hold ++ C_does_grouping_hold) [(5, "inner"), (0, "products"), (1, "a")] [] 5 "inner" (defScope s_does_grouping_hold) (xSc (exA (stE (stB (stB ((defBody s_does_grouping_hold).getD 0 nS) 0 0) 0 0)) 1)) := ⟨by decide +kernel, by decide +kernel, by decide +kernel, by decide +kernel⟩
theorem bk_state0 : BkOk (N_state ++ C_state) [(3, "_law_stems"), (4, "_law_first"), (6, "_law_k")] ["int"] 6 "_law_k" (defScope s_state) (xSc (stE ((defBody s_state).getD 2 nS))) := ⟨by decide +kernel, by decide +kernel, by decide +kernel, by decide +kernel⟩
theorem bk_renamed0 : BkOk N_renamed [(2, "_law_many")] [] 7 "_law_a" (defScope s_renamed) (xSc (stE ((defBody s_renamed).getD 3 nS))) := ⟨by decide +kernel, by decide +kernel, by decide +kernel, by decide +kernel⟩
theorem bk_table0 : BkOk (N_table ++ C_table) [(3, "_law_pick"), (2, "_law_many"), (5, "_law_a"), (6, "_law_b")] ["_law_product"] 6 "_law_b" (defScope s_table) (xSc (exA (stE (stB ((defBody s_table).getD 5 nS) 0 0)) 1)) := ⟨by decide +kernel, by decide +kernel, by decide +kernel, by decide +kernel⟩
theorem bk_facts0 : BkOk (N_facts ++ C_facts) [(9, "_law_k"), (7, "_law_at")] [] 9 "_law_k" (defScope s_facts) (xSc (stE (stB ((defBody s_facts).getD 1 nS) 0 2))) := ⟨by decide +kernel, by decide +kernel, by decide +kernel, by decide +kernel⟩
theorem bk_facts1 : BkOk (N_facts ++ C_facts) [(9, "_law_k"), (7, "_law_at")] [] 9 "_law_k" (defScope s_facts) (xSc (stE (stB (stB ((defBody s_facts).getD 1 nS) 0 3) 0 0))) := ⟨by decide +kernel, by decide +kernel, by decide +kernel, by decide +kernel⟩
theorem bk_facts2 : BkOk (N_facts ++ C_facts) [(9, "_law_k"), (0, "_law_pool_here")] ["_law_next"] 9 "_law_k" (defScope s_facts) (xSc (stE (stB (stB ((defBody s_facts).getD 1 nS) 0 4) 0 0))) := ⟨by decide +kernel, by decide +kernel, by decide +kernel, by decide +kernel⟩
theorem bk_facts3 : BkOk (N_facts ++ C_facts) [(9, "_law_k"), (0, "_law_pool_here")] ["_law_next"] 9 "_law_k" (defScope s_facts) (xSc (stE (stB (stB ((defBody s_facts).getD 1 nS) 0 5) 0 0))) := ⟨by decide +kernel, by decide +kernel, by decide +kernel, by decide +kernel⟩
theorem bk_facts4 : BkOk (N_facts ++ C_facts) [(0, "_law_pool_here"), (2, "_law_many")] ["_law_next"] 9 "_law_k" (defScope s_facts) (xSc (stE (stB (stB ((defBody s_facts).getD 1 nS) 0 6) 0 0))) := ⟨by decide +kernel, by decide +kernel, by decide +kernel, by decide +kernel⟩
theorem bk_true0 : BkOk (N_true ++ C_true) [(7, "_law_k"), (1, "_law_facts_here"), (2, "_law_sentence_here")] [] 7 "_law_k" (defScope s_true) (xSc (stE (stB ((defBody s_true).getD 1 nS) 0 0))) := ⟨by decide +kernel, by decide +kernel, by decide +kernel, by decide +kernel⟩
theorem bk_true1 : BkOk (N_true ++ C_true) [(4, "_law_one"), (7, "_law_k"), (5, "_law_two")] [] 7 "_law_k" (defScope s_true) (xSc (stE (stB ((defBody s_true).getD 4 nS) 0 0))) := ⟨by decide +kernel, by decide +kernel, by decide +kernel, by decide +kernel⟩
theorem bk_true2 : BkOk (N_true ++ C_true) [(8, "_law_v"), (4, "_law_one")] [] 8 "_law_v" (defScope s_true) (xSc (stE ((defBody s_true).getD 5 nS))) := ⟨by decide +kernel, by decide +kernel, by decide +kernel, by decide +kernel⟩
theorem bk_claim0 : BkOk (N_claim ++ C_claim) [(12, "_law_v"), (9, "_law_found")] [] 12 "_law_v" (defScope s_claim) (xSc (stE (stB ((defBody s_claim).getD 4 nS) 0 4))) := ⟨by decide +kernel, by decide +kernel, by decide +kernel, by decide +kernel⟩
theorem bk_due0 : BkOk (N_due ++ C_due) [(8, "_law_row")] [] 8 "_law_row" (defScope s_due) (xSc (exA (stE ((defBody s_due).getD 0 nS)) 0)) := ⟨by decide +kernel, by decide +kernel, by decide +kernel, by decide +kernel⟩
theorem bk_due1 : BkOk (N_due ++ C_due) [(8, "_law_row")] [] 8 "_law_row" (defScope s_due) (xSc (exA (stE ((defBody s_due).getD 1 nS)) 0)) := ⟨by decide +kernel, by decide +kernel, by decide +kernel, by decide +kernel⟩
theorem bk_due2 : BkOk (N_due ++ C_due) [(9, "_law_one")] ["_law_once"] 9 "_law_one" (defScope s_due) (xSc (exA (stE ((defBody s_due).getD 1 nS)) 1)) := ⟨by decide +kernel, by decide +kernel, by decide +kernel, by decide +kernel⟩
theorem bk_case0 : BkOk (N_case ++ C_case) [(3, "_law_state_here"), (2, "_law_pool_here")] ["_law_sentence", "_law_next"] 9 "_law_k" (defScope s_case) (xSc (stE ((defBody s_case).getD 5 nS))) := ⟨by decide +kernel, by decide +kernel, by decide +kernel, by decide +kernel⟩
theorem bk_case1 : BkOk (N_case ++ C_case) [(3, "_law_state_here"), (4, "_law_rows"), (5, "_law_facts_here")] ["_law_claim"] 9 "_law_k" (defScope s_case) (xSc (stE ((defBody s_case).getD 6 nS))) := ⟨by decide +kernel, by decide +kernel, by decide +kernel, by decide +kernel⟩
theorem bk_case2 : BkOk (N_case ++ C_case) [(10, "_law_row")] ["list"] 10 "_law_row" (defScope s_case) (xSc (exA (stE ((defBody s_case).getD 7 nS)) 1)) := ⟨by decide +kernel, by decide +kernel, by decide +kernel, by decide +kernel⟩
local macro_rules | `(tactic| walk_at "bl") => `(tactic| first
  | refine e_callB (x := "len") (by assumption) b_len ?_
  | refine e_callB (x := "isinstance") (by assumption) b_isi ?_
  | refine e_callB (x := "abs") (by assumption) b_abs ?_
  | refine e_callB (x := "max") (by assumption) b_max ?_
  | refine e_callB (x := "min") (by assumption) b_min ?_
  | refine e_callTy (x := "str") (by assumption) b_str ?_
  | refine e_callTy (x := "int") (by assumption) b_int ?_)
local macro_rules | `(tactic| walk_at "gl") => `(tactic| first
  | refine e_bltn (x := "int") (v := .ty "int") (by assumption) b_int rfl ?_
  | refine e_bltn (x := "bool") (v := .ty "bool") (by assumption) b_bool rfl ?_
  | refine e_bltn (x := "str") (v := .ty "str") (by assumption) b_str rfl ?_
  | refine e_bltn (x := "tuple") (v := .ty "tuple") (by assumption) b_tuple rfl ?_
  | refine e_bltn (x := "list") (v := .ty "list") (by assumption) b_list rfl ?_)
local macro_rules | `(tactic| walk_at "st") => `(tactic| first
  | refine l_cons ?_
  | refine s_ret ?_
  | refine s_if ?_
  | refine s_set ?_
  | refine s_sub ?_
  | refine e_var ?_
  | refine e_int ?_
  | refine e_ix ?_
  | refine a_cons ?_
  | refine a_nil ?_
  | refine t_cmp ?_
  | refine t_not ?_
  | refine t_w (w_and ?_)
  | refine t_w (w_or ?_)
  | refine w_and ?_
  | refine w_or ?_
  | refine w_and1 ?_
  | refine w_or1 ?_
  | refine t_val ?_
  | refine e_str ?_
  | refine e_bl ?_
  | refine e_non ?_
  | refine e_bin ?_
  | refine e_cmp ?_
  | refine e_and ?_
  | refine e_or ?_
  | refine e_not ?_
  | refine e_one ?_
  | refine l_nil ?_
  | refine s_expr ?_
  | refine e_tup ?_
  | refine e_lst ?_
  | refine ⟨_, rfl, ?_⟩
  | ((with_reducible refine ite_t ?hc ?_); (case hc => exact rfl))
  | ((with_reducible refine ite_f ?hc ?_); (case hc => exact rfl))
  | refine o_add ?_
  | refine o_sub ?_
  | refine o_lt ?_
  | refine o_le ?_
  | refine o_gt ?_
  | refine o_ge ?_
  | refine o_eqI ?_
  | refine o_neI ?_
  | refine o_eqS ?_
  | refine o_neB ?_
  | refine o_isN ?_
  | refine o_nisB ?_
  | refine o_isB ?_
  | refine e_neg ?_
  | refine o_eqB ?_
  | refine c_int ?_
  | refine c_abs ?_
  | refine c_max rfl ?_
  | refine c_min rfl ?_
  | refine a_cons (e_fld ?_)
  | walk_at "bl"
  | walk_at "gl")
local macro_rules | `(tactic| walk_at "sts") => `(tactic| repeat walk_at "st")
section
variable {P : Program} {w : World} {K : PySem.W.Frag} {mg : Str → Option Value} {base : Heap}
def PoolAt (H : Hp) (a : Addr) : Prop := ∃ x y z : Int, H a = some (.lst [.int x, .int y, .int z])
def spCell (K : PySem.W.Frag) : Sp := fun vs H Q _ => ∃ (a : Addr) (ns : List Int) (k : Nat), vs = [.ref a, .int k] ∧ SqL K H a (ns.map V.int) ∧ ∀ z : Int, 0 ≤ z → Q (.int z) H
theorem ok_cell (T : Top K mg "_law_cell" s_cell) (mLen : mg "len" = none) (mAbs : mg "abs" = none) : Fn P w K mg base 1 "_law_cell" (spCell K) := by
  refine fn_ok T sc_cell so_cell (fun vs H Q E h => ?_) (fun _ _ _ _ _ _ us hl => match us, hl with | [_, _], _ => rfl) fun f cdv A outer s H vs Q E hr h nd => ?_
  · obtain ⟨a, ns, k, rfl, _⟩ := h
    rfl
  · obtain ⟨a, ns, k, rfl, hS, q⟩ := h
    walk_at "sts"
    refine c_lenL (by exact hS) ?_
    walk_at "sts"
    refine if2 (fun h => ?_) (fun h => ?_)
    · rw [List.length_map] at h
      have hk : k < ns.length := by omega
      walk_at "sts"
      refine ix_l (by exact hS) (atI_nat (v := .int ns[k]) (by simp [hk])) ?_
      walk_at "sts"
      exact q _ (by split <;> omega)
    · walk_at "sts"
      exact q _ (Int.le_refl _)
def spPool (K : PySem.W.Frag) : Sp := fun vs H Q _ => ∃ (a : Addr) (ns : List Int) (k : Nat), vs = [.ref a, .int k] ∧ SqL K H a (ns.map V.int) ∧ ∀ p H', Same H H' → H p = none → PoolAt H' p → Q (.ref p) H'
theorem ok_pool (T : Top K mg "_law_pool" s_pool) (F : Fn P w K mg base 1 "_law_cell" (spCell K)) (mInt : mg "int" = none) : Fn P w K mg base 2 "_law_pool" (spPool K) := by
  refine fn_ok T sc_pool so_pool (fun vs H Q E h => ?_) (fun _ _ _ _ _ _ us hl => match us, hl with | [_, _], _ => rfl) fun f cdv A outer s H vs Q E hr h nd => ?_
  · obtain ⟨a, ns, k, rfl, _⟩ := h
    rfl
  · obtain ⟨a, ns, k, rfl, hS, q⟩ := h
    walk_at "sts"
    refine e_call (by exact F) (by exact hr) (by decide) ?_
    walk_at "sts"
    refine ⟨a, ns, k, rfl, hS, fun z hz => ?_⟩
    walk_at "sts"
    refine o_pow ⟨by decide, by decide, by decide⟩ ?_
    walk_at "sts"
    refine if2 (fun h => ?_) (fun h => ?_)
    · walk_at "sts"
      refine o_mod (by decide) ?_
      walk_at "sts"
      refine ⟨by show 3 ≤ sizeLine; decide, fun p H2 e np hp => ?_⟩
      exact q p H2 e np ⟨_, _, _, hp⟩
    · walk_at "sts"
      refine ⟨by show 3 ≤ sizeLine; decide, fun p H2 e np hp => ?_⟩
      exact q p H2 e np ⟨_, _, _, hp⟩
def spNext : Sp := fun vs H Q _ => ∃ (a : Addr) (m : Int), vs = [.ref a, .int m] ∧ 0 < m ∧ m < 1073741824 ∧ PoolAt H a ∧ ∀ d H', 0 ≤ d → d < m → But a H H' → PoolAt H' a → Q (.int d) H'
theorem ok_next (T : Top K mg "_law_next" s_next) (mInt : mg "int" = none) : Fn P w K mg base 1 "_law_next" spNext := by
  refine fn_ok T sc_next so_next (fun vs H Q E h => ?_) (fun _ _ _ _ _ _ us hl => match us, hl with | [_, _], _ => rfl) fun f cdv A outer s H vs Q E hr h nd => ?_
  · obtain ⟨a, m, rfl, _⟩ := h
    rfl
  · obtain ⟨a, m, rfl, m0, m1, ⟨x, y, z, hp⟩, q⟩ := h
    walk_at "sts"
    refine ix_l (by exact SqL.of hp) rfl ?_
    walk_at "sts"
    refine if2 (fun h => ?_) (fun h => ?_)
    · walk_at "sts"
      refine ix_l (by exact SqL.of hp) rfl ?_
      walk_at "sts"
      refine o_mod m0 ?_
      walk_at "sts"
      refine ix_l (by exact SqL.of hp) rfl ?_
      walk_at "sts"
      refine o_fdiv ⟨m0, m1⟩ ?_
      walk_at "sts"
      refine set_l hp rfl ?_
      walk_at "sts"
      exact q _ _ (Int.emod_nonneg _ (by omega)) (Int.emod_lt_of_pos _ m0) (But.refl.upd) ⟨_, _, _, upd_same⟩
    · walk_at "sts"
      refine ix_l (by exact SqL.of hp) rfl ?_
      walk_at "sts"
      refine set_l hp rfl ?_
      walk_at "sts"
      refine ix_l (by exact SqL.of upd_same) rfl ?_
      walk_at "sts"
      refine ix_l (by exact SqL.of upd_same) rfl ?_
      walk_at "sts"
      refine o_mul (.inl (by decide)) ?_
      walk_at "sts"
      refine o_mod (by decide) ?_
      walk_at "sts"
      have b1 := Int.emod_nonneg (z + 7919 * (y + 1) + 13) (show (2147483647 : Int) ≠ 0 by decide)
      have b2 := Int.emod_lt_of_pos (z + 7919 * (y + 1) + 13) (show (0 : Int) < 2147483647 by decide)
      refine o_mul (.inl ⟨by omega, by omega⟩) ?_
      walk_at "sts"
      refine o_mod (by decide) ?_
      walk_at "sts"
      generalize (z + 7919 * (y + 1) + 13) % 2147483647 = u at *
      have c1 := Int.emod_nonneg (u * (u + 48271)) (show (2147483629 : Int) ≠ 0 by decide)
      have c2 := Int.emod_lt_of_pos (u * (u + 48271)) (show (0 : Int) < 2147483629 by decide)
      refine o_mul (.inl ⟨by omega, by omega⟩) ?_
      walk_at "sts"
      refine ix_l (by exact SqL.of upd_same) rfl ?_
      walk_at "sts"
      refine o_mul (.inl (by decide)) ?_
      walk_at "sts"
      refine o_mod (by decide) ?_
      walk_at "sts"
      refine o_fdiv (by decide) ?_
      walk_at "sts"
      refine o_mod m0 ?_
      walk_at "sts"
      exact q _ _ (Int.emod_nonneg _ (by omega)) (Int.emod_lt_of_pos _ m0) (But.refl.upd) ⟨_, _, _, upd_same⟩
end
theorem none_of {H H' : Hp} {p : Addr} (s : Same H H') (n : H' p = none) : H p = none := by
  cases hz : H p with
  | none => rfl
  | some o => exact absurd (s p o hz) (by rw [n]; intro z; cases z)
/-- all tuples stay -/
def TS (H H' : Hp) : Prop := ∀ t xs, H t = some (.tup xs) → H' t = some (.tup xs)
theorem Same.ts {H H' : Hp} (s : Same H H') : TS H H' := fun t xs h => s t _ h
theorem But.ts {a : Addr} {H H' : Hp} {l : List V} (b : But a H H') (ha : H a = some (.lst l)) : TS H H' := fun t xs h => b.tup ha h
theorem PoolAt.ts {a : Addr} {H H' : Hp} (h : PoolAt H a) (b : But a H H') : TS H H' := let ⟨_, _, _, e⟩ := h; But.ts b e
theorem TS.upd {a : Addr} {H : Hp} {l : List V} {o : HO} (ha : H a = some (.lst l)) : TS H (L2.upd H a o) := fun t xs h => by
  rw [upd_ne (ne_of h ha (by intro z; cases z))]
  exact h
theorem TS.trans {H H1 H2 : Hp} (a : TS H H1) (b : TS H1 H2) : TS H H2 := fun t xs h => b t xs (a t xs h)



/-! ### lists of lists, dicts of lists -/
def RsV (H : Hp) : List Addr → List (List Int) → Prop
  | [], L => L = []
  | b :: bs, L => ∃ r rs, L = r :: rs ∧ H b = some (.lst (iV r)) ∧ RsV H bs rs
theorem RsV.len {H : Hp} : ∀ {bs : List Addr} {L : List (List Int)}, RsV H bs L → bs.length = L.length
  | [], _, h => by rw [show _ = _ from h]; rfl
  | _ :: _, _, ⟨r, rs, h1, h2, h3⟩ => by rw [h1, List.length_cons, List.length_cons, h3.len]
theorem RsV.keep {H H' : Hp} : ∀ {bs : List Addr} {L : List (List Int)}, RsV H bs L → (∀ b ∈ bs, ∀ o, H b = some o → H' b = some o) → RsV H' bs L
  | [], _, h, _ => h
  | b :: bs, _, ⟨r, rs, h1, h2, h3⟩, e => ⟨r, rs, h1, e b List.mem_cons_self _ h2, h3.keep fun c hc => e c (List.mem_cons_of_mem _ hc)⟩
theorem RsV.get {H : Hp} : ∀ {bs : List Addr} {L : List (List Int)} {i : Nat} {b : Addr}, RsV H bs L → bs[i]? = some b → ∃ r, L[i]? = some r ∧ H b = some (.lst (iV r))
  | [], _, i, _, _, e => by cases i <;> cases e
  | b :: bs, _, 0, c, ⟨r, rs, h1, h2, h3⟩, e => by cases e; subst h1; exact ⟨r, rfl, h2⟩
  | b :: bs, _, i + 1, c, ⟨r, rs, h1, h2, h3⟩, e => by subst h1; exact h3.get (i := i) (by simpa using e)
theorem RsV.snoc {H : Hp} {b : Addr} {r : List Int} (hb : H b = some (.lst (iV r))) : ∀ {bs : List Addr} {L : List (List Int)}, RsV H bs L → RsV H (bs ++ [b]) (L ++ [r])
  | [], _, h => by rw [show _ = _ from h]; exact ⟨r, [], rfl, hb, rfl⟩
  | _ :: _, _, ⟨r0, rs, h1, h2, h3⟩ => by subst h1; exact ⟨r0, _, rfl, h2, RsV.snoc hb h3⟩
theorem RsV.vl {H : Hp} : ∀ {bs : List Addr} {L : List (List Int)} {b : Addr}, RsV H bs L → b ∈ bs → ∃ r, H b = some (.lst (iV r))
  | b :: bs, _, c, ⟨r, rs, h1, h2, h3⟩, m => by
    rcases List.mem_cons.mp m with rfl | m
    · exact ⟨r, h2⟩
    · exact h3.vl m
structure Rows (H : Hp) (a : Addr) (as : List Addr) (L : List (List Int)) : Prop where
  hd : H a = some (.lst (as.map V.ref))
  rs : RsV H as L
  nd : (a :: as).Nodup
theorem Rows.keep {H H' : Hp} {a : Addr} {as : List Addr} {L : List (List Int)} (h : Rows H a as L) (e : ∀ b ∈ a :: as, ∀ o, H b = some o → H' b = some o) : Rows H' a as L :=
  ⟨e _ List.mem_cons_self _ h.hd, h.rs.keep fun b hb => e b (List.mem_cons_of_mem _ hb), h.nd⟩
theorem Rows.same {H H' : Hp} {a : Addr} {as : List Addr} {L : List (List Int)} (h : Rows H a as L) (e : Same H H') : Rows H' a as L := h.keep fun b _ o z => e b o z
theorem Rows.get {H : Hp} {a : Addr} {as : List Addr} {L : List (List Int)} (h : Rows H a as L) {i : Nat} {r : List Int} (e : L[i]? = some r) : ∃ b, (as.map V.ref)[i]? = some (.ref b) ∧ H b = some (.lst (iV r)) := by
  have hi := (List.getElem?_eq_some_iff.mp e).1
  have hi2 : i < as.length := by rw [h.rs.len]; exact hi
  have eb : as[i]? = some as[i] := List.getElem?_eq_getElem hi2
  obtain ⟨r', e2, hb⟩ := h.rs.get eb
  rw [e] at e2
  cases e2
  exact ⟨as[i], by rw [List.getElem?_map, eb]; rfl, hb⟩
/-- the numbers of a row -/
abbrev FcT := List (Key × List Int)
def zk (F : FcT) (bs : List Addr) : List (Key × V) := List.zipWith (fun p b => (p.1, V.ref b)) F bs
structure Facts (H : Hp) (d : Addr) (bs : List Addr) (F : FcT) : Prop where
  hd : H d = some (.dK (zk F bs))
  rs : RsV H bs (F.map (·.2))
  kn : (F.map (·.1)).Nodup
  nd : (d :: bs).Nodup
theorem Facts.keep {H H' : Hp} {a : Addr} {as : List Addr} {F : FcT} (h : Facts H a as F) (e : ∀ b ∈ a :: as, ∀ o, H b = some o → H' b = some o) : Facts H' a as F :=
  ⟨e _ List.mem_cons_self _ h.hd, h.rs.keep fun b hb => e b (List.mem_cons_of_mem _ hb), h.kn, h.nd⟩
theorem Facts.same {H H' : Hp} {a : Addr} {as : List Addr} {F : FcT} (h : Facts H a as F) (e : Same H H') : Facts H' a as F := h.keep fun b _ o z => e b o z
theorem Facts.len {H : Hp} {a : Addr} {as : List Addr} {F : FcT} (h : Facts H a as F) : as.length = F.length := by rw [h.rs.len, List.length_map]
theorem zk_keys : ∀ (F : FcT) (bs : List Addr), bs.length = F.length → (zk F bs).map (·.1) = F.map (·.1)
  | [], _, _ => rfl
  | p :: F, b :: bs, h => by
    show p.1 :: (zk F bs).map (·.1) = _
    rw [zk_keys F bs (by simpa using h)]
    rfl
theorem zk_len (F : FcT) (bs : List Addr) (h : bs.length = F.length) : (zk F bs).length = F.length := by
  unfold zk
  rw [List.length_zipWith, h, Nat.min_self]
theorem zk_get {F : FcT} {bs : List Addr} {i : Nat} {y : Key} {v : V} (e : (zk F bs)[i]? = some (y, v)) : ∃ l b, F[i]? = some (y, l) ∧ bs[i]? = some b ∧ v = .ref b := by
  unfold zk at e
  rw [List.getElem?_zipWith] at e
  cases hF : F[i]? with
  | none => rw [hF] at e; cases e
  | some p =>
    cases hb : bs[i]? with
    | none => rw [hF, hb] at e; cases e
    | some b =>
      rw [hF, hb] at e
      cases e
      exact ⟨p.2, b, rfl, rfl, rfl⟩
theorem Facts.at {H : Hp} {d : Addr} {bs : List Addr} {F : FcT} (h : Facts H d bs F) {i : Nat} {y : Key} {v : V} (e : (zk F bs)[i]? = some (y, v)) : ∃ l b, F[i]? = some (y, l) ∧ v = .ref b ∧ bs[i]? = some b ∧ H b = some (.lst (iV l)) ∧ valV (zk F bs) y = some (.ref b) := by
  obtain ⟨l, b, e1, e2, rfl⟩ := zk_get e
  obtain ⟨r, e3, hb⟩ := h.rs.get e2
  rw [List.getElem?_map, e1] at e3
  cases e3
  refine ⟨l, b, e1, rfl, e2, hb, ?_⟩
  exact val_nodup (by rw [zk_keys _ _ h.len]; exact h.kn) (y, .ref b) (List.mem_of_getElem? e)
section
variable {P : Program} {w : World} {K : PySem.W.Frag} {mg : Str → Option Value} {base : Heap}
theorem take_snoc' {α : Type} {l : List α} {i : Nat} {x : α} (h : l[i]? = some x) : l.take (i + 1) = l.take i ++ [x] := by
  rw [List.take_add_one, h]
  rfl
theorem fresh_keep {D : Addr} {H H' : Hp} {o : HO} (n : H D = none) (e : Same H H') : Same H (upd H' D o) := fun c u hc => by rw [upd_ne (ne_of_none hc n)]; exact e _ _ hc
end



theorem nd_take {α : Type} {l : List α} (nd : l.Nodup) {i : Nat} {x : α} (h : l[i]? = some x) : x ∉ l.take i := by
  intro m
  obtain ⟨j, hj, e⟩ := List.mem_iff_getElem.mp m
  rw [List.length_take] at hj
  rw [List.getElem_take] at e
  obtain ⟨hi, e2⟩ := List.getElem?_eq_some_iff.mp h
  have := (List.getElem_inj nd).mp (e.trans e2.symm)
  omega
theorem zk_snoc (F : FcT) (bs : List Addr) (h : bs.length = F.length) (p : Key × List Int) (b : Addr) : zk (F ++ [p]) (bs ++ [b]) = zk F bs ++ [(p.1, V.ref b)] := by
  unfold zk
  rw [List.zipWith_append h.symm]
  rfl
theorem put_new {kvs : List (Key × V)} {k : Key} (v : V) (h : k ∉ kvs.map (·.1)) : putK kvs k v = kvs ++ [(k, v)] := by
  refine putK_new v ?_
  cases e : valV kvs k with
  | none => rfl
  | some w => exact absurd (valV_in e) h
theorem nd_snoc {l : List Addr} {c : Addr} (h : l.Nodup) (n : c ∉ l) : (l ++ [c]).Nodup := List.nodup_append.mpr ⟨h, by simp, fun x hx y hy z => n (by rw [List.mem_singleton.mp hy] at z; exact z ▸ hx)⟩
section
variable {P : Program} {w : World} {K : PySem.W.Frag} {mg : Str → Option Value} {base : Heap}
theorem at0 {x : V} {l : List V} : atI (x :: l) 0 = some x := atI_nat (j := 0) rfl
theorem at1 {x y : V} {l : List V} : atI (x :: y :: l) 1 = some y := atI_nat (j := 1) rfl
theorem chain_val {X : Cx} {e : Expr} {σ : L2.St} {H : Hp} {Q : VK} {R : V → Hp → Prop} {x y : Bool} (h : Q (.bl (x && y)) H) (hb : Q (.bl y) H → wE X e σ H R) : if x = true then wE X e σ H R else Q (.bl false) H := by
  cases x with
  | true => rw [if_pos rfl]; exact hb h
  | false => rw [if_neg Bool.false_ne_true]; exact h
def inR (n : Nat) (x : Int) : Bool := decide (0 ≤ x) && decide (x < n)
def shB (n : Nat) (r : List Int) : Bool := decide ((r.length : Int) = n) && r.all (inR n)
theorem map_bl {α : Type} (f : α → Bool) (l : List α) : (l.map fun x => V.bl (f x)) = (l.map f).map V.bl := by rw [List.map_map]; rfl
theorem all_id {α : Type} (f : α → Bool) (l : List α) : (l.map f).all id = l.all f := by rw [List.all_map]; rfl
def spShape : Sp := fun vs H Q _ => ∃ b r n, vs = [.ref b, .int ((n : Nat) : Int)] ∧ H b = some (.lst (iV r)) ∧ r.length ≤ 1000 ∧ ∀ H', Same H H' → Q (.bl (shB n r)) H'
theorem ok_shape (T : Top K mg "has_shape" s_has_shape) (mLen : mg "len" = none) (mAll : mg "all" = none) : Fn P w K mg base 1 "has_shape" spShape := by
  refine fn_okC T sc_has_shape so_has_shape (fun vs H Q E h => by obtain ⟨b, r, n, rfl, _⟩ := h; rfl) (fun _ _ _ _ _ _ us hl => match us, hl with | [_, _], _ => rfl) fun f cdv A outer s H vs Q E hr h nd => ?_
  obtain ⟨b, r, n, rfl, hb, hz, q⟩ := h
  refine l_cons (s_ret (e_and (e_cmp (e_callB (x := "len") (by assumption) b_len (a_cons (e_var (a_nil (c_lenL (by exact SqL.of hb) (e_var (o_eqI ⟨_, rfl, ?_⟩))))))))))
  rw [List.length_map]
  by_cases hl : (r.length : Int) = n
  · refine ifT hl (e_one (e_callB (x := "all") (by assumption) b_all (a_cons (e_lcL (by exact bk_has_shape0) (e_var ⟨b, _, rfl, SqL.of hb, fun D nD => ?_⟩)))))
    refine ⟨fun k H2 => H2 D = some (.lst ((r.take k).map fun x => V.bl (inR n x))) ∧ Same H H2, ⟨by rw [List.take_zero]; exact upd_same, fun c u hc => by rw [upd_ne (ne_of_none hc nD)]; exact hc⟩, fun k H2 _ p => SqL.of (p.2 _ _ hb), ?_, ?_⟩
    · intro k x H2 hx p s0 H0 C0 cl fp IB
      obtain ⟨p1, p2⟩ := p
      rw [List.getElem?_map] at hx
      obtain ⟨i, hi, rfl⟩ := Option.map_eq_some_iff.mp hx
      have hk := (List.getElem?_eq_some_iff.mp hi).1
      have fin : ∀ z : Bool, z = inR n i → ∃ acc, H2 D = some (.lst acc) ∧ acc.length < sizeLine ∧ upd H2 D (.lst (acc ++ [.bl z])) D = some (.lst ((r.take (k + 1)).map fun x => V.bl (inR n x))) ∧ Same H (upd H2 D (.lst (acc ++ [.bl z]))) := by
        intro z hz
        subst hz
        refine ⟨_, p1, by rw [List.length_map, List.length_take]; show _ < 2 ^ 24; omega, ?_, fresh_keep nD p2⟩
        rw [take_snoc' hi, List.map_append]
        exact upd_same
      refine e_chain (e_int (b_var (o_le ⟨_, rfl, ?_⟩)))
      by_cases h0 : 0 ≤ i
      · exact ifT h0 (b_var (o_lt (fin _ (by unfold inR; rw [decide_eq_true h0]; rfl))))
      · exact ifF h0 (fin _ (by unfold inR; rw [decide_eq_false h0]; rfl))
    · intro H2 p
      obtain ⟨p1, p2⟩ := p
      rw [List.length_map, List.take_length, map_bl] at p1
      refine a_nil (c_allL rfl (SqL.of p1) ?_)
      rw [all_id]
      have := q H2 p2
      unfold shB at this
      rw [decide_eq_true hl] at this
      exact this
  · refine ifF hl ?_
    have := q H (Same.refl _)
    unfold shB at this
    rw [decide_eq_false hl] at this
    exact this
end



theorem l_join {X : Cx} {st : Stmt} {rest : List Stmt} {C : _} {σ : L2.St} {H : Hp} (Pm : L2.St → Hp → Prop) (h1 : ∀ σ H, Pm σ H → wL X rest C σ H) (h2 : (∀ σ H, Pm σ H → wL X rest C σ H) → wL X (st :: rest) C σ H) : wL X (st :: rest) C σ H := h2 h1
def nr (L : List (List Int)) (a : Nat) : List Int := L.getD a []
def gg (L : List (List Int)) (a b : Nat) : Int := (nr L a).getD b 0
def SqP (L : List (List Int)) : Prop := ∀ r ∈ L, r.length = L.length ∧ ∀ x ∈ r, 0 ≤ x ∧ x < L.length
def GrpP (L : List (List Int)) : Prop := ∀ a b, a < L.length → b < L.length → nr L (gg L a b).toNat = (nr L b).map fun c => gg L a c.toNat
def OrdP (L : List (List Int)) : Prop := ∀ a b, a < L.length → b < a → gg L a b = gg L b a
def ShpP (L : List (List Int)) : Prop := L ≠ [] ∧ L.all (shB L.length) = true
def UntP (L : List (List Int)) : Prop := nr L 0 = (List.range L.length).map fun (k : Nat) => (k : Int)
def FctP (L : List (List Int)) (F : FcT) : Prop := F.all (fun p => p.2.all (inR L.length)) = true
open Classical in
noncomputable def flt (L : List (List Int)) (F : FcT) : Option Str :=
  if ¬ ShpP L then some ("shape" : Str) else if ¬ UntP L then some ("unit" : Str) else if ¬ OrdP L then some ("order" : Str) else if ¬ GrpP L then some ("grouping" : Str) else if ¬ FctP L F then some ("fact" : Str) else none
def vO : Option Str → V
  | none => .non
  | some z => .str z
open Classical in
noncomputable def grpB (L : List (List Int)) : Bool := decide (GrpP L)
open Classical in
theorem grp_t {L : List (List Int)} (h : GrpP L) : grpB L = true := decide_eq_true h
open Classical in
theorem grp_f {L : List (List Int)} (h : ¬ GrpP L) : grpB L = false := decide_eq_false h
theorem nr_at {L : List (List Int)} {a : Nat} {r : List Int} (h : L[a]? = some r) : nr L a = r := by unfold nr; rw [List.getD_eq_getElem?_getD, h]; rfl
theorem nr_get {L : List (List Int)} {a : Nat} (h : a < L.length) : L[a]? = some (nr L a) := by
  rw [List.getElem?_eq_getElem h]
  unfold nr
  rw [List.getD_eq_getElem?_getD, List.getElem?_eq_getElem h]
  rfl
theorem gg_get {L : List (List Int)} {a b : Nat} (h : b < (nr L a).length) : (nr L a)[b]? = some (gg L a b) := by
  rw [List.getElem?_eq_getElem h]
  unfold gg
  rw [List.getD_eq_getElem?_getD, List.getElem?_eq_getElem h]
  rfl
theorem sq_row {L : List (List Int)} (s : SqP L) {a : Nat} (h : a < L.length) : (nr L a).length = L.length := (s _ (List.mem_of_getElem? (nr_get h))).1
theorem sq_in {L : List (List Int)} (s : SqP L) {a b : Nat} (h : a < L.length) (h2 : b < L.length) : 0 ≤ gg L a b ∧ gg L a b < L.length := by
  have hl := sq_row s h
  exact (s _ (List.mem_of_getElem? (nr_get h))).2 _ (List.mem_of_getElem? (gg_get (by omega)))
theorem sq_of {L : List (List Int)} (h : ShpP L) : SqP L := by
  intro r hr
  have h2 := List.all_eq_true.mp h.2 r hr
  unfold shB at h2
  rw [Bool.and_eq_true] at h2
  refine ⟨by have := of_decide_eq_true h2.1; omega, fun x hx => ?_⟩
  have h3 := List.all_eq_true.mp h2.2 x hx
  unfold inR at h3
  rw [Bool.and_eq_true] at h3
  exact ⟨of_decide_eq_true h3.1, of_decide_eq_true h3.2⟩
theorem eqv_ints : ∀ xs ys : List Int, PyData.eqvAll (xs.map .int) (ys.map .int) = decide (xs = ys)
  | [], [] => rfl
  | [], _ :: _ => rfl
  | _ :: _, [] => rfl
  | x :: xs, y :: ys => by
    show ((x == y) && PyData.eqvAll (xs.map .int) (ys.map .int)) = _
    rw [eqv_ints xs ys]
    by_cases h : x = y
    · subst h; simp
    · simp [h]
theorem lay_ints : ∀ l : List Int, PyData.canLayAll0 (l.map .int) = true
  | [] => rfl
  | _ :: l => by show (true && PyData.canLayAll0 _) = true; rw [lay_ints l]; rfl
theorem sh_ints (l : List Int) : SeqAt.shaped (.list (l.map .int)) = true := by
  unfold SeqAt.shaped
  rw [Bool.and_eq_true]
  refine ⟨lay_ints l, decide_eq_true ?_⟩
  show PyData.depthAll _ + 1 ≤ 64
  rw [depth_ints]
  decide
/-- two lists of numbers -/
theorem o_neL {X : Cx} {H : Hp} {Q : VK} {n : Nat} {a b : Addr} {xs ys : List Int} (hr : Room n X.A) (h1 : SqL X.K H a (iV xs)) (h2 : SqL X.K H b (iV ys)) (q : Q (.bl (!decide (xs = ys))) H) : wK X .NotEq (.ref a) (.ref b) H Q := by
  refine o_neD hr (.lst h1 (dp_ints xs)) (.lst h2 (dp_ints ys)) (sh_ints xs) (sh_ints ys) ?_
  rw [show PyData.eqv (.list (xs.map .int)) (.list (ys.map .int)) = PyData.eqvAll (xs.map .int) (ys.map .int) from rfl, eqv_ints]
  exact q
theorem at_int {l : List V} {i : Int} {v : V} (h0 : 0 ≤ i) (h : l[i.toNat]? = some v) : atI l i = some v := by
  have : i = ((i.toNat : Nat) : Int) := by omega
  rw [this]
  exact atI_nat h
theorem iv_get {r : List Int} {i : Nat} {x : Int} (h : r[i]? = some x) : (iV r)[i]? = some (.int x) := by rw [List.getElem?_map, h]; rfl
section
variable {P : Program} {w : World} {K : PySem.W.Frag} {mg : Str → Option Value} {base : Heap}
theorem Rows.row {H : Hp} {a : Addr} {as : List Addr} {L : List (List Int)} (h : Rows H a as L) {i : Nat} (e : i < L.length) : ∃ b, (as.map V.ref)[i]? = some (.ref b) ∧ H b = some (.lst (iV (nr L i))) := h.get (nr_get e)
def spGrp : Sp := fun vs H Q _ => ∃ a as L, vs = [.ref a] ∧ Rows H a as L ∧ SqP L ∧ L.length ≤ 1000 ∧ ∀ H', Same H H' → Q (.bl (grpB L)) H'
theorem ok_grp (T : Top K mg "does_grouping_hold" s_does_grouping_hold) (mE : mg "enumerate" = none) : Fn P w K mg base 1 "does_grouping_hold" spGrp := by
  refine fn_okC T sc_does_grouping_hold so_does_grouping_hold (fun vs H Q E h => by obtain ⟨a, as, L, rfl, _⟩ := h; rfl) (fun _ _ _ _ _ _ us hl => match us, hl with | [_], _ => rfl) fun f cdv A outer s H vs Q E hr h nd => ?_
  obtain ⟨a, as, L, rfl, hr0, sq, hz, q⟩ := h
  have lL := hr0.rs.len
  refine l_cons (s_forE (by assumption) (e_var ⟨a, as.map V.ref, rfl, SqL.of hr0.hd, ?_⟩))
  refine ⟨fun k σ H' => ∃ x1 x2 x3 x4, σ = [some (.ref a), x1, x2, x3, x4, none] ∧ Same H H' ∧ ∀ a' < k, ∀ b < L.length, nr L (gg L a' b).toNat = (nr L b).map fun c => gg L a' c.toNat, ⟨none, none, none, none, rfl, Same.refl _, fun _ h => absurd h (Nat.not_lt_zero _)⟩, ?_, ?_, ?_⟩
  · intro k σ H' _ p
    obtain ⟨_, _, _, _, _, e, _⟩ := p
    exact SqL.of (e _ _ hr0.hd)
  · intro k u T1 σ H' hu p nT
    obtain ⟨x1, x2, x3, x4, rfl, e, hk⟩ := p
    have hkl : k < L.length := by have := (List.getElem?_eq_some_iff.mp hu).1; rw [List.length_map, lL] at this; exact this
    obtain ⟨bk, hbk, hbr⟩ := hr0.row hkl
    rw [hbk] at hu
    cases hu
    have e1 : Same H (upd H' T1 (.tup [.int ((k : Nat) : Int), .ref bk])) := fun c o hc => by rw [upd_ne (ne_of_none (e _ _ hc) nT)]; exact e _ _ hc
    generalize upd H' T1 (.tup [.int ((k : Nat) : Int), .ref bk]) = H1 at e1
    show wL _ _ _ [some (.ref a), some (.int (k : Int)), some (.ref bk), x3, x4, none] _
    refine l_cons (s_forE (by assumption) (e_var ⟨bk, _, rfl, SqL.of (e1 _ _ hbr), ?_⟩))
    refine ⟨fun j σ H' => ∃ x3 x4, σ = [some (.ref a), some (.int (k : Int)), some (.ref bk), x3, x4, none] ∧ Same H H' ∧ ∀ b < j, nr L (gg L k b).toNat = (nr L b).map fun c => gg L k c.toNat, ⟨x3, x4, rfl, e1, fun _ h => absurd h (Nat.not_lt_zero _)⟩, ?_, ?_, ?_⟩
    · intro j σ H' _ p
      obtain ⟨_, _, _, e, _⟩ := p
      exact SqL.of (e _ _ hbr)
    · intro j u T2 σ H' hu p nT
      obtain ⟨x3, x4, rfl, e, hj⟩ := p
      have hjl : j < L.length := by have := (List.getElem?_eq_some_iff.mp hu).1; rw [List.length_map, sq_row sq hkl] at this; exact this
      rw [iv_get (gg_get (by rw [sq_row sq hkl]; exact hjl))] at hu
      cases hu
      have e2 : Same H (upd H' T2 (.tup [.int ((j : Nat) : Int), .int (gg L k j)])) := fun c o hc => by rw [upd_ne (ne_of_none (e _ _ hc) nT)]; exact e _ _ hc
      generalize upd H' T2 (.tup [.int ((j : Nat) : Int), .int (gg L k j)]) = H2 at e2
      show wL _ _ _ [some (.ref a), some (.int (k : Int)), some (.ref bk), some (.int (j : Int)), some (.int (gg L k j)), none] _
      obtain ⟨g0, g1⟩ := sq_in sq hkl hjl
      obtain ⟨bf, hbf, hfr⟩ := hr0.row (i := (gg L k j).toNat) (by omega)
      obtain ⟨bj, hbj, hjr⟩ := hr0.row hjl
      refine l_cons (s_if (t_cmp (e_ix (e_var (e_var (ix_l (by exact SqL.of (e2 _ _ hr0.hd)) (at_int g0 hbf) ?_))))))
      refine e_lcL (by exact bk_does_grouping_hold0) (e_ix (e_var (e_var (ix_l (by exact SqL.of (e2 _ _ hr0.hd)) (atI_nat hbj) ⟨bj, _, rfl, SqL.of (e2 _ _ hjr), fun D nD => ?_⟩))))
      refine ⟨fun i H3 => H3 D = some (.lst (iV (((nr L j).take i).map fun c => gg L k c.toNat))) ∧ Same H2 H3, ⟨by rw [List.take_zero]; exact upd_same, fun c u hc => by rw [upd_ne (ne_of_none hc nD)]; exact hc⟩, fun i H3 _ p => SqL.of (p.2 _ _ (e2 _ _ hjr)), ?_, ?_⟩
      · intro i x H3 hx p s0 H0 C0 cl fp IB
        obtain ⟨p1, p2⟩ := p
        have e3 := e2.trans p2
        rw [List.getElem?_map] at hx
        obtain ⟨c, hc, rfl⟩ := Option.map_eq_some_iff.mp hx
        have hil := (List.getElem?_eq_some_iff.mp hc).1
        rw [sq_row sq hjl] at hil
        obtain ⟨c0, c1⟩ := (sq _ (List.mem_of_getElem? (nr_get hjl))).2 c (List.mem_of_getElem? hc)
        refine e_ix (e_ix (b_var (b_var (ix_l (by exact SqL.of (e3 _ _ hr0.hd)) (atI_nat hbk) (b_var (ix_l (by exact SqL.of (e3 _ _ hbr)) (at_int c0 (iv_get (gg_get (by rw [sq_row sq hkl]; omega)))) ?_))))))
        refine ⟨_, p1, by rw [List.length_map, List.length_map, List.length_take]; show _ < 2 ^ 24; omega, ?_, fresh_keep nD p2⟩
        have ei : iV (((nr L j).take (i + 1)).map fun c => gg L k c.toNat) = iV (((nr L j).take i).map fun c => gg L k c.toNat) ++ [V.int (gg L k c.toNat)] := by
          rw [take_snoc' hc, List.map_append]
          exact List.map_append
        rw [ei]
        exact upd_same
      · intro H3 p
        obtain ⟨p1, e23⟩ := p
        rw [List.length_map, List.take_length] at p1
        have e3 := e2.trans e23
        refine o_neL (n := 0) (by exact hr) (SqL.of (e3 _ _ hfr)) (SqL.of p1) ⟨_, rfl, ?_⟩
        by_cases hq : nr L (gg L k j).toNat = (nr L j).map fun c => gg L k c.toNat
        · rw [decide_eq_true hq]
          refine iteF (l_nil (l_nil ⟨_, _, rfl, e3, fun b hb => ?_⟩))
          by_cases hbj : b = j
          · subst hbj; exact hq
          · exact hj b (by omega)
        · rw [decide_eq_false hq]
          refine iteT (l_cons (s_ret (e_bl ?_)))
          have := q H3 e3
          rw [grp_f fun hg => hq (hg k j hkl hjl)] at this
          exact this
    · intro σ H' p
      obtain ⟨x3, x4, rfl, e, hj⟩ := p
      rw [List.length_map, sq_row sq hkl] at hj
      refine l_nil ⟨_, _, _, _, rfl, e, fun a' ha b hb => ?_⟩
      by_cases hak : a' = k
      · subst hak; exact hj b hb
      · exact hk a' (by omega) b hb
  · intro σ H' p
    obtain ⟨x1, x2, x3, x4, rfl, e, hk⟩ := p
    rw [List.length_map, lL] at hk
    refine l_cons (s_ret (e_bl ?_))
    have := q H' e
    rw [grp_t fun a' b ha hb => hk a' ha b hb] at this
    exact this
end



open Classical in
theorem flt_shape {L : List (List Int)} {F : FcT} (h : ¬ ShpP L) : flt L F = some ("shape" : Str) := if_pos h
open Classical in
theorem flt_unit {L : List (List Int)} {F : FcT} (h1 : ShpP L) (h : ¬ UntP L) : flt L F = some ("unit" : Str) := by
  unfold flt
  rw [if_neg (not_not_intro h1), if_pos h]
open Classical in
theorem flt_order {L : List (List Int)} {F : FcT} (h1 : ShpP L) (h2 : UntP L) (h : ¬ OrdP L) : flt L F = some ("order" : Str) := by
  unfold flt
  rw [if_neg (not_not_intro h1), if_neg (not_not_intro h2), if_pos h]
open Classical in
theorem flt_group {L : List (List Int)} {F : FcT} (h1 : ShpP L) (h2 : UntP L) (h3 : OrdP L) (h : ¬ GrpP L) : flt L F = some ("grouping" : Str) := by
  unfold flt
  rw [if_neg (not_not_intro h1), if_neg (not_not_intro h2), if_neg (not_not_intro h3), if_pos h]
open Classical in
theorem flt_fact {L : List (List Int)} {F : FcT} (h1 : ShpP L) (h2 : UntP L) (h3 : OrdP L) (h4 : GrpP L) (h : ¬ FctP L F) : flt L F = some ("fact" : Str) := by
  unfold flt
  rw [if_neg (not_not_intro h1), if_neg (not_not_intro h2), if_neg (not_not_intro h3), if_neg (not_not_intro h4), if_pos h]
open Classical in
theorem flt_none {L : List (List Int)} {F : FcT} (h1 : ShpP L) (h2 : UntP L) (h3 : OrdP L) (h4 : GrpP L) (h : FctP L F) : flt L F = none := by
  unfold flt
  rw [if_neg (not_not_intro h1), if_neg (not_not_intro h2), if_neg (not_not_intro h3), if_neg (not_not_intro h4), if_neg (not_not_intro h)]
def SzP (L : List (List Int)) (F : FcT) : Prop := L.length ≤ 1000 ∧ (∀ r ∈ L, r.length ≤ 1000) ∧ F.length ≤ 1000 ∧ ∀ p ∈ F, p.2.length ≤ 1000
theorem rg_iV (n : Nat) : ((List.range n).map fun (k : Nat) => V.int (k : Int)) = iV ((List.range n).map fun (k : Nat) => (k : Int)) := by rw [iV, List.map_map]; rfl
section
variable {P : Program} {w : World} {K : PySem.W.Frag} {mg : Str → Option Value} {base : Heap}
def spFault : Sp := fun vs H Q _ => ∃ a d as bs L F, vs = [.ref a, .ref d] ∧ Rows H a as L ∧ Facts H d bs F ∧ SzP L F ∧ ∀ H', Same H H' → Q (vO (flt L F)) H'
theorem ok_fault (T : Top K mg "fault_of" s_fault_of) (mLen : mg "len" = none) (mAll : mg "all" = none) (mL : mg "list" = none) (mR : mg "range" = none) (FS : Fn P w K mg base 1 "has_shape" spShape) (FG : Fn P w K mg base 1 "does_grouping_hold" spGrp) : Fn P w K mg base 2 "fault_of" spFault := by
  refine fn_okC T sc_fault_of so_fault_of (fun vs H Q E h => by obtain ⟨a, d, as, bs, L, F, rfl, _⟩ := h; rfl) (fun _ _ _ _ _ _ us hl => match us, hl with | [_, _], _ => rfl) fun f cdv A outer s H vs Q E hr h nd => ?_
  obtain ⟨a, d, as, bs, L, F, rfl, hr0, hf0, ⟨z1, z2, z3, z4⟩, q⟩ := h
  have lL := hr0.rs.len
  refine l_cons (s_set (e_callB (x := "len") (by assumption) b_len (a_cons (e_var (a_nil (c_lenL (by exact SqL.of hr0.hd) ?_))))))
  rw [List.length_map, lL]
  show wL _ _ _ [some (.ref a), some (.ref d), some (.int (L.length : Int)), none, none, none, none, none] _
  -- behind the shape
  refine l_join (fun σ H' => σ = [some (.ref a), some (.ref d), some (.int (L.length : Int)), none, none, none, none, none] ∧ Same H H' ∧ ShpP L) ?_ fun go => ?_
  · intro σ H1 ⟨hσ, e1, hsh⟩
    subst hσ
    have sq := sq_of hsh
    have hpos : 0 < L.length := List.length_pos_iff.mpr hsh.1
    obtain ⟨b0, hb0, hr00⟩ := hr0.row hpos
    refine l_cons (s_if (t_cmp (e_ix (e_var (e_int (ix_l (by exact SqL.of (e1 _ _ hr0.hd)) (atI_nat hb0) ?_))))))
    refine e_listRg (by assumption) (by assumption) (e_var ⟨L.length, rfl, by omega, fun l nl => ?_⟩)
    rw [rg_iV]
    have e2 : Same H1 (upd H1 l (.lst (iV ((List.range L.length).map fun (k : Nat) => (k : Int))))) := fun c u hc => by rw [upd_ne (ne_of_none hc nl)]; exact hc
    refine o_neL (n := 1) (by exact hr) (SqL.of (e2 _ _ (e1 _ _ hr00))) (SqL.of upd_same) ⟨_, rfl, ?_⟩
    have e12 := e1.trans e2
    generalize upd H1 l (.lst (iV ((List.range L.length).map fun (k : Nat) => (k : Int)))) = H2 at e12
    by_cases hu : UntP L
    · rw [decide_eq_true (show nr L 0 = _ from hu)]
      refine iteF (l_nil ?_)
      -- the order
      refine l_cons (s_forR (by assumption) (e_var ⟨L.length, rfl, by omega, fun k σ H' => ∃ x3 x4, σ = [some (.ref a), some (.ref d), some (.int (L.length : Int)), x3, x4, none, none, none] ∧ Same H H' ∧ ∀ a' < k, ∀ b < a', gg L a' b = gg L b a', ⟨none, none, rfl, e12, fun _ h => absurd h (Nat.not_lt_zero _)⟩, ?_, ?_⟩))
      · intro k σ H' hk p
        obtain ⟨x3, x4, rfl, e, ho⟩ := p
        show wL _ _ _ [some (.ref a), some (.ref d), some (.int (L.length : Int)), some (.int (k : Int)), x4, none, none, none] _
        refine l_cons (s_forR (by assumption) (e_var ⟨k, rfl, by omega, fun j σ H' => ∃ x4, σ = [some (.ref a), some (.ref d), some (.int (L.length : Int)), some (.int (k : Int)), x4, none, none, none] ∧ Same H H' ∧ ∀ b < j, gg L k b = gg L b k, ⟨x4, rfl, e, fun _ h => absurd h (Nat.not_lt_zero _)⟩, ?_, ?_⟩))
        · intro j σ H' hj p
          obtain ⟨x4, rfl, e, ho2⟩ := p
          have hjl : j < L.length := by omega
          show wL _ _ _ [some (.ref a), some (.ref d), some (.int (L.length : Int)), some (.int (k : Int)), some (.int (j : Int)), none, none, none] _
          obtain ⟨bk, hbk, hkr⟩ := hr0.row hk
          obtain ⟨bj, hbj, hjr⟩ := hr0.row hjl
          refine l_cons (s_if (t_cmp (e_ix (e_ix (e_var (e_var (ix_l (by exact SqL.of (e _ _ hr0.hd)) (atI_nat hbk) (e_var (ix_l (by exact SqL.of (e _ _ hkr)) (atI_nat (iv_get (gg_get (by rw [sq_row sq hk]; exact hjl)))) ?_)))))))))
          refine e_ix (e_ix (e_var (e_var (ix_l (by exact SqL.of (e _ _ hr0.hd)) (atI_nat hbj) (e_var (ix_l (by exact SqL.of (e _ _ hjr)) (atI_nat (iv_get (gg_get (by rw [sq_row sq hjl]; exact hk)))) ?_))))))
          refine o_neI ⟨_, rfl, ?_⟩
          by_cases hq : gg L k j = gg L j k
          · rw [decide_eq_true hq]
            refine iteF (l_nil (l_nil ⟨_, rfl, e, fun b hb => ?_⟩))
            by_cases hbj : b = j
            · subst hbj; exact hq
            · exact ho2 b (by omega)
          · rw [decide_eq_false hq]
            refine iteT (l_cons (s_ret (e_str ?_)))
            have := q H' e
            rw [flt_order hsh hu fun hg => hq (hg k j hk hj)] at this
            exact this
        · intro σ H' p
          obtain ⟨x4, rfl, e, ho2⟩ := p
          refine l_nil ⟨_, _, rfl, e, fun a' ha b hb => ?_⟩
          by_cases hak : a' = k
          · subst hak; exact ho2 b hb
          · exact ho a' (by omega) b hb
      · intro σ H3 p
        obtain ⟨x3, x4, rfl, e3, ho⟩ := p
        have hord : OrdP L := fun a' b ha hb => ho a' ha b hb
        refine l_cons (s_if (t_not (t_val (e_call (by exact FG) (by exact hr) (by decide) ?_))))
        walk_at "sts"
        refine ⟨a, as, L, rfl, hr0.same e3, sq, z1, fun H4 e4 => ⟨_, rfl, ?_⟩⟩
        have e34 := e3.trans e4
        by_cases hg : GrpP L
        · rw [grp_t hg]
          refine iteF (l_nil ?_)
          have hd4 := e34 _ _ hf0.hd
          refine l_cons (s_forD hd4 fun o => e_var ⟨rfl, upd_same, ?_⟩)
          refine ⟨fun k σ H' => ∃ x5, σ = [some (.ref a), some (.ref d), some (.int (L.length : Int)), x3, x4, x5, none, none] ∧ H' d = some (.frz o (.dK (zk F bs))) ∧ (∀ c u, c ≠ d → H c = some u → H' c = some u) ∧ ∀ p ∈ F.take k, p.2.all (inR L.length) = true, ⟨none, rfl, upd_same, fun c u nc hc => by rw [upd_ne nc]; exact e34 _ _ hc, by simp⟩, ?_, ?_, ?_⟩
          · intro k σ H' _ p
            obtain ⟨_, _, p1, _⟩ := p
            exact p1
          · intro k y v σ H' hky p
            obtain ⟨x5, rfl, p1, p2, p3⟩ := p
            obtain ⟨l, b, hF, rfl, hb, hbl, hv⟩ := hf0.at hky
            have lz := z4 _ (List.mem_of_getElem? hF)
            have nbd : b ≠ d := fun z => by subst z; rw [hf0.hd] at hbl; cases hbl
            have hb' := p2 _ _ nbd hbl
            have gb : DGet H' d (kV y) (some (.ref b)) := by rw [← hv]; exact dg_F p1
            show wL _ _ _ [some (.ref a), some (.ref d), some (.int (L.length : Int)), x3, x4, some (kV y), none, none] _
            refine l_cons (s_if (t_not (t_val (e_callB (x := "all") (by assumption) b_all (a_cons (e_lcL (by exact bk_fault_of1) (e_dg (n := 1) (by exact hr) (e_var (e_var ⟨d, _, rfl, gb, b, _, rfl, SqL.of hb', fun D nD => ?_⟩)))))))))
            refine ⟨fun i H2 => H2 D = some (.lst ((l.take i).map fun x => V.bl (inR L.length x))) ∧ Same H' H2, ⟨by rw [List.take_zero]; exact upd_same, fun c u hc => by rw [upd_ne (ne_of_none hc nD)]; exact hc⟩, fun i H2 _ p => SqL.of (p.2 _ _ hb'), ?_, ?_⟩
            · intro i x H2 hx p s0 H0 C0 cl fp IB
              obtain ⟨r1, r2⟩ := p
              rw [List.getElem?_map] at hx
              obtain ⟨y0, hy0, rfl⟩ := Option.map_eq_some_iff.mp hx
              have hil := (List.getElem?_eq_some_iff.mp hy0).1
              have fin : ∀ z : Bool, z = inR L.length y0 → ∃ acc, H2 D = some (.lst acc) ∧ acc.length < sizeLine ∧ upd H2 D (.lst (acc ++ [.bl z])) D = some (.lst ((l.take (i + 1)).map fun x => V.bl (inR L.length x))) ∧ Same H' (upd H2 D (.lst (acc ++ [.bl z]))) := by
                intro z hz
                subst hz
                refine ⟨_, r1, by rw [List.length_map, List.length_take]; show _ < 2 ^ 24; have : l.length ≤ 1000 := lz; omega, ?_, fresh_keep nD r2⟩
                rw [take_snoc' hy0, List.map_append]
                exact upd_same
              refine e_chain (e_int (b_var (o_le ⟨_, rfl, ?_⟩)))
              by_cases h0 : 0 ≤ y0
              · exact ifT h0 (b_var (o_lt (fin _ (by unfold inR; rw [decide_eq_true h0]; rfl))))
              · exact ifF h0 (fin _ (by unfold inR; rw [decide_eq_false h0]; rfl))
            · intro H2 p
              obtain ⟨r1, r2⟩ := p
              rw [List.length_map, List.take_length, map_bl] at r1
              refine a_nil (c_allL rfl (SqL.of r1) ⟨_, rfl, ?_⟩)
              rw [all_id]
              have keep2 : ∀ c u, c ≠ d → H c = some u → H2 c = some u := fun c u nc hc => r2 _ _ (p2 c u nc hc)
              cases hall : l.all (inR L.length) with
              | true =>
                refine iteF (l_nil (l_nil ⟨_, rfl, r2 _ _ p1, keep2, fun p hp => ?_⟩))
                rw [take_snoc' hF] at hp
                rcases List.mem_append.mp hp with hp | hp
                · exact p3 p hp
                · rw [List.mem_singleton.mp hp]; exact hall
              | false =>
                refine iteT (l_cons (s_ret (e_str ⟨r2 _ _ p1, ?_⟩)))
                have := q (upd H2 d (.dK (zk F bs))) fun c u hc => by
                  by_cases e : c = d
                  · subst e; rw [upd_same]; rw [hf0.hd] at hc; exact hc
                  · rw [upd_ne e]; exact keep2 c u e hc
                rw [flt_fact hsh hu hord hg fun hfc => by
                  have := List.all_eq_true.mp hfc _ (List.mem_of_getElem? hF)
                  have h2 : l.all (inR L.length) = true := this
                  rw [hall] at h2
                  cases h2] at this
                exact this
          · intro σ H' p
            obtain ⟨x5, rfl, p1, p2, p3⟩ := p
            rw [zk_len _ _ hf0.len, List.take_length] at p3
            refine l_cons (s_ret (e_non ?_))
            have := q (upd H' d (.dK (zk F bs))) fun c u hc => by
              by_cases e : c = d
              · subst e; rw [upd_same]; rw [hf0.hd] at hc; exact hc
              · rw [upd_ne e]; exact p2 c u e hc
            rw [flt_none hsh hu hord hg (List.all_eq_true.mpr p3)] at this
            exact this
        · rw [grp_f hg]
          refine iteT (l_cons (s_ret (e_str ?_)))
          have := q H4 e34
          rw [flt_group hsh hu hord hg] at this
          exact this
    · rw [decide_eq_false (show ¬ nr L 0 = _ from hu)]
      refine iteT (l_cons (s_ret (e_str ?_)))
      have := q H2 e12
      rw [flt_unit hsh hu] at this
      exact this
  · refine l_cons (s_if (t_w (w_or (t_cmp (e_var (e_int (o_eqI ⟨_, rfl, ?_⟩)))))))
    by_cases hn : L = []
    · subst hn
      refine ite_t rfl (ite_t rfl (l_cons (s_ret (e_str ?_))))
      have := q H (Same.refl _)
      rw [flt_shape fun h => h.1 rfl] at this
      exact this
    · have hpos : 0 < L.length := List.length_pos_iff.mpr hn
      refine ifF (by omega) (w_or1 (t_not (t_val (e_callB (x := "all") (by assumption) b_all (a_cons (e_lcL (by exact bk_fault_of0) (e_var ⟨a, _, rfl, SqL.of hr0.hd, fun D nD => ?_⟩)))))))
      refine ⟨fun k H2 => H2 D = some (.lst ((L.take k).map fun r => V.bl (shB L.length r))) ∧ Same H H2, ⟨by rw [List.take_zero]; exact upd_same, fun c u hc => by rw [upd_ne (ne_of_none hc nD)]; exact hc⟩, fun k H2 _ p => SqL.of (p.2 _ _ hr0.hd), ?_, ?_⟩
      · intro k x H2 hx p s0 H0 C0 cl fp IB
        obtain ⟨p1, p2⟩ := p
        have hkl : k < L.length := by have := (List.getElem?_eq_some_iff.mp hx).1; rw [List.length_map, lL] at this; exact this
        obtain ⟨b, hb, hbr⟩ := hr0.row hkl
        rw [hb] at hx
        cases hx
        refine b_call (by exact FS) (by exact hr) (by decide) (a_cons (b_var (a_cons (b_var (a_nil ?_)))))
        refine ⟨b, nr L k, L.length, rfl, p2 _ _ hbr, z2 _ (List.mem_of_getElem? (nr_get hkl)), fun H3 e3 => ⟨_, e3 _ _ p1, by rw [List.length_map, List.length_take]; show _ < 2 ^ 24; omega, ?_, fresh_keep nD (p2.trans e3)⟩⟩
        rw [take_snoc' (nr_get hkl), List.map_append]
        exact upd_same
      · intro H2 p
        obtain ⟨p1, p2⟩ := p
        rw [List.length_map, lL, List.take_length, map_bl] at p1
        refine a_nil (c_allL rfl (SqL.of p1) ⟨_, rfl, ?_⟩)
        rw [all_id]
        cases hall : L.all (shB L.length) with
        | true => exact iteF (l_nil (go _ H2 ⟨rfl, p2, hn, hall⟩))
        | false =>
          refine iteT (l_cons (s_ret (e_str ?_)))
          have := q H2 p2
          rw [flt_shape fun h => by have h2 := h.2; rw [hall] at h2; cases h2] at this
          exact this
end



theorem o_nisN {X : Cx} {H : Hp} {Q : VK} {x : V} (q : Q (.bl (!decide (x = .non))) H) : wK X .IsNot x .non H Q := k_of op_notN ⟨rfl, q⟩
theorem pf : ¬ (("products" : Str) = "facts") := by decide +kernel
def wfl (a d : Addr) : List (Str × V) := putF "facts" (.ref d) (putF "products" (.ref a) [])
theorem wfl_p (a d : Addr) : (wfl a d).lookup ("products" : Str) = some (.ref a) := by
  unfold wfl
  rw [lookup_putF, if_neg pf, lookup_putF, if_pos rfl]
theorem wfl_f (a d : Addr) : (wfl a d).lookup ("facts" : Str) = some (.ref d) := by
  unfold wfl
  rw [lookup_putF, if_pos rfl]
theorem wfl_no (a d : Addr) {m : Str} (h1 : ¬ m = "facts") (h2 : ¬ m = "products") : (wfl a d).lookup m = none := by
  unfold wfl
  rw [lookup_putF, if_neg h1, lookup_putF, if_neg h2]
  rfl
structure WOk (K : PySem.W.Frag) (mg : Str → Option Value) (C : Addr) : Prop where
  cl : Cls K C
  nP : NoAttr K C "products"
  nF : NoAttr K C "facts"
  mks : PySem.W.makesIn K C = true
  kp : PySem.W.keepIn K (.ref C) = true
  mg : mg "World" = some (.ref C)
def WorldAt (C : Addr) (H : Hp) (p a d : Addr) (as bs : List Addr) (L : List (List Int)) (F : FcT) : Prop := (∃ dx, H p = some (.ins C dx (wfl a d))) ∧ Rows H a as L ∧ Facts H d bs F
section
variable {P : Program} {w : World} {K : PySem.W.Frag} {mg : Str → Option Value} {base : Heap} {C CB : Addr}
theorem ok_bw (T : TopM K CB "__init__" "BadWorld.__init__" s_BadWorld___init) (O : OexC K CB) (no : PySem.W.findIn K (.ref CB) "reason" = some none) (hm : mg "BadWorld" = some (.ref CB)) : Er P w K mg base "BadWorld" CB "reason" := by
  obtain ⟨f, fd, F, hb, hf, hi, hk⟩ := me_ok (P := P) (w := w) (mg := mg) (base := base) (k := 0) (sp := sp1 CB "reason") T sc_BadWorld___init so_BadWorld___init (fun vs H Q E h => by obtain ⟨a, v, rfl, _⟩ := h; rfl) (fun _ _ _ _ _ _ us hl => match us, hl with | [_, _], _ => rfl) fun f cdv A outer s H vs Q E hr h nd => by
    obtain ⟨a, v, rfl, ha, q⟩ := h
    refine l_cons (s_ost ?_)
    walk_at "sts"
    refine ⟨a, CB, rfl, O, no, ha, fun dx nd ne => ?_⟩
    refine l_nil ?_
    exact q dx nd ne
  exact ⟨O, hm, f, fd, _, F, hf, beq_iff_eq.mp hi, hb⟩
def spWInit (C CB : Addr) : Sp := fun vs H Q E => ∃ p dx a d as bs L F, vs = [.ref p, .ref a, .ref d] ∧ H p = some (.ins C dx []) ∧ Rows H a as L ∧ Facts H d bs F ∧ SzP L F ∧
  ((flt L F = none ∧ ∀ a' d' as' bs' H', But p H H' → (∀ b ∈ a' :: as', H b = none) → (∀ b ∈ d' :: bs', H b = none) → WorldAt C H' p a' d' as' bs' L F → Q .non H') ∨
   (∃ z, flt L F = some z ∧ ∀ dd H', But p H H' → H' dd = some (.xd [("reason", .str z)]) → E (.ref CB) (some dd) H'))
theorem ok_winit (T : TopM K C "__init__" "World.__init__" s_World___init) (O : WOk K mg C) (mL : mg "list" = none) (FF : Fn P w K mg base 2 "fault_of" spFault) (ER : Er P w K mg base "BadWorld" CB "reason") : KlN P w K mg base 3 "World" C (spWInit C CB) := by
  obtain ⟨f, fd, FN, hb, hf, hi, hk⟩ := me_okN (P := P) (w := w) (mg := mg) (base := base) (k := 2) (sp := spWInit C CB) T sc_World___init so_World___init (fun vs H Q E h => by obtain ⟨p, dx, a, d, as, bs, L, F, rfl, _⟩ := h; rfl) (fun _ _ _ _ _ _ us hl => match us, hl with | [_, _, _], _ => rfl) fun f cdv A outer s H vs Q E hr h nd tk => by
    obtain ⟨p, dx, a, d, as, bs, L, F, rfl, hp, hr0, hf0, hsz, q⟩ := h
    obtain ⟨z1, z2, z3, z4⟩ := id hsz
    have lL := hr0.rs.len
    have lF := hf0.len
    have npa : ∀ b ∈ a :: as, b ≠ p := fun b hb z => by
      subst z
      rcases List.mem_cons.mp hb with rfl | hb
      · rw [hr0.hd] at hp; cases hp
      · obtain ⟨r, hr⟩ := hr0.rs.vl hb; rw [hr] at hp; cases hp
    have npd : ∀ b ∈ d :: bs, b ≠ p := fun b hb z => by
      subst z
      rcases List.mem_cons.mp hb with rfl | hb
      · rw [hf0.hd] at hp; cases hp
      · obtain ⟨r, hr⟩ := hf0.rs.vl hb; rw [hr] at hp; cases hp
    -- the rows
    refine l_cons (s_fld (e_lcL (by exact bk_World___init0) (e_var ⟨a, as.map V.ref, rfl, SqL.of hr0.hd, fun D nD => ?_⟩)))
    refine ⟨fun k H2 => ∃ cs, H2 D = some (.lst (cs.map V.ref)) ∧ RsV H2 cs (L.take k) ∧ (D :: cs).Nodup ∧ (∀ b ∈ cs, H b = none) ∧ Same H H2, ⟨[], upd_same, by rw [List.take_zero]; exact rfl, by simp, by simp, fun c u hc => by rw [upd_ne (ne_of_none hc nD)]; exact hc⟩, fun k H2 _ p => by obtain ⟨_, _, _, _, _, e⟩ := p; exact SqL.of (e _ _ hr0.hd), ?_, ?_⟩
    · intro k x H2 hx p s0 H0 C0 cl fp IB
      obtain ⟨cs, p1, p2, p3, p4, p5⟩ := p
      rw [List.getElem?_map] at hx
      obtain ⟨b, hb, rfl⟩ := Option.map_eq_some_iff.mp hx
      obtain ⟨r, hr1, hrb⟩ := hr0.rs.get hb
      have hk := (List.getElem?_eq_some_iff.mp hr1).1
      have lcs := p2.len
      rw [List.length_take] at lcs
      refine b_callTy (x := "list") (by assumption) b_list (a_cons (b_var (a_nil (c_listL (p5 _ _ hrb) fun c H3 e3 n3 h3 => ?_))))
      have ncD : c ≠ D := fun z => by subst z; rw [p1] at n3; cases n3
      have nm : c ∉ cs := fun m => by obtain ⟨r, hr⟩ := p2.vl m; rw [hr] at n3; cases n3
      refine ⟨cs.map V.ref, e3 _ _ p1, by rw [List.length_map]; show _ < 2 ^ 24; omega, cs ++ [c], by rw [List.map_append]; exact upd_same, ?_, nd_snoc (l := D :: cs) p3 (fun m => by
        rcases List.mem_cons.mp m with m | m
        · exact ncD m
        · exact nm m), ?_, fun x u hx => by rw [upd_ne (ne_of_none hx nD)]; exact e3 _ _ (p5 _ _ hx)⟩
      · rw [take_snoc' hr1]
        refine RsV.snoc (by rw [upd_ne ncD]; exact h3) (p2.keep fun b hb o z => ?_)
        rw [upd_ne (fun z2 => by subst z2; exact (List.nodup_cons.mp p3).1 hb)]
        exact e3 _ _ z
      · intro x hx
        rcases List.mem_append.mp hx with hx | hx
        · exact p4 x hx
        · rw [List.mem_singleton.mp hx]
          exact none_of p5 n3
    intro H2 p2
    obtain ⟨cs, p1, p2, p3, p4, e2⟩ := p2
    rw [List.length_map, lL, List.take_length] at p2
    have hR2 : Rows H2 D cs L := ⟨p1, p2, p3⟩
    have fD : ∀ b ∈ D :: cs, H b = none := fun b hb => by rcases List.mem_cons.mp hb with rfl | hb; exact nD; exact p4 b hb
    have nDp : ∀ b ∈ D :: cs, b ≠ p := fun b hb z => by subst z; rw [fD _ hb] at hp; cases hp
    refine e_var ⟨p, C, dx, _, rfl, e2 _ _ hp, O.cl, O.nP, by show 0 < 1000; decide, ?_⟩
    have hp3 : upd H2 p (.ins C dx (putF "products" (.ref D) [])) p = some (.ins C dx (putF "products" (.ref D) [])) := upd_same
    have b3 : But p H (upd H2 p (.ins C dx (putF "products" (.ref D) []))) := fun c o nc hc => by rw [upd_ne nc]; exact e2 _ _ hc
    have hR3 : Rows (upd H2 p (.ins C dx (putF "products" (.ref D) []))) D cs L := hR2.keep fun b hb o z => by rw [upd_ne (nDp b hb)]; exact z
    generalize upd H2 p (.ins C dx (putF "products" (.ref D) [])) = H3 at hp3 b3 hR3
    have hf3 : Facts H3 d bs F := hf0.keep fun b hb o z => b3 _ _ (npd b hb) z
    -- the facts
    refine l_cons (s_fld (e_dcD (by exact bk_World___init1) hf3.hd fun o => e_var ⟨rfl, upd_same, fun G nG => ?_⟩))
    have nGd : G ≠ d := fun z => by subst z; rw [upd_same] at nG; cases nG
    rw [upd_ne nGd] at nG
    refine ⟨fun k H' => ∃ ds, H' d = some (.frz o (.dK (zk F bs))) ∧ H' G = some (.dK (zk (F.take k) ds)) ∧ RsV H' ds ((F.take k).map (·.2)) ∧ (G :: ds).Nodup ∧ (∀ b ∈ ds, H3 b = none) ∧ ∀ c u, c ≠ d → H3 c = some u → H' c = some u, ⟨[], by rw [upd_ne (Ne.symm nGd)]; exact upd_same, by rw [List.take_zero]; exact upd_same, by rw [List.take_zero]; exact rfl, by simp, by simp, fun c u nc hc => by rw [upd_ne (ne_of_none hc nG), upd_ne nc]; exact hc⟩, fun k H' _ p => by obtain ⟨_, p1, _⟩ := p; exact p1, ?_, ?_⟩
    · intro k y v H' hk p s0 H0 C0 cl fp IB
      obtain ⟨ds, p1, p2, p3, p4, p5, p6⟩ := p
      obtain ⟨l, b, hF, rfl, hb, hbl, hv⟩ := hf3.at hk
      have hlt := (List.getElem?_eq_some_iff.mp hF).1
      have lcs := p3.len
      rw [List.length_map, List.length_take] at lcs
      have nbd : b ≠ d := fun z => by subst z; rw [hf3.hd] at hbl; cases hbl
      have hb' := p6 _ _ nbd hbl
      have gb : DGet H' d (kV y) (some (.ref b)) := by rw [← hv]; exact dg_F p1
      refine b_var fun s1 H1 C1 cl1 fp1 IB1 => ?_
      refine b_callTy (x := "list") (by assumption) b_list (a_cons (e_dg (n := 2) (by exact hr) (b_var (b_var ⟨d, _, rfl, gb, a_nil (c_listL hb' fun c H4 e4 n4 h4 => ?_)⟩))))
      have ncG : c ≠ G := fun z => by subst z; rw [p2] at n4; cases n4
      have ncd : c ≠ d := fun z => by subst z; rw [p1] at n4; cases n4
      have nH : H3 c = none := by
        cases hz : H3 c with
        | none => rfl
        | some u => have := p6 _ _ ncd hz; rw [n4] at this; cases this
      have ny : y ∉ (zk (F.take k) ds).map (·.1) := by
        rw [zk_keys _ _ (by rw [List.length_take]; omega), List.map_take]
        exact nd_take hf0.kn (by rw [List.getElem?_map, hF]; rfl)
      have nm : c ∉ ds := fun m => by obtain ⟨r, hr⟩ := p3.vl m; rw [hr] at n4; cases n4
      refine ⟨_, y, rfl, e4 _ _ p2, by rw [zk_len _ _ (by rw [List.length_take]; omega), List.length_take]; show _ < 2 ^ 24; omega, ds ++ [c], ?_, ?_, ?_, ?_, ?_, fun x u nx hx => ?_⟩
      · rw [upd_ne (Ne.symm nGd)]; exact e4 _ _ p1
      · rw [upd_same, put_new _ ny, take_snoc' hF, zk_snoc _ _ (by rw [List.length_take]; omega)]
      · rw [take_snoc' hF, List.map_append]
        refine RsV.snoc (by rw [upd_ne ncG]; exact h4) (p3.keep fun b hb o z => ?_)
        rw [upd_ne (fun z2 => by subst z2; exact (List.nodup_cons.mp p4).1 hb)]
        exact e4 _ _ z
      · exact nd_snoc (l := G :: ds) p4 (fun m => by
          rcases List.mem_cons.mp m with m | m
          · exact ncG m
          · exact nm m)
      · intro x hx
        rcases List.mem_append.mp hx with hx | hx
        · exact p5 x hx
        · rw [List.mem_singleton.mp hx]; exact nH
      · rw [upd_ne (ne_of_none hx nG)]
        exact e4 _ _ (p6 _ _ nx hx)
    intro H' p
    obtain ⟨ds, p1, p2, p3, p4, p5, p6⟩ := p
    rw [zk_len _ _ lF, List.take_length] at p2 p3
    refine ⟨p1, ?_⟩
    have fG : ∀ b ∈ G :: ds, H3 b = none := fun b hb => by rcases List.mem_cons.mp hb with rfl | hb; exact nG; exact p5 b hb
    have nGd2 : ∀ b ∈ G :: ds, b ≠ d := fun b hb z => by subst z; have := fG _ hb; rw [hf3.hd] at this; cases this
    have e4 : Same H3 (upd H' d (.dK (zk F bs))) := fun c u hc => by
      by_cases e : c = d
      · subst e; rw [upd_same]; rw [hf3.hd] at hc; exact hc
      · rw [upd_ne e]; exact p6 _ _ e hc
    have hG4 : Facts (upd H' d (.dK (zk F bs))) G ds F := ⟨by rw [upd_ne nGd]; exact p2, p3.keep fun b hb o z => by rw [upd_ne (nGd2 b (List.mem_cons_of_mem _ hb))]; exact z, hf0.kn, p4⟩
    generalize upd H' d (.dK (zk F bs)) = H4 at e4 hG4
    refine e_var ⟨p, C, dx, _, rfl, e4 _ _ hp3, O.cl, O.nF, by show 1 < 1000; decide, ?_⟩
    have npG : ∀ b ∈ G :: ds, b ≠ p := fun b hb z => by subst z; rw [fG _ hb] at hp3; cases hp3
    have fGH : ∀ b ∈ G :: ds, H b = none := fun b hb => by
      cases hz : H b with
      | none => rfl
      | some u => have := b3 _ _ (npG b hb) hz; rw [fG b hb] at this; cases this
    have hp5 : upd H4 p (.ins C dx (wfl D G)) p = some (.ins C dx (wfl D G)) := upd_same
    have b5 : But p H (upd H4 p (.ins C dx (wfl D G))) := fun c o nc hc => by rw [upd_ne nc]; exact e4 _ _ (b3 _ _ nc hc)
    have hR5 : Rows (upd H4 p (.ins C dx (wfl D G))) D cs L := (hR3.same e4).keep fun b hb o z => by rw [upd_ne (nDp b hb)]; exact z
    have hG5 : Facts (upd H4 p (.ins C dx (wfl D G))) G ds F := hG4.keep fun b hb o z => by rw [upd_ne (npG b hb)]; exact z
    show wL _ _ _ _ (upd H4 p (.ins C dx (wfl D G)))
    generalize upd H4 p (.ins C dx (wfl D G)) = H5 at hp5 b5 hR5 hG5
    refine l_cons (s_set (e_call (by exact FF) (by exact hr) (by decide) ?_))
    refine a_cons (e_fld (e_var ⟨p, C, dx, _, _, rfl, hp5, O.cl, O.nP, wfl_p _ _, ?_⟩))
    refine a_cons (e_fld (e_var ⟨p, C, dx, _, _, rfl, hp5, O.cl, O.nF, wfl_f _ _, ?_⟩))
    refine a_nil ⟨D, G, cs, ds, L, F, rfl, hR5, hG5, hsz, fun H6 e6 => ?_⟩
    have b6 : But p H H6 := fun c o nc hc => e6 _ _ (b5 _ _ nc hc)
    show wL _ _ _ [some (.ref p), some (.ref a), some (.ref d), some (vO (flt L F)), none, none] _
    refine l_cons (s_if (t_cmp (e_var (e_non (o_nisN ⟨_, rfl, ?_⟩)))))
    rcases q with ⟨hn, q⟩ | ⟨z, hn, q⟩
    · rw [hn]
      refine ite_f rfl (l_nil (l_nil ?_))
      exact q D G cs ds H6 b6 fD fGH ⟨⟨dx, e6 _ _ hp5⟩, hR5.same e6, hG5.same e6⟩
    · rw [hn]
      refine ite_t rfl (l_cons (s_raiseN (by exact ER) (by exact tk) (by exact hr) (by decide) ?_))
      refine e_var fun dd H7 e7 n7 h7 => ?_
      exact q dd H7 (fun c o nc hc => e7 _ _ (b6 _ _ nc hc)) h7
  exact ⟨f, fd, _, FN, O.mg, ⟨O.mks, hf, hi, O.kp⟩, hb⟩
end



def lkF : FcT → Key → List Int
  | [], _ => []
  | p :: F, k => if p.1 = k then p.2 else lkF F k
theorem lkF_val {H : Hp} {k : Key} : ∀ {F : FcT} {bs : List Addr}, RsV H bs (F.map (·.2)) → (valV (zk F bs) k = none ∧ lkF F k = []) ∨ ∃ b, valV (zk F bs) k = some (.ref b) ∧ H b = some (.lst (iV (lkF F k)))
  | [], _, _ => .inl ⟨by cases ‹List Addr› <;> rfl, rfl⟩
  | p :: F, [], h => by cases (show _ = _ from h)
  | p :: F, b :: bs, ⟨r, rs, h1, h2, h3⟩ => by
    cases h1
    have hv : valV (zk (p :: F) (b :: bs)) k = if p.1 = k then some (V.ref b) else valV (zk F bs) k := by
      show (List.find? (fun kv => decide (kv.1 = k)) ((p.1, V.ref b) :: zk F bs)).map (·.2) = _
      by_cases e : p.1 = k
      · rw [if_pos e, List.find?_cons_of_pos (by simpa using e)]; rfl
      · rw [if_neg e, List.find?_cons_of_neg (by simpa using e)]; rfl
    rw [hv]
    by_cases e : p.1 = k
    · rw [if_pos e]
      refine .inr ⟨b, rfl, ?_⟩
      show H b = some (.lst (iV (if p.1 = k then p.2 else lkF F k)))
      rw [if_pos e]
      exact h2
    · rw [if_neg e]
      show _ ∨ _
      simp only [lkF, if_neg e]
      exact lkF_val h3
def inF (F : FcT) (z : Str) (k : Nat) : Bool := inV (.int (k : Int)) (iV (lkF F (.inr z)))
theorem iv_flat (l : List Int) : (iV l).all flatV = true := by
  rw [List.all_eq_true]
  intro x hx
  obtain ⟨i, _, rfl⟩ := List.mem_map.mp hx
  rfl
section
variable {P : Program} {w : World} {K : PySem.W.Frag} {mg : Str → Option Value} {base : Heap} {C : Addr}
end



section
variable {P : Program} {w : World} {K : PySem.W.Frag} {mg : Str → Option Value} {base : Heap} {C : Addr}
def spWLen (C : Addr) : Sp := fun vs H Q _ => ∃ p a d as bs L F, vs = [.ref p] ∧ WorldAt C H p a d as bs L F ∧ Q (.int ((L.length : Nat) : Int)) H
theorem ok_wlen (T : TopM K C "__len__" "World.__len__" s_World___len) (O : WOk K mg C) (mLen : mg "len" = none) : LnO P w K mg base 1 C (spWLen C) := by
  obtain ⟨f, fd, G, hb, hf, hi, hk⟩ := me_ok (P := P) (w := w) (mg := mg) (base := base) (k := 0) (sp := spWLen C) T sc_World___len so_World___len (fun vs H Q E h => by obtain ⟨p, a, d, as, bs, L, F, rfl, _⟩ := h; rfl) (fun _ _ _ _ _ _ us hl => match us, hl with | [_], _ => rfl) fun f cdv A outer s H vs Q E hr h nd => by
    obtain ⟨p, a, d, as, bs, L, F, rfl, ⟨⟨dx, hp⟩, hr0, hf0⟩, q⟩ := h
    refine l_cons (s_ret (e_callB (x := "len") (by assumption) b_len (a_cons (e_fld (e_var ⟨p, C, dx, _, _, rfl, hp, O.cl, O.nP, wfl_p _ _, a_nil (c_lenL (by exact SqL.of hr0.hd) ?_)⟩)))))
    rw [List.length_map, hr0.rs.len]
    exact q
  exact ⟨f, fd, _, G, hf, hi, hb⟩
def spProd (C : Addr) : Sp := fun vs H Q _ => ∃ p a d as bs L F, ∃ (i j : Nat), vs = [.ref p, .int (i : Int), .int (j : Int)] ∧ WorldAt C H p a d as bs L F ∧ i < L.length ∧ j < (nr L i).length ∧ Q (.int (gg L i j)) H
theorem ok_prod (T : TopM K C "product" "World.product" s_World_product) (O : WOk K mg C) : Mt P w K mg base 1 C "product" (spProd C) := by
  obtain ⟨f, fd, G, hb, hf, hi, hk⟩ := me_ok (P := P) (w := w) (mg := mg) (base := base) (k := 0) (sp := spProd C) T sc_World_product so_World_product (fun vs H Q E h => by obtain ⟨p, a, d, as, bs, L, F, i, j, rfl, _⟩ := h; rfl) (fun _ _ _ _ _ _ us hl => match us, hl with | [_, _, _], _ => rfl) fun f cdv A outer s H vs Q E hr h nd => by
    obtain ⟨p, a, d, as, bs, L, F, i, j, rfl, ⟨⟨dx, hp⟩, hr0, hf0⟩, hi, hj, q⟩ := h
    obtain ⟨b, hb, hbr⟩ := hr0.row hi
    refine l_cons (s_ret (e_ix (e_ix (e_fld (e_var ⟨p, C, dx, _, _, rfl, hp, O.cl, O.nP, wfl_p _ _, e_var (ix_l (by exact SqL.of hr0.hd) (atI_nat hb) (e_var (ix_l (by exact SqL.of hbr) (atI_nat (iv_get (gg_get hj))) q)))⟩)))))
  exact ⟨f, fd, _, G, ⟨hf, hi, hk⟩, hb, O.cl⟩
theorem WorldAt.same {H H' : Hp} {p a d : Addr} {as bs : List Addr} {L : List (List Int)} {F : FcT} (h : WorldAt C H p a d as bs L F) (e : Same H H') : WorldAt C H' p a d as bs L F := let ⟨⟨dx, h1⟩, h2, h3⟩ := h; ⟨⟨dx, e _ _ h1⟩, h2.same e, h3.same e⟩
end



/-- the drawn product (picks 0 to 5) -/
def prd (pk n a b : Nat) : Nat :=
  if pk = 0 then min (a + b) (n - 1)
  else if pk = 1 then (a + b) % n
  else if pk = 2 then max a b
  else if pk = 3 then min (a ||| b) (n - 1)
  else if pk = 4 then (if max a b < n - 1 then (a + b) % (n - 1) else n - 1)
  else if min a b = 0 then a + b else n - 1
theorem prd_lt {pk n a b : Nat} (ha : a < n) (hb : b < n) : prd pk n a b < n := by
  unfold prd
  have h1 := Nat.mod_lt (a + b) (show 0 < n by omega)
  split
  · omega
  split
  · exact h1
  split
  · omega
  split
  · omega
  split
  · split
    · have := Nat.mod_lt (a + b) (show 0 < n - 1 by omega); omega
    · omega
  · split <;> omega
theorem prd_comm (pk n a b : Nat) : prd pk n a b = prd pk n b a := by
  unfold prd
  rw [Nat.add_comm b a, Nat.max_comm b a, Nat.min_comm b a, Nat.or_comm b a]
theorem prd_unit {pk n b : Nat} (hb : b < n) : prd pk n 0 b = b := by
  unfold prd
  rw [Nat.zero_add, Nat.zero_or, Nat.mod_eq_of_lt hb]
  split
  · omega
  split
  · rfl
  split
  · omega
  split
  · omega
  split
  · split
    · exact Nat.mod_eq_of_lt (by omega)
    · omega
  · split <;> omega
theorem cap_or (m a b c : Nat) : min (min (a ||| b) m ||| c) m = min (a ||| b ||| c) m := by
  by_cases h : a ||| b ≤ m
  · rw [Nat.min_eq_left h]
  · have h1 : m ≤ m ||| c := Nat.left_le_or
    have h2 : a ||| b ≤ a ||| b ||| c := Nat.left_le_or
    rw [Nat.min_eq_right (show m ≤ a ||| b by omega), Nat.min_eq_right h1, Nat.min_eq_right (by omega)]
theorem prd_assoc {pk n a b c : Nat} (ha : a < n) (hb : b < n) (hc : c < n) : prd pk n (prd pk n a b) c = prd pk n a (prd pk n b c) := by
  by_cases h0 : pk = 0
  · simp only [prd, h0, if_true]; omega
  by_cases h1 : pk = 1
  · simp only [prd, h1, if_true, show ¬ (1 : Nat) = 0 by decide, if_false]
    rw [Nat.mod_add_mod, Nat.add_mod_mod, Nat.add_assoc]
  by_cases h2 : pk = 2
  · simp only [prd, h2, if_true, show ¬ (2 : Nat) = 0 by decide, show ¬ (2 : Nat) = 1 by decide, if_false]; omega
  by_cases h3 : pk = 3
  · simp only [prd, h3, if_true, show ¬ (3 : Nat) = 0 by decide, show ¬ (3 : Nat) = 1 by decide, show ¬ (3 : Nat) = 2 by decide, if_false]
    rw [cap_or, Nat.or_comm a (min (b ||| c) (n - 1)), cap_or, Nat.or_comm (b ||| c) a, Nat.or_assoc]
  by_cases h4 : pk = 4
  · have e : ∀ x y, prd pk n x y = if max x y < n - 1 then (x + y) % (n - 1) else n - 1 := fun x y => by simp only [prd, if_neg h0, if_neg h1, if_neg h2, if_neg h3, if_pos h4]
    rw [e a b, e b c]
    by_cases x1 : a < n - 1
    · by_cases x2 : b < n - 1
      · have m1 := Nat.mod_lt (a + b) (show 0 < n - 1 by omega)
        rw [if_pos (show max a b < n - 1 by omega)]
        by_cases x3 : c < n - 1
        · have m2 := Nat.mod_lt (b + c) (show 0 < n - 1 by omega)
          rw [if_pos (show max b c < n - 1 by omega), e, e, if_pos (by omega), if_pos (by omega), Nat.mod_add_mod, Nat.add_mod_mod, Nat.add_assoc]
        · rw [if_neg (show ¬ max b c < n - 1 by omega), e, e, if_neg (by omega), if_neg (by omega)]
      · rw [if_neg (show ¬ max a b < n - 1 by omega), if_neg (show ¬ max b c < n - 1 by omega), e, e, if_neg (by omega), if_neg (by omega)]
    · rw [if_neg (show ¬ max a b < n - 1 by omega), e, if_neg (by omega), e, if_neg (by omega)]
  · have e : ∀ x y, prd pk n x y = if min x y = 0 then x + y else n - 1 := fun x y => by simp only [prd, if_neg h0, if_neg h1, if_neg h2, if_neg h3, if_neg h4]
    rw [e a b, e b c, e, e]
    repeat (first | omega | split)
section
variable {P : Program} {w : World} {K : PySem.W.Frag} {mg : Str → Option Value} {base : Heap}
theorem qe {Q : VK} {H : Hp} {x y : Int} (q : Q (.int y) H) (e : x = y) : Q (.int x) H := e ▸ q
end



theorem rep1 (n : Nat) (x : V) : (List.replicate n [x]).flatten = List.replicate n x := by
  induction n with
  | zero => rfl
  | succ n ih => rw [List.replicate_succ, List.flatten_cons, ih]; rfl
theorem o_rep1 {X : Cx} {H : Hp} {Q : VK} {l : Addr} {x : V} {n : Nat} (h : H l = some (.lst [x])) (hn : n ≤ 1000) (q : ∀ p H2, Same H H2 → H p = none → H2 p = some (.lst (List.replicate n x)) → Q (.ref p) H2) : wB X .Mult (.ref l) (.int (n : Int)) H Q :=
  b_of op_rep ⟨l, (n : Int), [x], rfl, rfl, h, by omega, by omega, by show 1 * n ≤ 2 ^ 24; omega, fun p np => by
    rw [Int.toNat_natCast, rep1]
    exact q p _ (fun c u eo => by rw [upd_ne (ne_of_none eo np)]; exact eo) np upd_same⟩
theorem RsV.set {H : Hp} {c : Addr} {r : List Int} : ∀ {bs : List Addr} {L : List (List Int)} {i : Nat}, RsV H bs L → bs.Nodup → bs[i]? = some c → RsV (upd H c (.lst (iV r))) bs (L.set i r)
  | [], _, i, _, _, e => by cases i <;> cases e
  | b :: bs, _, 0, ⟨r0, rs, h1, h2, h3⟩, nd, e => by
    cases e
    subst h1
    rw [List.nodup_cons] at nd
    exact ⟨r, rs, rfl, upd_same, h3.keep fun x hx o z => by rw [upd_ne (fun z2 => by subst z2; exact nd.1 hx)]; exact z⟩
  | b :: bs, _, i + 1, ⟨r0, rs, h1, h2, h3⟩, nd, e => by
    subst h1
    rw [List.nodup_cons] at nd
    have hm := List.mem_of_getElem? (show bs[i]? = some c by simpa using e)
    exact ⟨r0, rs.set i r, rfl, by rw [upd_ne (fun z => by subst z; exact nd.1 hm)]; exact h2, h3.set nd.2 (by simpa using e)⟩
theorem Rows.put {H : Hp} {a c : Addr} {as : List Addr} {L : List (List Int)} {i : Nat} {r : List Int} (h : Rows H a as L) (e : as[i]? = some c) : Rows (upd H c (.lst (iV r))) a as (L.set i r) := by
  have nd := List.nodup_cons.mp h.nd
  exact ⟨by rw [upd_ne (fun z => by subst z; exact nd.1 (List.mem_of_getElem? e))]; exact h.hd, h.rs.set nd.2 e, h.nd⟩
theorem iv_set (r : List Int) (i : Nat) (x : Int) : (iV r).set i (.int x) = iV (r.set i x) := by simp [iV, List.map_set]
theorem ixN_in {n : Nat} {i : Int} (h0 : 0 ≤ i) (h : i < n) : ixN n i = some i.toNat := by
  unfold ixN
  rw [if_pos h0, if_pos h]
def RgP (n : Nat) (r : List Int) : Prop := r.length = n ∧ ∀ x ∈ r, 0 ≤ x ∧ x < n
def RwP (n : Nat) (L : List (List Int)) : Prop := L.length = n ∧ ∀ r ∈ L, RgP n r
theorem RgP.set {n : Nat} {r : List Int} (h : RgP n r) (i : Nat) {x : Int} (hx : 0 ≤ x ∧ x < n) : RgP n (r.set i x) := by
  refine ⟨by rw [List.length_set]; exact h.1, fun y hy => ?_⟩
  rcases List.mem_or_eq_of_mem_set hy with hy | rfl
  · exact h.2 y hy
  · exact hx
theorem RgP.get {n : Nat} {r : List Int} (h : RgP n r) {i : Nat} (hi : i < n) : ∃ x, r[i]? = some x ∧ 0 ≤ x ∧ x < n := by
  have hi2 : i < r.length := by rw [h.1]; exact hi
  exact ⟨r[i], List.getElem?_eq_getElem hi2, h.2 _ (List.getElem_mem hi2)⟩
theorem RwP.set {n : Nat} {L : List (List Int)} (h : RwP n L) (i : Nat) {r : List Int} (hr : RgP n r) : RwP n (L.set i r) := by
  refine ⟨by rw [List.length_set]; exact h.1, fun y hy => ?_⟩
  rcases List.mem_or_eq_of_mem_set hy with hy | rfl
  · exact h.2 y hy
  · exact hr
section
variable {P : Program} {w : World} {K : PySem.W.Frag} {mg : Str → Option Value} {base : Heap}
theorem bor_eq : ∀ a < 32, ∀ b < 32, Builtin.bitOr ((a : Nat) : Int) ((b : Nat) : Int) = ((a ||| b : Nat) : Int) := by decide +kernel
def spPr : Sp := fun vs H Q _ => ∃ (pk n a b : Nat), vs = [.int (pk : Int), .int (n : Int), .int (a : Int), .int (b : Int)] ∧ pk ≤ 5 ∧ n < 32 ∧ a < n ∧ b < n ∧ Q (.int (prd pk n a b : Nat)) H
theorem ok_pr (T : Top K mg "_law_product" s_product) (mMin : mg "min" = none) (mMax : mg "max" = none) (mInt : mg "int" = none) : Fn P w K mg base 1 "_law_product" spPr := by
  refine fn_ok T sc_product so_product (fun vs H Q E h => by obtain ⟨pk, n, a, b, rfl, _⟩ := h; rfl) (fun _ _ _ _ _ _ us hl => match us, hl with | [_, _, _, _], _ => rfl) fun f cdv A outer s H vs Q E hr h nd => ?_
  obtain ⟨pk, n, a, b, rfl, p5, hn, ha, hb, q⟩ := h
  have hn0 : (0 : Int) < n := by omega
  have hcm : CMul (a : Int) (b : Int) := .inl ⟨by omega, by omega⟩
  refine l_cons (s_if (t_cmp (e_var (e_int (o_eqI ⟨_, rfl, ?_⟩)))))
  refine if2 (fun h1 => ?_) (fun h1 => l_nil ?_)
  · refine l_cons (s_ret (e_callB (x := "min") (by assumption) b_min (a_cons (e_bin (e_var (e_var (o_add ?_)))))))
    refine a_cons (e_bin (e_var (e_int (o_sub (a_nil (c_min rfl (qe q ?_)))))))
    simp only [prd, show pk = 0 by omega, if_true]
    split <;> omega
  refine l_cons (s_if (t_cmp (e_var (e_int (o_eqI ⟨_, rfl, ?_⟩)))))
  refine if2 (fun h2 => ?_) (fun h2 => l_nil ?_)
  · refine l_cons (s_ret (e_bin (e_callTy (x := "int") (by assumption) b_int (a_cons (e_bin (e_var (e_var (o_add (a_nil (c_int (e_var (o_mod hn0 (qe q ?_)))))))))))))
    rw [prd, if_neg (by omega), if_pos (by omega), Int.natCast_emod, Int.natCast_add]
  refine l_cons (s_if (t_cmp (e_var (e_int (o_eqI ⟨_, rfl, ?_⟩)))))
  refine if2 (fun h3 => ?_) (fun h3 => l_nil ?_)
  · refine l_cons (s_ret (e_callB (x := "max") (by assumption) b_max (a_cons (e_var (a_cons (e_var (a_nil (c_max rfl (qe q ?_)))))))))
    have e : prd pk n a b = max a b := by rw [prd, if_neg (by omega), if_neg (by omega), if_pos (by omega)]
    rw [e]
    split <;> omega
  refine l_cons (s_if (t_cmp (e_var (e_int (o_eqI ⟨_, rfl, ?_⟩)))))
  refine if2 (fun h4 => ?_) (fun h4 => l_nil ?_)
  · refine l_cons (s_ret (e_callB (x := "min") (by assumption) b_min (a_cons (e_bin (e_var (e_var (o_bor ?_)))))))
    refine a_cons (e_bin (e_var (e_int (o_sub (a_nil (c_min rfl (qe q ?_)))))))
    have e : prd pk n a b = min (a ||| b) (n - 1) := by rw [prd, if_neg (by omega), if_neg (by omega), if_neg (by omega), if_pos (by omega)]
    rw [bor_eq a (by omega) b (by omega), e]
    split <;> omega
  have e : prd pk n a b = if pk = 4 then (if max a b < n - 1 then (a + b) % (n - 1) else n - 1) else if min a b = 0 then a + b else n - 1 := by
    rw [prd, if_neg (by omega), if_neg (by omega), if_neg (by omega), if_neg (by omega)]
  rw [e] at q
  refine l_join (fun σ H' => σ = start N_product [.int (pk : Int), .int (n : Int), .int (a : Int), .int (b : Int)] ∧ H = H' ∧ ¬ (pk = 4 ∧ max a b < n - 1)) ?_ fun go => ?_
  · intro σ H' ⟨hσ, hH, x4⟩
    subst hσ
    subst hH
    refine l_join (fun σ H' => σ = start N_product [.int (pk : Int), .int (n : Int), .int (a : Int), .int (b : Int)] ∧ H = H' ∧ ¬ (4 < pk ∧ min a b = 0)) ?_ fun go => ?_
    · intro σ H' ⟨hσ, hH, x5⟩
      subst hσ
      subst hH
      refine l_cons (s_if (t_w (w_and (t_cmp (e_var (e_int (o_eqI ⟨_, rfl, ?_⟩)))))))
      refine ifF (by omega) (iteF (l_nil ?_))
      refine l_cons (s_if (t_w (w_and (t_cmp (e_var (e_int (o_eqI ⟨_, rfl, ?_⟩)))))))
      refine ifF (by omega) (iteF (l_nil ?_))
      refine l_cons (s_ret (e_bin (e_var (e_int (o_sub (qe q ?_))))))
      split
      · rw [if_neg (fun z => x4 ⟨by assumption, z⟩)]; omega
      · rw [if_neg (fun z => x5 ⟨by omega, z⟩)]; omega
    · refine l_cons (s_if (t_w (w_and (t_cmp (e_var (e_int (o_gt ⟨_, rfl, ?_⟩)))))))
      refine if2 (fun h5 => w_and1 (t_cmp (e_callB (x := "min") (by assumption) b_min (a_cons (e_var (a_cons (e_var (a_nil (c_min rfl (e_int (o_eqI ⟨_, rfl, ?_⟩))))))))))) (fun h5 => iteF (l_nil (go _ H ⟨rfl, rfl, fun z => h5 (by omega)⟩)))
      refine if2 (fun h8 => l_cons (s_ret (e_bin (e_var (e_var (o_add ?_)))))) (fun h8 => l_nil (go _ H ⟨rfl, rfl, fun z => h8 (by split <;> omega)⟩))
      refine qe q ?_
      rw [if_neg (by omega), if_pos (by split at h8 <;> omega)]
      rfl
  · refine l_cons (s_if (t_w (w_and (t_cmp (e_var (e_int (o_eqI ⟨_, rfl, ?_⟩)))))))
    refine if2 (fun h5 => w_and1 (t_cmp (e_callB (x := "max") (by assumption) b_max (a_cons (e_var (a_cons (e_var (a_nil (c_max rfl (e_bin (e_var (e_int (o_sub (o_lt ⟨_, rfl, ?_⟩)))))))))))))) (fun h5 => iteF (l_nil (go _ H ⟨rfl, rfl, fun z => h5 (by omega)⟩)))
    refine if2 (fun h8 => ?_) (fun h8 => l_nil (go _ H ⟨rfl, rfl, fun z => h8 (by split <;> omega)⟩))
    have hm : (0 : Int) < (n : Int) - 1 := by split at h8 <;> omega
    refine l_cons (s_ret (e_bin (e_callTy (x := "int") (by assumption) b_int (a_cons (e_bin (e_var (e_var (o_add (a_nil (c_int (e_bin (e_var (e_int (o_sub (o_mod hm (qe q ?_))))))))))))))))
    rw [if_pos (by omega), if_pos (by split at h8 <;> omega), Int.natCast_emod, Int.natCast_add, Int.ofNat_sub (by omega)]
    rfl
end



def But2 (a b : Addr) (H H' : Hp) : Prop := ∀ c o, c ≠ a → c ≠ b → H c = some o → H' c = some o
theorem rg_RgP (n : Nat) : RgP n ((List.range n).map fun (k : Nat) => (k : Int)) := by
  refine ⟨by rw [List.length_map, List.length_range], fun x hx => ?_⟩
  obtain ⟨k, hk, rfl⟩ := List.mem_map.mp hx
  have := List.mem_range.mp hk
  omega
theorem rep_iV (n : Nat) (x : Int) : List.replicate n (V.int x) = iV (List.replicate n x) := by rw [iV, List.map_replicate]
/-- a step that keeps all but the pool and gives new rows -/
theorem gg_put {M : List (List Int)} {t0 t1 : Nat} {r : List Int} (hr : M[t0]? = some r) (h1 : t1 < r.length) (x : Int) (a b : Nat) : gg (M.set t0 (r.set t1 x)) a b = if a = t0 ∧ b = t1 then x else gg M a b := by
  have l0 := (List.getElem?_eq_some_iff.mp hr).1
  unfold gg nr
  simp only [List.getD_eq_getElem?_getD]
  by_cases h0 : a = t0
  · subst h0
    rw [List.getElem?_set_self l0, hr]
    simp only [Option.getD_some, true_and]
    by_cases h2 : b = t1
    · subst h2
      rw [List.getElem?_set_self h1, if_pos rfl]; rfl
    · rw [List.getElem?_set_ne (Ne.symm h2), if_neg h2]
  · rw [List.getElem?_set_ne (Ne.symm h0), if_neg (fun z => h0 z.1)]
/-- names that are a turning of the numbers, 0 kept -/
def PmP (n : Nat) (ns : List Int) : Prop := RgP n ns ∧ (0 < n → ns[0]? = some 0) ∧ (∀ (i j : Nat) (x : Int), ns[i]? = some x → ns[j]? = some x → i = j) ∧ ∀ x : Nat, x < n → ∃ i < n, ns[i]? = some (x : Int)
def pm (ns : List Int) (i : Nat) : Nat := (ns.getD i 0).toNat
theorem pm_get {n : Nat} {ns : List Int} (h : RgP n ns) {i : Nat} {x : Int} (e : ns[i]? = some x) : x = (pm ns i : Nat) := by
  have := h.2 x (List.mem_of_getElem? e)
  unfold pm
  rw [List.getD_eq_getElem?_getD, e]
  show x = ((x.toNat : Nat) : Int)
  omega
theorem pm_lt {n : Nat} {ns : List Int} (h : RgP n ns) {i : Nat} (hi : i < n) : pm ns i < n := by
  obtain ⟨x, e, _, h2⟩ := h.get hi
  have := pm_get h e
  omega
theorem pm_inj {n : Nat} {ns : List Int} (h : PmP n ns) {i j : Nat} (hi : i < n) (hj : j < n) (e : pm ns i = pm ns j) : i = j := by
  obtain ⟨x, e1, _⟩ := h.1.get hi
  obtain ⟨y, e2, _⟩ := h.1.get hj
  have h1 := pm_get h.1 e1
  have h2 := pm_get h.1 e2
  exact h.2.2.1 i j x e1 (by rw [e2, h1, h2, e])
theorem pm_zero {n : Nat} {ns : List Int} (h : PmP n ns) (hn : 0 < n) : pm ns 0 = 0 := by
  have := pm_get h.1 (h.2.1 hn); omega
theorem PmP.swap {n i j : Nat} {ns : List Int} {v1 v2 : Int} (h : PmP n ns) (hi : 1 ≤ i) (hj : 1 ≤ j) (e1 : ns[i]? = some v1) (e2 : ns[j]? = some v2) : PmP n ((ns.set i v2).set j v1) := by
  have li := (List.getElem?_eq_some_iff.mp e1).1
  have lj := (List.getElem?_eq_some_iff.mp e2).1
  have key : ∀ t, ((ns.set i v2).set j v1)[t]? = ns[if t = j then i else if t = i then j else t]? := fun t => by
    by_cases h1 : t = j
    · subst h1
      rw [List.getElem?_set_self (by rw [List.length_set]; exact lj), if_pos rfl, e1]
    · rw [List.getElem?_set_ne (Ne.symm h1), if_neg h1]
      by_cases h2 : t = i
      · subst h2
        rw [List.getElem?_set_self li, if_pos rfl, e2]
      · rw [List.getElem?_set_ne (Ne.symm h2), if_neg h2]
  refine ⟨(h.1.set i (h.1.2 _ (List.mem_of_getElem? e2))).set j (h.1.2 _ (List.mem_of_getElem? e1)), fun hn => by rw [key, if_neg (by omega), if_neg (by omega)]; exact h.2.1 hn, fun s t x hs ht => ?_, fun x hx => ?_⟩
  · rw [key] at hs ht
    have := h.2.2.1 _ _ x hs ht
    split at this <;> split at this <;> (try split at this) <;> (try split at this) <;> omega
  · obtain ⟨s, hs, e⟩ := h.2.2.2 x hx
    have hli := h.1.1 ▸ li
    have hlj := h.1.1 ▸ lj
    refine ⟨if s = j then i else if s = i then j else s, by split <;> (try split) <;> omega, ?_⟩
    rw [key, ← e]
    congr 1
    split <;> (try split) <;> (try split) <;> (try split) <;> omega
theorem pm_sur {n : Nat} {ns : List Int} (h : PmP n ns) {x : Nat} (hx : x < n) : ∃ i < n, pm ns i = x := by
  obtain ⟨i, hi, e⟩ := h.2.2.2 x hx
  have := pm_get h.1 e
  exact ⟨i, hi, by omega⟩
theorem rg_PmP (n : Nat) : PmP n ((List.range n).map fun (k : Nat) => (k : Int)) := by
  have g : ∀ (i : Nat) (x : Int), ((List.range n).map fun (k : Nat) => (k : Int))[i]? = some x → x = (i : Int) := fun i x e => by
    rw [List.getElem?_map] at e
    obtain ⟨k, hk, rfl⟩ := Option.map_eq_some_iff.mp e
    rw [(List.getElem?_eq_some_iff.mp hk).2.symm, List.getElem_range]
  refine ⟨rg_RgP n, fun hn => ?_, fun i j x h1 h2 => by have := g i x h1; have := g j x h2; omega, fun x hx => ⟨x, hx, by rw [List.getElem?_map, List.getElem?_range hx]; rfl⟩⟩
  rw [List.getElem?_map, List.getElem?_range hn]; rfl
def DrawR (H H' : Hp) (p a : Addr) (as : List Addr) (L : List (List Int)) : Prop := But p H H' ∧ PoolAt H' p ∧ (∀ b ∈ a :: as, H b = none) ∧ Rows H' a as L
section
variable {P : Program} {w : World} {K : PySem.W.Frag} {mg : Str → Option Value} {base : Heap}
def spRen : Sp := fun vs H Q _ => ∃ p a as L n, vs = [.ref p, .ref a] ∧ PoolAt H p ∧ Rows H a as L ∧ RwP n L ∧ 0 < n ∧ n < 32 ∧ (∀ b ∈ a :: as, b ≠ p) ∧ ∀ a' as' L' ns H', DrawR H H' p a' as' L' → RwP n L' → PmP n ns → (∀ i < n, ∀ j < n, gg L' (pm ns i) (pm ns j) = (pm ns (gg L i j).toNat : Nat)) → Q (.ref a') H'
theorem ok_ren (T : Top K mg "_law_renamed" s_renamed) (mLen : mg "len" = none) (mL : mg "list" = none) (mR : mg "range" = none) (FN : Fn P w K mg base 1 "_law_next" spNext) : Fn P w K mg base 2 "_law_renamed" spRen := by
  refine fn_ok T sc_renamed so_renamed (fun vs H Q E h => by obtain ⟨p, a, as, L, n, rfl, _⟩ := h; rfl) (fun _ _ _ _ _ _ us hl => match us, hl with | [_, _], _ => rfl) fun f cdv A outer s H vs Q E hr h nd => ?_
  obtain ⟨p, a, as, L, n, rfl, hpool, hr0, hRw, hn0, hn, hap, q⟩ := h
  obtain ⟨hLn, hRg⟩ := id hRw
  refine l_cons (s_set (e_callB (x := "len") (by assumption) b_len (a_cons (e_var (a_nil (c_lenL (by exact SqL.of hr0.hd) ?_))))))
  rw [List.length_map, hr0.rs.len, hLn]
  show wL _ _ _ [some (.ref p), some (.ref a), some (.int (n : Int)), none, none, none, none, none, none, none, none] _
  refine l_cons (s_set (e_listRg (by assumption) (by assumption) (e_var ⟨n, rfl, by omega, fun na nna => ?_⟩)))
  rw [rg_iV]
  have e1 : Same H (upd H na (.lst (iV ((List.range n).map fun (k : Nat) => (k : Int))))) := fun c u hc => by rw [upd_ne (ne_of_none hc nna)]; exact hc
  have h1 : upd H na (.lst (iV ((List.range n).map fun (k : Nat) => (k : Int)))) na = some (.lst (iV ((List.range n).map fun (k : Nat) => (k : Int)))) := upd_same
  generalize upd H na (.lst (iV ((List.range n).map fun (k : Nat) => (k : Int)))) = H1 at e1 h1
  obtain ⟨px, py, pz, hpx⟩ := id hpool
  have nap : na ≠ p := fun z => by subst z; rw [nna] at hpx; cases hpx
  have naA : ∀ b ∈ a :: as, b ≠ na := fun b hb z => by
    subst z
    rcases List.mem_cons.mp hb with rfl | hb
    · rw [hr0.hd] at nna; cases nna
    · obtain ⟨r, hr⟩ := hr0.rs.vl hb; rw [hr] at nna; cases nna
  have hp1 : PoolAt H1 p := ⟨_, _, _, e1 _ _ hpx⟩
  show wL _ _ _ [some (.ref p), some (.ref a), some (.int (n : Int)), some (.ref na), none, none, none, none, none, none, none] _
  -- the names are turned
  refine l_cons (s_forR12 (by assumption) (e_int (e_var ⟨1, n - 1, rfl, by rw [show 1 + (n - 1) = n by omega], by omega, fun k σ H' => ∃ x4 x5 x6 ns, σ = [some (.ref p), some (.ref a), some (.int (n : Int)), some (.ref na), x4, x5, x6, none, none, none, none] ∧ H' na = some (.lst (iV ns)) ∧ PmP n ns ∧ PoolAt H' p ∧ But2 p na H H', ?_, ?_, ?_⟩)))
  · exact ⟨none, none, none, _, rfl, h1, rg_PmP n, hp1, fun c o _ _ hc => e1 _ _ hc⟩
  · intro k σ H' hk pp
    obtain ⟨x4, x5, x6, ns, rfl, hna, hpm, hp', b'⟩ := pp
    have hns := hpm.1
    show wL _ _ _ [some (.ref p), some (.ref a), some (.int (n : Int)), some (.ref na), some (.int ((1 + k : Nat) : Int)), x5, x6, none, none, none, none] _
    refine l_cons (s_set (e_bin (e_int (e_call (by exact FN) (by exact hr) (by decide) ?_))))
    refine a_cons (e_var (a_cons (e_bin (e_var (e_int (o_sub (a_nil ?_)))))))
    refine ⟨p, (n : Int) - 1, rfl, by omega, by omega, hp', fun d H2 d0 d1 b2 p2 => o_add ?_⟩
    have hna2 := b2 _ _ nap hna
    show wL _ _ _ [some (.ref p), some (.ref a), some (.int (n : Int)), some (.ref na), some (.int ((1 + k : Nat) : Int)), some (.int (1 + d)), x6, none, none, none, none] _
    obtain ⟨v1, g1, r1⟩ := hns.get (i := 1 + k) (by omega)
    refine l_cons (s_set (e_ix (e_var (e_var (ix_l (by exact SqL.of hna2) (atI_nat (iv_get g1)) ?_)))))
    show wL _ _ _ [some (.ref p), some (.ref a), some (.int (n : Int)), some (.ref na), some (.int ((1 + k : Nat) : Int)), some (.int (1 + d)), some (.int v1), none, none, none, none] _
    obtain ⟨v2, g2, r2⟩ := hns.get (i := (1 + d).toNat) (by omega)
    refine l_cons (s_sub (e_ix (e_var (e_var (ix_l (by exact SqL.of hna2) (at_int (show (0 : Int) ≤ 1 + d by omega) (iv_get g2)) ?_)))))
    refine e_var (e_var (set_l hna2 (k := 1 + k) (show ixN (iV ns).length ((1 + k : Nat) : Int) = some (1 + k) by rw [List.length_map, hns.1]; exact ixN_in (by omega) (by omega)) ?_))
    rw [iv_set]
    have hna3 : upd H2 na (.lst (iV (ns.set (1 + k) v2))) na = some (.lst (iV (ns.set (1 + k) v2))) := upd_same
    have b3 : But na H2 (upd H2 na (.lst (iV (ns.set (1 + k) v2)))) := fun c o nc hc => by rw [upd_ne nc]; exact hc
    generalize upd H2 na (.lst (iV (ns.set (1 + k) v2))) = H3 at hna3 b3
    have hns3 := hns.set (1 + k) r2
    refine l_cons (s_sub (e_var (e_var (e_var (set_l hna3 (k := (1 + d).toNat) (show ixN (iV (ns.set (1 + k) v2)).length (1 + d) = some (1 + d).toNat by rw [List.length_map, hns3.1]; exact ixN_in (by omega) (by omega)) ?_)))))
    rw [iv_set]
    obtain ⟨qx, qy, qz, hqx⟩ := p2
    refine l_nil ⟨_, _, _, _, rfl, upd_same, hpm.swap (by omega) (by omega) g1 g2, ⟨qx, qy, qz, by rw [upd_ne (Ne.symm nap)]; exact b3 _ _ (Ne.symm nap) hqx⟩, fun c o c1 c2 hc => ?_⟩
    rw [upd_ne c2]
    exact b3 _ _ c2 (b2 _ _ c1 (b' c o c1 c2 hc))
  intro σ H2 pp
  obtain ⟨x4, x5, x6, ns, rfl, hna, hpm, hp2, b2⟩ := pp
  have hns := hpm.1
  -- the new rows
  refine l_cons (s_lcR (by exact bk_renamed0) (by assumption) (e_var ⟨n, rfl, by omega, fun D nD => ?_⟩))
  refine ⟨fun k H' => ∃ cs, H' D = some (.lst (cs.map V.ref)) ∧ RsV H' cs (List.replicate k (List.replicate n 0)) ∧ (D :: cs).Nodup ∧ (∀ b ∈ cs, H2 b = none) ∧ Same H2 H', ⟨[], upd_same, rfl, by simp, by simp, fun c u hc => by rw [upd_ne (ne_of_none hc nD)]; exact hc⟩, ?_, ?_⟩
  · intro k H' hk pp s0 H0 C0 cl fp IB
    obtain ⟨cs, p1, p2, p3, p4, p5⟩ := pp
    have lcs := p2.len
    rw [List.length_replicate] at lcs
    refine e_bin (e_lst (a_cons (e_int (a_nil ⟨by show 1 ≤ sizeLine; decide, fun l0 H3 e3 n3 h3 => b_var (o_rep1 h3 (show n ≤ 1000 by omega) fun c H4 e4 n4 h4 => ?_)⟩))))
    rw [rep_iV] at h4
    have e34 := e3.trans e4
    have hD4 := e34 _ _ p1
    have n34 := none_of e3 n4
    have ncD : c ≠ D := fun z => by subst z; rw [p1] at n34; cases n34
    have nm : c ∉ cs := fun m => by obtain ⟨r, hr⟩ := p2.vl m; rw [hr] at n34; cases n34
    refine ⟨cs.map V.ref, hD4, by rw [List.length_map]; show _ < 2 ^ 24; omega, cs ++ [c], by rw [List.map_append]; exact upd_same, ?_, nd_snoc (l := D :: cs) p3 (fun m => by
      rcases List.mem_cons.mp m with m | m
      · exact ncD m
      · exact nm m), ?_, fun x u hx => by rw [upd_ne (ne_of_none hx nD)]; exact e34 _ _ (p5 _ _ hx)⟩
    · rw [List.replicate_succ']
      refine RsV.snoc (by rw [upd_ne ncD]; exact h4) (p2.keep fun b hb o z => ?_)
      rw [upd_ne (fun z2 => by subst z2; exact (List.nodup_cons.mp p3).1 hb)]
      exact e34 _ _ z
    · intro x hx
      rcases List.mem_append.mp hx with hx | hx
      · exact p4 x hx
      · rw [List.mem_singleton.mp hx]
        exact none_of p5 n34
  intro H3 pp
  obtain ⟨cs, p1, p2, p3, p4, e3⟩ := pp
  have hD3 : Rows H3 D cs (List.replicate n (List.replicate n 0)) := ⟨p1, p2, p3⟩
  have fD : ∀ b ∈ D :: cs, H2 b = none := fun b hb => by rcases List.mem_cons.mp hb with rfl | hb; exact nD; exact p4 b hb
  have lcs : cs.length = n := by rw [p2.len, List.length_replicate]
  have hz0 : RwP n (List.replicate n (List.replicate n (0 : Int))) := ⟨by rw [List.length_replicate], fun r hr => by
    rw [List.eq_of_mem_replicate hr]
    exact ⟨by rw [List.length_replicate], fun x hx => by rw [List.eq_of_mem_replicate hx]; omega⟩⟩
  show wL _ _ _ [some (.ref p), some (.ref a), some (.int (n : Int)), some (.ref na), x4, x5, x6, none, some (.ref D), none, none] _
  have hna3 := e3 _ _ hna
  obtain ⟨rx, ry, rz, hrx⟩ := hp2
  have hp3 : PoolAt H3 p := ⟨_, _, _, e3 _ _ hrx⟩
  have ncs : ∀ b ∈ D :: cs, b ≠ p ∧ b ≠ na ∧ ∀ c ∈ a :: as, b ≠ c := fun b hb => by
    refine ⟨fun z => ?_, fun z => ?_, fun c hc z => ?_⟩
    · subst z; rw [fD _ hb] at hrx; cases hrx
    · subst z; rw [fD _ hb] at hna; cases hna
    · subst z
      have := fD _ hb
      rcases List.mem_cons.mp hc with rfl | hc2
      · rw [b2 _ _ (hap _ List.mem_cons_self) (naA _ List.mem_cons_self) hr0.hd] at this; cases this
      · obtain ⟨r, hr⟩ := hr0.rs.vl hc2
        rw [b2 _ _ (hap _ hc) (naA _ hc) hr] at this; cases this
  have fH : ∀ b ∈ D :: cs, H b = none := fun b hb => by
    cases hz : H b with
    | none => rfl
    | some u => have := b2 _ _ (ncs b hb).1 (ncs b hb).2.1 hz; rw [fD b hb] at this; cases this
  have hr3 : Rows H3 a as L := hr0.keep fun b hb o z => e3 _ _ (b2 _ _ (hap b hb) (naA b hb) z)
  -- filled
  refine l_cons (s_forR (by assumption) (e_var ⟨n, rfl, by omega, fun k σ H' => ∃ x7 x9 x10 M, σ = [some (.ref p), some (.ref a), some (.int (n : Int)), some (.ref na), x4, x5, x6, x7, some (.ref D), x9, x10] ∧ Rows H' D cs M ∧ RwP n M ∧ (∀ i < k, ∀ j < n, gg M (pm ns i) (pm ns j) = (pm ns (gg L i j).toNat : Nat)) ∧ ∀ c u, c ∉ cs → H3 c = some u → H' c = some u, ⟨none, none, none, _, rfl, hD3, hz0, fun _ h => absurd h (Nat.not_lt_zero _), fun _ _ _ h => h⟩, ?_, ?_⟩))
  · intro k σ H' hk pp
    obtain ⟨x7, x9, x10, M, rfl, hM, hMr, hG, keep⟩ := pp
    have kp : ∀ c, (∃ u, H2 c = some u) → c ∉ cs := fun c ⟨u, hu⟩ hc => by rw [p4 c hc] at hu; cases hu
    have hna' := keep na _ (kp na ⟨_, hna⟩) hna3
    show wL _ _ _ [some (.ref p), some (.ref a), some (.int (n : Int)), some (.ref na), x4, x5, x6, some (.int (k : Int)), some (.ref D), x9, x10] _
    obtain ⟨v, gv, v0, v1⟩ := hns.get hk
    have hvl : v.toNat < cs.length := by omega
    have ec : cs[v.toNat]? = some cs[v.toNat] := List.getElem?_eq_getElem hvl
    have ecr : (cs.map V.ref)[v.toNat]? = some (.ref cs[v.toNat]) := by rw [List.getElem?_map, ec]; rfl
    have hcm : cs[v.toNat] ∈ cs := List.getElem_mem hvl
    generalize cs[v.toNat] = c at ec ecr hcm
    refine l_cons (s_set (e_ix (e_var (e_ix (e_var (e_var (ix_l (by exact SqL.of hna') (atI_nat (iv_get gv)) (ix_l (by exact SqL.of hM.hd) (at_int v0 ecr) ?_))))))))
    show wL _ _ _ [some (.ref p), some (.ref a), some (.int (n : Int)), some (.ref na), x4, x5, x6, some (.int (k : Int)), some (.ref D), some (.ref c), x10] _
    refine l_cons (s_forR (by assumption) (e_var ⟨n, rfl, by omega, fun j σ H' => ∃ x10 M, σ = [some (.ref p), some (.ref a), some (.int (n : Int)), some (.ref na), x4, x5, x6, some (.int (k : Int)), some (.ref D), some (.ref c), x10] ∧ Rows H' D cs M ∧ RwP n M ∧ (∀ i < k, ∀ j < n, gg M (pm ns i) (pm ns j) = (pm ns (gg L i j).toNat : Nat)) ∧ (∀ j' < j, gg M (pm ns k) (pm ns j') = (pm ns (gg L k j').toNat : Nat)) ∧ ∀ c u, c ∉ cs → H3 c = some u → H' c = some u, ⟨x10, M, rfl, hM, hMr, hG, fun _ h => absurd h (Nat.not_lt_zero _), keep⟩, ?_, ?_⟩))
    · intro j σ H' hj pp
      obtain ⟨x10, M, rfl, hM, hMr, hG, hI, keep⟩ := pp
      have hna' := keep na _ (kp na ⟨_, hna⟩) hna3
      show wL _ _ _ [some (.ref p), some (.ref a), some (.int (n : Int)), some (.ref na), x4, x5, x6, some (.int (k : Int)), some (.ref D), some (.ref c), some (.int (j : Int))] _
      have kA : ∀ b ∈ a :: as, b ∉ cs := fun b hb hc => (ncs b (List.mem_cons_of_mem _ hc)).2.2 b hb rfl
      have hr' : Rows H' a as L := hr3.keep fun b hb o z => keep b o (kA b hb) z
      obtain ⟨bk, hbk, hbr⟩ := hr'.row (i := k) (by omega)
      have hrg := hRg _ (List.mem_of_getElem? (nr_get (L := L) (a := k) (by omega)))
      obtain ⟨y, gy, y0, y1⟩ := hrg.get hj
      obtain ⟨u, gu, u0, u1⟩ := hns.get (i := y.toNat) (by omega)
      obtain ⟨t, gt, t0, t1⟩ := hns.get hj
      obtain ⟨rw0, hrw, hcr⟩ := hM.rs.get ec
      have hrwg := hMr.2 _ (List.mem_of_getElem? hrw)
      refine l_cons (s_sub (e_ix (e_var (e_ix (e_ix (e_var (e_var (ix_l (by exact SqL.of hr'.hd) (atI_nat hbk) (e_var (ix_l (by exact SqL.of hbr) (atI_nat (iv_get gy)) (ix_l (by exact SqL.of hna') (at_int y0 (iv_get gu)) ?_)))))))))))
      refine e_var (e_ix (e_var (e_var (ix_l (by exact SqL.of hna') (atI_nat (iv_get gt)) (set_l hcr (k := t.toNat) (by rw [List.length_map, hrwg.1]; exact ixN_in t0 t1) ?_)))))
      rw [iv_set]
      have ev := pm_get hns gv
      have et := pm_get hns gt
      have eu := pm_get hns gu
      have ey : gg L k j = y := by
        have := gg_get (L := L) (a := k) (b := j) (by rw [hrg.1]; exact hj)
        rw [gy] at this; cases this; rfl
      have hgp : ∀ a b, gg (M.set v.toNat (rw0.set t.toNat u)) a b = if a = v.toNat ∧ b = t.toNat then u else gg M a b := fun a b => gg_put hrw (by rw [hrwg.1]; omega) u a b
      refine l_nil ⟨_, _, rfl, hM.put ec, hMr.set _ (hrwg.set _ ⟨u0, u1⟩), fun i hi j' hj' => ?_, fun j' hj' => ?_, fun x o hx hxo => by rw [upd_ne (fun z => by subst z; exact hx hcm)]; exact keep x o hx hxo⟩
      · rw [hgp, if_neg (fun z => by have := pm_inj hpm (show i < n by omega) hk (by omega); omega)]
        exact hG i hi j' hj'
      · rw [hgp]
        by_cases e : j' = j
        · subst e
          rw [if_pos ⟨by omega, by omega⟩, ey, eu]
        · rw [if_neg (fun z => e (pm_inj hpm (show j' < n by omega) hj (by omega)))]
          exact hI j' (by omega)
    · intro σ H' pp
      obtain ⟨x10, M, rfl, hM, hMr, hG, hI, keep⟩ := pp
      refine l_nil ⟨_, _, _, M, rfl, hM, hMr, fun i hi j hj => ?_, keep⟩
      by_cases e : i = k
      · subst e; exact hI j hj
      · exact hG i (by omega) j hj
  intro σ H4 pp
  obtain ⟨x7, x9, x10, M, rfl, hM, hMr, hG, keep⟩ := pp
  refine l_cons (s_ret (e_var (q D cs M ns H4 ⟨fun c o nc hc => ?_, ?_, fH, hM⟩ hMr hpm hG)))
  · have nn : c ≠ na := fun z => by subst z; rw [nna] at hc; cases hc
    exact keep c o (fun hcs => by rw [fH c (List.mem_cons_of_mem _ hcs)] at hc; cases hc) (e3 _ _ (b2 _ _ nc nn hc))
  · obtain ⟨sx, sy, sz, hs⟩ := hp3
    exact ⟨sx, sy, sz, keep p _ (fun hcs => (ncs p (List.mem_cons_of_mem _ hcs)).1 rfl) hs⟩
end



section
theorem gg_rw {n : Nat} {L : List (List Int)} (h : RwP n L) {a b : Nat} (ha : a < n) (hb : b < n) : (nr L a)[b]? = some (gg L a b) ∧ 0 ≤ gg L a b ∧ gg L a b < n := by
  have hr := h.2 _ (List.mem_of_getElem? (nr_get (L := L) (a := a) (by rw [h.1]; exact ha)))
  have e := gg_get (L := L) (a := a) (b := b) (by rw [hr.1]; exact hb)
  exact ⟨e, hr.2 _ (List.mem_of_getElem? e)⟩
/-- a turned table of the drawn product is a world's table -/
theorem table_ok {pk n : Nat} {L L' : List (List Int)} {ns : List Int} (hn : 0 < n) (hL : ∀ i < n, ∀ j < n, gg L i j = (prd pk n i j : Nat)) (hR : RwP n L') (hp : PmP n ns) (hG : ∀ i < n, ∀ j < n, gg L' (pm ns i) (pm ns j) = (pm ns (gg L i j).toNat : Nat)) : ShpP L' ∧ UntP L' ∧ OrdP L' ∧ GrpP L' := by
  have g : ∀ i < n, ∀ j < n, gg L' (pm ns i) (pm ns j) = (pm ns (prd pk n i j) : Nat) := fun i hi j hj => by rw [hG i hi j hj, hL i hi j hj, Int.toNat_natCast]
  have hl : ∀ a < n, (nr L' a).length = n := fun a ha => (hR.2 _ (List.mem_of_getElem? (nr_get (L := L') (a := a) (by rw [hR.1]; exact ha)))).1
  refine ⟨⟨fun z => ?_, ?_⟩, ?_, fun a b ha hba => ?_, fun a b ha hb => ?_⟩
  · have := hR.1; rw [z] at this; simp at this; omega
  · rw [List.all_eq_true]
    intro r hr
    obtain ⟨h1, h2⟩ := hR.2 r hr
    rw [hR.1]
    unfold shB
    rw [Bool.and_eq_true, List.all_eq_true]
    refine ⟨decide_eq_true (by omega), fun x hx => ?_⟩
    have := h2 x hx
    unfold inR
    simp only [Bool.and_eq_true, decide_eq_true_eq]
    omega
  · refine List.ext_getElem? fun b => ?_
    rw [hR.1]
    by_cases hb : b < n
    · obtain ⟨j, hj, rfl⟩ := pm_sur hp hb
      rw [(gg_rw hR hn hb).1, List.getElem?_map, List.getElem?_range hb]
      have := g 0 hn j hj
      rw [pm_zero hp hn, prd_unit hj] at this
      rw [this]; rfl
    · rw [List.getElem?_eq_none (by rw [hl 0 hn]; omega), List.getElem?_eq_none (by rw [List.length_map, List.length_range]; omega)]
  · rw [hR.1] at ha
    obtain ⟨i, hi, rfl⟩ := pm_sur hp ha
    obtain ⟨j, hj, rfl⟩ := pm_sur hp (show b < n by omega)
    rw [g i hi j hj, g j hj i hi, prd_comm]
  · rw [hR.1] at ha hb
    obtain ⟨i, hi, rfl⟩ := pm_sur hp ha
    obtain ⟨j, hj, rfl⟩ := pm_sur hp hb
    have hij := prd_lt (pk := pk) hi hj
    have hpij := pm_lt hp.1 hij
    rw [g i hi j hj, Int.toNat_natCast]
    refine List.ext_getElem? fun c => ?_
    rw [List.getElem?_map]
    by_cases hc : c < n
    · obtain ⟨k, hk, rfl⟩ := pm_sur hp hc
      have hjk := prd_lt (pk := pk) hj hk
      rw [(gg_rw hR hpij hc).1, (gg_rw hR hb hc).1, Option.map_some, g j hj k hk, Int.toNat_natCast, g _ hij k hk, g i hi _ hjk, prd_assoc hi hj hk]
    · rw [List.getElem?_eq_none (by rw [hl _ hpij]; omega), List.getElem?_eq_none (by rw [hl _ hb]; omega)]; rfl
end



section
variable {P : Program} {w : World} {K : PySem.W.Frag} {mg : Str → Option Value} {base : Heap}
theorem DrawR.lift {H H1 H' : Hp} {p a : Addr} {as : List Addr} {L : List (List Int)} (h : DrawR H1 H' p a as L) (b : But p H H1) (hp : ∃ u, H1 p = some u) : DrawR H H' p a as L := by
  obtain ⟨h1, h2, h3, h4⟩ := h
  refine ⟨b.trans h1, h2, fun x hx => ?_, h4⟩
  cases hz : H x with
  | none => rfl
  | some u =>
    have n1 := h3 x hx
    by_cases e : x = p
    · subst e
      obtain ⟨u, hu⟩ := hp
      rw [n1] at hu; cases hu
    · rw [b x _ e hz] at n1; cases n1
theorem PoolAt.ex {H : Hp} {p : Addr} (h : PoolAt H p) : ∃ u, H p = some u := let ⟨_, _, _, e⟩ := h; ⟨_, e⟩
def spTable : Sp := fun vs H Q _ => ∃ p, vs = [.ref p, .int 6] ∧ PoolAt H p ∧ ∀ a as L n H', DrawR H H' p a as L → RwP n L → 0 < n → n < 32 → ShpP L → UntP L → OrdP L → GrpP L → Q (.ref a) H'
theorem ok_table (T : Top K mg "_law_table" s_table) (mR : mg "range" = none) (mMax : mg "max" = none) (FN : Fn P w K mg base 1 "_law_next" spNext) (FP : Fn P w K mg base 1 "_law_product" spPr) (FR : Fn P w K mg base 2 "_law_renamed" spRen) : Fn P w K mg base 3 "_law_table" spTable := by
  refine fn_okC T sc_table so_table (fun vs H Q E h => by obtain ⟨p, rfl, _⟩ := h; rfl) (fun _ _ _ _ _ _ us hl => match us, hl with | [_, _], _ => rfl) fun f cdv A outer s H vs Q E hr h nd => ?_
  obtain ⟨p, rfl, hp, q⟩ := h
  refine l_cons (s_set (e_bin (e_int (e_call (by exact FN) (by exact hr) (by decide) ?_))))
  refine a_cons (e_var (a_cons (e_int (a_nil ⟨p, 9, rfl, by decide, by decide, hp, fun d H1 d0 d1 b1 p1 => o_add ?_⟩))))
  obtain ⟨k1, rfl⟩ := Int.eq_ofNat_of_zero_le d0
  rw [show (1 : Int) + (k1 : Int) = ((1 + k1 : Nat) : Int) by omega]
  show wL _ _ _ [some (.ref p), some (.int 6), some (.int ((1 + k1 : Nat) : Int)), none, none, none, none] _
  refine l_join (fun σ H' => ∃ n : Nat, σ = [some (.ref p), some (.int 6), some (.int (n : Int)), none, none, none, none] ∧ 1 ≤ n ∧ n ≤ 17 ∧ But p H H' ∧ PoolAt H' p) ?_ fun go => ?_
  · intro σ H2 ⟨n, hσ, n1, n2, b2, p2⟩
    subst hσ
    refine l_cons (s_set (e_call (by exact FN) (by exact hr) (by decide) ?_))
    refine a_cons (e_var (a_cons (e_var (a_nil ⟨p, 6, rfl, by decide, by decide, p2, fun pk H3 k0 k1' b3 p3 => ?_⟩))))
    obtain ⟨pk, rfl⟩ := Int.eq_ofNat_of_zero_le k0
    show wL _ _ _ [some (.ref p), some (.int 6), some (.int (n : Int)), some (.int (pk : Int)), none, none, none] _
    refine l_join (fun σ H' => ∃ m : Nat, σ = [some (.ref p), some (.int 6), some (.int (m : Int)), some (.int (pk : Int)), none, none, none] ∧ 1 ≤ m ∧ m ≤ 17 ∧ H' = H3) ?_ fun go => ?_
    · intro σ H4 ⟨m, hσ, m1, m2, hH⟩
      subst hσ
      subst hH
      have b3' := b2.trans b3
      refine l_cons (s_set (e_lst (a_nil ⟨by show 0 ≤ sizeLine; decide, fun ra H5 e5 n5 h5 => ?_⟩)))
      show wL _ _ _ [some (.ref p), some (.int 6), some (.int (m : Int)), some (.int (pk : Int)), some (.ref ra), none, none] _
      obtain ⟨qx, qy, qz, hq⟩ := p3
      have nrp : ra ≠ p := fun z => by subst z; rw [hq] at n5; cases n5
      refine l_cons (s_forR (by assumption) (e_var ⟨m, rfl, by omega, fun k σ H' => ∃ x5 cs M, σ = [some (.ref p), some (.int 6), some (.int (m : Int)), some (.int (pk : Int)), some (.ref ra), x5, none] ∧ Rows H' ra cs M ∧ M.length = k ∧ (∀ r ∈ M, RgP m r) ∧ (∀ i < k, ∀ j < m, gg M i j = (prd pk m i j : Nat)) ∧ (∀ b ∈ cs, H5 b = none) ∧ ∀ c u, c ≠ ra → H5 c = some u → H' c = some u, ?_, ?_, ?_⟩))
      · exact ⟨none, [], [], rfl, ⟨h5, rfl, by simp⟩, rfl, by simp, fun _ h => absurd h (Nat.not_lt_zero _), by simp, fun _ _ _ h => h⟩
      · intro k σ H' hk pp
        obtain ⟨x5, cs, M, rfl, hM, hl, hg, hG, hf, keep⟩ := pp
        show wL _ _ _ [some (.ref p), some (.int 6), some (.int (m : Int)), some (.int (pk : Int)), some (.ref ra), some (.int (k : Int)), none] _
        have lcs := hM.rs.len
        refine l_cons (s_expr (e_app (e_var ⟨ra, _, rfl, SqL.of hM.hd, e_lcR (by exact bk_table0) (by assumption) (e_var ⟨m, rfl, by omega, fun D nD => ?_⟩)⟩)))
        refine ⟨fun j H2 => ∃ r, H2 D = some (.lst (iV r)) ∧ r.length = j ∧ (∀ x ∈ r, 0 ≤ x ∧ x < (m : Int)) ∧ (∀ i < j, r[i]? = some ((prd pk m k i : Nat) : Int)) ∧ Same H' H2, ⟨[], upd_same, rfl, by simp, fun _ h => absurd h (Nat.not_lt_zero _), fun c u hc => by rw [upd_ne (ne_of_none hc nD)]; exact hc⟩, ?_, ?_⟩
        · intro j H2 hj p s0 H0 C0 cl fp IB
          obtain ⟨r, r1, r2, r3, r5, r4⟩ := p
          refine b_call (by exact FP) (by exact hr) (by decide) (a_cons (b_var (a_cons (b_var (a_cons (b_var (a_cons (b_var (a_nil ?_)))))))))
          have hx := prd_lt (pk := pk) hk hj
          refine ⟨pk, m, k, j, rfl, by omega, by omega, hk, hj, ⟨_, r1, by rw [List.length_map]; show _ < 2 ^ 24; omega, r ++ [((prd pk m k j : Nat) : Int)], ?_, by rw [List.length_append, r2]; rfl, fun y hy => ?_, fun i hi => ?_, fun c u hc => by rw [upd_ne (ne_of_none hc nD)]; exact r4 _ _ hc⟩⟩
          · rw [upd_same, show iV (r ++ [((prd pk m k j : Nat) : Int)]) = iV r ++ iV [((prd pk m k j : Nat) : Int)] from List.map_append]; rfl
          · rcases List.mem_append.mp hy with hy | hy
            · exact r3 y hy
            · rw [List.mem_singleton.mp hy]; omega
          · by_cases e : i = j
            · subst e
              rw [List.getElem?_append_right (by omega), r2, Nat.sub_self]; rfl
            · rw [List.getElem?_append_left (by omega)]; exact r5 i (by omega)
        · intro H2 p
          obtain ⟨r, r1, r2, r3, r5, r4⟩ := p
          have hM2 := hM.same r4
          have nDr : D ≠ ra := fun z => by subst z; rw [hM.hd] at nD; cases nD
          have nDc : D ∉ cs := fun hc => by obtain ⟨r', h'⟩ := hM.rs.vl hc; rw [h'] at nD; cases nD
          have nD5 : H5 D = none := by
            cases hz : H5 D with
            | none => rfl
            | some u => rw [keep D _ nDr hz] at nD; cases nD
          have nd := List.nodup_cons.mp hM.nd
          refine ⟨_, hM2.hd, by rw [List.length_map]; show _ < 2 ^ 24; omega, l_nil ⟨_, cs ++ [D], M ++ [r], rfl, ⟨by rw [upd_same, List.map_append]; rfl, ?_, ?_⟩, by rw [List.length_append, hl]; rfl, fun x hx => ?_, fun i hi j hj => ?_, fun x hx => ?_, fun c u nc hc => by rw [upd_ne nc]; exact r4 _ _ (keep c u nc hc)⟩⟩
          · refine RsV.snoc (by rw [upd_ne nDr]; exact r1) (hM2.rs.keep fun b hb o z => ?_)
            rw [upd_ne (fun z2 => by subst z2; exact nd.1 hb)]
            exact z
          · exact nd_snoc (l := ra :: cs) hM.nd (fun mm => by
              rcases List.mem_cons.mp mm with mm | mm
              · exact nDr mm
              · exact nDc mm)
          · rcases List.mem_append.mp hx with hx | hx
            · exact hg x hx
            · rw [List.mem_singleton.mp hx]; exact ⟨r2, r3⟩
          · unfold gg nr
            rw [List.getD_eq_getElem?_getD, List.getD_eq_getElem?_getD]
            by_cases e : i = k
            · subst e
              rw [List.getElem?_append_right (by omega), hl, Nat.sub_self]
              show (r[j]?).getD 0 = _
              rw [r5 j hj]; rfl
            · rw [List.getElem?_append_left (by omega)]
              have := hG i (by omega) j hj
              unfold gg nr at this
              rw [List.getD_eq_getElem?_getD, List.getD_eq_getElem?_getD] at this
              exact this
          · rcases List.mem_append.mp hx with hx | hx
            · exact hf x hx
            · rw [List.mem_singleton.mp hx]; exact nD5
      · intro σ H6 pp
        obtain ⟨x5, cs, M, rfl, hM, hl, hg, hG, hf, keep⟩ := pp
        have hp6 : PoolAt H6 p := ⟨qx, qy, qz, keep p _ (Ne.symm nrp) (e5 _ _ hq)⟩
        have b6 : But p H H6 := fun c u nc hc => by
          have h4 := b3' c u nc hc
          exact keep c u (fun z => by subst z; rw [h4] at n5; cases n5) (e5 _ _ h4)
        refine l_cons (s_ret (e_call (by exact FR) (by exact hr) (by decide) ?_))
        refine a_cons (e_var (a_cons (e_var (a_nil ⟨p, ra, cs, M, m, rfl, hp6, hM, ⟨hl, hg⟩, by omega, by omega, fun b hb => ?_, fun a' as' L' ns H' hd hw hpm hgg => ?_⟩))))
        · rcases List.mem_cons.mp hb with rfl | hb
          · exact nrp
          · intro z
            subst z
            have := hf _ hb
            rw [e5 _ _ hq] at this; cases this
        · obtain ⟨t1, t2, t3, t4⟩ := table_ok (by omega) hG hw hpm hgg
          exact q a' as' L' m H' (hd.lift b6 hp6.ex) hw (by omega) (by omega) t1 t2 t3 t4
    · refine l_cons (s_if (t_cmp (e_var (e_int (o_eqI ⟨_, rfl, ?_⟩)))))
      exact ifF (by omega) (l_nil (go _ H3 ⟨n, rfl, n1, n2, rfl⟩))
  · refine l_cons (s_if (t_cmp (e_call (by exact FN) (by exact hr) (by decide) ?_)))
    refine a_cons (e_var (a_cons (e_int (a_nil ⟨p, 8, rfl, by decide, by decide, p1, fun d2 H2 d20 d21 b2 p2 => e_int (o_eqI ⟨_, rfl, ?_⟩)⟩))))
    refine if2 (fun h6 => ?_) (fun h6 => l_nil (go _ H2 ⟨1 + k1, rfl, by omega, by omega, b1.trans b2, p2⟩))
    refine l_cons (s_set (e_bin (e_var (e_int (o_add (l_nil ?_))))))
    exact go _ H2 ⟨1 + k1 + 8, rfl, by omega, by omega, b1.trans b2, p2⟩
end



/-- a kind as a value: once, or a pair -/
def ModeV (H : Hp) (m : V) : Option (Int × Int) → Prop
  | none => m = .str "once"
  | some (u, v) => ∃ t, m = .ref t ∧ H t = some (.tup [.int u, .int v])
inductive Sn where
  | word (z : Str)
  | menu (l r : Sn)
  | trade (k : Option (Int × Int)) (p g : Sn)
theorem ModeV.ts {H H' : Hp} {m : V} {k : Option (Int × Int)} (e : TS H H') (h : ModeV H m k) : ModeV H' m k := by
  cases k with
  | none => exact h
  | some uv =>
    obtain ⟨t, h1, h2⟩ := h
    exact ⟨t, h1, e _ _ h2⟩
def SnV (H : Hp) : V → Sn → Prop
  | v, .word z => ∃ t, v = .ref t ∧ H t = some (.tup [.str "word", .str z])
  | v, .menu l r => ∃ t a b, v = .ref t ∧ H t = some (.tup [.str "menu", a, b]) ∧ SnV H a l ∧ SnV H b r
  | v, .trade k p g => ∃ t m a b, v = .ref t ∧ H t = some (.tup [.str "trade", m, a, b]) ∧ ModeV H m k ∧ SnV H a p ∧ SnV H b g
theorem SnV.ts {H H' : Hp} (e : TS H H') : ∀ {s : Sn} {v : V}, SnV H v s → SnV H' v s
  | .word z, v, ⟨t, h1, h2⟩ => ⟨t, h1, e _ _ h2⟩
  | .menu l r, v, ⟨t, a, b, h1, h2, h3, h4⟩ => ⟨t, a, b, h1, e _ _ h2, h3.ts e, h4.ts e⟩
  | .trade k p g, v, ⟨t, m, a, b, h1, h2, h5, h3, h4⟩ => ⟨t, m, a, b, h1, e _ _ h2, h5.ts e, h3.ts e, h4.ts e⟩
/-- rows -/
def rws : Sn → Nat
  | .word _ => 1
  | .menu l r => rws l + rws r + 1
  | .trade _ p g => rws p + rws g + 1
/-- a stack of sentences, the top at the end -/
def StV (H : Hp) : List V → List Sn → Prop
  | [], [] => True
  | v :: vs, s :: ss => SnV H v s ∧ StV H vs ss
  | _, _ => False
theorem StV.ts {H H' : Hp} (e : TS H H') : ∀ {xs : List V} {ss : List Sn}, StV H xs ss → StV H' xs ss
  | [], [], _ => trivial
  | _ :: _, _ :: _, ⟨a, r⟩ => ⟨a.ts e, r.ts e⟩
theorem StV.len {H : Hp} : ∀ {xs : List V} {ss : List Sn}, StV H xs ss → xs.length = ss.length
  | [], [], _ => rfl
  | _ :: _, _ :: _, ⟨_, r⟩ => by simp [r.len]
theorem StV.app {H : Hp} {v : V} {s : Sn} (h : SnV H v s) : ∀ {xs : List V} {ss : List Sn}, StV H xs ss → StV H (xs ++ [v]) (ss ++ [s])
  | [], [], _ => ⟨h, trivial⟩
  | _ :: _, _ :: _, ⟨a, r⟩ => ⟨a, r.app h⟩
theorem StV.last {H : Hp} : ∀ {xs : List V} {ss : List Sn} {s : Sn}, StV H xs (ss ++ [s]) → ∃ ys v, xs = ys ++ [v] ∧ StV H ys ss ∧ SnV H v s
  | [], [], s, h => h.elim
  | [], _ :: _, s, h => h.elim
  | [v], [], s, ⟨a, _⟩ => ⟨[], v, rfl, trivial, a⟩
  | v :: w :: vs, [], s, ⟨_, h⟩ => h.elim
  | v :: vs, t :: ss, s, ⟨a, r⟩ => by
    obtain ⟨ys, u, e, h1, h2⟩ := StV.last (ss := ss) r
    exact ⟨v :: ys, u, by rw [e]; rfl, ⟨a, h1⟩, h2⟩
def stR (ss : List Sn) : Nat := (ss.map rws).sum
theorem stR_app (ss : List Sn) (s : Sn) : stR (ss ++ [s]) = stR ss + rws s := by simp [stR]
theorem rws_pos : ∀ s, 0 < rws s
  | .word _ => Nat.one_pos
  | .menu _ _ => Nat.succ_pos _
  | .trade _ _ _ => Nat.succ_pos _
theorem len_stR : ∀ ss : List Sn, ss.length ≤ stR ss
  | [] => Nat.le_refl _
  | s :: ss => by have := len_stR ss; have := rws_pos s; simp only [stR, List.map_cons, List.sum_cons, List.length_cons] at *; omega
theorem snoc_or {α : Type} : ∀ l : List α, l = [] ∨ ∃ a b, l = a ++ [b]
  | [] => .inl rfl
  | x :: xs => by
    rcases snoc_or xs with rfl | ⟨a, b, rfl⟩
    · exact .inr ⟨[], x, rfl⟩
    · exact .inr ⟨x :: a, b, rfl⟩
theorem updS {H H1 : Hp} {f : Addr} {o : HO} (s : Same H H1) (n : H f = none) : Same H (upd H1 f o) := fun x u h => by
  rw [upd_ne (ne_of_none h n)]
  exact s x u h
theorem ix_neg {X : Cx} {H : Hp} {Q : VK} {a : Addr} {xs : List V} {v : V} {j : Int} (h : H a = some (.tup xs)) (e : atI xs j = some v) (q : Q v H) : wIx X (.ref a) (.int j) H Q := ix_t (SqT.of h) e q
theorem mw : ¬ (("menu" : Str) = "word") := by decide +kernel
theorem tw : ¬ (("trade" : Str) = "word") := by decide +kernel
theorem tm : ¬ (("trade" : Str) = "menu") := by decide +kernel
abbrev Pk := Option (Int × Int)
def dep : Sn → Nat
  | .word _ => 0
  | .menu l r => max (dep l) (dep r) + 1
  | .trade _ p g => max (dep p) (dep g) + 1
/-! ### the different words -/
/-- once all through -/
def onc : Sn → Bool
  | .word _ => true
  | .menu l r => onc l && onc r
  | .trade k p g => k.isNone && onc p && onc g
/-- true at an element -/
def trb (L : List (List Int)) (F : FcT) : Sn → Nat → Bool
  | .word z, k => inF F z k
  | .menu l r, k => trb L F l k && trb L F r k
  | .trade _ p g, k => (List.range L.length).all fun v => !(trb L F p v) || trb L F g (gg L k v).toNat



section
variable {P : Program} {w : World} {K : PySem.W.Frag} {mg : Str → Option Value} {base : Heap}
theorem once_sh : SeqAt.shaped (.str "once") = true := by decide +kernel
theorem o_nePS {X : Cx} {H : Hp} {Q : VK} {n : Nat} {a : Addr} {u v : Int} (hr : Room n X.A) (h : H a = some (.tup [.int u, .int v])) (q : Q (.bl true) H) : wK X .NotEq (.ref a) (.str "once") H Q :=
  o_neD hr (.tup (SqT.of h) (.cons (.int u) (.cons (.int v) .nil))) (.str "once") rfl once_sh q
/-- m != 'once' -/
theorem o_neOnce {X : Cx} {H : Hp} {Q : VK} {n : Nat} {m : V} {k : Pk} (hr : Room n X.A) (h : ModeV H m k) (q : Q (.bl (!k.isNone)) H) : wK X .NotEq m (.str "once") H Q := by
  cases k with
  | none =>
    cases (show m = .str "once" from h)
    exact o_neS q
  | some uv =>
    obtain ⟨t, rfl, ht⟩ := h
    exact o_nePS hr ht q
def spOnce : Sp := fun vs H Q _ => ∃ v s, vs = [v] ∧ SnV H v s ∧ rws s ≤ 100000 ∧ ∀ H', Same H H' → Q (.bl (onc s)) H'
theorem ok_once (T : Top K mg "is_all_once" s_is_all_once) : Fn P w K mg base 1 "is_all_once" spOnce := by
  refine fn_ok T sc_is_all_once so_is_all_once (fun vs H Q E h => by obtain ⟨v, s, rfl, _⟩ := h; rfl) (fun _ _ _ _ _ _ us hl => match us, hl with | [_], _ => rfl) fun f cdv A outer s H vs Q E hr h nd => ?_
  obtain ⟨v, s, rfl, hv, hz, q⟩ := h
  refine l_cons (s_set (e_lst (a_cons (e_var (a_nil ⟨by show 1 ≤ sizeLine; decide, fun g H2 e2 ng hg => ?_⟩)))))
  show wL _ _ _ [some v, some (.ref g), none] _
  refine l_cons (s_whileN (fun n σ H' => ∃ y xs ss, σ = [some v, some (.ref g), y] ∧ Same H H' ∧ H' g = some (.lst xs) ∧ StV H' xs ss ∧ ss.all onc = onc s ∧ n = stR ss ∧ stR ss ≤ rws s)
    (rws s) ⟨_, [v], [s], rfl, e2, hg, ⟨hv.ts (Same.ts e2), trivial⟩, by simp, by simp [stR], by simp [stR]⟩ fun n σ H3 hW => ?_)
  obtain ⟨y, xs, ss, rfl, e3, hg3, hst, hn, rfl, hle⟩ := hW
  refine t_tru (e_var ⟨_, tru_l hg3, ?_⟩)
  rcases snoc_or ss with rfl | ⟨ss, s1, rfl⟩
  · have hx : xs = [] := by
      match xs, hst with
      | [], _ => rfl
    subst hx
    rw [show onc s = true from hn.symm] at q
    exact iteF (l_cons (s_ret (e_bl (q H3 e3))))
  · obtain ⟨xs, v1, rfl, hs2, hv1⟩ := hst.last
    clear hst
    rw [List.all_append] at hn
    rw [stR_app] at hle
    rw [stR_app]
    refine ite_t (by simp) ?_
    refine l_cons (s_set (e_pop (e_var ⟨g, xs, v1, rfl, hg3, ?_⟩)))
    have ts4 := TS.upd (o := .lst xs) hg3
    replace hv1 := hv1.ts ts4
    replace hs2 := hs2.ts ts4
    have e4 : Same H (upd H3 g (.lst xs)) := updS e3 ng
    have hg4 : (upd H3 g (.lst xs)) g = some (.lst xs) := upd_same
    generalize upd H3 g (.lst xs) = H4 at *
    have hll := len_stR ss
    have hlx := hs2.len
    show wL _ _ _ [some v, some (.ref g), some v1] _
    cases s1 with
    | word z =>
      obtain ⟨t, rfl, ht⟩ := hv1
      refine l_cons (s_if (t_cmp (e_ix (e_var (e_int (ix_t (by exact SqT.of ht) at0 (e_str (o_neS ⟨_, rfl, ?_⟩))))))))
      refine ite_f (by simp) (l_nil ?_)
      refine l_cons (s_if (t_w (w_and (t_cmp (e_ix (e_var (e_int (ix_t (by exact SqT.of ht) at0 (e_str (o_eqS ⟨_, rfl, ?_⟩))))))))))
      refine ite_f (by decide +kernel) (ite_f rfl (l_nil (l_nil ⟨stR ss, by simp [rws], _, xs, ss, rfl, e4, hg4, hs2, by simpa [onc] using hn, rfl, by omega⟩)))
    | menu l r =>
      obtain ⟨t, a, b, rfl, ht, ha, hb⟩ := hv1
      simp only [rws] at hle ⊢
      refine l_cons (s_if (t_cmp (e_ix (e_var (e_int (ix_t (by exact SqT.of ht) at0 (e_str (o_neS ⟨_, rfl, ?_⟩))))))))
      refine ite_t (by decide +kernel) ?_
      refine l_cons (s_expr (e_app ?_))
      walk_at "sts"
      refine ⟨g, _, rfl, SqL.of hg4, ?_⟩
      walk_at "sts"
      refine ix_neg (by exact ht) rfl ?_
      refine ⟨_, hg4, by rw [hlx]; show ss.length < 2 ^ 24; omega, ?_⟩
      have ts5 := TS.upd (o := .lst (xs ++ [b])) hg4
      refine l_cons (s_expr (e_app ?_))
      walk_at "sts"
      refine ⟨g, _, rfl, SqL.of upd_same, ?_⟩
      walk_at "sts"
      refine ix_neg (by exact ts5 _ _ ht) rfl ?_
      refine ⟨_, upd_same, by rw [List.length_append, hlx]; show ss.length + 1 < 2 ^ 24; omega, ?_⟩
      have ts6 := ts5.trans (TS.upd (o := .lst (xs ++ [b] ++ [a])) upd_same)
      refine l_nil ?_
      refine l_cons (s_if (t_w (w_and (t_cmp (e_ix (e_var (e_int (ix_t (by exact SqT.of (ts6 _ _ ht)) at0 (e_str (o_eqS ⟨_, rfl, ?_⟩))))))))))
      refine ite_f (by decide +kernel) (ite_f rfl (l_nil (l_nil ⟨stR ss + rws r + rws l, by omega, _, xs ++ [b] ++ [a], ss ++ [r] ++ [l], rfl, updS (updS e4 ng) ng, upd_same, ((hs2.ts ts6).app (hb.ts ts6)).app (ha.ts ts6), ?_, by rw [stR_app, stR_app], by rw [stR_app, stR_app]; omega⟩)))
      rw [← hn]
      simp only [List.all_append, List.all_cons, List.all_nil, Bool.and_true, onc]
      cases ss.all onc <;> cases onc l <;> cases onc r <;> rfl
    | trade k l r =>
      obtain ⟨t, m, a, b, rfl, ht, hm, ha, hb⟩ := hv1
      simp only [rws] at hle ⊢
      refine l_cons (s_if (t_cmp (e_ix (e_var (e_int (ix_t (by exact SqT.of ht) at0 (e_str (o_neS ⟨_, rfl, ?_⟩))))))))
      refine ite_t (by decide +kernel) ?_
      refine l_cons (s_expr (e_app ?_))
      walk_at "sts"
      refine ⟨g, _, rfl, SqL.of hg4, ?_⟩
      walk_at "sts"
      refine ix_neg (by exact ht) rfl ?_
      refine ⟨_, hg4, by rw [hlx]; show ss.length < 2 ^ 24; omega, ?_⟩
      have ts5 := TS.upd (o := .lst (xs ++ [b])) hg4
      refine l_cons (s_expr (e_app ?_))
      walk_at "sts"
      refine ⟨g, _, rfl, SqL.of upd_same, ?_⟩
      walk_at "sts"
      refine ix_neg (by exact ts5 _ _ ht) rfl ?_
      refine ⟨_, upd_same, by rw [List.length_append, hlx]; show ss.length + 1 < 2 ^ 24; omega, ?_⟩
      have ts6 := ts5.trans (TS.upd (o := .lst (xs ++ [b] ++ [a])) upd_same)
      refine l_nil ?_
      refine l_cons (s_if (t_w (w_and (t_cmp (e_ix (e_var (e_int (ix_t (by exact SqT.of (ts6 _ _ ht)) at0 (e_str (o_eqS ⟨_, rfl, ?_⟩))))))))))
      refine ite_t (by decide +kernel) (w_and1 (t_cmp (e_ix (e_var (e_int (ix_t (by exact SqT.of (ts6 _ _ ht)) at1 (e_str (o_neOnce (by exact hr) (hm.ts ts6) ⟨_, rfl, ?_⟩))))))))
      cases k with
      | some uv =>
        refine ite_t rfl (l_cons (s_ret (e_bl ?_)))
        rw [show onc s = false from by rw [← hn]; simp [onc]] at q
        exact q _ (updS (updS e4 ng) ng)
      | none =>
        refine ite_f rfl (l_nil (l_nil ⟨stR ss + rws r + rws l, by omega, _, xs ++ [b] ++ [a], ss ++ [r] ++ [l], rfl, updS (updS e4 ng) ng, upd_same, ((hs2.ts ts6).app (hb.ts ts6)).app (ha.ts ts6), ?_, by rw [stR_app, stR_app], by rw [stR_app, stR_app]; omega⟩))
        rw [← hn]
        simp only [List.all_append, List.all_cons, List.all_nil, Bool.and_true, onc, Option.isNone_none, Bool.true_and]
        cases ss.all onc <;> cases onc l <;> cases onc r <;> rfl
end



section
variable {P : Program} {w : World} {K : PySem.W.Frag} {mg : Str → Option Value} {base : Heap}
def spLOnce (n : Nat) : Sp := fun vs H Q _ => ∃ v s, vs = [v] ∧ SnV H v s ∧ dep s ≤ n ∧ ∀ H', Same H H' → Q (.bl (onc s)) H'
theorem ok_lonceS (n : Nat) (T : Top K mg "_law_once" s_once) (F : ∀ m, n = m + 1 → Fn P w K mg base (m + 1) "_law_once" (spLOnce m)) : Fn P w K mg base (n + 1) "_law_once" (spLOnce n) := by
  refine fn_ok T sc_once so_once (fun vs H Q E h => by obtain ⟨v, s, rfl, _⟩ := h; rfl) (fun _ _ _ _ _ _ us hl => match us, hl with | [_], _ => rfl) fun f cdv A outer s H vs Q E hr h nd => ?_
  obtain ⟨v, s, rfl, hv, hd, q⟩ := h
  cases s with
  | word z =>
    obtain ⟨t, rfl, ht⟩ := hv
    refine l_cons (s_if (t_cmp (e_ix (e_var (e_int (ix_t (by exact SqT.of ht) at0 (e_str (o_eqS ⟨_, rfl, ?_⟩))))))))
    exact ite_t (by decide +kernel) (l_cons (s_ret (e_bl (q H (Same.refl _)))))
  | menu l r =>
    obtain ⟨t, a, b, rfl, ht, ha, hb⟩ := hv
    have hd' : max (dep l) (dep r) + 1 ≤ n := hd
    obtain ⟨m, rfl⟩ : ∃ m, n = m + 1 := ⟨n - 1, by omega⟩
    have FO := F m rfl
    refine l_cons (s_if (t_cmp (e_ix (e_var (e_int (ix_t (by exact SqT.of ht) at0 (e_str (o_eqS ⟨_, rfl, ?_⟩))))))))
    refine ite_f (by decide +kernel) (l_nil ?_)
    refine l_cons (s_if (t_w (w_and (t_cmp (e_ix (e_var (e_int (ix_t (by exact SqT.of ht) at0 (e_str (o_eqS ⟨_, rfl, ?_⟩))))))))))
    refine ite_f (by decide +kernel) (ite_f rfl (l_nil ?_))
    refine l_cons (s_ret (e_and (e_call (by exact FO) (by exact hr) (by omega) ?_)))
    walk_at "sts"
    refine ix_neg (by exact ht) rfl ?_
    walk_at "sts"
    refine ⟨a, l, rfl, ha, by omega, fun H2 e2 => ⟨_, rfl, ?_⟩⟩
    have qq : ∀ H', Same H H' → Q (.bl (onc l && onc r)) H' := q
    cases ho : onc l with
    | false =>
      rw [ho] at qq
      exact ite_f rfl (qq H2 e2)
    | true =>
      rw [ho] at qq
      refine ite_t rfl (e_one (e_call (by exact FO) (by exact hr) (by omega) ?_))
      walk_at "sts"
      refine ix_neg (by exact e2 _ _ ht) rfl ?_
      walk_at "sts"
      exact ⟨b, r, rfl, hb.ts (Same.ts e2), by omega, fun H3 e3 => qq H3 (e2.trans e3)⟩
  | trade k l r =>
    obtain ⟨t, md, a, b, rfl, ht, hm, ha, hb⟩ := hv
    have hd' : max (dep l) (dep r) + 1 ≤ n := hd
    obtain ⟨m, rfl⟩ : ∃ m, n = m + 1 := ⟨n - 1, by omega⟩
    have FO := F m rfl
    refine l_cons (s_if (t_cmp (e_ix (e_var (e_int (ix_t (by exact SqT.of ht) at0 (e_str (o_eqS ⟨_, rfl, ?_⟩))))))))
    refine ite_f (by decide +kernel) (l_nil ?_)
    refine l_cons (s_if (t_w (w_and (t_cmp (e_ix (e_var (e_int (ix_t (by exact SqT.of ht) at0 (e_str (o_eqS ⟨_, rfl, ?_⟩))))))))))
    refine ite_t (by decide +kernel) (w_and1 (t_cmp (e_ix (e_var (e_int (ix_t (by exact SqT.of ht) at1 (e_str (o_neOnce (by exact hr) hm ⟨_, rfl, ?_⟩))))))))
    cases k with
    | some uv =>
      refine ite_t rfl (l_cons (s_ret (e_bl ?_)))
      exact q H (Same.refl _)
    | none =>
      refine ite_f rfl (l_nil ?_)
      refine l_cons (s_ret (e_and (e_call (by exact FO) (by exact hr) (by omega) ?_)))
      walk_at "sts"
      refine ix_neg (by exact ht) rfl ?_
      walk_at "sts"
      refine ⟨a, l, rfl, ha, by omega, fun H2 e2 => ⟨_, rfl, ?_⟩⟩
      have qq : ∀ H', Same H H' → Q (.bl (onc l && onc r)) H' := q
      cases ho : onc l with
      | false =>
        rw [ho] at qq
        exact ite_f rfl (qq H2 e2)
      | true =>
        rw [ho] at qq
        refine ite_t rfl (e_one (e_call (by exact FO) (by exact hr) (by omega) ?_))
        walk_at "sts"
        refine ix_neg (by exact e2 _ _ ht) rfl ?_
        walk_at "sts"
        exact ⟨b, r, rfl, hb.ts (Same.ts e2), by omega, fun H3 e3 => qq H3 (e2.trans e3)⟩
theorem ok_lonce (T : Top K mg "_law_once" s_once) : ∀ n, Fn P w K mg base (n + 1) "_law_once" (spLOnce n)
  | 0 => ok_lonceS 0 T fun m h => by cases h
  | n + 1 => ok_lonceS (n + 1) T fun m h => by cases h; exact ok_lonce T n
end



def sVs (l : List Str) : List V := l.map V.str
theorem sVs_get {l : List Str} {k : Nat} {v : V} (h : (sVs l)[k]? = some v) : ∃ z, l[k]? = some z ∧ v = .str z := by
  simp only [sVs, List.getElem?_map] at h
  cases hz : l[k]? with
  | none => rw [hz] at h; cases h
  | some z => rw [hz] at h; cases h; exact ⟨z, rfl, rfl⟩
/-- all but two stay -/
def Bu (p t : Addr) (H H' : Hp) : Prop := ∀ b o, b ≠ p → b ≠ t → H b = some o → H' b = some o
theorem PoolAt.up {H H' : Hp} {a : Addr} (e : Same H H') (h : PoolAt H a) : PoolAt H' a := let ⟨x, y, z, p⟩ := h; ⟨x, y, z, e _ _ p⟩
theorem PoolAt.ne {H : Hp} {a b : Addr} (h : PoolAt H a) (n : H b = none) : b ≠ a := fun e => by subst e; obtain ⟨_, _, _, q⟩ := h; rw [q] at n; cases n
abbrev stems : List Str := ["a", "b", "c", "door", "key2", "x", "menu", "long12345678"]
theorem sVs_at {ns : List Str} {d : Int} (h0 : 0 ≤ d) (h1 : d < ns.length) : ∃ z, z ∈ ns ∧ atI (sVs ns) d = some (.str z) := by
  obtain ⟨j, rfl⟩ := Int.eq_ofNat_of_zero_le h0
  have hj : j < ns.length := by omega
  refine ⟨ns[j], List.getElem_mem hj, atI_nat ?_⟩
  simp [sVs, hj]
/-- a word of the drawn ones: some signs, twelve at most -/
def OkW (z : Str) : Prop := 0 < z.length ∧ z.length ≤ 12
theorem stems_ok : ∀ z ∈ stems, OkW z := by unfold OkW; decide +kernel
theorem putK_len (kvs : List (Key × V)) (k : Key) (v : V) : (putK kvs k v).length ≤ kvs.length + 1 := by
  unfold putK
  split
  · rw [List.length_map]; omega
  · rw [List.length_append]; exact Nat.le_refl _
theorem mergeK_len : ∀ (l kvs : List (Key × V)), (mergeK kvs l).length ≤ kvs.length + l.length
  | [], kvs => Nat.le_refl _
  | x :: l, kvs => by
    have := mergeK_len l (putK kvs x.1 x.2)
    have h2 := putK_len kvs x.1 x.2
    show (mergeK (putK kvs x.1 x.2) l).length ≤ kvs.length + (l.length + 1)
    omega
/-- what is drawn from: the pool p, the words at wd, the taken names at tk, in the dict a -/
structure StAt (H : Hp) (fm : Str) (a p wd tk : Addr) (ws ts : List Str) : Prop where
  d : ∃ kvs, H a = some (.dK kvs) ∧ valV kvs (Sum.inr "pool") = some (.ref p) ∧ valV kvs (Sum.inr "forms") = some (.str fm) ∧ valV kvs (Sum.inr "words") = some (.ref wd) ∧ valV kvs (Sum.inr "taken") = some (.ref tk) ∧ kvs.length ≤ 20
  pl : PoolAt H p
  wl : H wd = some (.lst (sVs ws))
  tl : H tk = some (.lst (sVs ts))
  wp : wd ≠ p
  tp : tk ≠ p
  wt : wd ≠ tk
  w0 : 0 < ws.length
  w4 : ws.length ≤ 4
  ok : ∀ z ∈ ws, OkW z
section
variable {a p wd tk : Addr} {ws ts : List Str} {fm : Str}
theorem StAt.ap {H : Hp} (h : StAt H fm a p wd tk ws ts) : a ≠ p := fun e => by
  obtain ⟨kvs, h1, _⟩ := h.d
  obtain ⟨_, _, _, h2⟩ := h.pl
  rw [e, h2] at h1
  cases h1
theorem StAt.at' {H : Hp} (h : StAt H fm a p wd tk ws ts) : a ≠ tk := fun e => by
  obtain ⟨kvs, h1, _⟩ := h.d
  rw [e, h.tl] at h1
  cases h1
theorem StAt.but {H H' : Hp} (h : StAt H fm a p wd tk ws ts) (b : But p H H') (q : PoolAt H' p) : StAt H' fm a p wd tk ws ts :=
  ⟨let ⟨kvs, h1, h2⟩ := h.d; ⟨kvs, b a _ h.ap h1, h2⟩, q, b _ _ h.wp h.wl, b _ _ h.tp h.tl, h.wp, h.tp, h.wt, h.w0, h.w4, h.ok⟩
theorem StAt.bu {H H' : Hp} {us : List Str} (h : StAt H fm a p wd tk ws ts) (b : Bu p tk H H') (q : PoolAt H' p) (t' : H' tk = some (.lst (sVs us))) : StAt H' fm a p wd tk ws us :=
  ⟨let ⟨kvs, h1, h2⟩ := h.d; ⟨kvs, b a _ h.ap h.at' h1, h2⟩, q, b _ _ h.wp h.wt h.wl, t', h.wp, h.tp, h.wt, h.w0, h.w4, h.ok⟩
end
section
variable {P : Program} {w : World} {K : PySem.W.Frag} {mg : Str → Option Value} {base : Heap}
def spState : Sp := fun vs H Q _ => ∃ p m fm, vs = [.ref p, .str fm, .int m] ∧ PoolAt H p ∧ 0 < m ∧ m < 1000000 ∧ ∀ a wd tk ws H', But p H H' → StAt H' fm a p wd tk ws [] → H a = none → Q (.ref a) H'
theorem ok_state (T : Top K mg "_law_state" s_state) (mInt : mg "int" = none) (mR : mg "range" = none) (F : Fn P w K mg base 1 "_law_next" spNext) : Fn P w K mg base 2 "_law_state" spState := by
  refine fn_okC T sc_state so_state (fun vs H Q E h => by obtain ⟨p, m, fm, rfl, _⟩ := h; rfl) (fun _ _ _ _ _ _ us hl => match us, hl with | [_, _, _], _ => rfl) fun f cdv A outer s H vs Q E hr h nd => ?_
  obtain ⟨p, m, fm, rfl, hp, hm0, hm1, q⟩ := h
  walk_at "sts"
  refine ⟨by show 8 ≤ sizeLine; decide, fun l H1 e1 nl hl => ?_⟩
  have hlp := hp.ne nl
  walk_at "sts"
  refine e_call (by exact F) (by exact hr) (by decide) ?_
  walk_at "sts"
  refine ⟨p, 8, rfl, by decide, by decide, hp.up e1, fun d H2 d0 d1 b2 p2 => ?_⟩
  have hl2 := b2 l _ hlp hl
  refine l_cons (s_lcR (by exact bk_state0) (by assumption) ?_)
  walk_at "sts"
  refine e_call (by exact F) (by exact hr) (by decide) ?_
  walk_at "sts"
  refine ⟨p, 4, rfl, by decide, by decide, p2, fun d3 H3 e0 e1' b3 p3 => ?_⟩
  obtain ⟨n, rfl⟩ := Int.eq_ofNat_of_zero_le e0
  have hl3 := b3 l _ hlp hl2
  walk_at "sts"
  refine ⟨Nat.lt_of_lt_of_le (show 1 + n < 5 by omega) (by decide), fun D nD => ?_⟩
  have hDp := p3.ne nD
  have hDl : D ≠ l := fun e => by subst e; rw [hl3] at nD; cases nD
  refine ⟨fun k H' => ∃ ws : List Str, ws.length = k ∧ (∀ z ∈ ws, z ∈ stems) ∧ H' D = some (.lst (sVs ws)) ∧ ∀ b o, b ≠ D → H3 b = some o → H' b = some o, ⟨[], rfl, fun z hz => by simp at hz, upd_same, fun b o nb e => by rw [upd_ne nb]; exact e⟩, fun k H' hk hW s0 H0 C cl fp IB => ?_, fun H' hW => ?_⟩
  · obtain ⟨ws, rfl, hws, hD, hk'⟩ := hW
    have hk5 : ws.length < 5 := by have h1 : ws.length < 1 + n := hk; omega
    refine e_ix (b_var (e_bin (b_callTy (x := "int") (by assumption) b_int (a_cons (e_bin (b_var (e_bin (e_int (b_var ?_)))))))))
    refine o_mul (.inl (by decide)) (o_add (a_nil (c_int (e_int (o_mod (by decide) ?_)))))
    obtain ⟨z, hz, hat⟩ := sVs_at (ns := stems) (Int.emod_nonneg (d + 3 * (ws.length : Int)) (show (8 : Int) ≠ 0 by decide)) (Int.emod_lt_of_pos (d + 3 * (ws.length : Int)) (by decide))
    refine ix_l (by exact SqL.of (hk' l _ hDl.symm hl3)) hat ⟨_, hD, by simp only [sVs, List.length_map]; exact Nat.lt_of_lt_of_le hk5 (by decide), ws ++ [z], by simp, fun y hy => ?_, by rw [upd_same]; simp [sVs], fun b o nb e => by rw [upd_ne nb]; exact hk' b o nb e⟩
    rcases List.mem_append.mp hy with hy | hy
    · exact hws y hy
    · rw [List.mem_singleton] at hy
      subst hy
      exact hz
  · obtain ⟨ws, hlen, hws, hD, hk'⟩ := hW
    have p4 : PoolAt H' p := let ⟨x, y, z, e⟩ := p3; ⟨x, y, z, hk' p _ hDp.symm e⟩
    have b4 : But p H H' := fun b o nb e => hk' b o (fun z => by subst z; rw [b3 b o nb (b2 b o nb (e1 b o e))] at nD; cases nD) (b3 b o nb (b2 b o nb (e1 b o e)))
    refine l_cons (s_ret (e_of (pe_disp (pps_cons pe pe (pps_cons pe pe (pps_cons pe pe (pps_cons pe pe (pps_cons pe pe (pps_cons pe pe (pps_cons pe pe (pps_cons pe pe (pps_cons pe pe pps_nil))))))))) (by rfl) (by rfl) (fun z => by cases z) (by decide)) ?_))
    simp only [tDisp, tPairs]
    intro a na
    have haD : a ≠ D := fun e => by subst e; rw [hD] at na; cases na
    have hap := p4.ne na
    have nHa : H a = none := by
      cases hz : H a with
      | none => rfl
      | some u => rw [b4 a u hap hz] at na; cases na
    have b5 : But p H (upd H' a (.dK [])) := fun b o nb e => by rw [upd_ne (ne_of_none (b4 b o nb e) na)]; exact b4 b o nb e
    have p5 : PoolAt (upd H' a (.dK [])) p := let ⟨x, y, z, e⟩ := p4; ⟨x, y, z, by rw [upd_ne hap.symm]; exact e⟩
    have hD5 : (upd H' a (.dK [])) D = some (.lst (sVs ws)) := by rw [upd_ne haD.symm]; exact hD
    have ha5 : (upd H' a (.dK [])) a = some (.dK []) := upd_same
    generalize upd H' a (.dK []) = H5 at *
    refine e_str (e_var (e_str (e_var (e_str (e_var (e_str (e_dnew fun r1 n1 => ?_)))))))
    have s1 : Same H5 (upd H5 r1 (.dK [])) := updS (Same.refl H5) n1
    generalize upd H5 r1 (.dK []) = H6 at *
    refine e_str (e_dnew fun r2 n2 => ?_)
    have s2 : Same H5 (upd H6 r2 (.dK [])) := s1.trans (updS (Same.refl H6) n2)
    generalize upd H6 r2 (.dK []) = H7 at *
    refine e_str (e_dnew fun r3 n3 => ?_)
    have s3 : Same H5 (upd H7 r3 (.dK [])) := s2.trans (updS (Same.refl H7) n3)
    generalize upd H7 r3 (.dK []) = H8 at *
    refine e_str (e_lst (a_nil ⟨by show 0 ≤ sizeLine; decide, fun r4 H9 e9 n4 h4 => ?_⟩))
    refine e_str (e_lst (a_nil ⟨by show 0 ≤ sizeLine; decide, fun tk H10 e10 n5 h5 => ?_⟩))
    have s10 : Same H5 H10 := (s3.trans e9).trans e10
    refine e_str (e_bin (e_int ?_))
    refine e_call (by exact F) (by exact hr) (by decide) ?_
    walk_at "sts"
    refine ⟨p, m, rfl, hm0, by omega, p5.up s10, fun d6 H11 g0 g1 b11 p11 => ?_⟩
    refine o_add ⟨b11 a _ hap (s10 a _ ha5), [(Sum.inr "pool", .ref p), (Sum.inr "forms", .str fm), (Sum.inr "words", .ref D), (Sum.inr "rules", .ref r1), (Sum.inr "entries", .ref r2), (Sum.inr "meets", .ref r3), (Sum.inr "holds", .ref r4), (Sum.inr "taken", .ref tk), (Sum.inr "budget", .int (2 + d6))], rfl, by show 9 ≤ 15; decide, ?_⟩
    have n10 : H5 tk = none := none_of (s3.trans e9) n5
    have htD : tk ≠ D := fun e => by subst e; rw [hD5] at n10; cases n10
    have htp : tk ≠ p := p5.ne n10
    have hta : tk ≠ a := fun e => by subst e; rw [ha5] at n10; cases n10
    have b12 : ∀ b o, b ≠ p → b ≠ a → H5 b = some o → (upd H11 a (.dK (mergeK [] [(Sum.inr "pool", .ref p), (Sum.inr "forms", .str fm), (Sum.inr "words", .ref D), (Sum.inr "rules", .ref r1), (Sum.inr "entries", .ref r2), (Sum.inr "meets", .ref r3), (Sum.inr "holds", .ref r4), (Sum.inr "taken", .ref tk), (Sum.inr "budget", .int (2 + d6))]))) b = some o := fun b o nb nb2 e => by
      rw [upd_ne nb2]
      exact b11 b o nb (s10 b o e)
    refine q a D tk ws _ (fun b o nb e => ?_) ⟨⟨_, upd_same, ?_, ?_, ?_, ?_, Nat.le_trans (mergeK_len _ _) (by show 0 + 9 ≤ 20; decide)⟩, ?_, b12 D _ hDp haD.symm hD5, ?_, hDp, htp, htD.symm, ?_, ?_, fun z hz => stems_ok z (hws z hz)⟩ nHa
    · have nba : b ≠ a := fun z => by subst z; exact absurd (b4 b o nb e) (by rw [na]; intro z; cases z)
      exact b12 b o nb nba (b5 b o nb e)
    · simp only [mergeK, List.foldl_cons, List.foldl_nil, valV_put]
      repeat (first | rw [if_pos trivial] | rw [if_neg (by decide +kernel)])
    · simp only [mergeK, List.foldl_cons, List.foldl_nil, valV_put]
      repeat (first | rw [if_pos trivial] | rw [if_neg (by decide +kernel)])
    · simp only [mergeK, List.foldl_cons, List.foldl_nil, valV_put]
      repeat (first | rw [if_pos trivial] | rw [if_neg (by decide +kernel)])
    · simp only [mergeK, List.foldl_cons, List.foldl_nil, valV_put]
      repeat (first | rw [if_pos trivial] | rw [if_neg (by decide +kernel)])
    · obtain ⟨x, y, z, e⟩ := p11
      exact ⟨x, y, z, by rw [upd_ne hap.symm]; exact e⟩
    · rw [upd_ne hta]
      exact b11 tk _ htp h5
    · have h1 : ws.length = 1 + n := hlen
      omega
    · have h1 : ws.length = 1 + n := hlen
      omega
end



section
variable {P : Program} {w : World} {K : PySem.W.Frag} {mg : Str → Option Value} {base : Heap}
theorem sg_m : (Str.ofString "m") = sg 109 := by decide +kernel
theorem sg_s : (Str.ofString "s") = sg 115 := by decide +kernel
theorem m_in {fm : Str} (h : fm = "m" ∨ fm = "ms") : decide (109 ∈ fm.cps.toList) = true := by rcases h with rfl | rfl <;> decide +kernel
/-- the suite of a test -/
def ifA (b : List Stmt) (i : Nat) : List Stmt := match b.getD i (.Pass ⟨0, 0, 0, 0⟩) with
  | .If _ a _ _ => a
  | _ => []
def spSent (n : Nat) : Sp := fun vs H Q _ => ∃ fm a p wd tk ws ts, ∃ d : Nat, vs = [.ref a, .int d] ∧ StAt H fm a p wd tk ws ts ∧ (fm = "m" ∨ fm = "ms") ∧ d ≤ n ∧ ∀ v s H', But p H H' → PoolAt H' p → SnV H' v s → dep s ≤ d → rws s < 2 ^ (d + 1) → Q v H'
theorem ok_sentS (n : Nat) (T : Top K mg "_law_sentence" s_sentence) (mLen : mg "len" = none) (FX : Fn P w K mg base 1 "_law_next" spNext) (F : ∀ m, n = m + 1 → Fn P w K mg base (m + 2) "_law_sentence" (spSent m)) : Fn P w K mg base (n + 2) "_law_sentence" (spSent n) := by
  refine fn_ok T sc_sentence so_sentence (fun vs H Q E h => by obtain ⟨fm, a, p, wd, tk, ws, ts, d, rfl, _⟩ := h; rfl) (fun _ _ _ _ _ _ us hl => match us, hl with | [_, _], _ => rfl) fun f cdv A outer s H vs Q E hr h nd => ?_
  obtain ⟨fm, a, p, wd, tk, ws, ts, d, rfl, hs, hfm, hdn, q⟩ := h
  have G := fun {H' : Hp} (h : StAt H' fm a p wd tk ws ts) => h.d
  obtain ⟨kvs, k1, k2, k3, k4, k5⟩ := G hs
  walk_at "sts"
  refine ix_d (by exact hr) ⟨a, .ref p, rfl, dg_k k1 k2, ?_⟩
  walk_at "sts"
  refine e_call (by exact FX) (by exact hr) (by omega) ?_
  walk_at "sts"
  refine ⟨p, 8, rfl, by decide, by decide, hs.pl, fun d1 H1 d10 d11 b1 p1 => ?_⟩
  have hs1 := hs.but b1 p1
  have k11 := b1 a _ hs.ap k1
  have leaf : ∀ σ, σ = [some (V.ref a), some (.int d), some (.ref p), some (.int d1), none, none] → wL (cxOf CX0 P w K mg base N_sentence (Str.ofString "_law_sentence") (defScope s_sentence) f cdv A outer s H E).nox (ifA (defBody s_sentence) 2) { nx := fun σ' H' => wL (cxOf CX0 P w K mg base N_sentence (Str.ofString "_law_sentence") (defScope s_sentence) f cdv A outer s H E).nox ((defBody s_sentence).drop 3) { nx := fun _ H' => Q .non H', rt := Q } σ' H', rt := Q } σ H1 := by
    rintro σ rfl
    show wL _ (_ :: _) _ _ _
    refine l_cons (s_ret (e_tup ?_))
    walk_at "sts"
    refine ix_d (by exact hr) ⟨a, .ref wd, rfl, dg_k k11 k4, ?_⟩
    refine e_call (by exact FX) (by exact hr) (by omega) ?_
    walk_at "sts"
    refine ix_d (by exact hr) ⟨a, .ref wd, rfl, dg_k k11 k4, ?_⟩
    walk_at "sts"
    refine c_lenL (by exact SqL.of hs1.wl) ?_
    rw [show (sVs ws).length = ws.length by simp [sVs]]
    have h1 := hs1.w0
    have h2 := hs1.w4
    walk_at "sts"
    refine ⟨p, _, rfl, by omega, by omega, p1, fun d2 H2 e0 e1 b2 p2 => ?_⟩
    obtain ⟨z, hz, hat⟩ := sVs_at e0 e1
    refine ix_l (by exact SqL.of (b2 wd _ hs1.wp hs1.wl)) hat ?_
    walk_at "sts"
    refine ⟨by show 2 ≤ sizeLine; decide, fun t H3 e3 _ ht => ?_⟩
    exact q _ (.word z) H3 ((b1.trans b2).trans (But.of e3)) (p2.up e3) ⟨t, rfl, ht⟩ (Nat.zero_le _) (by show 1 < 2 ^ (d + 1); rw [Nat.pow_succ]; have := Nat.one_le_two_pow (n := d); omega)
  walk_at "sts"
  refine if2 (fun h0 => leaf _ rfl) (fun h0 => ?_)
  refine w_or1 (t_cmp ?_)
  walk_at "sts"
  refine if2 (fun h1 => leaf _ rfl) (fun h1 => l_nil ?_)
  obtain ⟨m, rfl⟩ : ∃ m, n = m + 1 := ⟨n - 1, by omega⟩
  obtain ⟨i, rfl⟩ : ∃ i, d = i + 1 := ⟨d - 1, by omega⟩
  have F0 := F m rfl
  have ei : ((i + 1 : Nat) : Int) - 1 = (i : Int) := by omega
  walk_at "sts"
  refine e_call (by exact F0) (by exact hr) (by omega) ?_
  walk_at "sts"
  rw [ei]
  refine ⟨fm, a, p, wd, tk, ws, ts, i, rfl, hs1, hfm, by omega, fun v1 s1 H2 b2 p2 g1 dd1 r1 => ?_⟩
  have hs2 := hs1.but b2 p2
  walk_at "sts"
  refine e_call (by exact F0) (by exact hr) (by omega) ?_
  walk_at "sts"
  rw [ei]
  refine ⟨fm, a, p, wd, tk, ws, ts, i, rfl, hs2, hfm, by omega, fun v2 s2 H3 b3 p3 g2 dd2 r2 => ?_⟩
  replace g1 := g1.ts (p2.ts b3)
  have hs3 := hs2.but b3 p3
  have b13 := (b1.trans b2).trans b3
  have k13 := b13 a _ hs.ap k1
  have hpow : rws s1 + rws s2 + 1 < 2 ^ (i + 1 + 1) := by rw [Nat.pow_succ]; omega
  have once : ∀ σ, σ = [some (V.ref a), some (.int ((i + 1 : Nat) : Int)), some (.ref p), some (.int d1), some v1, some v2] → wL (cxOf CX0 P w K mg base N_sentence (Str.ofString "_law_sentence") (defScope s_sentence) f cdv A outer s H E).nox ((defBody s_sentence).drop 7) { nx := fun _ H' => Q .non H', rt := Q } σ H3 := by
    rintro σ rfl
    show wL _ (_ :: _) _ _ _
    walk_at "sts"
    refine ⟨by show 4 ≤ sizeLine; decide, fun t H5 e5 _ ht => ?_⟩
    exact q _ (.trade none s1 s2) H5 (b13.trans (But.of e5)) (p3.up e5) ⟨t, _, v1, v2, rfl, ht, rfl, g1.ts (Same.ts e5), g2.ts (Same.ts e5)⟩ (by show max (dep s1) (dep s2) + 1 ≤ _; omega) hpow
  have many : ∀ σ, σ = [some (V.ref a), some (.int ((i + 1 : Nat) : Int)), some (.ref p), some (.int d1), some v1, some v2] → wL (cxOf CX0 P w K mg base N_sentence (Str.ofString "_law_sentence") (defScope s_sentence) f cdv A outer s H E).nox ((defBody s_sentence).drop 6) { nx := fun _ H' => Q .non H', rt := Q } σ H3 := by
    rintro σ rfl
    show wL _ (_ :: _) _ _ _
    refine l_cons (s_if (t_w (w_and (t_cmp ?_))))
    walk_at "sts"
    refine if2 (fun h4 => ?_) (fun h4 => l_nil (once _ rfl))
    refine w_and1 (t_cmp ?_)
    walk_at "sts"
    refine ix_d (by exact hr) ⟨a, _, rfl, dg_k k13 k3, ?_⟩
    rw [sg_s]
    refine o_inS ?_
    cases hb : decide (115 ∈ fm.cps.toList) with
    | false => exact ⟨_, rfl, iteF (l_nil (once _ rfl))⟩
    | true =>
    refine ⟨_, rfl, iteT ?_⟩
    refine l_cons (s_ret (e_tup (a_cons (e_str (a_cons (e_tup (a_cons (e_bin (e_int ?_)))))))))
    refine e_call (by exact FX) (by exact hr) (by omega) ?_
    walk_at "sts"
    refine ⟨p, 3, rfl, by decide, by decide, p3, fun d3 H4 f0 f1 b4 p4 => ?_⟩
    walk_at "sts"
    refine e_call (by exact FX) (by exact hr) (by omega) ?_
    walk_at "sts"
    refine ⟨p, 3, rfl, by decide, by decide, p4, fun d4 H5 g0 g11 b5 p5 => ?_⟩
    walk_at "sts"
    refine ⟨by show 2 ≤ sizeLine; decide, fun t6 H6 e6 _ ht6 => ?_⟩
    walk_at "sts"
    refine ⟨by show 4 ≤ sizeLine; decide, fun t H7 e7 _ ht => ?_⟩
    have ts7 : TS H3 H7 := (((p3.ts b4).trans (p4.ts b5)).trans (Same.ts e6)).trans (Same.ts e7)
    exact q _ (.trade (some (1 + d3, d4)) s1 s2) H7 ((((b13.trans b4).trans b5).trans (But.of e6)).trans (But.of e7)) ((p5.up e6).up e7) ⟨t, _, v1, v2, rfl, ht, ⟨t6, rfl, e7 _ _ ht6⟩, g1.ts ts7, g2.ts ts7⟩ (by show max (dep s1) (dep s2) + 1 ≤ _; omega) hpow
  refine l_cons (s_if (t_w (w_and (t_cmp ?_))))
  walk_at "sts"
  refine if2 (fun h4 => ?_) (fun h4 => l_nil (many _ rfl))
  refine w_and1 (t_cmp ?_)
  walk_at "sts"
  refine ix_d (by exact hr) ⟨a, _, rfl, dg_k k13 k3, ?_⟩
  rw [sg_m]
  refine o_inS ?_
  rw [m_in hfm]
  refine ⟨_, rfl, iteT ?_⟩
  walk_at "sts"
  refine ⟨by show 3 ≤ sizeLine; decide, fun t H4 e4 _ ht => ?_⟩
  exact q _ (.menu s1 s2) H4 (b13.trans (But.of e4)) (p3.up e4) ⟨t, v1, v2, rfl, ht, g1.ts (Same.ts e4), g2.ts (Same.ts e4)⟩ (by show max (dep s1) (dep s2) + 1 ≤ _; omega) hpow
theorem ok_sent (T : Top K mg "_law_sentence" s_sentence) (mLen : mg "len" = none) (FX : Fn P w K mg base 1 "_law_next" spNext) : ∀ n, Fn P w K mg base (n + 2) "_law_sentence" (spSent n)
  | 0 => ok_sentS 0 T mLen FX fun m h => by cases h
  | n + 1 => ok_sentS (n + 1) T mLen FX fun m h => by cases h; exact ok_sent T mLen FX n
end



theorem Bu.of {p t : Addr} {H H' : Hp} (b : But p H H') : Bu p t H H' := fun x o n _ h => b x o n h
theorem Bu.s {p t : Addr} {H H' : Hp} (b : Same H H') : Bu p t H H' := fun x o _ _ h => b x o h
theorem Bu.trans {p t : Addr} {H H1 H2 : Hp} (a : Bu p t H H1) (b : Bu p t H1 H2) : Bu p t H H2 := fun x o n m h => b x o n m (a x o n m h)
abbrev hstems : List Str := ["h", "note", "q", "own", "left", "once", "b2", "zz", "from", "cut", "k7x", "pay"]
theorem sVs_flat (l : List Str) : (sVs l).all flatV = true := by
  rw [List.all_eq_true]
  intro v hv
  simp only [sVs, List.mem_map] at hv
  obtain ⟨z, _, rfl⟩ := hv
  rfl
theorem hst_len : ∀ z ∈ hstems, z.length ≤ 4 := by decide +kernel
theorem small_str {d : Int} (h0 : 0 ≤ d) (h1 : d < 100) : (toString d : Str).length ≤ 2 := by
  obtain ⟨j, rfl⟩ := Int.eq_ofNat_of_zero_le h0
  have hj : j < 100 := by omega
  have all : ((List.range 100).all fun j => decide ((toString ((j : Nat) : Int) : Str).length ≤ 2)) = true := by decide +kernel
  rw [List.all_eq_true] at all
  exact of_decide_eq_true (all j (List.mem_range.mpr hj))
theorem log_small {d : Int} (h0 : 0 ≤ d) (h1 : d < 100) : d.natAbs.log2 < 1920 := by
  have h : d.natAbs < 2 ^ 7 := by omega
  rcases Nat.eq_zero_or_pos d.natAbs with z | z
  · rw [z]; decide
  · have := (Nat.log2_lt (by omega)).mpr h
    omega
theorem o_addS {X : Cx} {H : Hp} {Q : VK} {x y : Str} (hz : x.length + y.length ≤ 1000) (q : Q (.str (x ++ y)) H) : wB X .Add (.str x) (.str y) H Q := b_of op_add_str ⟨x, y, rfl, rfl, by show _ ≤ 2 ^ 24; omega, q⟩
theorem app_len (x y : Str) : (x ++ y).length = x.length + y.length := by
  show ((x ++ y).cps).size = x.cps.size + y.cps.size
  exact Array.size_append ..
section
variable {P : Program} {w : World} {K : PySem.W.Frag} {mg : Str → Option Value} {base : Heap}
def spName : Sp := fun vs H Q _ => ∃ p t ts, vs = [.ref p, .ref t] ∧ PoolAt H p ∧ t ≠ p ∧ H t = some (.lst (sVs ts)) ∧ ts.length ≤ 50 ∧ ∀ z H', Bu p t H H' → PoolAt H' p → H' t = some (.lst (sVs (ts ++ [z]))) → Q (.str z) H'
theorem ok_name (T : Top K mg "_law_name" s_name) (mLen : mg "len" = none) (mStr : mg "str" = none) (mR : mg "range" = none) (F : Fn P w K mg base 1 "_law_next" spNext) : Fn P w K mg base 2 "_law_name" spName := by
  refine fn_ok T sc_name so_name (fun vs H Q E h => by obtain ⟨p, t, ts, rfl, _⟩ := h; rfl) (fun _ _ _ _ _ _ us hl => match us, hl with | [_, _], _ => rfl) fun f cdv A outer s H vs Q E hr h nd => ?_
  obtain ⟨p, t, ts, rfl, hp, htp, ht, hl, q⟩ := h
  walk_at "sts"
  refine ⟨by show 12 ≤ sizeLine; decide, fun l H1 e1 nl hl1 => ?_⟩
  have hlp := hp.ne nl
  have hlt : l ≠ t := fun e => by subst e; rw [ht] at nl; cases nl
  walk_at "sts"
  refine e_call (by exact F) (by exact hr) (by decide) ?_
  walk_at "sts"
  refine ⟨p, 12, rfl, by decide, by decide, hp.up e1, fun d H2 d0 d1 b2 p2 => ?_⟩
  obtain ⟨z0, hz0, hat0⟩ := sVs_at (ns := hstems) d0 d1
  refine ix_l (by exact SqL.of (b2 l _ hlp hl1)) hat0 ?_
  have ht2 := b2 t _ htp (e1 t _ ht)
  have hl2 := b2 l _ hlp hl1
  -- behind the test
  have fin2 : ∀ z y H', Bu p t H H' → PoolAt H' p → H' t = some (.lst (sVs ts)) → wL (cxOf CX0 P w K mg base N_name (Str.ofString "_law_name") (defScope s_name) f cdv A outer s H E).nox ((defBody s_name).drop 4) { nx := fun _ H' => Q .non H', rt := Q } [some (V.ref p), some (.ref t), some (.ref l), some (.str z), y] H' := by
    intro z y H' b' p' t'
    show wL _ (_ :: _) _ _ _
    walk_at "sts"
    refine e_app ?_
    walk_at "sts"
    refine ⟨t, _, rfl, SqL.of t', ?_⟩
    walk_at "sts"
    refine ⟨_, t', by simp only [sVs, List.length_map]; show ts.length < 2 ^ 24; omega, ?_⟩
    walk_at "sts"
    refine q z _ (fun x o n m h => ?_) ?_ ?_
    · rw [upd_ne m]
      exact b' x o n m h
    · obtain ⟨a1, a2, a3, h⟩ := p'
      exact ⟨a1, a2, a3, by rw [upd_ne htp.symm]; exact h⟩
    · rw [upd_same]
      simp [sVs]
  have fin1 : ∀ z y H', Bu p t H H' → PoolAt H' p → H' t = some (.lst (sVs ts)) → wL (cxOf CX0 P w K mg base N_name (Str.ofString "_law_name") (defScope s_name) f cdv A outer s H E).nox ((defBody s_name).drop 3) { nx := fun _ H' => Q .non H', rt := Q } [some (V.ref p), some (.ref t), some (.ref l), some (.str z), y] H' := by
    intro z y H' b' p' t'
    show wL _ (_ :: _) _ _ _
    walk_at "sts"
    refine o_in (by exact SqL.of t') rfl (sVs_flat ts) ?_
    refine ⟨_, rfl, ?_⟩
    cases inV (.str z) (sVs ts) with
    | true =>
      refine iteT ?_
      refine l_cons (s_set (e_bin (e_str ?_)))
      refine e_callTy (x := "str") (by assumption) b_str ?_
      walk_at "sts"
      refine c_lenL (by exact SqL.of t') ?_
      rw [show (sVs ts).length = ts.length by simp [sVs]]
      walk_at "sts"
      refine c_strI (log_small (by omega) (by omega)) ?_
      have h2 := small_str (d := (ts.length : Int)) (by omega) (by omega)
      refine o_addS (Nat.le_trans (Nat.add_le_add (show Str.length (Str.ofString "spare") ≤ 5 by decide +kernel) h2) (by decide)) ?_
      refine l_nil ?_
      exact fin2 _ _ H' b' p' t'
    | false =>
      refine iteF (l_nil ?_)
      exact fin2 _ _ H' b' p' t'
  walk_at "sts"
  refine s_forR (by assumption) ?_
  walk_at "sts"
  refine ⟨by decide, fun k σ H' => ∃ z y, σ = [some (V.ref p), some (.ref t), some (.ref l), some (.str z), y] ∧ But p H2 H' ∧ PoolAt H' p, ⟨z0, none, rfl, .refl, p2⟩, fun k σ H3 hk hW => ?_, fun σ H3 hW => ?_⟩
  · obtain ⟨z, y, rfl, b3, p3⟩ := hW
    have ht3 := b3 t _ htp ht2
    have hl3 := b3 l _ hlp hl2
    have b03 : Bu p t H H3 := (Bu.s e1).trans ((Bu.of b2).trans (Bu.of b3))
    walk_at "sts"
    refine o_nin (by exact SqL.of ht3) rfl (sVs_flat ts) ?_
    refine ⟨_, rfl, ?_⟩
    cases inV (.str z) (sVs ts) with
    | false =>
      refine ite_t rfl (l_cons (s_brk ?_))
      exact fin1 _ _ H3 b03 p3 ht3
    | true =>
      refine ite_f rfl (l_nil ?_)
      refine l_cons (s_set (e_bin ?_))
      walk_at "sts"
      refine e_call (by exact F) (by exact hr) (by decide) ?_
      walk_at "sts"
      refine ⟨p, 12, rfl, by decide, by decide, p3, fun d4 H4 f0 f1 b4 p4 => ?_⟩
      obtain ⟨z4, hz4, hat4⟩ := sVs_at (ns := hstems) f0 f1
      refine ix_l (by exact SqL.of (b4 l _ hlp hl3)) hat4 ?_
      refine e_callTy (x := "str") (by assumption) b_str ?_
      walk_at "sts"
      refine e_call (by exact F) (by exact hr) (by decide) ?_
      walk_at "sts"
      refine ⟨p, 100, rfl, by decide, by decide, p4, fun d5 H5 g0 g1 b5 p5 => ?_⟩
      refine a_nil ?_
      refine c_strI (log_small g0 g1) ?_
      have h2 := small_str g0 g1
      have h3 := hst_len z4 hz4
      refine o_addS (by omega) ?_
      refine l_nil ⟨_, _, rfl, (b3.trans b4).trans b5, p5⟩
  · obtain ⟨z, y, rfl, b3, p3⟩ := hW
    exact fin1 _ _ H3 ((Bu.s e1).trans ((Bu.of b2).trans (Bu.of b3))) p3 (b3 t _ htp ht2)
end



theorem l_seq {X : Cx} {st : Stmt} {rest : List Stmt} {C : _} {σ : L2.St} {H : Hp} (Pm : L2.St → Hp → Prop) (h2 : (∀ σ H, Pm σ H → wL X rest C σ H) → wL X (st :: rest) C σ H) (h1 : ∀ σ H, Pm σ H → wL X rest C σ H) : wL X (st :: rest) C σ H := h2 h1
section
variable {P : Program} {w : World} {K : PySem.W.Frag} {mg : Str → Option Value} {base : Heap}
/-- a list put under a name -/
def ptF (F : FcT) (k : Key) (l : List Int) : FcT := F.map fun p => if p.1 = k then (p.1, l) else p
def ptB (F : FcT) (bs : List Addr) (k : Key) (b : Addr) : List Addr := List.zipWith (fun p x => if p.1 = k then b else x) F bs
theorem ptF_keys (F : FcT) (k : Key) (l : List Int) : (ptF F k l).map (·.1) = F.map (·.1) := by
  unfold ptF
  rw [List.map_map]
  apply List.map_congr_left
  intro p _
  show (if p.1 = k then (p.1, l) else p).1 = p.1
  split <;> rfl
theorem pt_zk (k : Key) (l : List Int) (b : Addr) : ∀ (F : FcT) (bs : List Addr), bs.length = F.length → zk (ptF F k l) (ptB F bs k b) = (zk F bs).map fun kv => if kv.1 = k then (kv.1, V.ref b) else kv
  | [], [], _ => rfl
  | p :: F, x :: bs, h => by
    show ((if p.1 = k then (p.1, l) else p).1, V.ref (if p.1 = k then b else x)) :: zk (ptF F k l) (ptB F bs k b) = (if p.1 = k then (p.1, V.ref b) else (p.1, V.ref x)) :: _
    rw [pt_zk k l b F bs (by simpa using h)]
    congr 1
    split <;> rfl
theorem pt_rs {H : Hp} {k : Key} {l : List Int} {b : Addr} (hb : H b = some (.lst (iV l))) : ∀ (F : FcT) (bs : List Addr), RsV H bs (F.map (·.2)) → RsV H (ptB F bs k b) ((ptF F k l).map (·.2))
  | [], [], _ => rfl
  | [], x :: bs, ⟨_, _, h, _⟩ => by cases h
  | p :: F, [], h => by cases (show _ = _ from h)
  | p :: F, x :: bs, ⟨r, rs, h1, h2, h3⟩ => by
    cases h1
    refine ⟨(if p.1 = k then (p.1, l) else p).2, _, rfl, ?_, pt_rs hb F bs h3⟩
    show H (if p.1 = k then b else x) = _
    by_cases e : p.1 = k
    · rw [if_pos e, if_pos e]; exact hb
    · rw [if_neg e, if_neg e]; exact h2
theorem pt_no (k : Key) (b : Addr) : ∀ (F : FcT) (bs : List Addr), bs.length = F.length → k ∉ F.map (·.1) → ptB F bs k b = bs
  | [], [], _, _ => rfl
  | p :: F, x :: bs, h, n => by
    show (if p.1 = k then b else x) :: ptB F bs k b = _
    rw [if_neg (fun z => n (by rw [← z]; exact List.mem_map.mpr ⟨p, List.mem_cons_self, rfl⟩)), pt_no k b F bs (by simpa using h) (fun m => n (by rw [List.map_cons]; exact List.mem_cons_of_mem _ m))]
theorem pt_mem (k : Key) (b : Addr) : ∀ (F : FcT) (bs : List Addr), ∀ x ∈ ptB F bs k b, x ∈ bs ∨ x = b
  | [], bs, x, h => by cases bs <;> cases h
  | p :: F, [], x, h => by cases h
  | p :: F, y :: bs, x, h => by
    rcases List.mem_cons.mp (show x ∈ (if p.1 = k then b else y) :: ptB F bs k b from h) with h | h
    · split at h
      · exact .inr h
      · exact .inl (by rw [h]; exact List.mem_cons_self)
    · exact (pt_mem k b F bs x h).imp (List.mem_cons_of_mem _) id
theorem pt_nd (k : Key) (b : Addr) : ∀ (F : FcT) (bs : List Addr), bs.length = F.length → (F.map (·.1)).Nodup → bs.Nodup → b ∉ bs → (ptB F bs k b).Nodup
  | [], [], _, _, _, _ => by simp [ptB]
  | p :: F, x :: bs, h, kn, nd, nb => by
    rw [List.map_cons, List.nodup_cons] at kn
    rw [List.nodup_cons] at nd
    have hl : bs.length = F.length := by simpa using h
    have nb2 : b ∉ bs := fun m => nb (List.mem_cons_of_mem _ m)
    show ((if p.1 = k then b else x) :: ptB F bs k b).Nodup
    rw [List.nodup_cons]
    refine ⟨?_, pt_nd k b F bs hl kn.2 nd.2 nb2⟩
    by_cases e : p.1 = k
    · rw [if_pos e, pt_no k b F bs hl (by rw [← e]; exact kn.1)]
      exact nb2
    · rw [if_neg e]
      intro m
      rcases pt_mem k b F bs x m with m | m
      · exact nd.1 m
      · exact nb (by rw [← m]; exact List.mem_cons_self)
theorem Facts.put {H : Hp} {d b : Addr} {bs : List Addr} {F : FcT} {l : List Int} (h : Facts H d bs F) (k : Key) (hb : H b = some (.lst (iV l))) (nb : b ∉ d :: bs) :
    ∃ bs' F', Facts (upd H d (.dK (putK (zk F bs) k (.ref b)))) d bs' F' ∧ (∀ x ∈ bs', x ∈ bs ∨ x = b) ∧ F'.length ≤ F.length + 1 ∧ ∀ p ∈ F', p ∈ F ∨ p.2 = l := by
  have lF := h.len
  have nd := List.nodup_cons.mp h.nd
  have ndb : b ≠ d := fun z => nb (by rw [z]; exact List.mem_cons_self)
  have nbb : b ∉ bs := fun m => nb (List.mem_cons_of_mem _ m)
  have keep : ∀ x ∈ bs, ∀ o, H x = some o → upd H d (.dK (putK (zk F bs) k (.ref b))) x = some o := fun x hx o z => by rw [upd_ne (fun e => by subst e; exact nd.1 hx)]; exact z
  have hb2 : upd H d (.dK (putK (zk F bs) k (.ref b))) b = some (.lst (iV l)) := by rw [upd_ne ndb]; exact hb
  by_cases hk : k ∈ F.map (·.1)
  · refine ⟨ptB F bs k b, ptF F k l, ⟨?_, pt_rs hb2 F bs (h.rs.keep keep), by rw [ptF_keys]; exact h.kn, List.nodup_cons.mpr ⟨fun m => ?_, pt_nd k b F bs lF h.kn nd.2 nbb⟩⟩, pt_mem k b F bs, by unfold ptF; rw [List.length_map]; omega, fun p hp => ?_⟩
    · rw [upd_same, pt_zk k l b F bs lF]
      unfold putK
      rw [if_pos]
      rw [← zk_keys F bs lF] at hk
      obtain ⟨q, hq, e⟩ := List.mem_map.mp hk
      exact List.any_eq_true.mpr ⟨q, hq, decide_eq_true e⟩
    · rcases pt_mem k b F bs d m with m | m
      · exact nd.1 m
      · exact ndb m.symm
    · unfold ptF at hp
      obtain ⟨q, hq, rfl⟩ := List.mem_map.mp hp
      by_cases e : q.1 = k
      · rw [if_pos e]; exact .inr rfl
      · rw [if_neg e]; exact .inl hq
  · refine ⟨bs ++ [b], F ++ [(k, l)], ⟨?_, ?_, ?_, nd_snoc (l := d :: bs) h.nd nb⟩, fun x hx => ?_, by rw [List.length_append]; exact Nat.le_refl _, fun p hp => ?_⟩
    · rw [upd_same, put_new _ (by rw [zk_keys F bs lF]; exact hk), zk_snoc F bs lF]
    · rw [List.map_append]
      exact RsV.snoc hb2 (h.rs.keep keep)
    · rw [List.map_append]
      exact List.nodup_append.mpr ⟨h.kn, by simp, fun x hx y hy z => hk (by rw [show y = k by simpa using hy] at z; exact z ▸ hx)⟩
    · rcases List.mem_append.mp hx with hx | hx
      · exact .inl hx
      · exact .inr (List.mem_singleton.mp hx)
    · rcases List.mem_append.mp hp with hp | hp
      · exact .inl hp
      · rw [List.mem_singleton.mp hp]; exact .inr rfl
end
section
variable {X : Cx} {N G G' : List Str} {Vn : List (Nat × Str)} {sc scope : Scope} {c : Expr} {σ : L2.St} {H1 : Hp} {x : Str} {px : Pos}
/-- numbers below n, not many -/
def NmP (n : Nat) (r : List Int) : Prop := r.length ≤ 32 ∧ ∀ y ∈ r, 0 ≤ y ∧ y < (n : Int)
/-- [x for x in range(n) if c], where the test draws at most from the pool p -/
theorem lcRf_draw {i j n : Nat} {D p : Addr} {Qd : Hp → Prop} (hA : At Vn j (i, x)) (hi : i < σ.length) (nD : H1 D = none) (p1 : PoolAt H1 p) (hn : n ≤ 32)
    (ht : ∀ k H2, k < n → PoolAt H2 p → ∀ s0 H0 C cl fp, InB (Bk X s0 H0 scope C cl fp) Vn G' → ∀ QT : Bool → Hp → Prop, (∀ b H3, But p H2 H3 → PoolAt H3 p → QT b H3) → wT (Bk X s0 H0 scope C cl fp) c ((wipe σ [i]).set i (some (.int (k : Int)))) H2 QT)
    (hd : ∀ r H2, H2 D = some (.lst (iV r)) → NmP n r → PoolAt H2 p → But2 p D H1 H2 → Qd H2) : LcRf X Vn G' (.Name x px) c scope i n D σ H1 Qd := by
  obtain ⟨qx, qy, qz, hq⟩ := id p1
  have nDp : D ≠ p := fun e => by subst e; rw [hq] at nD; cases nD
  refine ⟨fun k H2 => ∃ r, H2 D = some (.lst (iV r)) ∧ r.length ≤ k ∧ (∀ y ∈ r, 0 ≤ y ∧ y < (n : Int)) ∧ PoolAt H2 p ∧ But2 p D H1 H2, ⟨[], upd_same, Nat.le_refl _, by simp, ⟨qx, qy, qz, by rw [upd_ne (Ne.symm nDp)]; exact hq⟩, fun u o _ u2 hu => by rw [upd_ne u2]; exact hu⟩, fun k H2 hk pp => ?_, fun H2 pp => ?_⟩
  · obtain ⟨r, r1, r2, r3, p2, b2⟩ := pp
    intro s0 H0 C cl fp IB
    refine ht k H2 hk p2 s0 H0 C cl fp IB _ fun b H3 b3 p3 => ?_
    have r1' := b3 _ _ nDp r1
    have b3' : But2 p D H1 H3 := fun u o u1 u2 hu => b3 _ _ u1 (b2 u o u1 u2 hu)
    cases b with
    | false => exact iteF ⟨r, r1', by omega, r3, p3, b3'⟩
    | true =>
      refine iteT fun s0 H0 C cl fp IB => b_var ⟨_, r1', by rw [List.length_map]; show _ < 2 ^ 24; omega, r ++ [(k : Int)], ?_, by rw [List.length_append]; exact Nat.succ_le_succ r2, fun y hy => ?_, ?_, fun u o u1 u2 hu => by rw [upd_ne u2]; exact b3' u o u1 u2 hu⟩ IB hA (by rw [List.getElem?_set_self (by rw [wipe_length]; exact hi)])
      · rw [upd_same, show iV (r ++ [(k : Int)]) = iV r ++ iV [(k : Int)] from List.map_append]; rfl
      · rcases List.mem_append.mp hy with hy | hy
        · exact r3 y hy
        · rw [List.mem_singleton.mp hy]; omega
      · obtain ⟨ux, uy, uz, hu⟩ := p3
        exact ⟨ux, uy, uz, by rw [upd_ne (Ne.symm nDp)]; exact hu⟩
  · obtain ⟨r, r1, r2, r3, p2, b2⟩ := pp
    exact hd r H2 r1 ⟨by omega, r3⟩ p2 b2
end
section
variable {P : Program} {w : World} {K : PySem.W.Frag} {mg : Str → Option Value} {base : Heap}
def spFcts : Sp := fun vs H Q _ => ∃ p wd ws n, vs = [.ref p, .ref wd, .int ((n : Nat) : Int), .int 8] ∧ PoolAt H p ∧ H wd = some (.lst (sVs ws)) ∧ wd ≠ p ∧ ws.length ≤ 4 ∧ 1 ≤ n ∧ n < 32 ∧ ∀ d bs F H', But p H H' → PoolAt H' p → (∀ b ∈ d :: bs, H b = none) → Facts H' d bs F → F.length ≤ 4 → (∀ q ∈ F, NmP n q.2) → Q (.ref d) H'
theorem ok_fcts (T : Top K mg "_law_facts" s_facts) (mR : mg "range" = none) (FN : Fn P w K mg base 1 "_law_next" spNext) : Fn P w K mg base 2 "_law_facts" spFcts := by
  refine fn_okC T sc_facts so_facts (fun vs H Q E h => by obtain ⟨p, wd, ws, n, rfl, _⟩ := h; rfl) (fun _ _ _ _ _ _ us hl => match us, hl with | [_, _, _, _], _ => rfl) fun f cdv A outer s H vs Q E hr h nd => ?_
  obtain ⟨p, wd, ws, n, rfl, hp, hwd, nwp, lws, n1, n2, q⟩ := h
  refine l_cons (s_set (e_dnew fun d nd0 => ?_))
  obtain ⟨qx, qy, qz, hq⟩ := id hp
  have ndp : d ≠ p := fun z => by subst z; rw [hq] at nd0; cases nd0
  have ndw : d ≠ wd := fun z => by subst z; rw [hwd] at nd0; cases nd0
  have e1 : Same H (upd H d (.dK [])) := fun c u hc => by rw [upd_ne (ne_of_none hc nd0)]; exact hc
  have hd1 : upd H d (.dK []) d = some (.dK []) := upd_same
  generalize upd H d (.dK []) = H1 at e1 hd1
  show wL _ _ _ [some (.ref p), some (.ref wd), some (.int (n : Int)), some (.int 8), some (.ref d), none, none, none, none, none] _
  refine l_cons (s_forL (e_var ⟨wd, sVs ws, rfl, SqL.of (e1 _ _ hwd), ?_⟩))
  refine ⟨fun k σ H' => ∃ x5 x6 x7 x8 bs F, σ = [some (.ref p), some (.ref wd), some (.int (n : Int)), some (.int 8), some (.ref d), x5, x6, x7, x8, none] ∧ PoolAt H' p ∧ Facts H' d bs F ∧ F.length ≤ k ∧ (∀ q ∈ F, NmP n q.2) ∧ (∀ b ∈ bs, H b = none) ∧ ∀ c u, c ≠ p → c ≠ d → H c = some u → H' c = some u, ⟨none, none, none, none, [], [], rfl, ⟨_, _, _, e1 _ _ hq⟩, ⟨hd1, rfl, by simp, by simp⟩, Nat.le_refl _, by simp, by simp, fun c u _ _ hc => e1 _ _ hc⟩, ?_, ?_, ?_⟩
  · intro k σ H' _ pp
    obtain ⟨_, _, _, _, _, _, _, _, _, _, _, _, keep⟩ := pp
    exact SqL.of (keep wd _ nwp (Ne.symm ndw) hwd)
  · intro k y σ H' hy pp
    obtain ⟨x5, x6, x7, x8, bs, F, rfl, p', hF, lF, zF, fr, keep⟩ := pp
    obtain ⟨z, hz, rfl⟩ := sVs_get hy
    have hk4 : k < 4 := Nat.lt_of_lt_of_le (List.getElem?_eq_some_iff.mp hz).1 lws
    show wL _ _ _ [some (.ref p), some (.ref wd), some (.int (n : Int)), some (.int 8), some (.ref d), some (.str z), x6, x7, x8, none] _
    refine l_cons (s_set (e_call (by exact FN) (by exact hr) (by decide) ?_))
    refine a_cons (e_var (a_cons (e_var (a_nil ⟨p, 8, rfl, by decide, by decide, p', fun pk H3 k0 k1 b3 p3 => ?_⟩))))
    show wL _ _ _ [some (.ref p), some (.ref wd), some (.int (n : Int)), some (.int 8), some (.ref d), some (.str z), some (.int pk), x7, x8, none] _
    refine l_cons (s_set (e_call (by exact FN) (by exact hr) (by decide) ?_))
    refine a_cons (e_var (a_cons (e_var (a_nil ⟨p, n, rfl, by omega, by omega, p3, fun at' H4 at0 at1 b4 p4 => ?_⟩))))
    have b34 := b3.trans b4
    show wL _ _ _ [some (.ref p), some (.ref wd), some (.int (n : Int)), some (.int 8), some (.ref d), some (.str z), some (.int pk), some (.int at'), x8, none] _
    let Md : L2.St → Hp → Prop := fun σ H5 => ∃ D r, σ = [some (.ref p), some (.ref wd), some (.int (n : Int)), some (.int 8), some (.ref d), some (.str z), some (.int pk), some (.int at'), some (.ref D), none] ∧ H5 D = some (.lst (iV r)) ∧ NmP n r ∧ H4 D = none ∧ PoolAt H5 p ∧ But p H4 H5
    have toMd : ∀ D r H5 H6, But p H4 H5 → PoolAt H5 p → H5 D = none → H6 D = some (.lst (iV r)) → NmP n r → PoolAt H6 p → But2 p D H5 H6 → Md [some (.ref p), some (.ref wd), some (.int (n : Int)), some (.int 8), some (.ref d), some (.str z), some (.int pk), some (.int at'), some (.ref D), none] H6 := fun D r H5 H6 b5 p5 nD h1 h2 h3 h4 => by
      have nDp : D ≠ p := p5.ne nD
      have nD4 : H4 D = none := by
        cases hz : H4 D with
        | none => rfl
        | some u => rw [b5 _ _ nDp hz] at nD; cases nD
      exact ⟨D, r, rfl, h1, h2, nD4, h3, fun c u c1 hc => h4 c u c1 (fun e => by subst e; rw [nD4] at hc; cases hc) (b5 _ _ c1 hc)⟩
    refine l_cons (s_lcRf (by exact bk_facts0) (by assumption) (e_var ⟨n, rfl, by omega, fun D nD => ?_⟩))
    refine lcRf_draw (p := p) At.z (by simp) nD p4 (by omega) (fun k H2 hk p2 s0 H0 C cl fp IB QT hQ => ?_) fun r H5 h1 h2 h3 h4 => ?_
    · exact t_cmp (b_var (b_var (o_neI ⟨_, rfl, hQ _ _ .refl p2⟩)))
    have m5 := toMd D r H4 H5 .refl p4 nD h1 h2 h3 h4
    clear h1 h2 h3 h4 nD
    show wL _ _ _ [some (.ref p), some (.ref wd), some (.int (n : Int)), some (.int 8), some (.ref d), some (.str z), some (.int pk), some (.int at'), some (.ref D), none] _
    generalize [some (V.ref p), some (.ref wd), some (.int (n : Int)), some (.int 8), some (.ref d), some (.str z), some (.int pk), some (.int at'), some (.ref D), none] = σ5 at m5
    -- pick 3
    refine l_seq Md (fun go => ?_) fun σ6 H6 m6 => ?_
    · obtain ⟨D, r, rfl, h1, h2, h3, h4, h5⟩ := id m5
      refine l_cons (s_if (t_cmp (e_var (e_int (o_eqI ⟨_, rfl, ?_⟩)))))
      refine if2 (fun _ => ?_) (fun _ => l_nil (go _ _ m5))
      refine l_cons (s_lcRf (by exact bk_facts1) (by assumption) (e_var ⟨n, rfl, by omega, fun D nD => ?_⟩))
      refine lcRf_draw (p := p) At.z (by simp) nD h4 (by omega) (fun k H2 hk p2 s0 H0 C cl fp IB QT hQ => ?_) fun r H5 g1 g2 g3 g4 => l_nil (go _ _ (toMd D r _ H5 h5 h4 nD g1 g2 g3 g4))
      exact t_cmp (b_var (b_var (o_ge ⟨_, rfl, hQ _ _ .refl p2⟩)))
    clear m5
    -- pick 4
    refine l_seq Md (fun go => ?_) fun σ7 H7 m7 => ?_
    · obtain ⟨D, r, rfl, h1, h2, h3, h4, h5⟩ := id m6
      refine l_cons (s_if (t_cmp (e_var (e_int (o_eqI ⟨_, rfl, ?_⟩)))))
      refine if2 (fun _ => ?_) (fun _ => l_nil (go _ _ m6))
      refine l_cons (s_lcRf (by exact bk_facts2) (by assumption) (e_var ⟨n, rfl, by omega, fun D nD => ?_⟩))
      refine lcRf_draw (p := p) At.z (by simp) nD h4 (by omega) (fun k H2 hk p2 s0 H0 C cl fp IB QT hQ => ?_) fun r H5 g1 g2 g3 g4 => l_nil (go _ _ (toMd D r _ H5 h5 h4 nD g1 g2 g3 g4))
      refine t_cmp (b_call (by exact FN) (by exact hr) (by decide) (a_cons (b_var (a_cons (e_int (a_nil ?_))))))
      exact ⟨p, 4, rfl, by decide, by decide, p2, fun d H3 _ _ b3 p3 => e_int (o_gt ⟨_, rfl, hQ _ _ b3 p3⟩)⟩
    clear m6
    -- pick 5
    refine l_seq Md (fun go => ?_) fun σ8 H8 m8 => ?_
    · obtain ⟨D, r, rfl, h1, h2, h3, h4, h5⟩ := id m7
      refine l_cons (s_if (t_cmp (e_var (e_int (o_eqI ⟨_, rfl, ?_⟩)))))
      refine if2 (fun _ => ?_) (fun _ => l_nil (go _ _ m7))
      refine l_cons (s_lcRf (by exact bk_facts3) (by assumption) (e_var ⟨n, rfl, by omega, fun D nD => ?_⟩))
      refine lcRf_draw (p := p) At.z (by simp) nD h4 (by omega) (fun k H2 hk p2 s0 H0 C cl fp IB QT hQ => ?_) fun r H5 g1 g2 g3 g4 => l_nil (go _ _ (toMd D r _ H5 h5 h4 nD g1 g2 g3 g4))
      refine t_cmp (b_call (by exact FN) (by exact hr) (by decide) (a_cons (b_var (a_cons (e_int (a_nil ?_))))))
      exact ⟨p, 2, rfl, by decide, by decide, p2, fun d H3 _ _ b3 p3 => e_int (o_eqI ⟨_, rfl, hQ _ _ b3 p3⟩)⟩
    clear m7
    -- pick 6
    refine l_seq Md (fun go => ?_) fun σ9 H9 m9 => ?_
    · obtain ⟨D, r, rfl, h1, h2, h3, h4, h5⟩ := id m8
      refine l_cons (s_if (t_cmp (e_var (e_int (o_eqI ⟨_, rfl, ?_⟩)))))
      refine if2 (fun _ => ?_) (fun _ => l_nil (go _ _ m8))
      refine l_cons (s_lcR (by exact bk_facts4) (by assumption) (e_call (by exact FN) (by exact hr) (by decide) ?_))
      refine a_cons (e_var (a_cons (e_int (a_nil ⟨p, 4, rfl, by decide, by decide, h4, fun m H10 m0 m1 b10 p10 => ?_⟩))))
      obtain ⟨m, rfl⟩ := Int.eq_ofNat_of_zero_le m0
      refine ⟨m, rfl, by omega, fun D nD => ?_⟩
      obtain ⟨tx, ty, tz, ht⟩ := id p10
      have nDp : D ≠ p := fun e => by subst e; rw [ht] at nD; cases nD
      refine ⟨fun j H6 => ∃ r, H6 D = some (.lst (iV r)) ∧ r.length = j ∧ (∀ y ∈ r, 0 ≤ y ∧ y < (n : Int)) ∧ PoolAt H6 p ∧ But2 p D H10 H6, ⟨[], upd_same, rfl, by simp, ⟨tx, ty, tz, by rw [upd_ne (Ne.symm nDp)]; exact ht⟩, fun c o _ c2 hc => by rw [upd_ne c2]; exact hc⟩, ?_, ?_⟩
      · intro j H6 hj pp s0 H0 C cl fp IB
        obtain ⟨r, r1, r2, rz, r3, r4⟩ := pp
        refine b_call (by exact FN) (by exact hr) (by decide) (a_cons (b_var (a_cons (b_var (a_nil ?_)))))
        refine ⟨p, (n : Int), rfl, by omega, by omega, r3, fun y H7 y0 y1 b7 p7 => ?_⟩
        obtain ⟨ux, uy, uz, hu⟩ := p7
        refine ⟨_, b7 _ _ nDp r1, by rw [List.length_map]; show _ < 2 ^ 24; omega, r ++ [y], by rw [upd_same, show iV (r ++ [y]) = iV r ++ iV [y] from List.map_append]; rfl, by rw [List.length_append, r2]; rfl, fun x hx => ?_, ⟨ux, uy, uz, by rw [upd_ne (Ne.symm nDp)]; exact hu⟩, fun c o c1 c2 hc => by rw [upd_ne c2]; exact b7 _ _ c1 (r4 c o c1 c2 hc)⟩
        rcases List.mem_append.mp hx with hx | hx
        · exact rz x hx
        · rw [List.mem_singleton.mp hx]; exact ⟨y0, y1⟩
      · intro H6 pp
        obtain ⟨r, r1, r2, rz, r3, r4⟩ := pp
        exact l_nil (go _ _ (toMd D r H10 H6 (h5.trans b10) p10 nD r1 ⟨by omega, rz⟩ r3 r4))
    clear m8
    obtain ⟨D, r, rfl, h1, h2, h3, h4, h5⟩ := m9
    have b9 := b34.trans h5
    have frp : ∀ b ∈ d :: bs, b ≠ p := fun b hb e => by
      subst e
      rcases List.mem_cons.mp hb with e | hb
      · exact ndp e.symm
      · have := fr _ hb; rw [hq] at this; cases this
    have hF9 : Facts H9 d bs F := hF.keep fun b hb o hc => b9 b o (frp b hb) hc
    have keep9 : ∀ c u, c ≠ p → c ≠ d → H c = some u → H9 c = some u := fun c u c1 c2 hc => b9 c u c1 (keep c u c1 c2 hc)
    have nDp : D ≠ p := p4.ne h3
    have nDm : D ∉ d :: bs := fun m => by
      have h5 : ∃ u, H4 D = some u := by
        rcases List.mem_cons.mp m with e | hb
        · exact ⟨_, b34 _ _ nDp (by rw [e]; exact hF.hd)⟩
        · obtain ⟨r', hr'⟩ := hF.rs.vl hb
          exact ⟨_, b34 _ _ nDp hr'⟩
      obtain ⟨u, hu⟩ := h5
      rw [hu] at h3; cases h3
    have nDH : H D = none := by
      cases hz2 : H D with
      | none => rfl
      | some u =>
        by_cases e : D = d
        · exact absurd (by rw [e]; exact List.mem_cons_self) nDm
        · rw [b34 _ _ nDp (keep D u nDp e hz2)] at h3; cases h3
    refine l_cons (s_if (t_cmp (e_var (e_int (o_lt ⟨_, rfl, ?_⟩)))))
    refine if2 (fun _ => ?_) (fun _ => l_nil (l_nil ⟨_, _, _, _, bs, F, rfl, h4, hF9, by omega, zF, fr, keep9⟩))
    obtain ⟨bs', F', hF', hm, hl, hz⟩ := hF9.put (k := Sum.inr z) h1 nDm
    refine l_cons (s_dput (hu_of hr) (e_var (e_var (e_var ⟨d, _, rfl, DPut.k (k := Sum.inr z) hF9.hd (by rw [zk_len _ _ hF9.len]; show _ < 2 ^ 24; omega), l_nil (l_nil ⟨_, _, _, _, bs', F', rfl, ?_, hF', by omega, fun y hy => ?_, fun b hb => ?_, fun c u c1 c2 hc => by rw [upd_ne c2]; exact keep9 c u c1 c2 hc⟩)⟩))))
    · obtain ⟨ux, uy, uz, hu⟩ := h4
      exact ⟨ux, uy, uz, by rw [upd_ne (Ne.symm ndp)]; exact hu⟩
    · rcases hz y hy with hy | hy
      · exact zF y hy
      · rw [hy]; exact h2
    · rcases hm b hb with hb | hb
      · exact fr b hb
      · rw [hb]; exact nDH
  · intro σ H' pp
    obtain ⟨x5, x6, x7, x8, bs, F, rfl, p', hF, lF, zF, fr, keep⟩ := pp
    rw [show (sVs ws).length = ws.length by simp [sVs]] at lF
    refine l_cons (s_ret (e_var (q d bs F H' (fun c u c1 hc => keep c u c1 (fun e => by subst e; rw [hc] at nd0; cases nd0) hc) p' (fun b hb => ?_) hF (by omega) zF)))
    rcases List.mem_cons.mp hb with rfl | hb
    · exact nd0
    · exact fr b hb
end



/-! ### texts by their codes -/
abbrev cs (z : Str) : List Nat := z.cps.toList
theorem len_cs (z : Str) : z.length = (cs z).length := by
  show z.cps.size = z.cps.toList.length
  rw [Array.length_toList]
theorem cut_hi (z : Str) (j : Nat) : cs (cutS z none (some (j : Int))) = (cs z).take j := by
  unfold cutS
  rw [HT.sIx_nat, HT.sIx_none]
  show ((cs z).drop 0).take (min j z.length - 0) = _
  rw [List.drop_zero, Nat.sub_zero, len_cs]
  by_cases h : j ≤ (cs z).length
  · rw [Nat.min_eq_left h]
  · rw [Nat.min_eq_right (by omega), List.take_length, List.take_of_length_le (by omega)]
theorem cut_lo (z : Str) (j : Nat) : cs (cutS z (some (j : Int)) none) = (cs z).drop j := by
  unfold cutS
  rw [HT.sIx_nat, HT.sIx_none]
  show ((cs z).drop (min j z.length)).take (z.length - min j z.length) = _
  rw [len_cs]
  by_cases h : j ≤ (cs z).length
  · rw [Nat.min_eq_left h, List.take_of_length_le (by simp)]
  · rw [Nat.min_eq_right (by omega), Nat.sub_self, List.take_zero, List.drop_eq_nil_of_le (by omega)]
theorem lenH (z : Str) (j : Nat) : (cutS z none (some (j : Int))).length = min j z.length := by rw [len_cs, cut_hi, List.length_take, ← len_cs]
theorem lenL (z : Str) (j : Nat) : (cutS z (some (j : Int)) none).length = z.length - j := by rw [len_cs, cut_lo, List.length_drop, ← len_cs]
theorem cutV1 (x : V) (xs : List V) : cutV (x :: xs) (some 1) none = xs := by
  unfold cutV
  rw [show (some (1 : Int)) = some ((1 : Nat) : Int) from rfl, HT.sIx_nat, HT.sIx_none]
  have : min 1 (x :: xs).length = 1 := by simp
  rw [this]
  simp
theorem len3 : (cs (Str.ofString "ab7")).length = 3 := by decide +kernel
theorem ab7_at {d : Int} (h0 : 0 ≤ d) (h1 : d < 3) : ∃ c, atI (Str.ofString "ab7").cps.toList d = some c := by
  obtain ⟨j, rfl⟩ := Int.eq_ofNat_of_zero_le h0
  have hj : j < (cs (Str.ofString "ab7")).length := by rw [len3]; omega
  exact ⟨(cs (Str.ofString "ab7"))[j], atI_nat (List.getElem?_eq_getElem hj)⟩
theorem sg_len (c : Nat) : (sg c).length = 1 := rfl
section
variable {P : Program} {w : World} {K : PySem.W.Frag} {mg : Str → Option Value} {base : Heap}
def spNear : Sp := fun vs H Q _ => ∃ p wd ws, vs = [.ref p, .ref wd] ∧ PoolAt H p ∧ H wd = some (.lst (sVs ws)) ∧ wd ≠ p ∧ 0 < ws.length ∧ ws.length ≤ 4 ∧ (∀ z ∈ ws, OkW z) ∧ ∀ nd us H', But p H H' → PoolAt H' p → H nd = none → H' nd = some (.lst (sVs us)) → us.length = ws.length → (∀ z ∈ us, OkW z) → Q (.ref nd) H'
theorem ok_near (T : Top K mg "_law_near" s_near) (mLen : mg "len" = none) (FN : Fn P w K mg base 1 "_law_next" spNext) : Fn P w K mg base 2 "_law_near" spNear := by
  refine fn_ok T sc_near so_near (fun vs H Q E h => by obtain ⟨p, wd, ws, rfl, _⟩ := h; rfl) (fun _ _ _ _ _ _ us hl => match us, hl with | [_, _], _ => rfl) fun f cdv A outer s H vs Q E hr h nd => ?_
  obtain ⟨p, wd, ws, rfl, hp, hwd, nwp, lw0, lw4, okw, q⟩ := h
  obtain ⟨qx, qy, qz, hq⟩ := id hp
  cases ws with
  | nil => cases lw0
  | cons z0 wr =>
  have lwr : wr.length ≤ 3 := by simpa using lw4
  have hz0 := okw z0 List.mem_cons_self
  refine l_cons (s_set (e_lst (a_cons (e_ix (e_var (e_int (ix_l (by exact SqL.of hwd) (atI_nat (j := 0) (v := .str z0) rfl) (a_nil ⟨by show 1 ≤ sizeLine; decide, fun D H1 e1 nD hD => ?_⟩))))))))
  have nDp : D ≠ p := fun z => by subst z; rw [hq] at nD; cases nD
  show wL _ _ _ [some (.ref p), some (.ref wd), some (.ref D), none, none, none, none] _
  refine l_cons (s_forL (e_slL0 sl_list ?_))
  walk_at "sts"
  refine ⟨wd, _, rfl, SqL.of (e1 _ _ hwd), fun la nla => ?_⟩
  rw [show sVs (z0 :: wr) = .str z0 :: sVs wr from rfl, cutV1]
  have e2 : Same H1 (upd H1 la (.lst (sVs wr))) := fun c u hc => by rw [upd_ne (ne_of_none hc nla)]; exact hc
  have hla : (upd H1 la (.lst (sVs wr))) la = some (.lst (sVs wr)) := upd_same
  have nlD : la ≠ D := fun z => by subst z; rw [hD] at nla; cases nla
  have nlp : la ≠ p := fun z => by subst z; rw [e1 _ _ hq] at nla; cases nla
  generalize upd H1 la (.lst (sVs wr)) = H2 at e2 hla
  refine ⟨la, sVs wr, rfl, SqL.of hla, fun k σ H' => ∃ x3 x4 x5 x6 us, σ = [some (.ref p), some (.ref wd), some (.ref D), x3, x4, x5, x6] ∧ PoolAt H' p ∧ H' D = some (.lst (sVs us)) ∧ us.length = k + 1 ∧ (∀ z ∈ us, OkW z) ∧ ∀ c u, c ≠ p → c ≠ D → H2 c = some u → H' c = some u, ⟨none, none, none, none, [z0], rfl, ⟨_, _, _, e2 _ _ (e1 _ _ hq)⟩, e2 _ _ hD, rfl, fun z hz => by rw [List.mem_singleton.mp hz]; exact hz0, fun _ _ _ _ h => h⟩, ?_, ?_, ?_⟩
  · intro k σ H' _ pp
    obtain ⟨_, _, _, _, _, _, _, _, _, _, keep⟩ := pp
    exact SqL.of (keep la _ nlp nlD hla)
  · intro k y σ H' hy pp
    obtain ⟨x3, x4, x5, x6, us, rfl, p', hD', lus, okus, keep⟩ := pp
    obtain ⟨z, hz, rfl⟩ := sVs_get hy
    have hk3 : k < 3 := Nat.lt_of_lt_of_le (List.getElem?_eq_some_iff.mp hz).1 lwr
    have okz := okw z (List.mem_cons_of_mem _ (List.mem_of_getElem? hz))
    have lsv : ∀ l : List Str, (sVs l).length = l.length := fun l => by simp [sVs]
    show wL _ _ _ [some (.ref p), some (.ref wd), some (.ref D), some (.str z), x4, x5, x6] _
    refine l_cons (s_set (e_ix (e_var (e_call (by exact FN) (by exact hr) (by decide) ?_))))
    refine a_cons (e_var (a_cons (e_callB (x := "len") (by assumption) b_len (a_cons (e_var (a_nil (c_lenL (by exact SqL.of hD') ?_)))))))
    rw [lsv]
    refine a_nil ⟨p, us.length, rfl, by omega, by omega, p', fun d H3 d0 d1 b3 p3 => ?_⟩
    have hD3 := b3 _ _ nDp hD'
    obtain ⟨zo, hzo, hat⟩ := sVs_at d0 d1
    have okzo := okus zo hzo
    refine ix_l (by exact SqL.of hD3) hat ?_
    show wL _ _ _ [some (.ref p), some (.ref wd), some (.ref D), some (.str z), some (.str zo), x5, x6] _
    refine l_cons (s_set (e_bin (e_int (e_call (by exact FN) (by exact hr) (by decide) ?_))))
    have szo : zo.length ≤ sizeLine := Nat.le_trans okzo.2 (by decide)
    have zo1 := okzo.1
    have zo2 := okzo.2
    refine a_cons (e_var (a_cons (e_callB (x := "len") (by assumption) b_len (a_cons (e_var (a_nil (c_lenS szo (a_nil ⟨p, zo.length, rfl, by omega, by omega, p3, fun d4 H4 f0 f1 b4 p4 => o_add ?_⟩))))))))
    obtain ⟨j, rfl⟩ := Int.eq_ofNat_of_zero_le f0
    rw [show (1 : Int) + (j : Int) = ((1 + j : Nat) : Int) by omega]
    show wL _ _ _ [some (.ref p), some (.ref wd), some (.ref D), some (.str z), some (.str zo), some (.int ((1 + j : Nat) : Int)), x6] _
    refine l_cons (s_set (e_slL1 sl_str (e_bin (e_bin (e_slL1 sl_str ?_)))))
    walk_at "sts"
    refine ⟨szo, ?_⟩
    refine e_ix (e_str ?_)
    refine e_call (by exact FN) (by exact hr) (by decide) ?_
    refine a_cons (e_var (a_cons (e_int (a_nil ⟨p, 3, rfl, by decide, by decide, p4, fun d5 H5 g0 g1 b5 p5 => ?_⟩))))
    obtain ⟨c, hc⟩ := ab7_at g0 g1
    have lh := lenH zo (1 + j)
    refine ix_s (by decide +kernel) hc (o_addS (by rw [lh, sg_len]; omega) ?_)
    refine e_slL0 sl_str ?_
    refine e_var (e_bin (e_var ?_))
    refine e_call (by exact FN) (by exact hr) (by decide) ?_
    refine a_cons (e_var (a_cons (e_int (a_nil ⟨p, 2, rfl, by decide, by decide, p5, fun d6 H6 i0 i1 b6 p6 => o_add ?_⟩))))
    obtain ⟨m, rfl⟩ := Int.eq_ofNat_of_zero_le i0
    rw [show ((1 + j : Nat) : Int) + (m : Int) = ((1 + j + m : Nat) : Int) by omega]
    refine ⟨_, rfl, zo, rfl, szo, ?_⟩
    have ll := lenL zo (1 + j + m)
    have l1 : (cutS zo none (some ((1 + j : Nat) : Int)) ++ sg c).length = min (1 + j) zo.length + 1 := by rw [app_len, lh, sg_len]
    refine o_addS (by rw [l1, ll]; omega) ?_
    have l2 : (cutS zo none (some ((1 + j : Nat) : Int)) ++ sg c ++ cutS zo (some ((1 + j + m : Nat) : Int)) none).length = min (1 + j) zo.length + 1 + (zo.length - (1 + j + m)) := by rw [app_len, l1, ll]
    generalize cutS zo none (some ((1 + j : Nat) : Int)) ++ sg c ++ cutS zo (some ((1 + j + m : Nat) : Int)) none = zn at l2
    refine e_int ⟨_, rfl, zn, rfl, by show _ ≤ 2 ^ 24; omega, ?_⟩
    have l3 := lenH zn 12
    have l3' : (cutS zn none (some (12 : Int))).length = min 12 zn.length := l3
    have okn : OkW (cutS zn none (some (12 : Int))) := ⟨by rw [l3']; omega, by rw [l3']; omega⟩
    generalize cutS zn none (some (12 : Int)) = zf at okn
    show wL _ _ _ [some (.ref p), some (.ref wd), some (.ref D), some (.str z), some (.str zo), some (.int ((1 + j : Nat) : Int)), some (.str zf)] _
    have b36 : But p H' H6 := ((b3.trans b4).trans b5).trans b6
    refine l_seq (fun σ H7 => ∃ zf, σ = [some (.ref p), some (.ref wd), some (.ref D), some (.str z), some (.str zo), some (.int ((1 + j : Nat) : Int)), some (.str zf)] ∧ OkW zf ∧ PoolAt H7 p ∧ But p H' H7) (fun go => ?_) fun σ H7 m7 => ?_
    · refine l_cons (s_if (t_w (w_or (t_cmp (e_call (by exact FN) (by exact hr) (by decide) ?_)))))
      refine a_cons (e_var (a_cons (e_int (a_nil ⟨p, 2, rfl, by decide, by decide, p6, fun d7 H7 _ _ b7 p7 => e_int (o_eqI ⟨_, rfl, ?_⟩)⟩))))
      have b37 := b36.trans b7
      refine if2 (fun _ => iteT (l_cons (s_set (e_var (l_nil (go _ H7 ⟨z, rfl, okz, p7, b37⟩)))))) (fun _ => w_or1 (t_cmp (e_var (e_var (o_in (by exact SqL.of (b37 _ _ nDp hD')) rfl (sVs_flat us) ⟨_, rfl, ?_⟩)))))
      cases inV (.str zf) (sVs us) with
      | true => exact iteT (l_cons (s_set (e_var (l_nil (go _ H7 ⟨z, rfl, okz, p7, b37⟩)))))
      | false => exact iteF (l_nil (go _ H7 ⟨zf, rfl, okn, p7, b37⟩))
    · obtain ⟨zf, rfl, okf, p7, b7⟩ := m7
      have hD7 := b7 _ _ nDp hD'
      refine l_cons (s_expr (e_app (e_var ⟨D, _, rfl, SqL.of hD7, e_var ⟨_, hD7, by rw [lsv]; show _ < 2 ^ 24; omega, l_nil ⟨_, _, _, _, us ++ [zf], rfl, ?_, ?_, by rw [List.length_append, lus]; rfl, fun y hy => ?_, fun c u c1 c2 hc => by rw [upd_ne c2]; exact b7 _ _ c1 (keep c u c1 c2 hc)⟩⟩⟩)))
      · obtain ⟨ux, uy, uz, hu⟩ := p7
        exact ⟨ux, uy, uz, by rw [upd_ne (Ne.symm nDp)]; exact hu⟩
      · rw [upd_same]; simp [sVs]
      · rcases List.mem_append.mp hy with hy | hy
        · exact okus y hy
        · rw [List.mem_singleton.mp hy]; exact okf
  · intro σ H' pp
    obtain ⟨x3, x4, x5, x6, us, rfl, p', hD', lus, okus, keep⟩ := pp
    refine l_cons (s_ret (e_var (q D us H' (fun c u c1 hc => keep c u c1 (fun e => by subst e; rw [hc] at nD; cases nD) (e2 _ _ (e1 _ _ hc))) p' nD hD' (by rw [lus]; simp [sVs]) okus)))
end



theorem bk_truths3 : BkOkC (N_truths ++ C_truths) [(6, "second"), (7, "priced"), (11, "row")] ["all"] 11 "row" (defScope s_truths) (xSc (stE ((defBody s_truths).getD 6 nS))) := ⟨by decide +kernel, by decide +kernel, by decide +kernel, by decide +kernel, by decide +kernel⟩
theorem bk_truths4 : BkOk (N_truths ++ C_truths) [(6, "second"), (11, "row"), (8, "element")] [] 8 "element" (relS (xSc (stE ((defBody s_truths).getD 6 nS))) (defScope s_truths)) (xSc (exA (exA (stE ((defBody s_truths).getD 6 nS)) 0) 1)) := ⟨by decide +kernel, by decide +kernel, by decide +kernel, by decide +kernel⟩
theorem bk_true3 : BkOkC (N_true ++ C_true) [(6, "_law_able"), (5, "_law_two"), (0, "_law_rows"), (7, "_law_k")] [] 7 "_law_k" (defScope s_true) (xSc (stE ((defBody s_true).getD 6 nS))) := ⟨by decide +kernel, by decide +kernel, by decide +kernel, by decide +kernel, by decide +kernel⟩
theorem bk_true4 : BkOk (N_true ++ C_true) [(8, "_law_v"), (5, "_law_two"), (0, "_law_rows"), (7, "_law_k")] [] 8 "_law_v" (relS (xSc (stE ((defBody s_true).getD 6 nS))) (defScope s_true)) (xSc (exA (exA (stE ((defBody s_true).getD 6 nS)) 0) 0)) := ⟨by decide +kernel, by decide +kernel, by decide +kernel, by decide +kernel⟩
/-- where a sentence is true, all elements in order -/
def tl (L : List (List Int)) (F : FcT) (s : Sn) : List Bool := (List.range L.length).map fun k => trb L F s k
abbrev bV (l : List Bool) : List V := l.map V.bl
theorem tl_at {L : List (List Int)} {F : FcT} {s : Sn} {k : Nat} (h : k < L.length) : (bV (tl L F s))[k]? = some (.bl (trb L F s k)) := by
  rw [show bV (tl L F s) = (List.range L.length).map (fun k => V.bl (trb L F s k)) from by simp [tl, bV, Function.comp_def], List.getElem?_map, List.getElem?_range h]; rfl
theorem tl_get {L : List (List Int)} {F : FcT} {s : Sn} {k : Nat} {u : V} (h : (bV (tl L F s))[k]? = some u) : k < L.length ∧ u = .bl (trb L F s k) := by
  have hl : k < L.length := by
    have := (List.getElem?_eq_some_iff.mp h).1
    simpa [tl] using this
  rw [tl_at hl] at h
  cases h
  exact ⟨hl, rfl⟩
theorem tl_len {L : List (List Int)} {F : FcT} {s : Sn} : (bV (tl L F s)).length = L.length := by simp [tl]
theorem bv_range (f : Nat → Bool) (k : Nat) : bV ((List.range (k + 1)).map f) = bV ((List.range k).map f) ++ [.bl (f k)] := by
  rw [List.range_succ, List.map_append]; simp [bV]
theorem bv_rlen (f : Nat → Bool) (k : Nat) : (bV ((List.range k).map f)).length = k := by simp
/-- the elements at which it is true -/
def prs (L : List (List Int)) (F : FcT) (s : Sn) (k : Nat) : List Nat := (List.range k).filter (trb L F s)
theorem prs_len (L : List (List Int)) (F : FcT) (s : Sn) (k : Nat) : (prs L F s k).length ≤ k := by
  unfold prs
  have := List.length_filter_le (trb L F s) (List.range k)
  rwa [List.length_range] at this
abbrev nV (l : List Nat) : List V := l.map fun (v : Nat) => V.int (v : Int)
theorem prs0 {L : List (List Int)} {F : FcT} {s : Sn} : nV (prs L F s 0) = [] := rfl
theorem prs_step {L : List (List Int)} {F : FcT} {s : Sn} {k : Nat} : prs L F s (k + 1) = if trb L F s k = true then prs L F s k ++ [k] else prs L F s k := by
  unfold prs
  rw [List.range_succ, List.filter_append]
  cases h : trb L F s k <;> simp [h]
theorem prs_lt {L : List (List Int)} {F : FcT} {s : Sn} {k v : Nat} (h : v ∈ prs L F s k) : v < k := by
  unfold prs at h
  exact List.mem_range.mp (List.mem_filter.mp h).1
theorem trb_trade {L : List (List Int)} {F : FcT} {k : Pk} {p g : Sn} {e : Nat} : (prs L F p L.length).all (fun v => trb L F g (gg L e v).toNat) = trb L F (.trade k p g) e := by
  unfold prs
  rw [List.all_filter]
  rfl
theorem emp_all {α : Type} (q : α → Bool) : ∀ l : List α, (l.filter fun x => !q x).isEmpty = l.all q
  | [] => rfl
  | x :: l => by
    rw [List.filter_cons, List.all_cons]
    cases h : q x with
    | true => simpa using emp_all q l
    | false => rfl
section
variable {P : Program} {w : World} {K : PySem.W.Frag} {mg : Str → Option Value} {base : Heap}
theorem lkF_at {H : Hp} {d nl : Addr} {bs : List Addr} {F : FcT} {z : Str} (h : Facts H d bs F) (h2 : H nl = some (.lst [])) : ∃ b, (valV (zk F bs) (Sum.inr z)).getD (V.ref nl) = .ref b ∧ H b = some (.lst (iV (lkF F (.inr z)))) := by
  rcases lkF_val (k := Sum.inr z) h.rs with ⟨v1, v2⟩ | ⟨b, v1, v2⟩
  · rw [v1, v2]; exact ⟨nl, rfl, h2⟩
  · rw [v1]; exact ⟨b, rfl, v2⟩
def spTruths (n : Nat) : Sp := fun vs H Q _ => ∃ a d v as bs L F s, vs = [.ref a, .ref d, v] ∧ Rows H a as L ∧ Facts H d bs F ∧ SqP L ∧ L.length ≤ 1000 ∧ SnV H v s ∧ dep s ≤ n ∧ ∀ l H', Same H H' → H l = none → H' l = some (.lst (bV (tl L F s))) → Q (.ref l) H'
theorem ok_truthsS (n : Nat) (T : Top K mg "truths" s_truths) (mLen : mg "len" = none) (mR : mg "range" = none) (mZ : mg "zip" = none) (mAll : mg "all" = none) (FT : ∀ m, n = m + 1 → Fn P w K mg base (m + 1) "truths" (spTruths m)) : Fn P w K mg base (n + 1) "truths" (spTruths n) := by
  refine fn_okC T sc_truths so_truths (fun vs H Q E h => by obtain ⟨a, d, v, as, bs, L, F, s, rfl, _⟩ := h; rfl) (fun _ _ _ _ _ _ us hl => match us, hl with | [_, _, _], _ => rfl) fun f cdv A outer s H vs Q E hr h nd => ?_
  obtain ⟨a, d, v, as, bs, L, F, s, rfl, hr0, hf0, hsq, hz, hv, hdn, q⟩ := h
  refine l_cons (s_set (e_callTy (x := "range") (by assumption) b_range (a_cons (e_callB (x := "len") (by assumption) b_len (a_cons (e_var (a_nil (c_lenL (by exact SqL.of hr0.hd) ?_))))))))
  rw [List.length_map, hr0.rs.len]
  refine a_nil (c_rng1 fun r nr => ?_)
  have e1 : Same H (upd H r (.rng 0 (L.length : Int))) := fun c o hc => by rw [upd_ne (ne_of_none hc nr)]; exact hc
  have hr1 : upd H r (.rng 0 (L.length : Int)) r = some (.rng 0 (L.length : Int)) := upd_same
  generalize upd H r (.rng 0 (L.length : Int)) = H1 at e1 hr1
  show wL _ _ _ [some (.ref a), some (.ref d), some v, some (.ref r), none, none, none, none, none, none, none, none] _
  cases s with
  | word z =>
    obtain ⟨t, rfl, ht⟩ := hv
    refine l_cons (s_if (t_cmp (e_ix (e_var (e_int (ix_t (by exact SqT.of (e1 _ _ ht)) at0 (e_str (o_eqS ⟨_, rfl, ?_⟩))))))))
    refine ite_t (by simp) ?_
    refine l_cons (s_set (e_dget2 (n := n) (by exact hr) (e_var ⟨d, rfl, .inl ⟨_, .inl (e1 _ _ hf0.hd)⟩, e_ix (e_var (e_int (ix_t (by exact SqT.of (e1 _ _ ht)) at1 (e_lst (a_nil ⟨by show 0 ≤ sizeLine; decide, fun nl H2 e2 n2 h2 => ?_⟩)))))⟩)))
    have e12 := e1.trans e2
    refine ⟨_, dg_K (k := Sum.inr z) (e12 _ _ hf0.hd), ?_⟩
    obtain ⟨b, hb, hbl⟩ := lkF_at (z := z) (hf0.same e12) h2
    rw [hb]
    show wL _ _ _ [some (.ref a), some (.ref d), some (.ref t), some (.ref r), some (.ref b), none, none, none, none, none, none, none] _
    refine l_cons (s_ret (e_lcRv (by exact bk_truths0) (e_var ⟨r, L.length, rfl, e2 _ _ hr1, by omega, fun D nD => ?_⟩)))
    refine ⟨fun k H3 => H3 D = some (.lst (bV ((List.range k).map fun k => trb L F (.word z) k))) ∧ Same H2 H3, ⟨upd_same, fun c u hc => by rw [upd_ne (ne_of_none hc nD)]; exact hc⟩, ?_, ?_⟩
    · intro k H3 hk p s0 H0 C0 cl fp IB
      obtain ⟨p1, p2⟩ := p
      refine e_cmp (b_var (b_var (o_in (SqL.of (p2 _ _ hbl)) rfl (iv_flat _) ?_)))
      refine ⟨_, p1, by rw [bv_rlen]; show _ < 2 ^ 24; omega, ?_, fun c u hc => by rw [upd_ne (ne_of_none hc nD)]; exact p2 _ _ hc⟩
      rw [bv_range]
      exact upd_same
    · intro H3 p
      obtain ⟨p1, p2⟩ := p
      exact q D H3 (e12.trans p2) (none_of e12 nD) p1
  | menu l g =>
    obtain ⟨t, va, vb, rfl, ht, ha, hb⟩ := hv
    have hd' : max (dep l) (dep g) + 1 ≤ n := hdn
    obtain ⟨m, rfl⟩ : ∃ m, n = m + 1 := ⟨n - 1, by omega⟩
    have FO := FT m rfl
    refine l_cons (s_if (t_cmp (e_ix (e_var (e_int (ix_t (by exact SqT.of (e1 _ _ ht)) at0 (e_str (o_eqS ⟨_, rfl, ?_⟩))))))))
    refine ite_f (by decide +kernel) (l_nil ?_)
    refine l_cons (s_set (e_call (by exact FO) (by exact hr) (by omega) ?_))
    walk_at "sts"
    refine ix_neg (by exact e1 _ _ ht) rfl ?_
    walk_at "sts"
    refine ⟨a, d, va, as, bs, L, F, l, rfl, hr0.same e1, hf0.same e1, hsq, hz, ha.ts (Same.ts e1), by omega, fun l1 H2 e2 nl1 hl1 => ?_⟩
    have e12 := e1.trans e2
    show wL _ _ _ [some (.ref a), some (.ref d), some (.ref t), some (.ref r), none, some (.ref l1), none, none, none, none, none, none] _
    refine l_cons (s_set (e_call (by exact FO) (by exact hr) (by omega) ?_))
    walk_at "sts"
    refine ix_neg (by exact e12 _ _ ht) rfl ?_
    walk_at "sts"
    refine ⟨a, d, vb, as, bs, L, F, g, rfl, hr0.same e12, hf0.same e12, hsq, hz, hb.ts (Same.ts e12), by omega, fun l2 H3 e3 nl2 hl2 => ?_⟩
    have e13 := e12.trans e3
    show wL _ _ _ [some (.ref a), some (.ref d), some (.ref t), some (.ref r), none, some (.ref l1), some (.ref l2), none, none, none, none, none] _
    refine l_cons (s_if (t_cmp (e_ix (e_var (e_int (ix_t (by exact SqT.of (e13 _ _ ht)) at0 (e_str (o_eqS ⟨_, rfl, ?_⟩))))))))
    refine ite_t (by decide +kernel) ?_
    refine l_cons (s_ret (e_lcZ .l .l (by exact bk_truths1) (by assumption) (e_var (e_var ⟨l1, l2, _, _, rfl, rfl, SqL.of (e3 _ _ hl1), SqL.of hl2, fun D nD => ?_⟩))))
    refine ⟨fun k H4 => H4 D = some (.lst (bV ((List.range k).map fun k => trb L F (.menu l g) k))) ∧ Same H3 H4, ⟨upd_same, fun c u hc => by rw [upd_ne (ne_of_none hc nD)]; exact hc⟩, fun k H4 _ p => ⟨SqL.of (p.2 _ _ (e3 _ _ hl1)), SqL.of (p.2 _ _ hl2)⟩, ?_, ?_⟩
    · intro k u1 u2 T H4 hu1 hu2 p nT s0 H0 C0 cl fp IB
      obtain ⟨p1, p2⟩ := p
      obtain ⟨hk, rfl⟩ := tl_get hu1
      obtain ⟨_, rfl⟩ := tl_get hu2
      have nTD : D ≠ T := fun z => by subst z; rw [p1] at nT; cases nT
      have fin : ∀ z : Bool, z = trb L F (.menu l g) k → ∃ acc, (upd H4 T (.tup [.bl (trb L F l k), .bl (trb L F g k)])) D = some (.lst acc) ∧ acc.length < sizeLine ∧ upd (upd H4 T (.tup [.bl (trb L F l k), .bl (trb L F g k)])) D (.lst (acc ++ [.bl z])) D = some (.lst (bV ((List.range (k + 1)).map fun k => trb L F (.menu l g) k))) ∧ Same H3 (upd (upd H4 T (.tup [.bl (trb L F l k), .bl (trb L F g k)])) D (.lst (acc ++ [.bl z]))) := by
        rintro z rfl
        refine ⟨_, by rw [upd_ne nTD]; exact p1, by rw [bv_rlen]; show _ < 2 ^ 24; omega, by rw [bv_range]; exact upd_same, fun c u hc => ?_⟩
        rw [upd_ne (ne_of_none hc nD), upd_ne (ne_of_none (p2 _ _ hc) nT)]
        exact p2 _ _ hc
      refine e_and (b_var ⟨_, rfl, ?_⟩)
      cases h1 : trb L F l k with
      | false => rw [h1] at fin; exact iteF (fin false (by show false = (trb L F l k && trb L F g k); rw [h1]; rfl))
      | true => rw [h1] at fin; exact iteT (e_one (b_var (fin _ (by show trb L F g k = (trb L F l k && trb L F g k); rw [h1]; rfl))))
    · intro H4 p
      obtain ⟨p1, p2⟩ := p
      rw [tl_len, tl_len, Nat.min_self] at p1
      exact q D H4 (e13.trans p2) (none_of e13 nD) p1
  | trade kk l g =>
    obtain ⟨t, md, va, vb, rfl, ht, hm, ha, hb⟩ := hv
    have hd' : max (dep l) (dep g) + 1 ≤ n := hdn
    obtain ⟨m, rfl⟩ : ∃ m, n = m + 1 := ⟨n - 1, by omega⟩
    have FO := FT m rfl
    refine l_cons (s_if (t_cmp (e_ix (e_var (e_int (ix_t (by exact SqT.of (e1 _ _ ht)) at0 (e_str (o_eqS ⟨_, rfl, ?_⟩))))))))
    refine ite_f (by decide +kernel) (l_nil ?_)
    refine l_cons (s_set (e_call (by exact FO) (by exact hr) (by omega) ?_))
    walk_at "sts"
    refine ix_neg (by exact e1 _ _ ht) rfl ?_
    walk_at "sts"
    refine ⟨a, d, va, as, bs, L, F, l, rfl, hr0.same e1, hf0.same e1, hsq, hz, ha.ts (Same.ts e1), by omega, fun l1 H2 e2 nl1 hl1 => ?_⟩
    have e12 := e1.trans e2
    show wL _ _ _ [some (.ref a), some (.ref d), some (.ref t), some (.ref r), none, some (.ref l1), none, none, none, none, none, none] _
    refine l_cons (s_set (e_call (by exact FO) (by exact hr) (by omega) ?_))
    walk_at "sts"
    refine ix_neg (by exact e12 _ _ ht) rfl ?_
    walk_at "sts"
    refine ⟨a, d, vb, as, bs, L, F, g, rfl, hr0.same e12, hf0.same e12, hsq, hz, hb.ts (Same.ts e12), by omega, fun l2 H3 e3 nl2 hl2 => ?_⟩
    have e13 := e12.trans e3
    show wL _ _ _ [some (.ref a), some (.ref d), some (.ref t), some (.ref r), none, some (.ref l1), some (.ref l2), none, none, none, none, none] _
    refine l_cons (s_if (t_cmp (e_ix (e_var (e_int (ix_t (by exact SqT.of (e13 _ _ ht)) at0 (e_str (o_eqS ⟨_, rfl, ?_⟩))))))))
    refine ite_f (by decide +kernel) (l_nil ?_)
    refine l_cons (s_set (e_lcRvf (by exact bk_truths2) (e_var ⟨r, L.length, rfl, (e2.trans e3) _ _ hr1, by omega, fun D nD => ?_⟩)))
    refine ⟨fun k H4 => H4 D = some (.lst (nV (prs L F l k))) ∧ Same H3 H4, ⟨by rw [prs0]; exact upd_same, fun c u hc => by rw [upd_ne (ne_of_none hc nD)]; exact hc⟩, ?_, ?_⟩
    · intro k H4 hk p s0 H0 C0 cl fp IB
      obtain ⟨p1, p2⟩ := p
      refine t_val (e_ix (b_var (b_var (ix_l (SqL.of (p2 _ _ (e3 _ _ hl1))) (atI_nat (tl_at hk)) ⟨_, rfl, ?_⟩))))
      have hps := prs_step (L := L) (F := F) (s := l) (k := k)
      cases h1 : trb L F l k with
      | false =>
        rw [h1] at hps
        exact iteF ⟨by rw [hps]; exact p1, p2⟩
      | true =>
        rw [h1] at hps
        refine iteT fun s0 H0 C0 cl fp IB => b_var ⟨_, p1, by have := prs_len L F l k; rw [List.length_map]; show _ < 2 ^ 24; omega, ?_, fun c u hc => by rw [upd_ne (ne_of_none hc nD)]; exact p2 _ _ hc⟩
        rw [hps]
        show _ = some (HO.lst (nV (prs L F l k ++ [k])))
        rw [show nV (prs L F l k ++ [k]) = nV (prs L F l k) ++ [.int (k : Int)] from by simp [nV]]
        exact upd_same
    · intro H4 p
      obtain ⟨hD4, e4⟩ := p
      have e34 := e3.trans e4
      have e14 := e13.trans e4
      show wL _ _ _ [some (.ref a), some (.ref d), some (.ref t), some (.ref r), none, some (.ref l1), some (.ref l2), some (.ref D), none, none, none, none] _
      refine l_cons (s_ret (e_lcLC (by exact bk_truths3) (e_var ⟨a, _, rfl, SqL.of (e14 _ _ hr0.hd), fun D2 nD2 => ?_⟩)))
      refine ⟨fun k H5 => H5 D2 = some (.lst (bV ((List.range k).map fun k => trb L F (.trade kk l g) k))) ∧ Same H4 H5, ⟨upd_same, fun c u hc => by rw [upd_ne (ne_of_none hc nD2)]; exact hc⟩, fun k H5 _ p => SqL.of (p.2 _ _ (e14 _ _ hr0.hd)), ?_, ?_⟩
      · intro k x H5 hx p s0 H0 C0 cl fp IB
        obtain ⟨p1, p2⟩ := p
        have hk : k < L.length := by
          have := (List.getElem?_eq_some_iff.mp hx).1
          rwa [List.length_map, hr0.rs.len] at this
        obtain ⟨b, hb1, hbr⟩ := (hr0.same (e14.trans p2)).row hk
        rw [hb1] at hx
        cases hx
        refine b_callB (x := "all") (by assumption) b_all (a_cons (n_lcL nd.s.bk (by exact bk_truths4) (b_var ⟨D, _, rfl, SqL.of (p2 _ _ hD4), fun D3 nD3 => ?_⟩)))
        refine ⟨fun j H6 => H6 D3 = some (.lst (bV (((prs L F l L.length).take j).map fun v => trb L F g (gg L k v).toNat))) ∧ Same H5 H6, ⟨by rw [List.take_zero]; exact upd_same, fun c u hc => by rw [upd_ne (ne_of_none hc nD3)]; exact hc⟩, fun j H6 _ p => SqL.of (p.2 _ _ (p2 _ _ hD4)), ?_, ?_⟩
        · intro j y H6 hy p s0 H0 C0 cl fp IB
          obtain ⟨r1, r2⟩ := p
          rw [List.getElem?_map] at hy
          obtain ⟨v, hv, rfl⟩ := Option.map_eq_some_iff.mp hy
          have hvl := prs_lt (List.mem_of_getElem? hv)
          have hg := sq_in hsq hk hvl
          refine e_ix (b_var (e_ix (b_var (b_var (ix_l (SqL.of (r2 _ _ hbr)) (atI_nat (iv_get (gg_get (by rw [sq_row hsq hk]; exact hvl)))) (ix_l (SqL.of (r2 _ _ (p2 _ _ (e4 _ _ hl2)))) (at_int hg.1 (tl_at (by omega))) ?_))))))
          have hjl := (List.getElem?_eq_some_iff.mp hv).1
          have hpl := prs_len L F l L.length
          refine ⟨_, r1, by rw [List.length_map, List.length_map, List.length_take]; show _ < 2 ^ 24; omega, ?_, fun c u hc => by rw [upd_ne (ne_of_none hc nD3)]; exact r2 _ _ hc⟩
          rw [take_snoc' hv, upd_same]
          simp [bV]
        · intro H6 p
          obtain ⟨r1, r2⟩ := p
          rw [List.length_map, List.take_length] at r1
          refine a_nil (c_allL rfl (SqL.of r1) ?_)
          rw [all_id, trb_trade (k := kk)]
          refine ⟨_, r2 _ _ p1, by rw [bv_rlen]; show _ < 2 ^ 24; omega, by rw [bv_range]; exact upd_same, fun c u hc => by rw [upd_ne (ne_of_none hc nD2)]; exact r2 _ _ (p2 _ _ hc)⟩
      · intro H5 p
        obtain ⟨p1, p2⟩ := p
        rw [List.length_map, hr0.rs.len] at p1
        exact q D2 H5 (e14.trans p2) (none_of e14 nD2) p1
theorem ok_truths (T : Top K mg "truths" s_truths) (mLen : mg "len" = none) (mR : mg "range" = none) (mZ : mg "zip" = none) (mAll : mg "all" = none) : ∀ n, Fn P w K mg base (n + 1) "truths" (spTruths n)
  | 0 => ok_truthsS 0 T mLen mR mZ mAll fun m h => by cases h
  | n + 1 => ok_truthsS (n + 1) T mLen mR mZ mAll fun m h => by cases h; exact ok_truths T mLen mR mZ mAll n
end



section
variable {P : Program} {w : World} {K : PySem.W.Frag} {mg : Str → Option Value} {base : Heap}
def spTrue (n : Nat) : Sp := fun vs H Q _ => ∃ a d v as bs L F s, vs = [.ref a, .ref d, v] ∧ Rows H a as L ∧ Facts H d bs F ∧ SqP L ∧ L.length ≤ 1000 ∧ SnV H v s ∧ dep s ≤ n ∧ ∀ l H', Same H H' → H l = none → H' l = some (.lst (bV (tl L F s))) → Q (.ref l) H'
theorem ok_trueS (n : Nat) (T : Top K mg "_law_true" s_true) (mLen : mg "len" = none) (mR : mg "range" = none) (FT : ∀ m, n = m + 1 → Fn P w K mg base (m + 1) "_law_true" (spTrue m)) : Fn P w K mg base (n + 1) "_law_true" (spTrue n) := by
  refine fn_okC T sc_true so_true (fun vs H Q E h => by obtain ⟨a, d, v, as, bs, L, F, s, rfl, _⟩ := h; rfl) (fun _ _ _ _ _ _ us hl => match us, hl with | [_, _, _], _ => rfl) fun f cdv A outer s H vs Q E hr h nd => ?_
  obtain ⟨a, d, v, as, bs, L, F, s, rfl, hr0, hf0, hsq, hz, hv, hdn, q⟩ := h
  refine l_cons (s_set (e_callB (x := "len") (by assumption) b_len (a_cons (e_var (a_nil (c_lenL (by exact SqL.of hr0.hd) ?_))))))
  rw [List.length_map, hr0.rs.len]
  show wL _ _ _ [some (.ref a), some (.ref d), some v, some (.int (L.length : Int)), none, none, none, none, none] _
  cases s with
  | word z =>
    obtain ⟨t, rfl, ht⟩ := hv
    refine l_cons (s_if (t_cmp (e_ix (e_var (e_int (ix_t (by exact SqT.of ht) at0 (e_str (o_eqS ⟨_, rfl, ?_⟩))))))))
    refine ite_t (by simp) ?_
    refine l_cons (s_ret (e_lcR (by exact bk_true0) (by assumption) (e_var ⟨L.length, rfl, by omega, fun D nD => ?_⟩)))
    refine ⟨fun k H3 => H3 D = some (.lst (bV ((List.range k).map fun k => trb L F (.word z) k))) ∧ Same H H3, ⟨upd_same, fun c u hc => by rw [upd_ne (ne_of_none hc nD)]; exact hc⟩, ?_, ?_⟩
    · intro k H3 hk p s0 H0 C0 cl fp IB
      obtain ⟨p1, p2⟩ := p
      refine e_cmp (b_var (e_dget2 (n := n) (by exact hr) (b_var ⟨d, rfl, .inl ⟨_, .inl (p2 _ _ hf0.hd)⟩, e_ix (b_var (e_int (ix_t (by exact SqT.of (p2 _ _ ht)) at1 (e_lst (a_nil ⟨by show 0 ≤ sizeLine; decide, fun nl H4 e4 n4 h4 => ?_⟩)))))⟩)))
      have e34 := p2.trans e4
      refine ⟨_, dg_K (k := Sum.inr z) (e34 _ _ hf0.hd), ?_⟩
      obtain ⟨b, hb, hbl⟩ := lkF_at (z := z) (hf0.same e34) h4
      rw [hb]
      refine o_in (SqL.of hbl) rfl (iv_flat _) ?_
      refine ⟨_, e4 _ _ p1, by rw [bv_rlen]; show _ < 2 ^ 24; omega, ?_, fun c u hc => by rw [upd_ne (ne_of_none hc nD)]; exact e34 _ _ hc⟩
      rw [bv_range]
      exact upd_same
    · intro H3 p
      obtain ⟨p1, p2⟩ := p
      exact q D H3 p2 nD p1
  | menu l g =>
    obtain ⟨t, va, vb, rfl, ht, ha, hb⟩ := hv
    have hd' : max (dep l) (dep g) + 1 ≤ n := hdn
    obtain ⟨m, rfl⟩ : ∃ m, n = m + 1 := ⟨n - 1, by omega⟩
    have FO := FT m rfl
    refine l_cons (s_if (t_cmp (e_ix (e_var (e_int (ix_t (by exact SqT.of ht) at0 (e_str (o_eqS ⟨_, rfl, ?_⟩))))))))
    refine ite_f (by decide +kernel) (l_nil ?_)
    refine l_cons (s_set (e_call (by exact FO) (by exact hr) (by omega) ?_))
    walk_at "sts"
    refine ix_neg (by exact ht) rfl ?_
    walk_at "sts"
    refine ⟨a, d, va, as, bs, L, F, l, rfl, hr0, hf0, hsq, hz, ha, by omega, fun l1 H2 e2 nl1 hl1 => ?_⟩
    show wL _ _ _ [some (.ref a), some (.ref d), some (.ref t), some (.int (L.length : Int)), some (.ref l1), none, none, none, none] _
    refine l_cons (s_set (e_call (by exact FO) (by exact hr) (by omega) ?_))
    walk_at "sts"
    refine ix_neg (by exact e2 _ _ ht) rfl ?_
    walk_at "sts"
    refine ⟨a, d, vb, as, bs, L, F, g, rfl, hr0.same e2, hf0.same e2, hsq, hz, hb.ts (Same.ts e2), by omega, fun l2 H3 e3 nl2 hl2 => ?_⟩
    have e13 := e2.trans e3
    show wL _ _ _ [some (.ref a), some (.ref d), some (.ref t), some (.int (L.length : Int)), some (.ref l1), some (.ref l2), none, none, none] _
    refine l_cons (s_if (t_cmp (e_ix (e_var (e_int (ix_t (by exact SqT.of (e13 _ _ ht)) at0 (e_str (o_eqS ⟨_, rfl, ?_⟩))))))))
    refine ite_t (by decide +kernel) ?_
    refine l_cons (s_ret (e_lcR (by exact bk_true1) (by assumption) (e_var ⟨L.length, rfl, by omega, fun D nD => ?_⟩)))
    refine ⟨fun k H4 => H4 D = some (.lst (bV ((List.range k).map fun k => trb L F (.menu l g) k))) ∧ Same H3 H4, ⟨upd_same, fun c u hc => by rw [upd_ne (ne_of_none hc nD)]; exact hc⟩, ?_, ?_⟩
    · intro k H4 hk p s0 H0 C0 cl fp IB
      obtain ⟨p1, p2⟩ := p
      have fin : ∀ z : Bool, z = trb L F (.menu l g) k → ∃ acc, H4 D = some (.lst acc) ∧ acc.length < sizeLine ∧ upd H4 D (.lst (acc ++ [.bl z])) D = some (.lst (bV ((List.range (k + 1)).map fun k => trb L F (.menu l g) k))) ∧ Same H3 (upd H4 D (.lst (acc ++ [.bl z]))) := by
        rintro z rfl
        refine ⟨_, p1, by rw [bv_rlen]; show _ < 2 ^ 24; omega, by rw [bv_range]; exact upd_same, fun c u hc => ?_⟩
        rw [upd_ne (ne_of_none hc nD)]
        exact p2 _ _ hc
      refine e_and (e_ix (b_var (b_var (ix_l (SqL.of (p2 _ _ (e3 _ _ hl1))) (atI_nat (tl_at hk)) ⟨_, rfl, ?_⟩))))
      cases h1 : trb L F l k with
      | false => exact iteF (fin false (by show false = (trb L F l k && trb L F g k); rw [h1]; rfl))
      | true => exact iteT (e_one (e_ix (b_var (b_var (ix_l (SqL.of (p2 _ _ hl2)) (atI_nat (tl_at hk)) (fin _ (by show trb L F g k = (trb L F l k && trb L F g k); rw [h1]; rfl)))))))
    · intro H4 p
      obtain ⟨p1, p2⟩ := p
      exact q D H4 (e13.trans p2) (none_of e13 nD) p1
  | trade kk l g =>
    obtain ⟨t, md, va, vb, rfl, ht, hm, ha, hb⟩ := hv
    have hd' : max (dep l) (dep g) + 1 ≤ n := hdn
    obtain ⟨m, rfl⟩ : ∃ m, n = m + 1 := ⟨n - 1, by omega⟩
    have FO := FT m rfl
    refine l_cons (s_if (t_cmp (e_ix (e_var (e_int (ix_t (by exact SqT.of ht) at0 (e_str (o_eqS ⟨_, rfl, ?_⟩))))))))
    refine ite_f (by decide +kernel) (l_nil ?_)
    refine l_cons (s_set (e_call (by exact FO) (by exact hr) (by omega) ?_))
    walk_at "sts"
    refine ix_neg (by exact ht) rfl ?_
    walk_at "sts"
    refine ⟨a, d, va, as, bs, L, F, l, rfl, hr0, hf0, hsq, hz, ha, by omega, fun l1 H2 e2 nl1 hl1 => ?_⟩
    show wL _ _ _ [some (.ref a), some (.ref d), some (.ref t), some (.int (L.length : Int)), some (.ref l1), none, none, none, none] _
    refine l_cons (s_set (e_call (by exact FO) (by exact hr) (by omega) ?_))
    walk_at "sts"
    refine ix_neg (by exact e2 _ _ ht) rfl ?_
    walk_at "sts"
    refine ⟨a, d, vb, as, bs, L, F, g, rfl, hr0.same e2, hf0.same e2, hsq, hz, hb.ts (Same.ts e2), by omega, fun l2 H3 e3 nl2 hl2 => ?_⟩
    have e13 := e2.trans e3
    show wL _ _ _ [some (.ref a), some (.ref d), some (.ref t), some (.int (L.length : Int)), some (.ref l1), some (.ref l2), none, none, none] _
    refine l_cons (s_if (t_cmp (e_ix (e_var (e_int (ix_t (by exact SqT.of (e13 _ _ ht)) at0 (e_str (o_eqS ⟨_, rfl, ?_⟩))))))))
    refine ite_f (by decide +kernel) (l_nil ?_)
    refine l_cons (s_set (e_lcRf (by exact bk_true2) (by assumption) (e_var ⟨L.length, rfl, by omega, fun D nD => ?_⟩)))
    refine ⟨fun k H4 => H4 D = some (.lst (nV (prs L F l k))) ∧ Same H3 H4, ⟨by rw [prs0]; exact upd_same, fun c u hc => by rw [upd_ne (ne_of_none hc nD)]; exact hc⟩, ?_, ?_⟩
    · intro k H4 hk p s0 H0 C0 cl fp IB
      obtain ⟨p1, p2⟩ := p
      refine t_val (e_ix (b_var (b_var (ix_l (SqL.of (p2 _ _ (e3 _ _ hl1))) (atI_nat (tl_at hk)) ⟨_, rfl, ?_⟩))))
      have hps := prs_step (L := L) (F := F) (s := l) (k := k)
      cases h1 : trb L F l k with
      | false =>
        rw [h1] at hps
        exact iteF ⟨by rw [hps]; exact p1, p2⟩
      | true =>
        rw [h1] at hps
        refine iteT fun s0 H0 C0 cl fp IB => b_var ⟨_, p1, by have := prs_len L F l k; rw [List.length_map]; show _ < 2 ^ 24; omega, ?_, fun c u hc => by rw [upd_ne (ne_of_none hc nD)]; exact p2 _ _ hc⟩
        rw [hps]
        show _ = some (HO.lst (nV (prs L F l k ++ [k])))
        rw [show nV (prs L F l k ++ [k]) = nV (prs L F l k) ++ [.int (k : Int)] from by simp [nV]]
        exact upd_same
    · intro H4 p
      obtain ⟨hD4, e4⟩ := p
      have e14 := e13.trans e4
      show wL _ _ _ [some (.ref a), some (.ref d), some (.ref t), some (.int (L.length : Int)), some (.ref l1), some (.ref l2), some (.ref D), none, none] _
      refine l_cons (s_ret (e_lcRC (by exact bk_true3) (by assumption) (e_var ⟨L.length, rfl, by omega, fun D2 nD2 => ?_⟩)))
      refine ⟨fun k H5 => H5 D2 = some (.lst (bV ((List.range k).map fun k => trb L F (.trade kk l g) k))) ∧ Same H4 H5, ⟨upd_same, fun c u hc => by rw [upd_ne (ne_of_none hc nD2)]; exact hc⟩, ?_, ?_⟩
      · intro k H5 hk p s0 H0 C0 cl fp IB
        obtain ⟨p1, p2⟩ := p
        have hr5 := hr0.same (e14.trans p2)
        obtain ⟨b, hb1, hbr⟩ := hr5.row hk
        refine e_notT (n_lcLf nd.s.bk (by exact bk_true4) (b_var ⟨D, _, rfl, SqL.of (p2 _ _ hD4), fun D3 nD3 => ?_⟩))
        refine ⟨fun j H6 => H6 D3 = some (.lst (nV (((prs L F l L.length).take j).filter fun v => !trb L F g (gg L k v).toNat))) ∧ Same H5 H6, ⟨by rw [List.take_zero]; exact upd_same, fun c u hc => by rw [upd_ne (ne_of_none hc nD3)]; exact hc⟩, fun j H6 _ p => SqL.of (p.2 _ _ (p2 _ _ hD4)), ?_, ?_⟩
        · intro j y H6 hy p s0 H0 C0 cl fp IB
          obtain ⟨r1, r2⟩ := p
          rw [List.getElem?_map] at hy
          obtain ⟨v, hv, rfl⟩ := Option.map_eq_some_iff.mp hy
          have hvl := prs_lt (List.mem_of_getElem? hv)
          have hg := sq_in hsq hk hvl
          have hpl := prs_len L F l L.length
          refine t_not (t_val (e_ix (b_var (e_ix (e_ix (b_var (b_var (ix_l (SqL.of (r2 _ _ hr5.hd)) (atI_nat hb1) (b_var (ix_l (SqL.of (r2 _ _ hbr)) (atI_nat (iv_get (gg_get (by rw [sq_row hsq hk]; exact hvl)))) (ix_l (SqL.of (r2 _ _ (p2 _ _ (e4 _ _ hl2)))) (at_int hg.1 (tl_at (by omega))) ⟨_, rfl, ?_⟩)))))))))))
          have hfl := List.length_filter_le (fun v => !trb L F g (gg L k v).toNat) ((prs L F l L.length).take j)
          rw [List.length_take] at hfl
          cases h1 : trb L F g (gg L k v).toNat with
          | true => exact iteF ⟨by rw [take_snoc' hv, List.filter_append]; simp [h1]; simpa using r1, r2⟩
          | false =>
            refine iteT fun s0 H0 C0 cl fp IB => b_var ⟨_, r1, by rw [List.length_map]; show _ < 2 ^ 24; omega, ?_, fun c u hc => by rw [upd_ne (ne_of_none hc nD3)]; exact r2 _ _ hc⟩
            rw [take_snoc' hv, List.filter_append, upd_same]
            simp [h1, nV]
        · intro H6 p
          obtain ⟨r1, r2⟩ := p
          rw [List.length_map, List.take_length] at r1
          refine ⟨_, tru_l r1, ?_⟩
          refine ⟨_, r2 _ _ p1, by rw [bv_rlen]; show _ < 2 ^ 24; omega, ?_, fun c u hc => by rw [upd_ne (ne_of_none hc nD2)]; exact r2 _ _ (p2 _ _ hc)⟩
          rw [bv_range, upd_same, ← trb_trade (k := kk)]
          have he := emp_all (fun v => trb L F g (gg L k v).toNat) (prs L F l L.length)
          rw [← he]
          simp
      · intro H5 p
        obtain ⟨p1, p2⟩ := p
        exact q D2 H5 (e14.trans p2) (none_of e14 nD2) p1
theorem ok_true (T : Top K mg "_law_true" s_true) (mLen : mg "len" = none) (mR : mg "range" = none) : ∀ n, Fn P w K mg base (n + 1) "_law_true" (spTrue n)
  | 0 => ok_trueS 0 T mLen mR fun m h => by cases h
  | n + 1 => ok_trueS (n + 1) T mLen mR fun m h => by cases h; exact ok_true T mLen mR n
end



/-! ### claims -/
abbrev Hd := Str × Pk × Sn
def HdV (H : Hp) (u : V) (h : Hd) : Prop := ∃ t m v, u = .ref t ∧ H t = some (.tup [.str h.1, m, v]) ∧ ModeV H m h.2.1 ∧ SnV H v h.2.2
def HsV (H : Hp) : List V → List Hd → Prop
  | [], [] => True
  | u :: us, h :: hs => HdV H u h ∧ HsV H us hs
  | _, _ => False
theorem HdV.ts {H H' : Hp} (e : TS H H') {u : V} {h : Hd} (x : HdV H u h) : HdV H' u h := let ⟨t, m, v, h1, h2, h3, h4⟩ := x; ⟨t, m, v, h1, e _ _ h2, h3.ts e, h4.ts e⟩
theorem HsV.ts {H H' : Hp} (e : TS H H') : ∀ {us : List V} {hs : List Hd}, HsV H us hs → HsV H' us hs
  | [], [], _ => trivial
  | _ :: _, _ :: _, ⟨a, r⟩ => ⟨a.ts e, r.ts e⟩
theorem HsV.len {H : Hp} : ∀ {us : List V} {hs : List Hd}, HsV H us hs → us.length = hs.length
  | [], [], _ => rfl
  | _ :: _, _ :: _, ⟨_, r⟩ => by simp [r.len]
theorem HsV.get {H : Hp} : ∀ {us : List V} {hs : List Hd} {i : Nat} {u : V}, HsV H us hs → us[i]? = some u → ∃ h, hs[i]? = some h ∧ HdV H u h
  | [], [], i, _, _, e => by cases i <;> cases e
  | u :: us, h :: hs, 0, _, ⟨a, _⟩, e => by cases e; exact ⟨h, rfl, a⟩
  | u :: us, h :: hs, i + 1, _, ⟨_, r⟩, e => r.get (i := i) (by simpa using e)
theorem HsV.get' {H : Hp} : ∀ {us : List V} {hs : List Hd} {i : Nat} {h : Hd}, HsV H us hs → hs[i]? = some h → ∃ u, us[i]? = some u ∧ HdV H u h
  | [], [], i, _, _, e => by cases i <;> cases e
  | u :: us, h :: hs, 0, _, ⟨a, _⟩, e => by cases e; exact ⟨u, rfl, a⟩
  | u :: us, h :: hs, i + 1, _, ⟨_, r⟩, e => r.get' (i := i) (by simpa using e)
theorem HsV.app {H : Hp} {v : V} {s : Hd} (h : HdV H v s) : ∀ {xs : List V} {ss : List Hd}, HsV H xs ss → HsV H (xs ++ [v]) (ss ++ [s])
  | [], [], _ => ⟨h, trivial⟩
  | _ :: _, _ :: _, ⟨a, r⟩ => ⟨a, r.app h⟩
/-- a claim: its holds and its goal -/
def ClV (H : Hp) (v : V) (hs : List Hd) (g : Sn) : Prop := ∃ t th sg us, v = .ref t ∧ H t = some (.tup [.ref th, sg]) ∧ H th = some (.tup us) ∧ HsV H us hs ∧ SnV H sg g
theorem ClV.ts {H H' : Hp} (e : TS H H') {v : V} {hs : List Hd} {g : Sn} (x : ClV H v hs g) : ClV H' v hs g := let ⟨t, th, sg, us, h1, h2, h3, h4, h5⟩ := x; ⟨t, th, sg, us, h1, e _ _ h2, e _ _ h3, h4.ts e, h5.ts e⟩
def SzS (s : Sn) : Prop := dep s ≤ 3 ∧ rws s ≤ 100
def SzC (hs : List Hd) (g : Sn) : Prop := (∀ h ∈ hs, SzS h.2.2) ∧ SzS g
def okH (h : Hd) : Bool := h.2.1.isNone && onc h.2.2
def oncC (hs : List Hd) (g : Sn) : Bool := hs.all okH && onc g
/-- the product of places -/
def whl (L : List (List Int)) (ps : List Int) : Int := ps.foldl (fun w p => gg L w.toNat p.toNat) 0
def fnB (L : List (List Int)) (F : FcT) (hs : List Hd) (ps : List Int) : Bool := (hs.zip ps).all fun x => trb L F x.1.2.2 x.2.toNat
def failB (L : List (List Int)) (F : FcT) (hs : List Hd) (g : Sn) (ps : List Int) : Bool := fnB L F hs ps && !trb L F g (whl L ps).toNat
theorem whl_step {L : List (List Int)} {ps : List Int} {k : Nat} {x : Int} (h : ps[k]? = some x) : whl L (ps.take (k + 1)) = gg L (whl L (ps.take k)).toNat x.toNat := by
  rw [take_snoc' h]
  unfold whl
  rw [List.foldl_append]
  rfl
theorem whl_rg {L : List (List Int)} (sq : SqP L) (h0 : 0 < L.length) : ∀ {ps : List Int}, (∀ x ∈ ps, 0 ≤ x ∧ x < L.length) → 0 ≤ whl L ps ∧ whl L ps < L.length := by
  have go : ∀ (ps : List Int) (w : Int), 0 ≤ w ∧ w < L.length → (∀ x ∈ ps, 0 ≤ x ∧ x < L.length) → 0 ≤ ps.foldl (fun w p => gg L w.toNat p.toNat) w ∧ ps.foldl (fun w p => gg L w.toNat p.toNat) w < L.length := by
    intro ps
    induction ps with
    | nil => intro w hw _; exact hw
    | cons p ps ih =>
      intro w hw hp
      have := hp p List.mem_cons_self
      exact ih _ (sq_in sq (by omega) (by omega)) fun x hx => hp x (List.mem_cons_of_mem _ hx)
  intro ps hp
  exact go ps 0 ⟨Int.le_refl _, by omega⟩ hp
theorem fnB_step {L : List (List Int)} {F : FcT} {hs : List Hd} {ps : List Int} {k : Nat} {h : Hd} {x : Int} (e1 : hs[k]? = some h) (e2 : ps[k]? = some x) : fnB L F (hs.take (k + 1)) (ps.take (k + 1)) = (fnB L F (hs.take k) (ps.take k) && trb L F h.2.2 x.toNat) := by
  rw [take_snoc' e1, take_snoc' e2]
  unfold fnB
  have l1 := (List.getElem?_eq_some_iff.mp e1).1
  have l2 := (List.getElem?_eq_some_iff.mp e2).1
  rw [List.zip_append (by rw [List.length_take, List.length_take]; omega), List.all_append]
  simp
structure Errs (K : PySem.W.Frag) (mg : Str → Option Value) (CO CH CB CP CS CG : Addr) : Prop where
  ei : Ei K mg "NotOnce" CO
  mH : mg "HeldError" = some (.ref CH)
  mB : mg "BadWorld" = some (.ref CB)
  mP : mg "NotPlain" = some (.ref CP)
  mS : mg "NotSimple" = some (.ref CS)
  mG : mg "WrongGoal" = some (.ref CG)
  ec : EcC K CO
  xO : PySem.W.exmOne K (.ref CO) (.ref CO) = some true
  kH : PySem.W.kitOne K (.ref CO) (.ref CH) = some true
  kA : PySem.W.kitAny K (.ref CO) [.ref CB, .ref CP, .ref CS, .ref CG] = some false
section
variable {P : Program} {w : World} {K : PySem.W.Frag} {mg : Str → Option Value} {base : Heap} {C CO CH CB CP CS CG : Addr}
def spReq (CO : Addr) : Sp := fun vs H Q E => ∃ v hs g, vs = [v] ∧ ClV H v hs g ∧ SzC hs g ∧ (oncC hs g = true → ∀ H', Same H H' → Q .non H') ∧ (oncC hs g = false → ∀ H', Same H H' → E (.ref CO) none H')
theorem ok_req (T : Top K mg "require_once" s_require_once) (R : Errs K mg CO CH CB CP CS CG) (FO : Fn P w K mg base 1 "is_all_once" spOnce) : FnN P w K mg base 2 "require_once" (spReq CO) := by
  refine fn_okN T sc_require_once so_require_once (fun vs H Q E h => by obtain ⟨v, hs, g, rfl, _⟩ := h; rfl) (fun _ _ _ _ _ _ us hl => match us, hl with | [_], _ => rfl) fun f cdv A outer s H vs Q E hr h nd tk => ?_
  obtain ⟨v, hs, g, rfl, ⟨t, th, sg, us, rfl, ht, hth, hus, hsg⟩, ⟨z1, z2⟩, q1, q2⟩ := h
  refine l_cons (s_tup2 (e_var ⟨t, _, _, rfl, SqT.of ht, ?_⟩))
  show wL _ _ _ [some (.ref t), some (.ref th), some sg, none, none, none] _
  refine l_cons (s_forT3 (e_var ⟨th, us, rfl, SqT.of hth, fun k σ H' => ∃ x3 x4 x5, σ = [some (.ref t), some (.ref th), some sg, x3, x4, x5] ∧ Same H H' ∧ (hs.take k).all okH = true, ⟨none, none, none, rfl, Same.refl _, by rw [List.take_zero]; rfl⟩, ?_, ?_, ?_⟩))
  · intro k σ H' _ pp
    obtain ⟨_, _, _, _, e, _⟩ := pp
    exact SqT.of (e _ _ hth)
  · intro k u σ H' hu pp
    obtain ⟨x3, x4, x5, rfl, e, ha⟩ := pp
    obtain ⟨h, hh, tu, m, sv, rfl, htu, hm, hsv⟩ := hus.get hu
    have zs := z1 h (List.mem_of_getElem? hh)
    refine ⟨tu, _, _, _, rfl, SqT.of (e _ _ htu), ?_⟩
    show wL _ _ _ [some (.ref t), some (.ref th), some sg, some (.str h.1), some m, some sv] _
    have bad : okH h = false → oncC hs g = false := fun hb => by
      unfold oncC
      rw [Bool.and_eq_false_iff]
      exact .inl (List.all_eq_false.mpr ⟨h, List.mem_of_getElem? hh, by rw [hb]; exact Bool.false_ne_true⟩)
    refine l_cons (s_if (t_w (w_or (t_cmp (e_var (e_str (o_neOnce (n := 1) (by exact hr) (hm.ts (Same.ts e)) ⟨_, rfl, ?_⟩)))))))
    cases hk : h.2.1 with
    | some uv =>
      refine ite_t rfl (ite_t rfl (l_cons (s_raise0 R.ei tk ?_)))
      exact q2 (bad (by unfold okH; rw [hk]; rfl)) H' e
    | none =>
      refine ite_f rfl (w_or1 (t_not (t_val (e_call (by exact FO) (by exact hr) (by decide) ?_))))
      refine a_cons (e_var (a_nil ⟨sv, h.2.2, rfl, hsv.ts (Same.ts e), Nat.le_trans zs.2 (by decide), fun H2 e2 => ⟨_, rfl, ?_⟩⟩))
      cases ho : onc h.2.2 with
      | false =>
        refine iteT (l_cons (s_raise0 R.ei tk ?_))
        exact q2 (bad (by unfold okH; rw [ho, Bool.and_false])) H2 (e.trans e2)
      | true =>
        refine iteF (l_nil (l_nil ⟨_, _, _, rfl, e.trans e2, ?_⟩))
        rw [take_snoc' hh, List.all_append, ha]
        simp [okH, hk, ho]
  · intro σ H' pp
    obtain ⟨x3, x4, x5, rfl, e, ha⟩ := pp
    rw [hus.len, List.take_length] at ha
    refine l_cons (s_if (t_not (t_val (e_call (by exact FO) (by exact hr) (by decide) ?_))))
    refine a_cons (e_var (a_nil ⟨sg, g, rfl, hsg.ts (Same.ts e), Nat.le_trans z2.2 (by decide), fun H2 e2 => ⟨_, rfl, ?_⟩⟩))
    cases ho : onc g with
    | false =>
      refine iteT (l_cons (s_raise0 R.ei tk ?_))
      exact q2 (by unfold oncC; rw [ho, Bool.and_false]) H2 (e.trans e2)
    | true => exact iteF (l_nil (l_nil (q1 (by unfold oncC; rw [ho, ha]; rfl) H2 (e.trans e2))))
def spWHas (C CO : Addr) : Sp := fun vs H Q E => ∃ p a d as bs L F v s, ∃ e : Nat, vs = [.ref p, .int (e : Int), v] ∧ WorldAt C H p a d as bs L F ∧ SqP L ∧ L.length ≤ 1000 ∧ SnV H v s ∧ SzS s ∧ e < L.length ∧ (onc s = true → ∀ H', Same H H' → Q (.bl (trb L F s e)) H') ∧ (onc s = false → ∀ H', Same H H' → E (.ref CO) none H')
theorem ok_whas (T : TopM K C "has" "World.has" s_World_has) (O : WOk K mg C) (R : Errs K mg CO CH CB CP CS CG) (FO : Fn P w K mg base 1 "is_all_once" spOnce) (FT : Fn P w K mg base 4 "truths" (spTruths 3)) : MtN P w K mg base 5 C "has" (spWHas C CO) := by
  obtain ⟨f, fd, G, hb, hf, hi, hk⟩ := me_okN (P := P) (w := w) (mg := mg) (base := base) (k := 4) (sp := spWHas C CO) (N := N_World_has) (D := []) (ps := P_World_has) T (by exact sc_World_has) so_World_has (fun vs H Q E h => by obtain ⟨p, a, d, as, bs, L, F, v, s, e, rfl, _⟩ := h; rfl) (fun _ _ _ _ _ _ us hl => match us, hl with | [_, _, _], _ => rfl) fun f cdv A outer s H vs Q E hr h nd tk => by
    obtain ⟨p, a, d, as, bs, L, F, v, s, e, rfl, hW, sq, zl, hv, zs, he, q1, q2⟩ := h
    show wL _ _ _ [some (.ref p), some (.int (e : Int)), some v] _
    refine l_cons (s_if (t_not (t_val (e_call (by exact FO) (by exact hr) (by decide) ?_))))
    refine a_cons (e_var (a_nil ⟨v, s, rfl, hv, Nat.le_trans zs.2 (by decide), fun H2 e2 => ⟨_, rfl, ?_⟩⟩))
    cases ho : onc s with
    | false => exact iteT (l_cons (s_raise0 R.ei tk (q2 ho H2 e2)))
    | true =>
      refine iteF (l_nil ?_)
      obtain ⟨⟨dx, hp⟩, hr0, hf0⟩ := hW.same e2
      refine l_cons (s_ret (e_ix (e_call (by exact FT) (by exact hr) (by decide) ?_)))
      refine a_cons (e_fld (e_var ⟨p, C, dx, _, _, rfl, hp, O.cl, O.nP, wfl_p _ _, ?_⟩))
      refine a_cons (e_fld (e_var ⟨p, C, dx, _, _, rfl, hp, O.cl, O.nF, wfl_f _ _, ?_⟩))
      refine a_cons (e_var (a_nil ⟨a, d, v, as, bs, L, F, s, rfl, hr0, hf0, sq, zl, hv.ts (Same.ts e2), zs.1, fun l H3 e3 n3 h3 => ?_⟩))
      exact e_var (ix_l (by exact SqL.of h3) (atI_nat (tl_at he)) (q1 ho H3 (e2.trans e3)))
  exact ⟨f, fd, _, G, ⟨hf, hi, hk⟩, hb, O.cl⟩
def spWFails (C CO : Addr) : Sp := fun vs H Q E => ∃ p a d as bs L F v hs g lp ps, vs = [.ref p, v, .ref lp] ∧ WorldAt C H p a d as bs L F ∧ SqP L ∧ 0 < L.length ∧ L.length ≤ 1000 ∧ ClV H v hs g ∧ SzC hs g ∧ H lp = some (.lst (iV ps)) ∧ ps.length = hs.length ∧ (∀ x ∈ ps, 0 ≤ x ∧ x < (L.length : Int)) ∧
  (oncC hs g = true → ∀ H', Same H H' → Q (.bl (failB L F hs g ps)) H') ∧ (oncC hs g = false → ∀ H', Same H H' → E (.ref CO) none H')
theorem ok_wfails (T : TopM K C "fails" "World.fails" s_World_fails) (O : WOk K mg C) (mZ : mg "zip" = none) (FR : FnN P w K mg base 2 "require_once" (spReq CO)) (FT : Fn P w K mg base 4 "truths" (spTruths 3)) : MtN P w K mg base 5 C "fails" (spWFails C CO) := by
  obtain ⟨f, fd, G, hb, hf, hi, hk⟩ := me_okN (P := P) (w := w) (mg := mg) (base := base) (k := 4) (sp := spWFails C CO) (N := N_World_fails) (D := []) (ps := P_World_fails) T (by exact sc_World_fails) so_World_fails (fun vs H Q E h => by obtain ⟨p, a, d, as, bs, L, F, v, hs, g, lp, ps, rfl, _⟩ := h; rfl) (fun _ _ _ _ _ _ us hl => match us, hl with | [_, _, _], _ => rfl) fun f cdv A outer s H vs Q E hr h nd tk => by
    obtain ⟨p, a, d, as, bs, L, F, v, hs, g, lp, ps, rfl, hW, sq, zl0, zl, hC, hZ, hlp, lps, rps, q1, q2⟩ := h
    show wL _ _ _ [some (.ref p), some v, some (.ref lp), none, none, none, none, none, none] _
    refine l_cons (s_expr (e_callN (by exact FR) (by exact tk) (by exact hr) (by decide) ?_))
    refine a_cons (e_var (a_nil ⟨v, hs, g, rfl, hC, hZ, fun ho H1 e1 => ?_, fun ho H1 e1 => q2 ho H1 e1⟩))
    obtain ⟨t, th, sg, us, rfl, ht, hth, hus, hsg⟩ := hC
    refine l_cons (s_tup2 (e_var ⟨t, _, _, rfl, SqT.of (e1 _ _ ht), ?_⟩))
    show wL _ _ _ [some (.ref p), some (.ref t), some (.ref lp), some (.ref th), some sg, none, none, none, none] _
    refine l_cons (s_set (e_int ?_))
    show wL _ _ _ [some (.ref p), some (.ref t), some (.ref lp), some (.ref th), some sg, some (.int 0), none, none, none] _
    have lus := hus.len
    have lmin : min us.length (iV ps).length = ps.length := by rw [List.length_map, lus, lps, Nat.min_self]
    refine l_cons (s_forZ3 .t .l (by assumption) (e_var (e_var ⟨th, lp, us, iV ps, rfl, rfl, SqT.of (e1 _ _ hth), SqL.of (e1 _ _ hlp), fun k σ H' => ∃ x6 x7 x8, σ = [some (.ref p), some (.ref t), some (.ref lp), some (.ref th), some sg, some (.int (whl L (ps.take k))), x6, x7, x8] ∧ Same H H' ∧ fnB L F (hs.take k) (ps.take k) = true, ⟨none, none, none, by rw [List.take_zero]; rfl, e1, by rw [List.take_zero]; rfl⟩, ?_, ?_, ?_⟩)))
    · intro k σ H' _ pp
      obtain ⟨_, _, _, _, e, _⟩ := pp
      exact ⟨SqT.of (e _ _ hth), SqL.of (e _ _ hlp)⟩
    · intro k u1 u2 Tz σ H' hu1 hu2 pp nT
      obtain ⟨x6, x7, x8, rfl, e, hfn⟩ := pp
      obtain ⟨h, hh, tu, m, sv, rfl, htu, hm, hsv⟩ := hus.get hu1
      rw [List.getElem?_map] at hu2
      obtain ⟨x, hx, rfl⟩ := Option.map_eq_some_iff.mp hu2
      have hx2 := rps x (List.mem_of_getElem? hx)
      have zs := hZ.1 h (List.mem_of_getElem? hh)
      have e2 : Same H (upd H' Tz (.tup [.ref tu, .int x])) := e.trans (updS (Same.refl _) nT)
      generalize upd H' Tz (.tup [.ref tu, .int x]) = H2 at e2
      refine ⟨tu, _, _, _, rfl, SqT.of (e2 _ _ htu), ?_⟩
      show wL _ _ _ [some (.ref p), some (.ref t), some (.ref lp), some (.ref th), some sg, some (.int (whl L (ps.take k))), some m, some sv, some (.int x)] _
      obtain ⟨⟨dx, hp⟩, hr0, hf0⟩ := hW.same e2
      refine l_cons (s_if (t_not (t_val (e_ix (e_call (by exact FT) (by exact hr) (by decide) ?_)))))
      refine a_cons (e_fld (e_var ⟨p, C, dx, _, _, rfl, hp, O.cl, O.nP, wfl_p _ _, ?_⟩))
      refine a_cons (e_fld (e_var ⟨p, C, dx, _, _, rfl, hp, O.cl, O.nF, wfl_f _ _, ?_⟩))
      refine a_cons (e_var (a_nil ⟨a, d, sv, as, bs, L, F, h.2.2, rfl, hr0, hf0, sq, zl, hsv.ts (Same.ts e2), zs.1, fun l H3 e3 n3 h3 => ?_⟩))
      have hfs := fnB_step (L := L) (F := F) hh hx
      rw [hfn, Bool.true_and] at hfs
      refine e_var (ix_l (by exact SqL.of h3) (at_int hx2.1 (tl_at (by omega))) ⟨_, rfl, ?_⟩)
      have e23 := e2.trans e3
      cases hb : trb L F h.2.2 x.toNat with
      | false =>
        refine iteT (l_cons (s_ret (e_bl ?_)))
        have := q1 ho H3 e23
        rw [show failB L F hs g ps = false from ?_] at this
        · exact this
        · unfold failB
          rw [Bool.and_eq_false_iff]
          left
          unfold fnB
          refine List.all_eq_false.mpr ⟨(h, x), ?_, by rw [hb]; exact Bool.false_ne_true⟩
          refine List.mem_of_getElem? (i := k) ?_
          rw [List.getElem?_zip_eq_some]
          exact ⟨hh, hx⟩
      | true =>
        rw [hb] at hfs
        refine iteF (l_nil ?_)
        have hw := whl_rg sq zl0 (ps := ps.take k) fun y hy => rps y (List.mem_of_mem_take hy)
        obtain ⟨⟨dx3, hp3⟩, hr3, hf3⟩ := hW.same e23
        obtain ⟨b, hb1, hbr⟩ := hr3.row (i := (whl L (ps.take k)).toNat) (by omega)
        refine l_cons (s_set (e_ix (e_ix (e_fld (e_var ⟨p, C, dx3, _, _, rfl, hp3, O.cl, O.nP, wfl_p _ _, e_var (ix_l (by exact SqL.of hr3.hd) (at_int hw.1 hb1) (e_var (ix_l (by exact SqL.of hbr) (at_int hx2.1 (iv_get (gg_get (by rw [sq_row sq (by omega)]; omega)))) ?_)))⟩)))))
        refine l_nil ⟨_, _, _, by rw [whl_step hx]; rfl, e23, hfs⟩
    · intro σ H' pp
      obtain ⟨x6, x7, x8, rfl, e, hfn⟩ := pp
      rw [lmin] at hfn ⊢
      rw [lps, List.take_length, ← lps, List.take_length] at hfn
      rw [List.take_length]
      have hw := whl_rg sq zl0 rps
      obtain ⟨⟨dx, hp⟩, hr0, hf0⟩ := hW.same e
      refine l_cons (s_ret (e_not (e_ix (e_call (by exact FT) (by exact hr) (by decide) ?_))))
      refine a_cons (e_fld (e_var ⟨p, C, dx, _, _, rfl, hp, O.cl, O.nP, wfl_p _ _, ?_⟩))
      refine a_cons (e_fld (e_var ⟨p, C, dx, _, _, rfl, hp, O.cl, O.nF, wfl_f _ _, ?_⟩))
      refine a_cons (e_var (a_nil ⟨a, d, sg, as, bs, L, F, g, rfl, hr0, hf0, sq, zl, hsg.ts (Same.ts e), hZ.2.1, fun l H3 e3 n3 h3 => ?_⟩))
      refine e_var (ix_l (by exact SqL.of h3) (at_int hw.1 (tl_at (by omega))) ⟨_, rfl, ?_⟩)
      have := q1 ho H3 (e.trans e3)
      unfold failB at this
      rw [hfn, Bool.true_and] at this
      exact this
  exact ⟨f, fd, _, G, ⟨hf, hi, hk⟩, hb, O.cl⟩
end



section
variable {X : Cx} {elt a : Expr} {σ : L2.St} {H : Hp} {Q : VK} {pos : Pos} {N G G' : List Str} {Vn : List (Nat × Str)} {sc scope : Scope}
/-- [elt for x in a], a tuple -/
def LcT (X : Cx) (Vn : List (Nat × Str)) (G' : List Str) (elt : Expr) (scope : Scope) (i : Nat) (ad : Addr) (xs : List L2.V) (D : Addr) (σ : L2.St) (H1 : Hp) (Qd : Hp → Prop) : Prop := ∃ Pv : Nat → Hp → Prop, Pv 0 (upd H1 D (.lst [])) ∧ (∀ k H2, k ≤ xs.length → Pv k H2 → SqT X.K H2 ad xs) ∧
  (∀ k x H2, xs[k]? = some x → Pv k H2 → ∀ s0 H0 C cl fp, InB (Bk X s0 H0 scope C cl fp) Vn G' → wE (Bk X s0 H0 scope C cl fp) elt ((wipe σ [i]).set i (some x)) H2 fun y H4 => ∃ acc, H4 D = some (.lst acc) ∧ acc.length < sizeLine ∧ Pv (k + 1) (upd H4 D (.lst (acc ++ [y])))) ∧
  ∀ H2, Pv xs.length H2 → Qd H2
theorem e_lcT {i : Nat} {x : Str} {px : Pos} (B : BkOk X.N Vn G' i x sc scope)
    (q : wE X a σ H fun v H1 => ∃ ad xs, v = .ref ad ∧ SqT X.K H1 ad xs ∧ ∀ D, H1 D = none → LcT X Vn G' elt scope i ad xs D σ H1 fun H2 => Q (.ref D) H2)
    (I : In X N G sc := by assumption) (hc : X.calm = true := by rfl) (hs2 : ∀ z, foldedSetIterable a X.env z = pure z := by intro _; rfl) :
    wE X (.ListComp elt [⟨.Name x px, a, [], 0⟩] scope pos) σ H Q := by
  refine e_of (pe_lc (own := [(x, i)]) (g := gName i) (tt := tYes) (te := wBk X Vn G' elt scope) hc I.nd (pi_tup pe) (B.ok I) (fun s H C cl fp => B.pg I s H C cl fp) (fun _ _ _ _ _ => pts_nil) (fun s H C cl fp => pe_bk (B.inB I s H C cl fp)) hs2) (e_mono q fun v H1 q1 => ?_)
  obtain ⟨ad, xs, rfl, hl, q2⟩ := q1
  refine ⟨ad, rfl, ⟨xs, hl⟩, fun D hD => ?_⟩
  obtain ⟨Pv, h0, hk, hs, hd⟩ := q2 D hD
  refine lc_tup Pv h0 hk (fun k x H hx p => ?_) hd
  refine ⟨wipe_set σ i _, ?_⟩
  unfold tYes
  refine iteT ?_
  unfold wBk
  intro s0 H0 C cl fp I
  exact hs k x H hx p s0 H0 C cl fp I
end
/-- what is told of an answer -/
def rsL : Option Bool → List V
  | some b => [.str "told", .bl b]
  | none => [.str "refused", .bl true, .bl false]
def hasR (L : List (List Int)) (F : FcT) (s : Sn) (e : Nat) : Option Bool := if onc s = true then some (trb L F s e) else none
def failR (L : List (List Int)) (F : FcT) (hs : List Hd) (g : Sn) (ps : List Int) : Option Bool := if oncC hs g = true then some (failB L F hs g ps) else none
theorem StV.get {H : Hp} : ∀ {xs : List V} {ss : List Sn} {i : Nat} {x : V}, StV H xs ss → xs[i]? = some x → ∃ s, ss[i]? = some s ∧ SnV H x s
  | [], [], i, _, _, e => by cases i <;> cases e
  | _ :: _, s :: _, 0, _, ⟨a, _⟩, e => by cases e; exact ⟨s, rfl, a⟩
  | _ :: _, _ :: _, i + 1, _, ⟨_, r⟩, e => r.get (i := i) (by simpa using e)
theorem onc_split (hs : List Hd) (g : Sn) : oncC hs g = ((hs.all fun h => h.2.1.isNone) && (hs.map (·.2.2) ++ [g]).all onc) := by
  unfold oncC
  induction hs with
  | nil => simp
  | cons h hs ih =>
    simp only [List.all_cons, List.map_cons, List.cons_append] at ih ⊢
    rw [Bool.and_assoc, ih]
    unfold okH
    cases h.2.1.isNone <;> cases onc h.2.2 <;> simp
theorem le3 : (3 : Nat) ≤ sizeLine := by decide
theorem le2 : (2 : Nat) ≤ sizeLine := by decide
section
variable {P : Program} {w : World} {K : PySem.W.Frag} {mg : Str → Option Value} {base : Heap} {C CO CH CB CP CS CG : Addr}
def spHas (C : Addr) : Sp := fun vs H Q _ => ∃ p a d as bs L F v s, ∃ e : Nat, vs = [.ref p, .int (e : Int), v] ∧ WorldAt C H p a d as bs L F ∧ SqP L ∧ L.length ≤ 1000 ∧ SnV H v s ∧ SzS s ∧ e < L.length ∧ ∀ t H', Same H H' → H' t = some (.tup (rsL (hasR L F s e))) → Q (.ref t) H'
theorem ok_has (T : Top K mg "_law_has" s_has) (mIs : mg "isinstance" = none) (R : Errs K mg CO CH CB CP CS CG) (MW : MtN P w K mg base 5 C "has" (spWHas C CO)) : Fn P w K mg base 6 "_law_has" (spHas C) := by
  refine fn_ok T sc_has so_has (fun vs H Q E h => by obtain ⟨p, a, d, as, bs, L, F, v, s, e, rfl, _⟩ := h; rfl) (fun _ _ _ _ _ _ us hl => match us, hl with | [_, _, _], _ => rfl) fun f cdv A outer s H vs Q E hr h nd => ?_
  obtain ⟨p, a, d, as, bs, L, F, v, s, e, rfl, hW, sq, zl, hv, zs, he, q⟩ := h
  refine l_cons ?_
  refine s_tryN (by exact R.ei.mgC) takesN0 fun pn xe tk nd' => ?_
  refine l_cons (s_ret (e_tup (a_cons (e_str (a_cons (e_methN (by exact MW) (by exact tk) (by exact hr) (by decide) ?_))))))
  obtain ⟨dx, hp⟩ := hW.1
  refine e_var ⟨p, dx, _, rfl, hp, wfl_no _ _ (by decide +kernel) (by decide +kernel), ?_⟩
  refine a_cons (e_var (a_cons (e_var (a_nil ⟨p, a, d, as, bs, L, F, v, s, e, rfl, hW, sq, zl, hv, zs, he, fun ho H2 e2 => ?_, fun ho H2 e2 => ?_⟩))))
  · refine a_nil ⟨le2, fun t H3 e3 n3 h3 => ?_⟩
    exact q t H3 (e2.trans e3) (by rw [hasR, if_pos ho]; exact h3)
  · refine ⟨true, R.xO, fun _ ea na => ?_, fun z => nomatch z⟩
    intro oe pn2 hz2 hf nd2 hot
    refine l_cons (s_ret (e_tup ?_))
    walk_at "sts"
    refine e_glob (v := .ref CH) (by exact R.mH) rfl ?_
    walk_at "sts"
    refine c_isE (fs := []) R.ec hz2 hf (fun d' e => by cases e) (.own _) R.kH ?_
    walk_at "sts"
    refine e_glob (v := .ref CB) (by exact R.mB) rfl ?_
    walk_at "sts"
    refine e_glob (v := .ref CP) (by exact R.mP) rfl ?_
    walk_at "sts"
    refine e_glob (v := .ref CS) (by exact R.mS) rfl ?_
    walk_at "sts"
    refine e_glob (v := .ref CG) (by exact R.mG) rfl ?_
    walk_at "sts"
    refine ⟨by show 4 ≤ sizeLine; decide, fun tp H3 e3 _ ht => ?_⟩
    walk_at "sts"
    refine c_isET (fs := []) R.ec hz2 hf (fun d' e => by cases e) ht (.cons (.own _) (.cons (.own _) (.cons (.own _) (.cons (.own _) .nil)))) R.kA ?_
    walk_at "sts"
    refine ⟨le3, fun t H4 e4 n4 h4 => ?_⟩
    exact q t H4 ((e2.trans e3).trans e4) (by rw [hasR, if_neg (by rw [ho]; exact Bool.false_ne_true)]; exact h4)
def spFails (C : Addr) : Sp := fun vs H Q _ => ∃ p a d as bs L F v hs g lp ps, vs = [.ref p, v, .ref lp] ∧ WorldAt C H p a d as bs L F ∧ SqP L ∧ 0 < L.length ∧ L.length ≤ 1000 ∧ ClV H v hs g ∧ SzC hs g ∧ H lp = some (.lst (iV ps)) ∧ ps.length = hs.length ∧ (∀ x ∈ ps, 0 ≤ x ∧ x < (L.length : Int)) ∧
  ∀ t H', Same H H' → H' t = some (.tup (rsL (failR L F hs g ps))) → Q (.ref t) H'
theorem ok_fails (T : Top K mg "_law_fails" s_fails) (mIs : mg "isinstance" = none) (mL : mg "list" = none) (R : Errs K mg CO CH CB CP CS CG) (MW : MtN P w K mg base 5 C "fails" (spWFails C CO)) : Fn P w K mg base 6 "_law_fails" (spFails C) := by
  refine fn_ok T sc_fails so_fails (fun vs H Q E h => by obtain ⟨p, a, d, as, bs, L, F, v, hs, g, lp, ps, rfl, _⟩ := h; rfl) (fun _ _ _ _ _ _ us hl => match us, hl with | [_, _, _], _ => rfl) fun f cdv A outer s H vs Q E hr h nd => ?_
  obtain ⟨p, a, d, as, bs, L, F, v, hs, g, lp, ps, rfl, hW, sq, zl0, zl, hC, hZ, hlp, lps, rps, q⟩ := h
  refine l_cons (s_set (e_callTy (x := "list") (by assumption) b_list (a_cons (e_var (a_nil (c_listL hlp fun l2 H1 e1 n1 h1 => ?_))))))
  show wL _ _ _ [some (.ref p), some v, some (.ref lp), some (.ref l2), none, none] _
  refine l_seq (fun σ H2 => ∃ t y5, σ = [some (.ref p), some v, some (.ref lp), some (.ref l2), some (.ref t), y5] ∧ Same H1 H2 ∧ H2 t = some (.tup (rsL (failR L F hs g ps)))) (fun go => ?_) fun σ H2 pp => ?_
  · refine l_cons ?_
    refine s_tryN (by exact R.ei.mgC) takesN0 fun pn xe tk nd' => ?_
    refine l_cons (s_set (e_tup (a_cons (e_str (a_cons (e_methN (by exact MW) (by exact tk) (by exact hr) (by decide) ?_))))))
    obtain ⟨dx, hp⟩ := (hW.same e1).1
    refine e_var ⟨p, dx, _, rfl, hp, wfl_no _ _ (by decide +kernel) (by decide +kernel), ?_⟩
    refine a_cons (e_var (a_cons (e_var (a_nil ⟨p, a, d, as, bs, L, F, v, hs, g, l2, ps, rfl, hW.same e1, sq, zl0, zl, hC.ts (Same.ts e1), hZ, h1, lps, rps, fun ho H2 e2 => ?_, fun ho H2 e2 => ?_⟩))))
    · refine a_nil ⟨le2, fun t H3 e3 n3 h3 => l_nil ?_⟩
      exact go _ H3 ⟨t, none, rfl, e2.trans e3, by rw [failR, if_pos ho]; exact h3⟩
    · refine ⟨true, R.xO, fun _ ea na => ?_, fun z => nomatch z⟩
      intro oe pn2 hz2 hf nd2 hot
      refine l_cons (s_set (e_tup ?_))
      walk_at "sts"
      refine e_glob (v := .ref CH) (by exact R.mH) rfl ?_
      walk_at "sts"
      refine c_isE (fs := []) R.ec hz2 hf (fun d' e => by cases e) (.own _) R.kH ?_
      walk_at "sts"
      refine e_glob (v := .ref CB) (by exact R.mB) rfl ?_
      walk_at "sts"
      refine e_glob (v := .ref CP) (by exact R.mP) rfl ?_
      walk_at "sts"
      refine e_glob (v := .ref CS) (by exact R.mS) rfl ?_
      walk_at "sts"
      refine e_glob (v := .ref CG) (by exact R.mG) rfl ?_
      walk_at "sts"
      refine ⟨by show 4 ≤ sizeLine; decide, fun tp H3 e3 _ ht => ?_⟩
      walk_at "sts"
      refine c_isET (fs := []) R.ec hz2 hf (fun d' e => by cases e) ht (.cons (.own _) (.cons (.own _) (.cons (.own _) (.cons (.own _) .nil)))) R.kA ?_
      walk_at "sts"
      refine ⟨le3, fun t H4 e4 n4 h4 => l_nil ?_⟩
      exact go _ H4 ⟨t, none, rfl, (e2.trans e3).trans e4, by rw [failR, if_neg (by rw [ho]; exact Bool.false_ne_true)]; exact h4⟩
  · obtain ⟨t, y5, rfl, e2, ht⟩ := pp
    refine l_cons (s_if (t_cmp (e_var (e_var (o_neL (n := 5) (by exact hr) (SqL.of (e2 _ _ h1)) (SqL.of (e2 _ _ (e1 _ _ hlp))) ⟨_, rfl, ?_⟩)))))
    rw [decide_eq_true rfl]
    exact iteF (l_nil (l_cons (s_ret (e_var (q t H2 (e1.trans e2) ht)))))
end



section
variable {P : Program} {w : World} {K : PySem.W.Frag} {mg : Str → Option Value} {base : Heap} {C CO CH CB CP CS CG : Addr}
theorem at2 {x y z : V} {l : List V} : atI (x :: y :: z :: l) 2 = some z := atI_nat (j := 2) rfl
def spDue : Sp := fun vs H Q _ => ∃ a d as bs L F v hs g lp ps, vs = [.ref a, .ref d, v, .ref lp] ∧ Rows H a as L ∧ Facts H d bs F ∧ SqP L ∧ 0 < L.length ∧ L.length ≤ 1000 ∧ ClV H v hs g ∧ SzC hs g ∧ hs.length ≤ 100 ∧ H lp = some (.lst (iV ps)) ∧ ps.length = hs.length ∧ (∀ x ∈ ps, 0 ≤ x ∧ x < (L.length : Int)) ∧
  ∀ t H', Same H H' → H' t = some (.tup (rsL (failR L F hs g ps))) → Q (.ref t) H'
theorem ok_due (T : Top K mg "_law_due" s_due) (mLen : mg "len" = none) (mR : mg "range" = none) (FO : Fn P w K mg base 4 "_law_once" (spLOnce 3)) (FT : Fn P w K mg base 4 "_law_true" (spTrue 3)) : Fn P w K mg base 5 "_law_due" spDue := by
  refine fn_okC T sc_due so_due (fun vs H Q E h => by obtain ⟨a, d, as, bs, L, F, v, hs, g, lp, ps, rfl, _⟩ := h; rfl) (fun _ _ _ _ _ _ us hl => match us, hl with | [_, _, _, _], _ => rfl) fun f cdv A outer s H vs Q E hr h nd => ?_
  obtain ⟨a, d, as, bs, L, F, v, hs, g, lp, ps, rfl, hr0, hf0, sq, zl0, zl, hC, hZ, hl100, hlp, lps, rps, q⟩ := h
  obtain ⟨t, th, sg, us, rfl, ht, hth, hus, hsg⟩ := hC
  have lus := hus.len
  -- the sentences
  refine l_cons (s_set (e_bin (e_lcT (by exact bk_due0) (e_ix (e_var (e_int (ix_t (by exact SqT.of ht) at0 ⟨th, us, rfl, SqT.of hth, fun D nD => ?_⟩)))))))
  refine ⟨fun k H2 => ∃ xs, H2 D = some (.lst xs) ∧ StV H2 xs ((hs.take k).map (·.2.2)) ∧ Same H H2, ⟨[], upd_same, by rw [List.take_zero]; trivial, fun c u hc => by rw [upd_ne (ne_of_none hc nD)]; exact hc⟩, fun k H2 _ p => by obtain ⟨_, _, _, e⟩ := p; exact SqT.of (e _ _ hth), ?_, ?_⟩
  · intro k x H2 hx p s0 H0 C0 cl fp IB
    obtain ⟨xs, p1, p2, p3⟩ := p
    obtain ⟨h, hh, tu, m, sv, rfl, htu, hm, hsv⟩ := hus.get hx
    have lx := p2.len
    rw [List.length_map, List.length_take] at lx
    refine e_ix (b_var (e_int (ix_t (by exact SqT.of (p3 _ _ htu)) at2 ?_)))
    have ts2 : TS H2 (upd H2 D (.lst (xs ++ [sv]))) := TS.upd p1
    refine ⟨xs, p1, by show _ < 2 ^ 24; omega, xs ++ [sv], upd_same, ?_, fun c u hc => by rw [upd_ne (ne_of_none hc nD)]; exact p3 _ _ hc⟩
    rw [take_snoc' hh, List.map_append]
    exact (p2.ts ts2).app ((hsv.ts (Same.ts p3)).ts ts2)
  intro H2 p
  obtain ⟨xs, hD2, hxs, e2⟩ := p
  rw [lus, List.take_length] at hxs
  have lx := hxs.len
  rw [List.length_map] at lx
  refine e_lst (a_cons (e_ix (e_var (e_int (ix_t (by exact SqT.of (e2 _ _ ht)) at1 (a_nil ⟨by show 1 ≤ sizeLine; decide, fun D1 H3 e3 n3 h3 => ?_⟩))))))
  refine o_cat (e3 _ _ hD2) h3 (by show _ ≤ 2 ^ 24; rw [lx]; simp only [List.length_cons, List.length_nil]; omega) fun D4 H4 e4 h4 => ?_
  have e34 := e3.trans e4
  have e04 := e2.trans e34
  have hss : StV H4 (xs ++ [sg]) (hs.map (·.2.2) ++ [g]) := (hxs.ts (Same.ts e34)).app (hsg.ts (Same.ts e04))
  show wL _ _ _ [some (.ref a), some (.ref d), some (.ref t), some (.ref lp), some (.ref D4), none, none, none, none, none] _
  have refused : ∀ H5, Same H H5 → oncC hs g = false → wL (cxOf CX0 P w K mg base (N_due ++ C_due) (Str.ofString "_law_due") (defScope s_due) f cdv A outer s H E).nox (ifA (defBody s_due) 1) { nx := fun σ' H' => wL (cxOf CX0 P w K mg base (N_due ++ C_due) (Str.ofString "_law_due") (defScope s_due) f cdv A outer s H E).nox ((defBody s_due).drop 2) { nx := fun _ H' => Q .non H', rt := Q } σ' H', rt := Q } [some (.ref a), some (.ref d), some (.ref t), some (.ref lp), some (.ref D4), none, none, none, none, none] H5 := by
    intro H5 e5 ho
    show wL _ (_ :: _) _ _ _
    refine l_cons (s_ret (e_tup (a_cons (e_str (a_cons (e_bl (a_cons (e_bl (a_nil ⟨le3, fun t H6 e6 n6 h6 => ?_⟩)))))))))
    exact q t H6 (e5.trans e6) (by rw [failR, if_neg (by rw [ho]; exact Bool.false_ne_true)]; exact h6)
  have os := onc_split hs g
  refine l_cons (s_if (t_w (w_or (t_tru (e_lcTf (by exact bk_due1) (e_ix (e_var (e_int (ix_t (by exact SqT.of (e04 _ _ ht)) at0 ⟨th, us, rfl, SqT.of (e04 _ _ hth), fun E1 nE => ?_⟩)))))))))
  refine ⟨fun k H5 => ∃ l, H5 E1 = some (.lst l) ∧ l.length ≤ k ∧ l.isEmpty = ((hs.take k).all fun h => h.2.1.isNone) ∧ Same H4 H5, ⟨[], upd_same, Nat.le_refl _, by rw [List.take_zero]; rfl, fun c u hc => by rw [upd_ne (ne_of_none hc nE)]; exact hc⟩, fun k H5 _ p => by obtain ⟨_, _, _, _, e⟩ := p; exact SqT.of ((e04.trans e) _ _ hth), ?_, ?_⟩
  · intro k x H5 hx p s0 H0 C0 cl fp IB
    obtain ⟨l, p1, p2, p3, p4⟩ := p
    obtain ⟨h, hh, tu, m, sv, rfl, htu, hm, hsv⟩ := hus.get hx
    have hkl := (List.getElem?_eq_some_iff.mp hh).1
    have e5 := e04.trans p4
    refine t_cmp (e_ix (b_var (e_int (ix_t (by exact SqT.of (e5 _ _ htu)) at1 (e_str (o_neOnce (n := 4) (by exact hr) (hm.ts (Same.ts e5)) ⟨_, rfl, ?_⟩))))))
    have hst : ((hs.take (k + 1)).all fun h => h.2.1.isNone) = (((hs.take k).all fun h => h.2.1.isNone) && h.2.1.isNone) := by rw [take_snoc' hh, List.all_append]; simp
    cases hk : h.2.1.isNone with
    | true =>
      rw [hk, Bool.and_true] at hst
      exact iteF ⟨l, p1, by omega, by rw [hst]; exact p3, p4⟩
    | false =>
      rw [hk, Bool.and_false] at hst
      refine iteT fun s0 H0 C0 cl fp IB => b_var ⟨l, p1, by show _ < 2 ^ 24; omega, _, upd_same, by rw [List.length_append]; exact Nat.succ_le_succ p2, by rw [hst]; simp, fun c u hc => by rw [upd_ne (ne_of_none hc nE)]; exact p4 _ _ hc⟩
  intro H5 p
  obtain ⟨l, hE5, _, hemp, e5⟩ := p
  rw [lus, List.take_length] at hemp
  refine ⟨_, tru_l hE5, ?_⟩
  rw [hemp]
  have e05 := e04.trans e5
  cases hA : (hs.all fun h => h.2.1.isNone) with
  | false =>
    rw [hA, Bool.false_and] at os
    exact iteT (iteT (refused H5 e05 os))
  | true =>
  rw [hA, Bool.true_and] at os
  refine iteF (w_or1 (t_tru (e_lcLf (by exact bk_due2) (e_var ⟨D4, _, rfl, SqL.of (e5 _ _ h4), fun E2 nE2 => ?_⟩))))
  refine ⟨fun k H6 => ∃ l, H6 E2 = some (.lst l) ∧ l.length ≤ k ∧ l.isEmpty = (((hs.map (·.2.2) ++ [g]).take k).all onc) ∧ Same H5 H6, ⟨[], upd_same, Nat.le_refl _, by rw [List.take_zero]; rfl, fun c u hc => by rw [upd_ne (ne_of_none hc nE2)]; exact hc⟩, fun k H6 _ p => by obtain ⟨_, _, _, _, e⟩ := p; exact SqL.of ((e5.trans e) _ _ h4), ?_, ?_⟩
  · intro k x H6 hx p s0 H0 C0 cl fp IB
    obtain ⟨l, p1, p2, p3, p4⟩ := p
    obtain ⟨s1, hs1, hsv⟩ := hss.get hx
    have hkl := (List.getElem?_eq_some_iff.mp hs1).1
    rw [List.length_append, List.length_map, List.length_singleton] at hkl
    have zs : dep s1 ≤ 3 := by
      rcases List.mem_append.mp (List.mem_of_getElem? hs1) with hm | hm
      · obtain ⟨h, hh, rfl⟩ := List.mem_map.mp hm
        exact (hZ.1 h hh).1
      · rw [List.mem_singleton.mp hm]; exact hZ.2.1
    refine t_not (t_val (b_call (by exact FO) (by exact hr) (by decide) (a_cons (b_var (a_nil ?_)))))
    refine ⟨x, s1, rfl, hsv.ts (Same.ts (e5.trans p4)), zs, fun H7 e7 => ⟨_, rfl, ?_⟩⟩
    have hst : ((hs.map (·.2.2) ++ [g]).take (k + 1)).all onc = (((hs.map (·.2.2) ++ [g]).take k).all onc && onc s1) := by rw [take_snoc' hs1, List.all_append]; simp
    have p4' := p4.trans e7
    cases hk : onc s1 with
    | true =>
      rw [hk, Bool.and_true] at hst
      exact iteF ⟨l, e7 _ _ p1, by omega, by rw [hst]; exact p3, p4'⟩
    | false =>
      rw [hk, Bool.and_false] at hst
      refine iteT fun s0 H0 C0 cl fp IB => b_var ⟨l, e7 _ _ p1, by show _ < 2 ^ 24; omega, _, upd_same, by rw [List.length_append]; exact Nat.succ_le_succ p2, by rw [hst]; simp, fun c u hc => by rw [upd_ne (ne_of_none hc nE2)]; exact p4' _ _ hc⟩
  intro H6 p
  obtain ⟨l2, hE6, _, hemp2, e6⟩ := p
  rw [hss.len, List.take_length] at hemp2
  refine ⟨_, tru_l hE6, ?_⟩
  rw [hemp2, ← os]
  have e06 := e05.trans e6
  cases hO : oncC hs g with
  | false => exact iteT (refused H6 e06 hO)
  | true =>
  refine iteF (l_nil ?_)
  show wL _ _ _ [some (.ref a), some (.ref d), some (.ref t), some (.ref lp), some (.ref D4), none, none, none, none, none] _
  refine l_cons (s_set (e_int ?_))
  refine l_cons (s_set (e_bl ?_))
  show wL _ _ _ [some (.ref a), some (.ref d), some (.ref t), some (.ref lp), some (.ref D4), some (.int 0), some (.bl true), none, none, none] _
  refine l_cons (s_forR (by assumption) (e_callB (x := "len") (by assumption) b_len (a_cons (e_var (a_nil (c_lenL (by exact SqL.of (e06 _ _ hlp)) ?_))))))
  rw [List.length_map]
  refine ⟨ps.length, rfl, by omega, fun k σ H' => ∃ x7, σ = [some (.ref a), some (.ref d), some (.ref t), some (.ref lp), some (.ref D4), some (.int (whl L (ps.take k))), some (.bl (fnB L F (hs.take k) (ps.take k))), x7, none, none] ∧ Same H H', ⟨none, by rw [List.take_zero, List.take_zero]; rfl, e06⟩, ?_, ?_⟩
  · intro k σ H' hk pp
    obtain ⟨x7, rfl, e⟩ := pp
    obtain ⟨x, hx⟩ : ∃ x, ps[k]? = some x := ⟨_, List.getElem?_eq_getElem hk⟩
    obtain ⟨h, hh⟩ : ∃ h, hs[k]? = some h := ⟨_, List.getElem?_eq_getElem (by omega)⟩
    obtain ⟨u, hu, tu, m, sv, rfl, htu, hm, hsv⟩ := hus.get' hh
    have hx2 := rps x (List.mem_of_getElem? hx)
    have zs := hZ.1 h (List.mem_of_getElem? hh)
    have hw := whl_rg sq zl0 (ps := ps.take k) fun y hy => rps y (List.mem_of_mem_take hy)
    have hfs := fnB_step (L := L) (F := F) hh hx
    have hxi : (iV ps)[k]? = some (.int x) := iv_get hx
    show wL _ _ _ [some (.ref a), some (.ref d), some (.ref t), some (.ref lp), some (.ref D4), some (.int (whl L (ps.take k))), some (.bl (fnB L F (hs.take k) (ps.take k))), some (.int (k : Int)), none, none] _
    refine l_seq (fun σ H2 => σ = [some (.ref a), some (.ref d), some (.ref t), some (.ref lp), some (.ref D4), some (.int (whl L (ps.take k))), some (.bl (fnB L F (hs.take (k + 1)) (ps.take (k + 1)))), some (.int (k : Int)), none, none] ∧ Same H H2) (fun go => ?_) fun σ H2 pp => ?_
    · refine l_cons (s_if (t_not (t_val (e_ix (e_call (by exact FT) (by exact hr) (by decide) ?_)))))
      refine a_cons (e_var (a_cons (e_var (a_cons (e_ix (e_ix (e_ix (e_var (e_int (ix_t (by exact SqT.of (e _ _ ht)) at0 (e_var (ix_t (by exact SqT.of (e _ _ hth)) (atI_nat hu) (e_int (ix_t (by exact SqT.of (e _ _ htu)) at2 (a_nil ?_)))))))))))))))
      refine ⟨a, d, sv, as, bs, L, F, h.2.2, rfl, hr0.same e, hf0.same e, sq, zl, hsv.ts (Same.ts e), zs.1, fun l H3 e3 n3 h3 => ?_⟩
      have e3' := e.trans e3
      refine e_ix (e_var (e_var (ix_l (by exact SqL.of (e3' _ _ hlp)) (atI_nat hxi) (ix_l (by exact SqL.of h3) (at_int hx2.1 (tl_at (by omega))) ⟨_, rfl, ?_⟩))))
      cases hb : trb L F h.2.2 x.toNat with
      | false =>
        rw [hb, Bool.and_false] at hfs
        refine iteT (l_cons (s_set (e_bl (l_nil ?_))))
        exact go _ H3 ⟨by rw [hfs]; rfl, e3'⟩
      | true =>
        rw [hb, Bool.and_true] at hfs
        exact iteF (l_nil (go _ H3 ⟨by rw [hfs], e3'⟩))
    · obtain ⟨rfl, e2'⟩ := pp
      have hr2 := hr0.same e2'
      obtain ⟨b, hb1, hbr⟩ := hr2.row (i := (whl L (ps.take k)).toNat) (by omega)
      refine l_cons (s_set (e_ix (e_ix (e_var (e_var (ix_l (by exact SqL.of hr2.hd) (at_int hw.1 hb1) (e_ix (e_var (e_var (ix_l (by exact SqL.of (e2' _ _ hlp)) (atI_nat hxi) (ix_l (by exact SqL.of hbr) (at_int hx2.1 (iv_get (gg_get (by rw [sq_row sq (by omega)]; omega)))) ?_)))))))))))
      exact l_nil ⟨_, (by rw [whl_step hx]; rfl), e2'⟩
  · intro σ H' pp
    obtain ⟨x7, rfl, e⟩ := pp
    rw [List.take_length, lps, List.take_length]
    have hw := whl_rg sq zl0 rps
    have told : ∀ b H3, Same H H3 → b = failB L F hs g ps → ∀ t H4, Same H3 H4 → H4 t = some (.tup [.str "told", .bl b]) → Q (.ref t) H4 := fun b H3 e3 hb t H4 e4 h4 => q t H4 (e3.trans e4) (by rw [failR, if_pos hO, ← hb]; exact h4)
    refine l_cons (s_ret (e_tup (a_cons (e_str (a_cons (e_and (e_var ⟨_, rfl, ?_⟩)))))))
    cases hfn : fnB L F hs ps with
    | false => exact iteF (a_nil ⟨le2, fun t H4 e4 n4 h4 => told false H' e (by unfold failB; rw [hfn]; rfl) t H4 e4 h4⟩)
    | true =>
      refine iteT (e_one (e_not (e_ix (e_call (by exact FT) (by exact hr) (by decide) ?_))))
      refine a_cons (e_var (a_cons (e_var (a_cons (e_ix (e_var (e_int (ix_t (by exact SqT.of (e _ _ ht)) at1 (a_nil ?_)))))))))
      refine ⟨a, d, sg, as, bs, L, F, g, rfl, hr0.same e, hf0.same e, sq, zl, hsg.ts (Same.ts e), hZ.2.1, fun l H3 e3 n3 h3 => ?_⟩
      refine e_var (ix_l (by exact SqL.of h3) (at_int hw.1 (tl_at (by omega))) ⟨_, rfl, a_nil ⟨le2, fun t H4 e4 n4 h4 => told _ H3 (e.trans e3) (by unfold failB; rw [hfn]; rfl) t H4 e4 h4⟩⟩)
end



section
variable {a p wd tk : Addr} {ws ts : List Str} {fm : Str}
theorem StAt.aw {H : Hp} (h : StAt H fm a p wd tk ws ts) : wd ≠ a := fun e => by
  obtain ⟨kvs, h1, _⟩ := h.d
  rw [← e, h.wl] at h1
  cases h1
/-- a new list of taken names -/
theorem StAt.retake {H H1 : Hp} {tk' : Addr} (h : StAt H fm a p wd tk ws ts) (e1 : Same H H1) (n : H tk' = none) (h1 : H1 tk' = some (.lst [])) : ∃ kvs, H1 a = some (.dK kvs) ∧ kvs.length ≤ 20 ∧ StAt (upd H1 a (.dK (putK kvs (Sum.inr "taken") (.ref tk')))) fm a p wd tk' ws [] := by
  obtain ⟨kvs, k1, k2, k3, k4, k5, k6⟩ := h.d
  have nta : tk' ≠ a := fun e => by subst e; rw [k1] at n; cases n
  have ntp : tk' ≠ p := h.pl.ne n
  have ntw : wd ≠ tk' := fun e => by subst e; rw [h.wl] at n; cases n
  refine ⟨kvs, e1 _ _ k1, k6, ⟨⟨_, upd_same, ?_, ?_, ?_, ?_, ?_⟩, ?_, by rw [upd_ne h.aw]; exact e1 _ _ h.wl, by rw [upd_ne nta]; exact h1, h.wp, ntp, ntw, h.w0, h.w4, h.ok⟩⟩
  · rw [valV_put, if_neg (by decide +kernel)]; exact k2
  · rw [valV_put, if_neg (by decide +kernel)]; exact k3
  · rw [valV_put, if_neg (by decide +kernel)]; exact k4
  · rw [valV_put, if_pos rfl]
  · unfold putK
    rw [if_pos (by rw [valV_any, k5]; rfl), List.length_map]
    exact k6
  · obtain ⟨x, y, z, e⟩ := h.pl
    exact ⟨x, y, z, by rw [upd_ne (Ne.symm h.ap)]; exact e1 _ _ e⟩
/-- other words -/
theorem StAt.reword {H H1 : Hp} {nd : Addr} {us : List Str} (h : StAt H fm a p wd tk ws ts) (b : But p H H1) (p1 : PoolAt H1 p) (n : H nd = none) (h1 : H1 nd = some (.lst (sVs us))) (hl : us.length = ws.length) (ho : ∀ z ∈ us, OkW z) : ∃ kvs, H1 a = some (.dK kvs) ∧ kvs.length ≤ 20 ∧ StAt (upd H1 a (.dK (putK kvs (Sum.inr "words") (.ref nd)))) fm a p nd tk us ts := by
  obtain ⟨kvs, k1, k2, k3, k4, k5, k6⟩ := h.d
  have nta : nd ≠ a := fun e => by subst e; rw [k1] at n; cases n
  have ntp : nd ≠ p := h.pl.ne n
  have ntw : nd ≠ tk := fun e => by subst e; rw [h.tl] at n; cases n
  refine ⟨kvs, b _ _ h.ap k1, k6, ⟨⟨_, upd_same, ?_, ?_, ?_, ?_, ?_⟩, ?_, by rw [upd_ne nta]; exact h1, by rw [upd_ne (Ne.symm h.at')]; exact b _ _ h.tp h.tl, ntp, h.tp, ntw, by rw [hl]; exact h.w0, by rw [hl]; exact h.w4, ho⟩⟩
  · rw [valV_put, if_neg (by decide +kernel)]; exact k2
  · rw [valV_put, if_neg (by decide +kernel)]; exact k3
  · rw [valV_put, if_pos rfl]
  · rw [valV_put, if_neg (by decide +kernel)]; exact k5
  · unfold putK
    rw [if_pos (by rw [valV_any, k4]; rfl), List.length_map]
    exact k6
  · obtain ⟨x, y, z, e⟩ := p1
    exact ⟨x, y, z, by rw [upd_ne (Ne.symm h.ap)]; exact e⟩
end
/-- a claim with places of its holds -/
def PairV (L : List (List Int)) (H : Hp) (u : V) (lp : Addr) : Prop := ∃ t v hs g ps, u = .ref t ∧ H t = some (.tup [v, .ref lp]) ∧ ClV H v hs g ∧ SzC hs g ∧ hs.length ≤ 5 ∧ H lp = some (.lst (iV ps)) ∧ ps.length = hs.length ∧ ∀ x ∈ ps, 0 ≤ x ∧ x < (L.length : Int)
theorem PairV.ts {L : List (List Int)} {H H' : Hp} {u : V} {lp : Addr} (e : TS H H') (k : ∀ o, H lp = some o → H' lp = some o) (h : PairV L H u lp) : PairV L H' u lp := let ⟨t, v, hs, g, ps, h1, h2, h3, h4, h5, h6, h7, h8⟩ := h; ⟨t, v, hs, g, ps, h1, e _ _ h2, h3.ts e, h4, h5, k _ h6, h7, h8⟩
theorem iv_snoc (r : List Int) (x : Int) : iV (r ++ [x]) = iV r ++ [.int x] := by simp [iV]
theorem updT {a t : Addr} {H : Hp} {l : List V} {o : HO} (h : H a = some (.lst l)) {xs : List V} (ht : H t = some (.tup xs)) : upd H a o t = some (.tup xs) := by
  rw [upd_ne (ne_of ht h (by intro z; cases z))]; exact ht
section
variable {P : Program} {w : World} {K : PySem.W.Frag} {mg : Str → Option Value} {base : Heap} {C CO CH CB CP CS CG : Addr}
theorem szs_of {d : Nat} {s : Sn} (hd : d ≤ 3) (h1 : dep s ≤ d) (h2 : rws s < 2 ^ (d + 1)) : SzS s := ⟨Nat.le_trans h1 hd, by have : (2 : Nat) ^ (d + 1) ≤ 2 ^ 4 := Nat.pow_le_pow_right (by decide) (by omega); omega⟩
def spClaim : Sp := fun vs H Q _ => ∃ fm a p wd tk ws ts r rs d ds L F, vs = [.ref a, .ref r, .ref d] ∧ StAt H fm a p wd tk ws ts ∧ (fm = "m" ∨ fm = "ms") ∧ Rows H r rs L ∧ Facts H d ds F ∧ SqP L ∧ 0 < L.length ∧ L.length < 32 ∧ (∀ b ∈ r :: rs, b ≠ p ∧ b ≠ a) ∧ (∀ b ∈ d :: ds, b ≠ p ∧ b ≠ a) ∧
  ∀ u lp tk' ts' H', Bu p a H H' → StAt H' fm a p wd tk' ws ts' → PairV L H' u lp → H lp = none → H tk' = none → Q u H'
theorem ok_claim (T : Top K mg "_law_claim" s_claim) (mLen : mg "len" = none) (mR : mg "range" = none) (mTup : mg "tuple" = none) (FN : Fn P w K mg base 1 "_law_next" spNext) (FS : Fn P w K mg base 5 "_law_sentence" (spSent 3)) (FT : Fn P w K mg base 4 "_law_true" (spTrue 3)) (FM : Fn P w K mg base 2 "_law_name" spName) : Fn P w K mg base 6 "_law_claim" spClaim := by
  refine fn_okC T sc_claim so_claim (fun vs H Q E h => by obtain ⟨fm, a, p, wd, tk, ws, ts, r, rs, d, ds, L, F, rfl, _⟩ := h; rfl) (fun _ _ _ _ _ _ us hl => match us, hl with | [_, _, _], _ => rfl) fun f cdv A outer s H vs Q E hr h nd => ?_
  obtain ⟨fm, a, p, wd, tk, ws, ts, r, rs, d, ds, L, F, rfl, hs0, hfm, hR, hF, sq, zl0, zl, apR, apF, q⟩ := h
  obtain ⟨kvs0, k1, k2, k3, k4, k5, k6⟩ := id hs0.d
  refine l_cons (s_set (e_ix (e_var (e_str (ix_d (by exact hr) ⟨a, .ref p, rfl, dg_k k1 k2, ?_⟩)))))
  refine l_cons (s_dput (hu_of hr) (e_lst (a_nil ⟨by show 0 ≤ sizeLine; decide, fun tk' H1 e1 n1 h1 => ?_⟩)))
  obtain ⟨kvs, k1', k6', hs2⟩ := hs0.retake e1 n1 h1
  refine e_var (e_str ⟨a, _, rfl, DPut.k (k := Sum.inr "taken") k1' (by show _ < 2 ^ 24; omega), ?_⟩)
  have nap := hs0.ap
  have b2 : Bu p a H (upd H1 a (.dK (putK kvs (Sum.inr "taken") (.ref tk')))) := fun c u c1 c2 hc => by rw [upd_ne c2]; exact e1 _ _ hc
  have al2 : ∀ c, (upd H1 a (.dK (putK kvs (Sum.inr "taken") (.ref tk')))) c = none → H c = none := fun c hc => by
    by_cases e : c = a
    · subst e; rw [upd_same] at hc; cases hc
    · rw [upd_ne e] at hc; exact none_of e1 hc
  generalize upd H1 a (.dK (putK kvs (Sum.inr "taken") (.ref tk'))) = H2 at hs2 b2 al2
  show wL _ _ _ [some (.ref a), some (.ref r), some (.ref d), some (.ref p), none, none, none, none, none, none, none, none, none] _
  refine l_cons (s_set (e_lst (a_nil ⟨by show 0 ≤ sizeLine; decide, fun hl H3 e3 n3 h3 => ?_⟩)))
  refine l_cons (s_set (e_lst (a_nil ⟨by show 0 ≤ sizeLine; decide, fun pl H4 e4 n4 h4 => ?_⟩)))
  show wL _ _ _ [some (.ref a), some (.ref r), some (.ref d), some (.ref p), some (.ref hl), some (.ref pl), none, none, none, none, none, none, none] _
  have e34 := e3.trans e4
  have n4' : H2 pl = none := none_of e3 n4
  have nhp : hl ≠ p := hs2.pl.ne n3
  have npp : pl ≠ p := hs2.pl.ne n4'
  obtain ⟨kv2, d2, _⟩ := id hs2.d
  have nha : hl ≠ a := fun e => by subst e; rw [d2] at n3; cases n3
  have npa : pl ≠ a := fun e => by subst e; rw [d2] at n4'; cases n4'
  have nhk : hl ≠ tk' := fun e => by subst e; rw [hs2.tl] at n3; cases n3
  have npk : pl ≠ tk' := fun e => by subst e; rw [hs2.tl] at n4'; cases n4'
  have nhpl : hl ≠ pl := fun e => by subst e; rw [h3] at n4; cases n4
  have nhw : wd ≠ hl := fun e => by subst e; rw [hs2.wl] at n3; cases n3
  have npw : wd ≠ pl := fun e => by subst e; rw [hs2.wl] at n4'; cases n4'
  have fh : H hl = none := al2 _ n3
  have fp : H pl = none := al2 _ n4'
  have fk : H tk' = none := n1
  have hs4 : StAt H4 fm a p wd tk' ws [] := hs2.but (But.of e34) (hs2.pl.up e34)
  have stay : ∀ {Hx Hy : Hp} {u : List Str}, StAt Hx fm a p wd tk' ws u → (∀ c ∈ [a, p, wd, tk'], Hy c = Hx c) → StAt Hy fm a p wd tk' ws u := fun {Hx Hy u} s k =>
    ⟨let ⟨kv, x1, x2⟩ := s.d; ⟨kv, by rw [k a (by simp)]; exact x1, x2⟩, let ⟨x, y, z, e⟩ := s.pl; ⟨x, y, z, by rw [k p (by simp)]; exact e⟩, by rw [k wd (by simp)]; exact s.wl, by rw [k tk' (by simp)]; exact s.tl, s.wp, s.tp, s.wt, s.w0, s.w4, s.ok⟩
  refine l_cons (s_forR (by assumption) (e_call (by exact FN) (by exact hr) (by decide) ?_))
  refine a_cons (e_var (a_cons (e_int (a_nil ⟨p, 6, rfl, by decide, by decide, hs4.pl, fun m H5 m0 m1 b5 p5 => ?_⟩))))
  obtain ⟨m, rfl⟩ := Int.eq_ofNat_of_zero_le m0
  refine ⟨m, rfl, by omega, fun k σ H' => ∃ x6 x7 x8 x9 x10 x11 us hs ps ts', σ = [some (.ref a), some (.ref r), some (.ref d), some (.ref p), some (.ref hl), some (.ref pl), x6, x7, x8, x9, x10, x11, none] ∧ StAt H' fm a p wd tk' ws ts' ∧ ts'.length = k ∧ H' hl = some (.lst us) ∧ HsV H' us hs ∧ (∀ h ∈ hs, SzS h.2.2) ∧ hs.length = k ∧ H' pl = some (.lst (iV ps)) ∧ ps.length = k ∧ (∀ x ∈ ps, 0 ≤ x ∧ x < (L.length : Int)) ∧ Bu p a H H', ?_, ?_, ?_⟩
  · refine ⟨none, none, none, none, none, none, [], [], [], [], rfl, hs4.but b5 p5, rfl, b5 _ _ nhp (e4 _ _ h3), trivial, by simp, rfl, b5 _ _ npp h4, rfl, by simp, fun c u c1 c2 hc => b5 _ _ c1 (e34 _ _ (b2 c u c1 c2 hc))⟩
  · intro k σ H' hk pp
    obtain ⟨x6, x7, x8, x9, x10, x11, us, hs, ps, ts', rfl, hst, lts, hhl, hus, zus, lhs, hpl, lps, rps, bu⟩ := pp
    have hR' : Rows H' r rs L := hR.keep fun b hb o z => bu b o (apR b hb).1 (apR b hb).2 z
    have hF' : Facts H' d ds F := hF.keep fun b hb o z => bu b o (apF b hb).1 (apF b hb).2 z
    obtain ⟨kvs1, l1, l2, l3, l4, l5, l6⟩ := id hst.d
    have lus := hus.len
    show wL _ _ _ [some (.ref a), some (.ref r), some (.ref d), some (.ref p), some (.ref hl), some (.ref pl), some (.int (k : Int)), x7, x8, x9, x10, x11, none] _
    refine l_cons (s_set (e_str ?_))
    show wL _ _ _ [some (.ref a), some (.ref r), some (.ref d), some (.ref p), some (.ref hl), some (.ref pl), some (.int (k : Int)), some (.str "once"), x8, x9, x10, x11, none] _
    -- the kind
    refine l_seq (fun σ H6 => ∃ md kk, σ = [some (.ref a), some (.ref r), some (.ref d), some (.ref p), some (.ref hl), some (.ref pl), some (.int (k : Int)), some md, x8, x9, x10, x11, none] ∧ ModeV H6 md kk ∧ But p H' H6 ∧ PoolAt H6 p) (fun go => ?_) fun σ H6 pp => ?_
    · refine l_cons (s_if (t_w (w_and (t_cmp (e_str (e_ix (e_var (e_str (ix_d (by exact hr) ⟨a, _, rfl, dg_k l1 l3, ?_⟩)))))))))
      rw [sg_s]
      refine o_inS ?_
      cases hb : decide (115 ∈ fm.cps.toList) with
      | false => exact ⟨_, rfl, iteF (iteF (l_nil (go _ H' ⟨_, none, rfl, rfl, .refl, hst.pl⟩)))⟩
      | true =>
      refine ⟨_, rfl, iteT (w_and1 (t_cmp (e_call (by exact FN) (by exact hr) (by decide) ?_)))⟩
      refine a_cons (e_var (a_cons (e_int (a_nil ⟨p, 6, rfl, by decide, by decide, hst.pl, fun d1 H6 _ _ b6 p6 => e_int (o_eqI ⟨_, rfl, ?_⟩)⟩))))
      refine if2 (fun _ => ?_) (fun _ => l_nil (go _ H6 ⟨_, none, rfl, rfl, b6, p6⟩))
      refine l_cons (s_set (e_tup (a_cons (e_bin (e_int (e_call (by exact FN) (by exact hr) (by decide) ?_))))))
      refine a_cons (e_var (a_cons (e_int (a_nil ⟨p, 3, rfl, by decide, by decide, p6, fun d2 H7 _ _ b7 p7 => o_add (a_cons (e_call (by exact FN) (by exact hr) (by decide) ?_))⟩))))
      refine a_cons (e_var (a_cons (e_int (a_nil ⟨p, 2, rfl, by decide, by decide, p7, fun d3 H8 _ _ b8 p8 => a_nil ⟨le2, fun tm H9 e9 n9 h9 => l_nil ?_⟩⟩))))
      exact go _ H9 ⟨_, some (1 + d2, d3), rfl, ⟨tm, rfl, h9⟩, ((b6.trans b7).trans b8).trans (But.of e9), p8.up e9⟩
    obtain ⟨md, kk, rfl, hmd, b6, p6⟩ := pp
    have hs6 := hst.but b6 p6
    -- the sentence
    refine l_cons (s_set (e_call (by exact FS) (by exact hr) (by decide) ?_))
    refine a_cons (e_var (a_cons (e_call (by exact FN) (by exact hr) (by decide) ?_)))
    refine a_cons (e_var (a_cons (e_int (a_nil ⟨p, 4, rfl, by decide, by decide, p6, fun dd H7 q0 q1 b7 p7 => a_nil ?_⟩))))
    obtain ⟨dd, rfl⟩ := Int.eq_ofNat_of_zero_le q0
    have hs7 := hs6.but b7 p7
    refine ⟨fm, a, p, wd, tk', ws, ts', dd, rfl, hs7, hfm, by omega, fun sv s H8 b8 p8 hsv dps rws' => ?_⟩
    have zs := szs_of (by omega) dps rws'
    have hs8 := hs7.but b8 p8
    have b68 := (b6.trans b7).trans b8
    have ts78 : TS H6 H8 := (p6.ts b7).trans (p7.ts b8)
    replace hmd := hmd.ts ts78
    have hR8 : Rows H8 r rs L := hR'.keep fun b hb o z => b68 b o (apR b hb).1 z
    have hF8 : Facts H8 d ds F := hF'.keep fun b hb o z => b68 b o (apF b hb).1 z
    show wL _ _ _ [some (.ref a), some (.ref r), some (.ref d), some (.ref p), some (.ref hl), some (.ref pl), some (.int (k : Int)), some md, some sv, x9, x10, x11, none] _
    refine l_cons (s_set (e_call (by exact FT) (by exact hr) (by decide) ?_))
    refine a_cons (e_var (a_cons (e_var (a_cons (e_var (a_nil ?_))))))
    refine ⟨r, d, sv, rs, ds, L, F, s, rfl, hR8, hF8, sq, by omega, hsv, zs.1, fun tl' H9 e9 n9 h9 => ?_⟩
    show wL _ _ _ [some (.ref a), some (.ref r), some (.ref d), some (.ref p), some (.ref hl), some (.ref pl), some (.int (k : Int)), some md, some sv, some (.ref tl'), x10, x11, none] _
    have hs9 := hs8.but (But.of e9) (p8.up e9)
    refine l_cons (s_lcRf (by exact bk_claim0) (by assumption) (e_callB (x := "len") (by assumption) b_len (a_cons (e_var (a_nil (c_lenL (by exact SqL.of (e9 _ _ hR8.hd)) ?_))))))
    rw [List.length_map, hR8.rs.len]
    refine ⟨L.length, rfl, by omega, fun D nD => ?_⟩
    refine ⟨fun k H4 => H4 D = some (.lst (nV (prs L F s k))) ∧ Same H9 H4, ⟨by rw [prs0]; exact upd_same, fun c u hc => by rw [upd_ne (ne_of_none hc nD)]; exact hc⟩, ?_, ?_⟩
    · intro k H4 hk p s0 H0 C0 cl fp IB
      obtain ⟨p1, p2⟩ := p
      refine t_val (e_ix (b_var (b_var (ix_l (SqL.of (p2 _ _ h9)) (atI_nat (tl_at hk)) ⟨_, rfl, ?_⟩))))
      have hps := prs_step (L := L) (F := F) (s := s) (k := k)
      cases h1 : trb L F s k with
      | false =>
        rw [h1] at hps
        exact iteF ⟨by rw [hps]; exact p1, p2⟩
      | true =>
        rw [h1] at hps
        refine iteT fun s0 H0 C0 cl fp IB => b_var ⟨_, p1, by have := prs_len L F s k; rw [List.length_map]; show _ < 2 ^ 24; omega, ?_, fun c u hc => by rw [upd_ne (ne_of_none hc nD)]; exact p2 _ _ hc⟩
        rw [hps]
        show _ = some (HO.lst (nV (prs L F s k ++ [k])))
        rw [show nV (prs L F s k ++ [k]) = nV (prs L F s k) ++ [.int (k : Int)] from by simp [nV]]
        exact upd_same
    intro H10 pp
    obtain ⟨hD, e10⟩ := pp
    show wL _ _ _ [some (.ref a), some (.ref r), some (.ref d), some (.ref p), some (.ref hl), some (.ref pl), some (.int (k : Int)), some md, some sv, some (.ref tl'), some (.ref D), x11, none] _
    have e810 := e9.trans e10
    have hs10 := hs8.but (But.of e810) (p8.up e810)
    have nDp : D ≠ p := hs9.pl.ne nD
    refine l_cons (s_set (e_call (by exact FN) (by exact hr) (by decide) ?_))
    refine a_cons (e_var (a_cons (e_callB (x := "len") (by assumption) b_len (a_cons (e_var (a_nil (c_lenL (by exact SqL.of (e810 _ _ hR8.hd)) ?_)))))))
    rw [List.length_map, hR8.rs.len]
    refine a_nil ⟨p, (L.length : Int), rfl, by omega, by omega, hs10.pl, fun x H11 x0 x1 b11 p11 => ?_⟩
    have hD11 := b11 _ _ nDp hD
    show wL _ _ _ [some (.ref a), some (.ref r), some (.ref d), some (.ref p), some (.ref hl), some (.ref pl), some (.int (k : Int)), some md, some sv, some (.ref tl'), some (.ref D), some (.int x), none] _
    refine l_seq (fun σ H12 => ∃ x : Int, σ = [some (.ref a), some (.ref r), some (.ref d), some (.ref p), some (.ref hl), some (.ref pl), some (.int (k : Int)), some md, some sv, some (.ref tl'), some (.ref D), some (.int x), none] ∧ 0 ≤ x ∧ x < (L.length : Int) ∧ But p H11 H12 ∧ PoolAt H12 p) (fun go => ?_) fun σ H12 pp => ?_
    · refine l_cons (s_if (t_w (w_and (t_tru (e_var ⟨_, tru_l hD11, ?_⟩)))))
      have lpr := prs_len L F s L.length
      cases hne : (nV (prs L F s L.length)).isEmpty with
      | true => exact iteF (iteF (l_nil (go _ H11 ⟨x, rfl, x0, x1, .refl, p11⟩)))
      | false =>
      have lp0 : 0 < (prs L F s L.length).length := by
        cases hz : prs L F s L.length with
        | nil => rw [hz] at hne; cases hne
        | cons _ _ => exact Nat.succ_pos _
      refine iteT (w_and1 (t_cmp (e_call (by exact FN) (by exact hr) (by decide) ?_)))
      refine a_cons (e_var (a_cons (e_int (a_nil ⟨p, 4, rfl, by decide, by decide, p11, fun d1 H12 _ _ b12 p12 => e_int (o_gt ⟨_, rfl, ?_⟩)⟩))))
      refine if2 (fun _ => ?_) (fun _ => l_nil (go _ H12 ⟨x, rfl, x0, x1, b12, p12⟩))
      have hD12 := b12 _ _ nDp hD11
      refine l_cons (s_set (e_ix (e_var (e_call (by exact FN) (by exact hr) (by decide) ?_))))
      refine a_cons (e_var (a_cons (e_callB (x := "len") (by assumption) b_len (a_cons (e_var (a_nil (c_lenL (by exact SqL.of hD12) ?_)))))))
      rw [List.length_map]
      refine a_nil ⟨p, _, rfl, by omega, by omega, p12, fun y H13 y0 y1 b13 p13 => ?_⟩
      obtain ⟨j, rfl⟩ := Int.eq_ofNat_of_zero_le y0
      have hj : j < (prs L F s L.length).length := by omega
      have hv : (nV (prs L F s L.length))[j]? = some (.int (((prs L F s L.length)[j] : Nat) : Int)) := by rw [List.getElem?_map, List.getElem?_eq_getElem hj]; rfl
      have hlt := prs_lt (List.getElem_mem hj)
      refine ix_l (by exact SqL.of (b13 _ _ nDp hD12)) (atI_nat hv) (l_nil ?_)
      exact go _ H13 ⟨_, rfl, by omega, by omega, b12.trans b13, p13⟩
    clear x x0 x1
    obtain ⟨x, rfl, x0, x1, b12, p12⟩ := pp
    have b612 : But p H' H12 := ((b68.trans (But.of e810)).trans b11).trans b12
    have hs12 : StAt H12 fm a p wd tk' ws ts' := hst.but b612 p12
    have ts812 : TS H8 H12 := ((Same.ts e810).trans (hs10.pl.ts b11)).trans (p11.ts b12)
    have ts12 : TS H' H12 := hst.pl.ts b612
    have hhl12 := b612 _ _ nhp hhl
    have hpl12 := b612 _ _ npp hpl
    obtain ⟨kvs2, m1, m2, m3, m4, m5, m6⟩ := id hs12.d
    refine l_cons (s_expr (e_app (e_var ⟨hl, us, rfl, SqL.of hhl12, e_tup (a_cons (e_call (by exact FM) (by exact hr) (by decide) ?_))⟩)))
    refine a_cons (e_var (a_cons (e_ix (e_var (e_str (ix_d (by exact hr) ⟨a, .ref tk', rfl, dg_k m1 m5, a_nil ?_⟩))))))
    refine ⟨p, tk', ts', rfl, p12, hs12.tp, hs12.tl, by omega, fun z H13 b13 p13 t13 => ?_⟩
    have ts13 : TS H12 H13 := fun t xs ht => b13 t _ (fun e => by subst e; obtain ⟨_, _, _, e⟩ := p12; rw [ht] at e; cases e) (fun e => by subst e; rw [hs12.tl] at ht; cases ht) ht
    have hs13 := hs12.bu b13 p13 t13
    refine a_cons (e_var (a_cons (e_var (a_nil ⟨le3, fun tt H14 e14 n14 h14 => ?_⟩))))
    have hhl14 := e14 _ _ (b13 _ _ nhp nhk hhl12)
    have hpl14 := e14 _ _ (b13 _ _ npp npk hpl12)
    refine ⟨us, hhl14, by show _ < 2 ^ 24; omega, ?_⟩
    have ts14 : TS H' (upd H14 hl (.lst (us ++ [.ref tt]))) := ((ts12.trans ts13).trans (Same.ts e14)).trans (TS.upd hhl14)
    have hdv : HdV (upd H14 hl (.lst (us ++ [.ref tt]))) (.ref tt) (z, kk, s) := ⟨tt, md, sv, rfl, updT hhl14 h14, hmd.ts (((ts812.trans ts13).trans (Same.ts e14)).trans (TS.upd hhl14)), hsv.ts (((ts812.trans ts13).trans (Same.ts e14)).trans (TS.upd hhl14))⟩
    have hpl15 : (upd H14 hl (.lst (us ++ [.ref tt]))) pl = some (.lst (iV ps)) := by rw [upd_ne (Ne.symm nhpl)]; exact hpl14
    have hs14 := hs13.but (But.of e14) (p13.up e14)
    have hs15 : StAt (upd H14 hl (.lst (us ++ [.ref tt]))) fm a p wd tk' ws (ts' ++ [z]) := stay hs14 fun c hc => by
      rw [upd_ne]
      simp only [List.mem_cons, List.not_mem_nil, or_false] at hc
      rcases hc with rfl | rfl | rfl | rfl
      · exact Ne.symm nha
      · exact Ne.symm nhp
      · exact nhw
      · exact Ne.symm nhk
    have hh15 : (upd H14 hl (.lst (us ++ [.ref tt]))) hl = some (.lst (us ++ [.ref tt])) := upd_same
    have bu15 : Bu p a H (upd H14 hl (.lst (us ++ [.ref tt]))) := fun c u c1 c2 hc => by
      rw [upd_ne (ne_of_none hc fh)]
      exact e14 _ _ (b13 c u c1 (ne_of_none hc fk) (b612 _ _ c1 (bu c u c1 c2 hc)))
    generalize upd H14 hl (.lst (us ++ [.ref tt])) = H15 at ts14 hdv hpl15 hs15 hh15 bu15
    refine l_cons (s_expr (e_app (e_var ⟨pl, _, rfl, SqL.of hpl15, e_var ⟨_, hpl15, by rw [List.length_map]; show _ < 2 ^ 24; omega, l_nil ?_⟩⟩)))
    have ts16 : TS H15 (upd H15 pl (.lst (iV ps ++ [.int x]))) := TS.upd hpl15
    refine ⟨_, _, _, _, _, _, us ++ [.ref tt], hs ++ [(z, kk, s)], ps ++ [x], ts' ++ [z], rfl, stay hs15 fun c hc => ?_, by rw [List.length_append, lts]; rfl, by rw [upd_ne nhpl]; exact hh15, ((hus.ts ts14).ts ts16).app (hdv.ts ts16), fun h hh => ?_, by rw [List.length_append, lhs]; rfl, by rw [upd_same, iv_snoc], by rw [List.length_append, lps]; rfl, fun y hy => ?_, fun c u c1 c2 hc => by rw [upd_ne (ne_of_none hc fp)]; exact bu15 c u c1 c2 hc⟩
    · rw [upd_ne]
      simp only [List.mem_cons, List.not_mem_nil, or_false] at hc
      rcases hc with rfl | rfl | rfl | rfl
      · exact Ne.symm npa
      · exact Ne.symm npp
      · exact npw
      · exact Ne.symm npk
    · rcases List.mem_append.mp hh with hh | hh
      · exact zus h hh
      · rw [List.mem_singleton.mp hh]; exact zs
    · rcases List.mem_append.mp hy with hy | hy
      · exact rps y hy
      · rw [List.mem_singleton.mp hy]; exact ⟨x0, x1⟩
  · intro σ H' pp
    obtain ⟨x6, x7, x8, x9, x10, x11, us, hs, ps, ts', rfl, hst, lts, hhl, hus, zus, lhs, hpl, lps, rps, bu⟩ := pp
    refine l_cons (s_ret (e_tup (a_cons (e_tup (a_cons (e_callTy (x := "tuple") (by assumption) b_tuple (a_cons (e_var (a_nil (c_tupL (by exact SqL.of hhl) fun th H6 e6 n6 h6 => ?_))))))))))
    have hs6 := hst.but (But.of e6) (hst.pl.up e6)
    refine a_cons (e_call (by exact FS) (by exact hr) (by decide) ?_)
    refine a_cons (e_var (a_cons (e_call (by exact FN) (by exact hr) (by decide) ?_)))
    refine a_cons (e_var (a_cons (e_int (a_nil ⟨p, 4, rfl, by decide, by decide, hs6.pl, fun dd H7 q0 q1 b7 p7 => a_nil ?_⟩))))
    obtain ⟨dd, rfl⟩ := Int.eq_ofNat_of_zero_le q0
    have hs7 := hs6.but b7 p7
    refine ⟨fm, a, p, wd, tk', ws, ts', dd, rfl, hs7, hfm, by omega, fun sv s H8 b8 p8 hsv dps rws' => ?_⟩
    have zs := szs_of (by omega) dps rws'
    refine a_nil ⟨le2, fun tc H9 e9 n9 h9 => a_cons (e_var (a_nil ⟨le2, fun tr H10 e10 n10 h10 => ?_⟩))⟩
    have e910 := e9.trans e10
    have b68 := b7.trans b8
    have ts68 : TS H6 H8 := (hs6.pl.ts b7).trans (p7.ts b8)
    refine q (.ref tr) pl tk' ts' H10 (fun c u c1 c2 hc => e910 _ _ (b68 _ _ c1 (e6 _ _ (bu c u c1 c2 hc)))) ((hs7.but b8 p8).but (But.of e910) (p8.up e910)) ⟨tr, .ref tc, hs, s, ps, rfl, h10, ⟨tc, th, sv, us, rfl, e10 _ _ h9, (Same.ts e910) _ _ (ts68 _ _ h6), hus.ts (((Same.ts e6).trans ts68).trans (Same.ts e910)), hsv.ts (Same.ts e910)⟩, ⟨zus, zs⟩, by omega, e910 _ _ (b68 _ _ npp (e6 _ _ hpl)), by omega, rps⟩ fp fk
end



theorem b_dictT : bootBuiltins "dict" = some (.type "dict") := by decide +kernel
section
theorem made_same {C x dx : Addr} {H H' : Hp} (nx : H x = none) (nd : H dx = none) (bt : But x (upd (upd H dx (.own x)) x (.ins C dx [])) H') : Same H H' := fun y o h => bt y o (ne_of_none h nx) (by rw [upd_ne (ne_of_none h nx), upd_ne (ne_of_none h nd)]; exact h)
theorem made_up {C x dx : Addr} {H : Hp} (nx : H x = none) (nd : H dx = none) : Same H (upd (upd H dx (.own x)) x (.ins C dx [])) := fun y o h => by rw [upd_ne (ne_of_none h nx), upd_ne (ne_of_none h nd)]; exact h
theorem same_but {H H1 H2 : Hp} {p : Addr} (e : Same H H1) (n : H p = none) (b : But p H1 H2) : Same H H2 := fun c u hc => b c u (ne_of_none hc n) (e c u hc)
variable {P : Program} {w : World} {K : PySem.W.Frag} {mg : Str → Option Value} {base : Heap} {C CO CB : Addr}
/-- a case of the law -/
def CaseV (C : Addr) (H : Hp) (u : V) : Prop := ∃ t pw r d sl cl wa wd was wbs rs ds L F xs ss us, u = .ref t ∧ H t = some (.tup [.ref pw, .ref r, .ref d, .ref sl, .ref cl]) ∧ WorldAt C H pw wa wd was wbs L F ∧ Rows H r rs L ∧ Facts H d ds F ∧ SqP L ∧ 0 < L.length ∧ L.length < 32 ∧
  H sl = some (.lst xs) ∧ StV H xs ss ∧ ss.length = 3 ∧ (∀ s ∈ ss, SzS s) ∧ H cl = some (.lst us) ∧ us.length = 3 ∧ ∀ u ∈ us, ∃ lp, PairV L H u lp
theorem CaseV.same {H H' : Hp} {u : V} (h : CaseV C H u) (e : Same H H') : CaseV C H' u := by
  obtain ⟨t, pw, r, d, sl, cl, wa, wd, was, wbs, rs, ds, L, F, xs, ss, us, h1, h2, h3, h4, h5, h6, h7, h8, h9, h10, h11, h12, h13, h14, h15⟩ := h
  exact ⟨t, pw, r, d, sl, cl, wa, wd, was, wbs, rs, ds, L, F, xs, ss, us, h1, e _ _ h2, h3.same e, h4.same e, h5.same e, h6, h7, h8, e _ _ h9, h10.ts (Same.ts e), h11, h12, e _ _ h13, h14, fun u hu => let ⟨lp, hl⟩ := h15 u hu; ⟨lp, hl.ts (Same.ts e) fun o ho => e _ _ ho⟩⟩
abbrev fms : List Str := ["m", "m", "ms"]
def spCase (K : PySem.W.Frag) (C : Addr) : Sp := fun vs H Q _ => ∃ (sc : Addr) (ns : List Int) (k : Nat), vs = [.ref sc, .int (k : Int)] ∧ SqL K H sc (ns.map V.int) ∧ ∀ u H', Same H H' → CaseV C H' u → Q u H'
theorem ok_case (T : Top K mg "_law_case" s_case) (mLen : mg "len" = none) (mR : mg "range" = none) (mL : mg "list" = none) (mD : mg "dict" = none) (FPo : Fn P w K mg base 2 "_law_pool" (spPool K)) (FN : Fn P w K mg base 1 "_law_next" spNext) (FSt : Fn P w K mg base 2 "_law_state" spState) (FNe : Fn P w K mg base 2 "_law_near" spNear) (FTb : Fn P w K mg base 3 "_law_table" spTable) (FFc : Fn P w K mg base 2 "_law_facts" spFcts)
    (FS : Fn P w K mg base 5 "_law_sentence" (spSent 3)) (FC : Fn P w K mg base 6 "_law_claim" spClaim) (KW : KlN P w K mg base 3 "World" C (spWInit C CB)) : Fn P w K mg base 7 "_law_case" (spCase K C) := by
  refine fn_okC T sc_case so_case (fun vs H Q E h => by obtain ⟨sc, ns, k, rfl, _⟩ := h; rfl) (fun _ _ _ _ _ _ us hl => match us, hl with | [_, _], _ => rfl) fun f cdv A outer s H vs Q E hr h nd => ?_
  obtain ⟨sc, ns, k, rfl, hS, q⟩ := h
  refine l_cons (s_set (e_call (by exact FPo) (by exact hr) (by decide) ?_))
  refine a_cons (e_var (a_cons (e_var (a_nil ⟨sc, ns, k, rfl, hS, fun p H1 e1 np p1 => ?_⟩))))
  show wL _ _ _ [some (.ref sc), some (.int (k : Int)), some (.ref p), none, none, none, none, none, none, none, none] _
  refine l_cons (s_set (e_call (by exact FSt) (by exact hr) (by decide) ?_))
  refine a_cons (e_var (a_cons (e_ix (e_lst (a_cons (e_str (a_cons (e_str (a_cons (e_str (a_nil ⟨le3, fun l H2 e2 n2 h2 => e_call (by exact FN) (by exact hr) (by decide) ?_⟩)))))))))))
  have e12 := e1.trans e2
  have nlp : l ≠ p := p1.ne n2
  refine a_cons (e_var (a_cons (e_int (a_nil ⟨p, 3, rfl, by decide, by decide, p1.up e2, fun d0 H3 d00 d01 b3 p3 => ?_⟩))))
  obtain ⟨fm, hfm0, hat⟩ := sVs_at (ns := fms) d00 d01
  have hfm : fm = "m" ∨ fm = "ms" := by
    simp only [List.mem_cons, List.not_mem_nil, or_false] at hfm0
    rcases hfm0 with h | h | h
    · exact .inl h
    · exact .inl h
    · exact .inr h
  have hl3 : H3 l = some (.lst (sVs fms)) := b3 _ _ nlp h2
  refine ix_l (by exact SqL.of hl3) hat ?_
  have e13 := same_but e12 np b3
  refine a_cons (e_int (a_nil ⟨p, 1, fm, rfl, p3, by decide, by decide, fun a wd tk ws H4 b4 hs4 na3 => ?_⟩))
  have e14 := same_but e13 np b4
  have na : H a = none := none_of e13 na3
  show wL _ _ _ [some (.ref sc), some (.int (k : Int)), some (.ref p), some (.ref a), none, none, none, none, none, none, none] _
  obtain ⟨kvs0, k1, k2, k3, k4, k5, k6⟩ := id hs4.d
  refine l_cons (s_dput (hu_of hr) (e_call (by exact FNe) (by exact hr) (by decide) ?_))
  refine a_cons (e_var (a_cons (e_ix (e_var (e_str (ix_d (by exact hr) ⟨a, .ref wd, rfl, dg_k k1 k4, a_nil ?_⟩))))))
  refine ⟨p, wd, ws, rfl, hs4.pl, hs4.wl, hs4.wp, hs4.w0, hs4.w4, hs4.ok, fun nd us H5 b5 p5 nn5 h5 l5 ok5 => ?_⟩
  obtain ⟨kvs, k1', k6', hs6⟩ := hs4.reword b5 p5 nn5 h5 l5 ok5
  refine e_var (e_str ⟨a, _, rfl, DPut.k (k := Sum.inr "words") k1' (by show _ < 2 ^ 24; omega), ?_⟩)
  have e16 : Same H (upd H5 a (.dK (putK kvs (Sum.inr "words") (.ref nd)))) := updS (same_but e14 np b5) na
  generalize upd H5 a (.dK (putK kvs (Sum.inr "words") (.ref nd))) = H6 at hs6 e16
  clear k1 k2 k3 k4 k5 k6 k1' k6'
  refine l_cons (s_set (e_call (by exact FTb) (by exact hr) (by decide) ?_))
  refine a_cons (e_var (a_cons (e_int (a_nil ⟨p, rfl, hs6.pl, fun r rs L n H7 hD hRw n0 n32 t1 t2 t3 t4 => ?_⟩))))
  obtain ⟨b7, p7, fr, hR7⟩ := hD
  have hs7 := hs6.but b7 p7
  have e17 := same_but e16 np b7
  have sq := sq_of t1
  have lL : L.length = n := hRw.1
  obtain ⟨kv6, d6, _⟩ := id hs6.d
  have apR : ∀ b ∈ r :: rs, b ≠ p ∧ b ≠ a := fun b hb => ⟨fun e => (by subst e; obtain ⟨_, _, _, h⟩ := hs6.pl; rw [fr _ hb] at h; cases h), fun e => (by subst e; rw [fr _ hb] at d6; cases d6)⟩
  show wL _ _ _ [some (.ref sc), some (.int (k : Int)), some (.ref p), some (.ref a), some (.ref r), none, none, none, none, none, none] _
  obtain ⟨kvs0, k1, k2, k3, k4, k5, k6⟩ := id hs7.d
  refine l_cons (s_set (e_call (by exact FFc) (by exact hr) (by decide) ?_))
  refine a_cons (e_var (a_cons (e_ix (e_var (e_str (ix_d (by exact hr) ⟨a, .ref nd, rfl, dg_k k1 k4, ?_⟩))))))
  refine a_cons (e_callB (x := "len") (by assumption) b_len (a_cons (e_var (a_nil (c_lenL (by exact SqL.of hR7.hd) ?_)))))
  rw [List.length_map, hR7.rs.len]
  refine a_cons (e_int (a_nil ⟨p, nd, us, L.length, rfl, hs7.pl, hs7.wl, hs7.wp, hs7.w4, by omega, by omega, fun d ds F H8 b8 p8 fd hF8 lF zF => ?_⟩))
  have hs8 := hs7.but b8 p8
  have e18 := same_but e17 np b8
  have hR8 : Rows H8 r rs L := hR7.keep fun b hb o z => b8 b o (apR b hb).1 z
  have apF : ∀ b ∈ d :: ds, b ≠ p ∧ b ≠ a := fun b hb => ⟨fun e => (by subst e; obtain ⟨_, _, _, h⟩ := hs7.pl; rw [fd _ hb] at h; cases h), fun e => (by subst e; rw [fd _ hb] at k1; cases k1)⟩
  clear k1 k2 k3 k4 k5 k6
  show wL _ _ _ [some (.ref sc), some (.int (k : Int)), some (.ref p), some (.ref a), some (.ref r), some (.ref d), none, none, none, none, none] _
  -- the sentences
  refine l_cons (s_lcR (by exact bk_case0) (by assumption) (e_int ⟨3, rfl, by decide, fun D nD => ?_⟩))
  have nDp : D ≠ p := hs8.pl.ne nD
  obtain ⟨kv8, d8, _⟩ := id hs8.d
  have nDa : D ≠ a := fun e => by subst e; rw [d8] at nD; cases nD
  have nDw : nd ≠ D := fun e => by subst e; rw [hs8.wl] at nD; cases nD
  have nDt : tk ≠ D := fun e => by subst e; rw [hs8.tl] at nD; cases nD
  have stay : ∀ {D : Addr} {Hx : Hp} {o : HO} {tk : Addr} {u : List Str}, D ≠ p → D ≠ a → nd ≠ D → tk ≠ D → StAt Hx fm a p nd tk us u → StAt (upd Hx D o) fm a p nd tk us u := fun {D Hx o tk u} g1 g2 g3 g4 s =>
    ⟨let ⟨kv, x1, x2⟩ := s.d; ⟨kv, by rw [upd_ne (Ne.symm g2)]; exact x1, x2⟩, let ⟨x, y, z, e⟩ := s.pl; ⟨x, y, z, by rw [upd_ne (Ne.symm g1)]; exact e⟩, by rw [upd_ne g3]; exact s.wl, by rw [upd_ne g4]; exact s.tl, s.wp, s.tp, s.wt, s.w0, s.w4, s.ok⟩
  refine ⟨fun j H9 => ∃ xs ss, H9 D = some (.lst xs) ∧ StV H9 xs ss ∧ ss.length = j ∧ (∀ s ∈ ss, SzS s) ∧ StAt H9 fm a p nd tk us [] ∧ But2 p D H8 H9, ⟨[], [], upd_same, trivial, rfl, by simp, stay nDp nDa nDw nDt hs8, fun c u _ c2 hc => by rw [upd_ne c2]; exact hc⟩, ?_, ?_⟩
  · intro j H9 hj pp s0 H0 C0 cl fp IB
    obtain ⟨xs, ss, r1, r2, r3, r4, r5, r6⟩ := pp
    refine b_call (by exact FS) (by exact hr) (by decide) (a_cons (b_var (a_cons (b_call (by exact FN) (by exact hr) (by decide) ?_))))
    refine a_cons (b_var (a_cons (e_int (a_nil ⟨p, 4, rfl, by decide, by decide, r5.pl, fun dd H10 q0 q1 b10 p10 => a_nil ?_⟩))))
    obtain ⟨dd, rfl⟩ := Int.eq_ofNat_of_zero_le q0
    have r5' := r5.but b10 p10
    refine ⟨fm, a, p, nd, tk, us, [], dd, rfl, r5', hfm, by omega, fun sv s H11 b11 p11 hsv dps rws' => ?_⟩
    have zs := szs_of (by omega) dps rws'
    have b911 := b10.trans b11
    have lx := r2.len
    have ts1 : TS H9 H11 := r5.pl.ts b911
    have hD11 := b911 _ _ nDp r1
    have ts2 : TS H11 (upd H11 D (.lst (xs ++ [sv]))) := TS.upd hD11
    refine ⟨xs, hD11, by show _ < 2 ^ 24; omega, xs ++ [sv], ss ++ [s], upd_same, ((r2.ts ts1).ts ts2).app (hsv.ts ts2), by rw [List.length_append, r3]; rfl, fun y hy => ?_, stay nDp nDa nDw nDt (r5'.but b11 p11), fun c u c1 c2 hc => by rw [upd_ne c2]; exact b911 _ _ c1 (r6 c u c1 c2 hc)⟩
    rcases List.mem_append.mp hy with hy | hy
    · exact r4 y hy
    · rw [List.mem_singleton.mp hy]; exact zs
  intro H9 pp
  obtain ⟨xs, ss, hD9, hss, lss, zss, hs9, b9⟩ := pp
  have e19 : Same H H9 := fun c u hc => b9 c u (ne_of_none hc np) (fun e => by subst e; rw [e18 _ _ hc] at nD; cases nD) (e18 _ _ hc)
  have fDr : ∀ b ∈ r :: rs, b ≠ D := fun b hb e => by
    subst e
    rcases List.mem_cons.mp hb with e | hb
    · rw [e, hR8.hd] at nD; cases nD
    · obtain ⟨x, hx⟩ := hR8.rs.vl hb; rw [hx] at nD; cases nD
  have fDf : ∀ b ∈ d :: ds, b ≠ D := fun b hb e => by
    subst e
    rcases List.mem_cons.mp hb with e | hb
    · rw [e, hF8.hd] at nD; cases nD
    · obtain ⟨x, hx⟩ := hF8.rs.vl hb; rw [hx] at nD; cases nD
  have hR9 : Rows H9 r rs L := hR8.keep fun b hb o z => b9 b o (apR b hb).1 (fDr b hb) z
  have hF9 : Facts H9 d ds F := hF8.keep fun b hb o z => b9 b o (apF b hb).1 (fDf b hb) z
  show wL _ _ _ [some (.ref sc), some (.int (k : Int)), some (.ref p), some (.ref a), some (.ref r), some (.ref d), some (.ref D), none, none, none, none] _
  -- the claims
  refine l_cons (s_lcR (by exact bk_case1) (by assumption) (e_int ⟨3, rfl, by decide, fun D2 nD2 => ?_⟩))
  have nEp : D2 ≠ p := hs9.pl.ne nD2
  obtain ⟨kv9, d9, _⟩ := id hs9.d
  have nEa : D2 ≠ a := fun e => by subst e; rw [d9] at nD2; cases nD2
  have nEw : nd ≠ D2 := fun e => by subst e; rw [hs9.wl] at nD2; cases nD2
  have nEt : tk ≠ D2 := fun e => by subst e; rw [hs9.tl] at nD2; cases nD2
  refine ⟨fun j H10 => ∃ vs tk' ts', H10 D2 = some (.lst vs) ∧ vs.length = j ∧ (∀ u ∈ vs, ∃ lp, PairV L H10 u lp ∧ lp ≠ p ∧ lp ≠ a ∧ lp ≠ D2) ∧ StAt H10 fm a p nd tk' us ts' ∧ tk' ≠ D2 ∧ ∀ c u, c ≠ p → c ≠ a → c ≠ D2 → H9 c = some u → H10 c = some u, ⟨[], tk, [], upd_same, rfl, by simp, stay nEp nEa nEw nEt hs9, nEt, fun c u _ _ c2 hc => by rw [upd_ne c2]; exact hc⟩, ?_, ?_⟩
  · intro j H10 hj pp s0 H0 C0 cl fp IB
    obtain ⟨vs, tk', ts', r1, r2, r3, r4, r5, r6⟩ := pp
    have kR : Rows H10 r rs L := hR9.keep fun b hb o z => r6 b o (apR b hb).1 (apR b hb).2 (fun e => by subst e; rcases List.mem_cons.mp hb with e | hb; (rw [e, hR9.hd] at nD2; cases nD2); (obtain ⟨x, hx⟩ := hR9.rs.vl hb; rw [hx] at nD2; cases nD2)) z
    have kF : Facts H10 d ds F := hF9.keep fun b hb o z => r6 b o (apF b hb).1 (apF b hb).2 (fun e => by subst e; rcases List.mem_cons.mp hb with e | hb; (rw [e, hF9.hd] at nD2; cases nD2); (obtain ⟨x, hx⟩ := hF9.rs.vl hb; rw [hx] at nD2; cases nD2)) z
    refine b_call (by exact FC) (by exact hr) (by decide) (a_cons (b_var (a_cons (b_var (a_cons (b_var (a_nil ?_)))))))
    refine ⟨fm, a, p, nd, tk', us, ts', r, rs, d, ds, L, F, rfl, r4, hfm, kR, kF, sq, by omega, by omega, apR, apF, fun u lp tk2 ts2 H11 b11 hs11 hP nlp' ntk' => ?_⟩
    have hD11 := b11 _ _ nEp nEa r1
    obtain ⟨kv10, d10, _⟩ := id r4.d
    obtain ⟨px, py, pz, hp10⟩ := id r4.pl
    have a1 : lp ≠ p := fun e => by subst e; rw [hp10] at nlp'; cases nlp'
    have a2 : lp ≠ a := fun e => by subst e; rw [d10] at nlp'; cases nlp'
    have a3 : lp ≠ D2 := fun e => by subst e; rw [r1] at nlp'; cases nlp'
    have ts1 : TS H10 H11 := fun t xs ht => b11 t _ (fun e => by subst e; rw [hp10] at ht; cases ht) (fun e => by subst e; rw [d10] at ht; cases ht) ht
    have ts3 : TS H11 (upd H11 D2 (.lst (vs ++ [u]))) := TS.upd hD11
    have nt2 : tk2 ≠ D2 := fun e => by
      subst e
      rw [r1] at ntk'; cases ntk'
    refine ⟨vs, hD11, by show _ < 2 ^ 24; omega, vs ++ [u], tk2, ts2, upd_same, by rw [List.length_append, r2]; rfl, fun y hy => ?_, stay nEp nEa nEw nt2 hs11, nt2, fun c u c1 c2 c3 hc => by rw [upd_ne c3]; exact b11 c u c1 c2 (r6 c u c1 c2 c3 hc)⟩
    rcases List.mem_append.mp hy with hy | hy
    · obtain ⟨lp', g1, g2, g3, g4⟩ := r3 y hy
      exact ⟨lp', (g1.ts ts1 fun o ho => b11 _ _ g2 g3 ho).ts ts3 fun o ho => by rw [upd_ne g4]; exact ho, g2, g3, g4⟩
    · rw [List.mem_singleton.mp hy]
      exact ⟨lp, hP.ts ts3 fun o ho => by rw [upd_ne a3]; exact ho, a1, a2, a3⟩
  intro H10 pp
  obtain ⟨vs, tk', ts', hE10, lvs, hvs, hs10, _, k10⟩ := pp
  have nDE : D ≠ D2 := fun e => by subst e; rw [hD9] at nD2; cases nD2
  have e110 : Same H H10 := fun c u hc => k10 c u (ne_of_none hc np) (ne_of_none hc na) (fun e => by subst e; rw [e19 _ _ hc] at nD2; cases nD2) (e19 _ _ hc)
  have hR10 : Rows H10 r rs L := hR9.keep fun b hb o z => k10 b o (apR b hb).1 (apR b hb).2 (fun e => by subst e; rcases List.mem_cons.mp hb with e | hb; (rw [e, hR9.hd] at nD2; cases nD2); (obtain ⟨x, hx⟩ := hR9.rs.vl hb; rw [hx] at nD2; cases nD2)) z
  have hF10 : Facts H10 d ds F := hF9.keep fun b hb o z => k10 b o (apF b hb).1 (apF b hb).2 (fun e => by subst e; rcases List.mem_cons.mp hb with e | hb; (rw [e, hF9.hd] at nD2; cases nD2); (obtain ⟨x, hx⟩ := hF9.rs.vl hb; rw [hx] at nD2; cases nD2)) z
  have hD10 : H10 D = some (.lst xs) := k10 _ _ nDp nDa nDE hD9
  have hss10 : StV H10 xs ss := hss.ts fun t xs ht => k10 t _ (fun e => by subst e; obtain ⟨_, _, _, h⟩ := hs9.pl; rw [ht] at h; cases h) (fun e => by subst e; rw [d9] at ht; cases ht) (fun e => by subst e; rw [ht] at nD2; cases nD2) ht
  show wL _ _ _ [some (.ref sc), some (.int (k : Int)), some (.ref p), some (.ref a), some (.ref r), some (.ref d), some (.ref D), some (.ref D2), none, none, none] _
  refine l_cons (s_set (e_makeN (by exact KW) takesN0 (by exact hr) (by decide) ?_))
  refine a_cons (e_lcL (by exact bk_case2) (e_var ⟨r, _, rfl, SqL.of hR10.hd, fun D3 nD3 => ?_⟩))
  refine ⟨fun j H11 => ∃ cs, H11 D3 = some (.lst (cs.map V.ref)) ∧ RsV H11 cs (L.take j) ∧ (D3 :: cs).Nodup ∧ Same H10 H11, ⟨[], upd_same, by rw [List.take_zero]; exact rfl, by simp, fun c u hc => by rw [upd_ne (ne_of_none hc nD3)]; exact hc⟩, fun j H11 _ p => by obtain ⟨_, _, _, _, e⟩ := p; exact SqL.of (e _ _ hR10.hd), ?_, ?_⟩
  · intro j x H11 hx pp s0 H0 C0 cl fp IB
    obtain ⟨cs, p1, p2, p3, p5⟩ := pp
    rw [List.getElem?_map] at hx
    obtain ⟨b, hb, rfl⟩ := Option.map_eq_some_iff.mp hx
    obtain ⟨rr, hr1, hrb⟩ := hR10.rs.get hb
    have hk := (List.getElem?_eq_some_iff.mp hr1).1
    have lcs := p2.len
    rw [List.length_take] at lcs
    refine b_callTy (x := "list") (by assumption) b_list (a_cons (b_var (a_nil (c_listL (p5 _ _ hrb) fun c H12 e3 n3 h3 => ?_))))
    have ncD : c ≠ D3 := fun z => by subst z; rw [p1] at n3; cases n3
    have nm : c ∉ cs := fun m => by obtain ⟨r, hr⟩ := p2.vl m; rw [hr] at n3; cases n3
    refine ⟨cs.map V.ref, e3 _ _ p1, by rw [List.length_map]; show _ < 2 ^ 24; omega, cs ++ [c], by rw [List.map_append]; exact upd_same, ?_, nd_snoc (l := D3 :: cs) p3 (fun m => by
      rcases List.mem_cons.mp m with m | m
      · exact ncD m
      · exact nm m), fun x u hx => by rw [upd_ne (ne_of_none hx nD3)]; exact e3 _ _ (p5 _ _ hx)⟩
    rw [take_snoc' hr1]
    refine RsV.snoc (by rw [upd_ne ncD]; exact h3) (p2.keep fun b hb o z => ?_)
    rw [upd_ne (fun z2 => by subst z2; exact (List.nodup_cons.mp p3).1 hb)]
    exact e3 _ _ z
  intro H11 pp
  obtain ⟨cs, p1, p2, p3, e11⟩ := pp
  rw [List.length_map, hR10.rs.len, List.take_length] at p2
  have hR11 : Rows H11 D3 cs L := ⟨p1, p2, p3⟩
  have hF11 := hF10.same e11
  refine a_cons (e_callTy (x := "dict") (by assumption) b_dictT (a_cons (e_var (a_nil (c_dict hF11.hd fun d2 H12 e12' n12 h12 => a_nil ?_)))))
  have hF12 : Facts H12 d2 ds F := ⟨h12, hF11.rs.keep fun b _ o z => e12' _ _ z, hF11.kn, List.nodup_cons.mpr ⟨fun m => (by obtain ⟨x, hx⟩ := hF11.rs.vl m; rw [hx] at n12; cases n12), (List.nodup_cons.mp hF11.nd).2⟩⟩
  have hR12 := hR11.same e12'
  intro pw dx npw ndx nexd
  have em := made_up (C := C) npw ndx
  have hz : SzP L F := ⟨by omega, fun y hy => by rw [(hRw.2 y hy).1]; omega, by omega, fun y hy => Nat.le_trans (zF y hy).1 (by decide)⟩
  have hfc : FctP L F := by
    unfold FctP
    rw [List.all_eq_true]
    intro y hy
    rw [List.all_eq_true]
    intro x hx
    have := (zF y hy).2 x hx
    unfold inR
    rw [Bool.and_eq_true]
    exact ⟨decide_eq_true this.1, decide_eq_true this.2⟩
  refine ⟨pw, dx, D3, d2, cs, ds, L, F, rfl, upd_same, hR12.same em, hF12.same em, hz, .inl ⟨flt_none t1 t2 t3 t4 hfc, fun a' d' as' bs' H13 bt f1 f2 hW => ⟨rfl, ?_⟩⟩⟩
  have e1013 : Same H10 H13 := (e11.trans e12').trans (made_same npw ndx bt)
  show wL _ _ _ [some (.ref sc), some (.int (k : Int)), some (.ref p), some (.ref a), some (.ref r), some (.ref d), some (.ref D), some (.ref D2), some (.ref pw), none, none] _
  refine l_cons (s_ret (e_tup (a_cons (e_var (a_cons (e_var (a_cons (e_var (a_cons (e_var (a_cons (e_var (a_nil ⟨by show 5 ≤ sizeLine; decide, fun t H14 e14 n14 h14 => ?_⟩)))))))))))))
  have e1014 := e1013.trans e14
  refine q (.ref t) H14 (e110.trans e1014) ⟨t, pw, r, d, D, D2, a', d', as', bs', rs, ds, L, F, xs, ss, vs, rfl, h14, hW.same e14, hR10.same e1014, hF10.same e1014, sq, by omega, by omega, e1014 _ _ hD10, hss10.ts (Same.ts e1014), lss, zss, e1014 _ _ hE10, lvs, fun u hu => ?_⟩
  obtain ⟨lp, hl, _⟩ := hvs u hu
  exact ⟨lp, hl.ts (Same.ts e1014) fun o ho => e1014 _ _ ho⟩
end



section
variable {P : Program} {w : World} {K : PySem.W.Frag} {mg : Str → Option Value} {base : Heap} {C : Addr}
def dR : Option Bool → PyData
  | some b => .tuple [.str "told", .bool b]
  | none => .tuple [.str "refused", .bool true, .bool false]
theorem dp_R {K : PySem.W.Frag} {H : Hp} {t : Addr} {r : Option Bool} (h : H t = some (.tup (rsL r))) : Dp K H (.ref t) (dR r) := by
  cases r with
  | some b => exact .tup (SqT.of h) (.cons (.str _) (.cons (.bl _) .nil))
  | none => exact .tup (SqT.of h) (.cons (.str _) (.cons (.bl _) (.cons (.bl _) .nil)))
theorem c_strR {X : Cx} {H : Hp} {Q : VK} {n : Nat} {t : Addr} {r : Option Bool} (hg : X.A.guards = some []) (hr : Room n X.A) (h : H t = some (.tup (rsL r))) (q : Q (.str (dR r).shown) H) : wC X (.type "str") [.ref t] H Q := by
  refine c_of (call_strD hg (by have := hr.un; omega)) ⟨t, dR r, rfl, dp_R h, ?_, ?_, ?_, ?_, q⟩
  · cases r with
    | none => rfl
    | some b => rfl
  · cases r with
    | none => rfl
    | some b => rfl
  · cases r with
    | none => decide +kernel
    | some b => cases b <;> decide +kernel
  · cases r with
    | none => decide +kernel
    | some b => cases b <;> decide +kernel
theorem sqL_up {K : PySem.W.Frag} {H H' : Hp} {a : Addr} {xs : List V} (e : Same H H') (h : SqL K H a xs) : SqL K H' a xs := by
  rcases h with h | h
  · rcases h with h | ⟨o, h⟩
    · exact .inl (.inl (e _ _ h))
    · exact .inl (.inr ⟨o, e _ _ h⟩)
  · exact .inr h
def spLaw (K : PySem.W.Frag) : Sp := fun vs H Q _ => ∃ (a : Addr) (ns : List Int), vs = [.ref a] ∧ SqL K H a (ns.map V.int) ∧ ns.length ≤ 63 ∧ ∀ H', Q (.bl true) H'
theorem ok_law {fa : Addr} {fd : FuncData} (FL : Fun K "law" "law" s_law fa fd) (mLen : mg "len" = none) (mR : mg "range" = none) (mInt : mg "int" = none) (mStr : mg "str" = none) (FC : Fn P w K mg base 7 "_law_case" (spCase K C)) (FT : Fn P w K mg base 4 "_law_true" (spTrue 3)) (FO : Fn P w K mg base 4 "_law_once" (spLOnce 3)) (FH : Fn P w K mg base 6 "_law_has" (spHas C)) (FD : Fn P w K mg base 5 "_law_due" spDue) (FF : Fn P w K mg base 6 "_law_fails" (spFails C)) :
    FnG P w K mg base 84 fa fd ["_law_script"] (spLaw K) := by
  refine fun_okG FL sc_law (fun vs H Q E h => by obtain ⟨a, ns, rfl, _⟩ := h; rfl) fun cdv A outer s H vs Q E hg hr h => ?_
  refine ⟨_, pl, ?_⟩
  have nd : In (cxOf CX0 P w K mg base N_law "law" (defScope s_law) fa cdv A outer s H E).nox N_law G_law (defScope s_law) := ⟨so_law, ⟨[], (List.append_nil _).symm⟩, sc_law.nd, rfl, rfl, PassesOwn.never⟩
  obtain ⟨sc, ns, rfl, hS, hz, q⟩ := h
  refine l_cons (s_set (e_lst (a_cons (e_call (by exact FC) (by exact hr) (by decide) ?_))))
  refine a_cons (e_var (a_cons (e_int (a_nil ⟨sc, ns, 0, rfl, hS, fun u0 H1 e1 hc0 => ?_⟩))))
  refine a_cons (e_call (by exact FC) (by exact hr) (by decide) ?_)
  refine a_cons (e_var (a_cons (e_int (a_nil ⟨sc, ns, 1, rfl, sqL_up e1 hS, fun u1 H2 e2 hc1 => ?_⟩))))
  refine a_nil ⟨le2, fun cl H3 e3 n3 h3 => ?_⟩
  have hcs : ∀ u ∈ [u0, u1], CaseV C H3 u := fun u hu => by
    simp only [List.mem_cons, List.not_mem_nil, or_false] at hu
    rcases hu with rfl | rfl
    · exact (hc0.same e2).same e3
    · exact hc1.same e3
  show wL _ _ _ [some (.ref sc), some (.ref cl), none, none, none, none, none, none, none] _
  refine l_cons (s_forR (by assumption) (e_int ⟨4, rfl, by decide, fun k σ H' => ∃ x2 x3 x4 x5 x6 x7 x8, σ = [some (.ref sc), some (.ref cl), x2, x3, x4, x5, x6, x7, x8] ∧ Same H3 H', ⟨none, none, none, none, none, none, none, rfl, Same.refl _⟩, ?_, ?_⟩))
  · intro k σ H' hk pp
    obtain ⟨x2, x3, x4, x5, x6, x7, x8, rfl, e⟩ := pp
    show wL _ _ _ [some (.ref sc), some (.ref cl), some (.int (k : Int)), x3, x4, x5, x6, x7, x8] _
    refine l_cons (s_forL (e_var ⟨cl, _, rfl, SqL.of (e _ _ h3), fun i σ H' => ∃ x3 x4 x5 x6 x7 x8, σ = [some (.ref sc), some (.ref cl), some (.int (k : Int)), x3, x4, x5, x6, x7, x8] ∧ Same H3 H', ⟨x3, x4, x5, x6, x7, x8, rfl, e⟩, ?_, ?_, ?_⟩))
    · intro i σ H' _ pp
      obtain ⟨_, _, _, _, _, _, _, e⟩ := pp
      exact SqL.of (e _ _ h3)
    · intro i u σ H' hu pp
      clear e
      obtain ⟨x3, x4, x5, x6, x7, x8, rfl, e⟩ := pp
      obtain ⟨t, pw, r, d, sl, cl', wa, wd, was, wbs, rs, ds, L, F, xs, ss, us, rfl, ht, hW, hR, hF, sq, zl0, zl, hsl, hss, lss, zss, hcl, lus, hus⟩ := (hcs u (List.mem_of_getElem? hu)).same e
      have k3 : 0 ≤ (k : Int) % 3 ∧ (k : Int) % 3 < 3 := ⟨Int.emod_nonneg _ (by decide), Int.emod_lt_of_pos _ (by decide)⟩
      have lxs := hss.len
      obtain ⟨xv, hxv⟩ : ∃ xv, xs[((k : Int) % 3).toNat]? = some xv := ⟨_, List.getElem?_eq_getElem (by omega)⟩
      obtain ⟨s, hs, hsv⟩ := hss.get hxv
      have zs := zss s (List.mem_of_getElem? hs)
      obtain ⟨pu, hpu⟩ : ∃ pu, us[((k : Int) % 3).toNat]? = some pu := ⟨_, List.getElem?_eq_getElem (by omega)⟩
      obtain ⟨lp, tp, cv, hs', g, ps, rfl, htp, hC, hZ, l5, hlp, lps, rps⟩ := hus pu (List.mem_of_getElem? hpu)
      show wL _ _ _ [some (.ref sc), some (.ref cl), some (.int (k : Int)), some (.ref t), x4, x5, x6, x7, x8] _
      refine l_cons (s_set (e_ix (e_ix (e_var (e_int (ix_t (by exact SqT.of ht) (atI_nat (j := 3) rfl) ?_))))))
      refine e_bin (e_callTy (x := "int") (by assumption) b_int (a_cons (e_var (a_nil (c_int (e_int (o_mod (by decide) (ix_l (by exact SqL.of hsl) (at_int k3.1 hxv) ?_))))))))
      show wL _ _ _ [some (.ref sc), some (.ref cl), some (.int (k : Int)), some (.ref t), some xv, x5, x6, x7, x8] _
      refine l_cons (s_set (e_call (by exact FT) (by exact hr) (by decide) ?_))
      refine a_cons (e_ix (e_var (e_int (ix_t (by exact SqT.of ht) at1 (a_cons (e_ix (e_var (e_int (ix_t (by exact SqT.of ht) at2 (a_cons (e_var (a_nil ?_)))))))))))) 
      refine ⟨r, d, xv, rs, ds, L, F, s, rfl, hR, hF, sq, by omega, hsv, zs.1, fun l H4 e4 n4 h4 => ?_⟩
      show wL _ _ _ [some (.ref sc), some (.ref cl), some (.int (k : Int)), some (.ref t), some xv, some (.ref l), x6, x7, x8] _
      refine l_cons (s_forR (by assumption) (e_callB (x := "len") (by assumption) b_len (a_cons (e_ix (e_var (e_int (ix_t (by exact SqT.of (e4 _ _ ht)) at1 (a_nil (c_lenL (by exact SqL.of (e4 _ _ hR.hd)) ?_)))))))))
      rw [List.length_map, hR.rs.len]
      refine ⟨L.length, rfl, by omega, fun j σ H5 => ∃ x6 x7, σ = [some (.ref sc), some (.ref cl), some (.int (k : Int)), some (.ref t), some xv, some (.ref l), x6, x7, x8] ∧ Same H4 H5, ⟨x6, x7, rfl, Same.refl _⟩, ?_, ?_⟩
      · intro j σ H5 hj pp
        obtain ⟨x6, x7, rfl, e5⟩ := pp
        have e45 := e4.trans e5
        show wL _ _ _ [some (.ref sc), some (.ref cl), some (.int (k : Int)), some (.ref t), some xv, some (.ref l), some (.int (j : Int)), x7, x8] _
        refine l_cons (s_set (e_tup (a_cons (e_str (a_cons (e_ix (e_var (e_var (ix_l (by exact SqL.of (e5 _ _ h4)) (atI_nat (tl_at hj)) (a_nil ⟨le2, fun t7 H6 e6 n6 h6 => ?_⟩))))))))))
        have e46 := e45.trans e6
        show wL _ _ _ [some (.ref sc), some (.ref cl), some (.int (k : Int)), some (.ref t), some xv, some (.ref l), some (.int (j : Int)), some (.ref t7), x8] _
        refine l_seq (fun σ H7 => ∃ t7, σ = [some (.ref sc), some (.ref cl), some (.int (k : Int)), some (.ref t), some xv, some (.ref l), some (.int (j : Int)), some (.ref t7), x8] ∧ Same H' H7 ∧ H7 t7 = some (.tup (rsL (hasR L F s j))) ∧ Same H4 H7) (fun go => ?_) fun σ H7 pp => ?_
        · refine l_cons (s_if (t_not (t_val (e_call (by exact FO) (by exact hr) (by decide) ?_))))
          refine a_cons (e_var (a_nil ⟨xv, s, rfl, hsv.ts (Same.ts e46), zs.1, fun H7 e7 => ⟨_, rfl, ?_⟩⟩))
          cases ho : onc s with
          | true => exact iteF (l_nil (go _ H7 ⟨t7, rfl, e46.trans e7, by rw [hasR, if_pos ho]; exact e7 _ _ h6, (e5.trans e6).trans e7⟩))
          | false =>
            refine iteT (l_cons (s_set (e_tup (a_cons (e_str (a_cons (e_bl (a_cons (e_bl (a_nil ⟨le3, fun t8 H8 e8 n8 h8 => l_nil ?_⟩))))))))))
            exact go _ H8 ⟨t8, rfl, (e46.trans e7).trans e8, by rw [hasR, if_neg (by rw [ho]; exact Bool.false_ne_true)]; exact h8, ((e5.trans e6).trans e7).trans e8⟩
        · obtain ⟨t7, rfl, e7, h7, e47⟩ := pp
          refine l_cons (s_if (t_cmp (e_callTy (x := "str") (by assumption) b_str (a_cons (e_call (by exact FH) (by exact hr) (by decide) ?_)))))
          refine a_cons (e_ix (e_var (e_int (ix_t (by exact SqT.of (e7 _ _ ht)) at0 (a_cons (e_var (a_cons (e_var (a_nil ?_))))))))) 
          refine ⟨pw, wa, wd, was, wbs, L, F, xv, s, j, rfl, hW.same e7, sq, by omega, hsv.ts (Same.ts e7), zs, hj, fun t8 H8 e8 h8 => ?_⟩
          refine a_nil (c_strR (by exact hg) (by exact hr) h8 ?_)
          refine e_callTy (x := "str") (by assumption) b_str (a_cons (e_var (a_nil (c_strR (by exact hg) (by exact hr) (e8 _ _ h7) (o_neS ⟨_, rfl, ?_⟩)))))
          rw [decide_eq_true rfl]
          exact iteF (l_nil (l_nil ⟨_, _, rfl, e47.trans e8⟩))
      · intro σ H5 pp
        obtain ⟨x6, x7, rfl, e5⟩ := pp
        have e45 := e4.trans e5
        refine l_cons (s_set (e_ix (e_ix (e_var (e_int (ix_t (by exact SqT.of (e45 _ _ ht)) (atI_nat (j := 4) rfl) ?_))))))
        refine e_bin (e_callTy (x := "int") (by assumption) b_int (a_cons (e_var (a_nil (c_int (e_int (o_mod (by decide) (ix_l (by exact SqL.of (e45 _ _ hcl)) (at_int k3.1 hpu) ?_))))))))
        show wL _ _ _ [some (.ref sc), some (.ref cl), some (.int (k : Int)), some (.ref t), some xv, some (.ref l), x6, x7, some (.ref tp)] _
        refine l_cons (s_set (e_call (by exact FD) (by exact hr) (by decide) ?_))
        refine a_cons (e_ix (e_var (e_int (ix_t (by exact SqT.of (e45 _ _ ht)) at1 (a_cons (e_ix (e_var (e_int (ix_t (by exact SqT.of (e45 _ _ ht)) at2 ?_))))))))) 
        refine a_cons (e_ix (e_var (e_int (ix_t (by exact SqT.of (e45 _ _ htp)) at0 (a_cons (e_ix (e_var (e_int (ix_t (by exact SqT.of (e45 _ _ htp)) at1 (a_nil ?_))))))))))
        refine ⟨r, d, rs, ds, L, F, _, hs', g, lp, ps, rfl, hR.same e45, hF.same e45, sq, zl0, by omega, hC.ts (Same.ts e45), hZ, by omega, e45 _ _ hlp, lps, rps, fun t7 H6 e6 h6 => ?_⟩
        have e46 := e45.trans e6
        show wL _ _ _ [some (.ref sc), some (.ref cl), some (.int (k : Int)), some (.ref t), some xv, some (.ref l), x6, some (.ref t7), some (.ref tp)] _
        refine l_cons (s_if (t_cmp (e_callTy (x := "str") (by assumption) b_str (a_cons (e_call (by exact FF) (by exact hr) (by decide) ?_)))))
        refine a_cons (e_ix (e_var (e_int (ix_t (by exact SqT.of (e46 _ _ ht)) at0 ?_))))
        refine a_cons (e_ix (e_var (e_int (ix_t (by exact SqT.of (e46 _ _ htp)) at0 (a_cons (e_ix (e_var (e_int (ix_t (by exact SqT.of (e46 _ _ htp)) at1 (a_nil ?_))))))))))
        refine ⟨pw, wa, wd, was, wbs, L, F, cv, hs', g, lp, ps, rfl, hW.same e46, sq, zl0, by omega, hC.ts (Same.ts e46), hZ, e46 _ _ hlp, lps, rps, fun t8 H8 e8 h8 => ?_⟩
        refine a_nil (c_strR (by exact hg) (by exact hr) h8 ?_)
        refine e_callTy (x := "str") (by assumption) b_str (a_cons (e_var (a_nil (c_strR (by exact hg) (by exact hr) (e8 _ _ h6) (o_neS ⟨_, rfl, ?_⟩)))))
        rw [decide_eq_true rfl]
        exact iteF (l_nil (l_nil ⟨_, _, _, _, _, _, rfl, e.trans (e46.trans e8)⟩))
    · intro σ H' pp
      obtain ⟨x3, x4, x5, x6, x7, x8, rfl, e⟩ := pp
      exact l_nil ⟨_, _, _, _, _, _, _, rfl, e⟩
  · intro σ H' pp
    obtain ⟨x2, x3, x4, x5, x6, x7, x8, rfl, e⟩ := pp
    exact l_cons (s_ret (e_bl (q H')))
end


section
theorem kit_sub {K : PySem.W.Frag} {D C : Addr} (hd : PySem.W.hasDictIn K C = true) (ht : PySem.W.typeIn K (.ref C) = some (.type "type")) (h : PySem.W.subIn K (.ref D) (.ref C) = some true) : PySem.W.kitOne K (.ref D) (.ref C) = some true := by
  obtain ⟨cd, hc, _⟩ := PySem.W.any_some hd
  unfold PySem.W.kitOne
  split
  · rfl
  · show (if ((PySem.W.clsIn K C).isSome && PySem.W.typeIn K (.ref C) == some (.type "type")) = true then PySem.W.subIn K (.ref D) (.ref C) else none) = some true
    rw [hc, ht, h]
    rfl
theorem kit_not {K : PySem.W.Frag} {D C : Addr} (hd : PySem.W.hasDictIn K C = true) (ht : PySem.W.typeIn K (.ref C) = some (.type "type")) (h : PySem.W.subIn K (.ref D) (.ref C) = some false) (hs : PySem.W.subIn K (.ref D) (.ref D) = some true) : PySem.W.kitOne K (.ref D) (.ref C) = some false := by
  obtain ⟨cd, hc, _⟩ := PySem.W.any_some hd
  have ne : D ≠ C := fun z => by
    subst z
    rw [hs] at h
    cases h
  unfold PySem.W.kitOne
  rw [if_neg (fun z => ne (Value.ref.inj (beq_iff_eq.mp z)))]
  show (if ((PySem.W.clsIn K C).isSome && PySem.W.typeIn K (.ref C) == some (.type "type")) = true then PySem.W.subIn K (.ref D) (.ref C) else none) = some false
  rw [hc, ht, h]
  rfl
theorem kit_typ {K : PySem.W.Frag} {D : Addr} (h : PySem.W.subIn K (.ref D) (.type "ValueError") = some true) : PySem.W.kitOne K (.ref D) (.type "ValueError") = some true := by
  unfold PySem.W.kitOne
  rw [if_neg (by simp)]
  show (if PySem.W.kitMeta "ValueError" = true then PySem.W.subIn K (.ref D) (.type "ValueError") else none) = some true
  rw [if_pos (by decide +kernel), h]
theorem all_mk {l : PySem.W.OpenLaw} {w : World} {K : PySem.W.Frag} {h : Heap} {mg : Str → Option Value} {fa : Addr} (X : K.In h) (G : h.Ns mainGlobals mg) (hfa : mg "law" = some (.ref fa))
    {f0 : Addr} {od0 an0 : Option Addr} {sl0 : Array (Option Value)} {oc0 kV0 dc0 pm0 cd0 ct0 : Value}
    {f1 : Addr} {od1 an1 : Option Addr} {sl1 : Array (Option Value)} {oc1 kV1 dc1 pm1 cd1 ct1 : Value}
    {f2 : Addr} {od2 an2 : Option Addr} {sl2 : Array (Option Value)} {oc2 kV2 dc2 pm2 cd2 ct2 : Value}
    {f3 : Addr} {od3 an3 : Option Addr} {sl3 : Array (Option Value)} {oc3 kV3 dc3 pm3 cd3 ct3 : Value}
    {f4 : Addr} {od4 an4 : Option Addr} {sl4 : Array (Option Value)} {oc4 kV4 dc4 pm4 cd4 ct4 : Value}
    {f5 : Addr} {od5 an5 : Option Addr} {sl5 : Array (Option Value)} {oc5 kV5 dc5 pm5 cd5 ct5 : Value}
    {f6 : Addr} {od6 an6 : Option Addr} {sl6 : Array (Option Value)} {oc6 kV6 dc6 pm6 cd6 ct6 : Value}
    {f7 : Addr} {od7 an7 : Option Addr} {sl7 : Array (Option Value)} {oc7 kV7 dc7 pm7 cd7 ct7 : Value}
    {f8 : Addr} {od8 an8 : Option Addr} {sl8 : Array (Option Value)} {oc8 kV8 dc8 pm8 cd8 ct8 : Value}
    {f9 : Addr} {od9 an9 : Option Addr} {sl9 : Array (Option Value)} {oc9 kV9 dc9 pm9 cd9 ct9 : Value}
    {f10 : Addr} {od10 an10 : Option Addr} {sl10 : Array (Option Value)} {oc10 kV10 dc10 pm10 cd10 ct10 : Value}
    {f11 : Addr} {od11 an11 : Option Addr} {sl11 : Array (Option Value)} {oc11 kV11 dc11 pm11 cd11 ct11 : Value}
    {f12 : Addr} {od12 an12 : Option Addr} {sl12 : Array (Option Value)} {oc12 kV12 dc12 pm12 cd12 ct12 : Value}
    {f13 : Addr} {od13 an13 : Option Addr} {sl13 : Array (Option Value)} {oc13 kV13 dc13 pm13 cd13 ct13 : Value}
    {f14 : Addr} {od14 an14 : Option Addr} {sl14 : Array (Option Value)} {oc14 kV14 dc14 pm14 cd14 ct14 : Value}
    {f15 : Addr} {od15 an15 : Option Addr} {sl15 : Array (Option Value)} {oc15 kV15 dc15 pm15 cd15 ct15 : Value}
    {f16 : Addr} {od16 an16 : Option Addr} {sl16 : Array (Option Value)} {oc16 kV16 dc16 pm16 cd16 ct16 : Value}
    {f17 : Addr} {od17 an17 : Option Addr} {sl17 : Array (Option Value)} {oc17 kV17 dc17 pm17 cd17 ct17 : Value}
    {f18 : Addr} {od18 an18 : Option Addr} {sl18 : Array (Option Value)} {oc18 kV18 dc18 pm18 cd18 ct18 : Value}
    {f19 : Addr} {od19 an19 : Option Addr} {sl19 : Array (Option Value)} {oc19 kV19 dc19 pm19 cd19 ct19 : Value}
    {f20 : Addr} {od20 an20 : Option Addr} {sl20 : Array (Option Value)} {oc20 kV20 dc20 pm20 cd20 ct20 : Value}
    {f21 : Addr} {od21 an21 : Option Addr} {sl21 : Array (Option Value)} {oc21 kV21 dc21 pm21 cd21 ct21 : Value}
    {f22 : Addr} {od22 an22 : Option Addr} {sl22 : Array (Option Value)} {oc22 kV22 dc22 pm22 cd22 ct22 : Value}
    {f23 : Addr} {od23 an23 : Option Addr} {sl23 : Array (Option Value)} {oc23 kV23 dc23 pm23 cd23 ct23 : Value}
    {f24 : Addr} {od24 an24 : Option Addr} {sl24 : Array (Option Value)} {oc24 kV24 dc24 pm24 cd24 ct24 : Value}
    {CB CH CO CP CS CG : Addr}
    {nmCB qnCB : Str} {NaCB : Addr} {bsCB : List Value} {snCB : List Str} {subCB : List Value} {abCB : Bool} {colCB : Option Bool} {ddCB : Option Addr} {x0CB x1CB x2CB x3CB x5CB : Option Value}
    {f25 : Addr} {od25 an25 : Option Addr} {sl25 : Array (Option Value)} {oc25 kV25 dc25 pm25 cd25 ct25 : Value}
    {C : Addr}
    {f26 : Addr} {od26 an26 : Option Addr} {sl26 : Array (Option Value)} {oc26 kV26 dc26 pm26 cd26 ct26 : Value}
    {f27 : Addr} {od27 an27 : Option Addr} {sl27 : Array (Option Value)} {oc27 kV27 dc27 pm27 cd27 ct27 : Value}
    {f28 : Addr} {od28 an28 : Option Addr} {sl28 : Array (Option Value)} {oc28 kV28 dc28 pm28 cd28 ct28 : Value}
    {f29 : Addr} {od29 an29 : Option Addr} {sl29 : Array (Option Value)} {oc29 kV29 dc29 pm29 cd29 ct29 : Value}
    {f30 : Addr} {od30 an30 : Option Addr} {sl30 : Array (Option Value)} {oc30 kV30 dc30 pm30 cd30 ct30 : Value}
    (a0 : PySem.W.nsIn K mainGlobals "is_all_once" = some (some (.ref f0)))
    (l0 : K.lookup f0 = some ⟨oc0, od0, .func (PySem.W.fnOf "is_all_once" "is_all_once" (defArgs s_is_all_once) (defBody s_is_all_once) (defScope s_is_all_once) .none kV0 dc0 pm0 an0 cd0 ct0), sl0⟩)
    (c0 : PySem.W.codeIn K cd0 "is_all_once" = true)
    (k0 : PySem.W.keepIn K (.ref f0) = true)
    (a1 : PySem.W.nsIn K mainGlobals "require_once" = some (some (.ref f1)))
    (l1 : K.lookup f1 = some ⟨oc1, od1, .func (PySem.W.fnOf "require_once" "require_once" (defArgs s_require_once) (defBody s_require_once) (defScope s_require_once) .none kV1 dc1 pm1 an1 cd1 ct1), sl1⟩)
    (c1 : PySem.W.codeIn K cd1 "require_once" = true)
    (k1 : PySem.W.keepIn K (.ref f1) = true)
    (a2 : PySem.W.nsIn K mainGlobals "truths" = some (some (.ref f2)))
    (l2 : K.lookup f2 = some ⟨oc2, od2, .func (PySem.W.fnOf "truths" "truths" (defArgs s_truths) (defBody s_truths) (defScope s_truths) .none kV2 dc2 pm2 an2 cd2 ct2), sl2⟩)
    (c2 : PySem.W.codeIn K cd2 "truths" = true)
    (k2 : PySem.W.keepIn K (.ref f2) = true)
    (a3 : PySem.W.nsIn K mainGlobals "fault_of" = some (some (.ref f3)))
    (l3 : K.lookup f3 = some ⟨oc3, od3, .func (PySem.W.fnOf "fault_of" "fault_of" (defArgs s_fault_of) (defBody s_fault_of) (defScope s_fault_of) .none kV3 dc3 pm3 an3 cd3 ct3), sl3⟩)
    (c3 : PySem.W.codeIn K cd3 "fault_of" = true)
    (k3 : PySem.W.keepIn K (.ref f3) = true)
    (a4 : PySem.W.nsIn K mainGlobals "has_shape" = some (some (.ref f4)))
    (l4 : K.lookup f4 = some ⟨oc4, od4, .func (PySem.W.fnOf "has_shape" "has_shape" (defArgs s_has_shape) (defBody s_has_shape) (defScope s_has_shape) .none kV4 dc4 pm4 an4 cd4 ct4), sl4⟩)
    (c4 : PySem.W.codeIn K cd4 "has_shape" = true)
    (k4 : PySem.W.keepIn K (.ref f4) = true)
    (a5 : PySem.W.nsIn K mainGlobals "does_grouping_hold" = some (some (.ref f5)))
    (l5 : K.lookup f5 = some ⟨oc5, od5, .func (PySem.W.fnOf "does_grouping_hold" "does_grouping_hold" (defArgs s_does_grouping_hold) (defBody s_does_grouping_hold) (defScope s_does_grouping_hold) .none kV5 dc5 pm5 an5 cd5 ct5), sl5⟩)
    (c5 : PySem.W.codeIn K cd5 "does_grouping_hold" = true)
    (k5 : PySem.W.keepIn K (.ref f5) = true)
    (a6 : PySem.W.nsIn K mainGlobals "_law_cell" = some (some (.ref f6)))
    (l6 : K.lookup f6 = some ⟨oc6, od6, .func (PySem.W.fnOf "_law_cell" "_law_cell" (defArgs s_cell) (defBody s_cell) (defScope s_cell) .none kV6 dc6 pm6 an6 cd6 ct6), sl6⟩)
    (c6 : PySem.W.codeIn K cd6 "_law_cell" = true)
    (k6 : PySem.W.keepIn K (.ref f6) = true)
    (a7 : PySem.W.nsIn K mainGlobals "_law_pool" = some (some (.ref f7)))
    (l7 : K.lookup f7 = some ⟨oc7, od7, .func (PySem.W.fnOf "_law_pool" "_law_pool" (defArgs s_pool) (defBody s_pool) (defScope s_pool) .none kV7 dc7 pm7 an7 cd7 ct7), sl7⟩)
    (c7 : PySem.W.codeIn K cd7 "_law_pool" = true)
    (k7 : PySem.W.keepIn K (.ref f7) = true)
    (a8 : PySem.W.nsIn K mainGlobals "_law_next" = some (some (.ref f8)))
    (l8 : K.lookup f8 = some ⟨oc8, od8, .func (PySem.W.fnOf "_law_next" "_law_next" (defArgs s_next) (defBody s_next) (defScope s_next) .none kV8 dc8 pm8 an8 cd8 ct8), sl8⟩)
    (c8 : PySem.W.codeIn K cd8 "_law_next" = true)
    (k8 : PySem.W.keepIn K (.ref f8) = true)
    (a9 : PySem.W.nsIn K mainGlobals "_law_name" = some (some (.ref f9)))
    (l9 : K.lookup f9 = some ⟨oc9, od9, .func (PySem.W.fnOf "_law_name" "_law_name" (defArgs s_name) (defBody s_name) (defScope s_name) .none kV9 dc9 pm9 an9 cd9 ct9), sl9⟩)
    (c9 : PySem.W.codeIn K cd9 "_law_name" = true)
    (k9 : PySem.W.keepIn K (.ref f9) = true)
    (a10 : PySem.W.nsIn K mainGlobals "_law_state" = some (some (.ref f10)))
    (l10 : K.lookup f10 = some ⟨oc10, od10, .func (PySem.W.fnOf "_law_state" "_law_state" (defArgs s_state) (defBody s_state) (defScope s_state) .none kV10 dc10 pm10 an10 cd10 ct10), sl10⟩)
    (c10 : PySem.W.codeIn K cd10 "_law_state" = true)
    (k10 : PySem.W.keepIn K (.ref f10) = true)
    (a11 : PySem.W.nsIn K mainGlobals "_law_sentence" = some (some (.ref f11)))
    (l11 : K.lookup f11 = some ⟨oc11, od11, .func (PySem.W.fnOf "_law_sentence" "_law_sentence" (defArgs s_sentence) (defBody s_sentence) (defScope s_sentence) .none kV11 dc11 pm11 an11 cd11 ct11), sl11⟩)
    (c11 : PySem.W.codeIn K cd11 "_law_sentence" = true)
    (k11 : PySem.W.keepIn K (.ref f11) = true)
    (a12 : PySem.W.nsIn K mainGlobals "_law_product" = some (some (.ref f12)))
    (l12 : K.lookup f12 = some ⟨oc12, od12, .func (PySem.W.fnOf "_law_product" "_law_product" (defArgs s_product) (defBody s_product) (defScope s_product) .none kV12 dc12 pm12 an12 cd12 ct12), sl12⟩)
    (c12 : PySem.W.codeIn K cd12 "_law_product" = true)
    (k12 : PySem.W.keepIn K (.ref f12) = true)
    (a13 : PySem.W.nsIn K mainGlobals "_law_renamed" = some (some (.ref f13)))
    (l13 : K.lookup f13 = some ⟨oc13, od13, .func (PySem.W.fnOf "_law_renamed" "_law_renamed" (defArgs s_renamed) (defBody s_renamed) (defScope s_renamed) .none kV13 dc13 pm13 an13 cd13 ct13), sl13⟩)
    (c13 : PySem.W.codeIn K cd13 "_law_renamed" = true)
    (k13 : PySem.W.keepIn K (.ref f13) = true)
    (a14 : PySem.W.nsIn K mainGlobals "_law_table" = some (some (.ref f14)))
    (l14 : K.lookup f14 = some ⟨oc14, od14, .func (PySem.W.fnOf "_law_table" "_law_table" (defArgs s_table) (defBody s_table) (defScope s_table) .none kV14 dc14 pm14 an14 cd14 ct14), sl14⟩)
    (c14 : PySem.W.codeIn K cd14 "_law_table" = true)
    (k14 : PySem.W.keepIn K (.ref f14) = true)
    (a15 : PySem.W.nsIn K mainGlobals "_law_facts" = some (some (.ref f15)))
    (l15 : K.lookup f15 = some ⟨oc15, od15, .func (PySem.W.fnOf "_law_facts" "_law_facts" (defArgs s_facts) (defBody s_facts) (defScope s_facts) .none kV15 dc15 pm15 an15 cd15 ct15), sl15⟩)
    (c15 : PySem.W.codeIn K cd15 "_law_facts" = true)
    (k15 : PySem.W.keepIn K (.ref f15) = true)
    (a16 : PySem.W.nsIn K mainGlobals "_law_true" = some (some (.ref f16)))
    (l16 : K.lookup f16 = some ⟨oc16, od16, .func (PySem.W.fnOf "_law_true" "_law_true" (defArgs s_true) (defBody s_true) (defScope s_true) .none kV16 dc16 pm16 an16 cd16 ct16), sl16⟩)
    (c16 : PySem.W.codeIn K cd16 "_law_true" = true)
    (k16 : PySem.W.keepIn K (.ref f16) = true)
    (a17 : PySem.W.nsIn K mainGlobals "_law_once" = some (some (.ref f17)))
    (l17 : K.lookup f17 = some ⟨oc17, od17, .func (PySem.W.fnOf "_law_once" "_law_once" (defArgs s_once) (defBody s_once) (defScope s_once) .none kV17 dc17 pm17 an17 cd17 ct17), sl17⟩)
    (c17 : PySem.W.codeIn K cd17 "_law_once" = true)
    (k17 : PySem.W.keepIn K (.ref f17) = true)
    (a18 : PySem.W.nsIn K mainGlobals "_law_has" = some (some (.ref f18)))
    (l18 : K.lookup f18 = some ⟨oc18, od18, .func (PySem.W.fnOf "_law_has" "_law_has" (defArgs s_has) (defBody s_has) (defScope s_has) .none kV18 dc18 pm18 an18 cd18 ct18), sl18⟩)
    (c18 : PySem.W.codeIn K cd18 "_law_has" = true)
    (k18 : PySem.W.keepIn K (.ref f18) = true)
    (a19 : PySem.W.nsIn K mainGlobals "_law_fails" = some (some (.ref f19)))
    (l19 : K.lookup f19 = some ⟨oc19, od19, .func (PySem.W.fnOf "_law_fails" "_law_fails" (defArgs s_fails) (defBody s_fails) (defScope s_fails) .none kV19 dc19 pm19 an19 cd19 ct19), sl19⟩)
    (c19 : PySem.W.codeIn K cd19 "_law_fails" = true)
    (k19 : PySem.W.keepIn K (.ref f19) = true)
    (a20 : PySem.W.nsIn K mainGlobals "_law_claim" = some (some (.ref f20)))
    (l20 : K.lookup f20 = some ⟨oc20, od20, .func (PySem.W.fnOf "_law_claim" "_law_claim" (defArgs s_claim) (defBody s_claim) (defScope s_claim) .none kV20 dc20 pm20 an20 cd20 ct20), sl20⟩)
    (c20 : PySem.W.codeIn K cd20 "_law_claim" = true)
    (k20 : PySem.W.keepIn K (.ref f20) = true)
    (a21 : PySem.W.nsIn K mainGlobals "_law_due" = some (some (.ref f21)))
    (l21 : K.lookup f21 = some ⟨oc21, od21, .func (PySem.W.fnOf "_law_due" "_law_due" (defArgs s_due) (defBody s_due) (defScope s_due) .none kV21 dc21 pm21 an21 cd21 ct21), sl21⟩)
    (c21 : PySem.W.codeIn K cd21 "_law_due" = true)
    (k21 : PySem.W.keepIn K (.ref f21) = true)
    (a22 : PySem.W.nsIn K mainGlobals "_law_near" = some (some (.ref f22)))
    (l22 : K.lookup f22 = some ⟨oc22, od22, .func (PySem.W.fnOf "_law_near" "_law_near" (defArgs s_near) (defBody s_near) (defScope s_near) .none kV22 dc22 pm22 an22 cd22 ct22), sl22⟩)
    (c22 : PySem.W.codeIn K cd22 "_law_near" = true)
    (k22 : PySem.W.keepIn K (.ref f22) = true)
    (a23 : PySem.W.nsIn K mainGlobals "_law_case" = some (some (.ref f23)))
    (l23 : K.lookup f23 = some ⟨oc23, od23, .func (PySem.W.fnOf "_law_case" "_law_case" (defArgs s_case) (defBody s_case) (defScope s_case) .none kV23 dc23 pm23 an23 cd23 ct23), sl23⟩)
    (c23 : PySem.W.codeIn K cd23 "_law_case" = true)
    (k23 : PySem.W.keepIn K (.ref f23) = true)
    (a24 : PySem.W.nsIn K mainGlobals "law" = some (some (.ref f24)))
    (l24 : K.lookup f24 = some ⟨oc24, od24, .func (PySem.W.fnOf "law" "law" (defArgs s_law) (defBody s_law) (defScope s_law) .none kV24 dc24 pm24 an24 cd24 ct24), sl24⟩)
    (c24 : PySem.W.codeIn K cd24 "law" = true)
    (k24 : PySem.W.keepIn K (.ref f24) = true)
    (z_isinstance : PySem.W.nsIn K mainGlobals "isinstance" = some none)
    (z_int : PySem.W.nsIn K mainGlobals "int" = some none)
    (z_bool : PySem.W.nsIn K mainGlobals "bool" = some none)
    (z_str : PySem.W.nsIn K mainGlobals "str" = some none)
    (z_tuple : PySem.W.nsIn K mainGlobals "tuple" = some none)
    (z_list : PySem.W.nsIn K mainGlobals "list" = some none)
    (z_len : PySem.W.nsIn K mainGlobals "len" = some none)
    (z_range : PySem.W.nsIn K mainGlobals "range" = some none)
    (z_abs : PySem.W.nsIn K mainGlobals "abs" = some none)
    (z_all : PySem.W.nsIn K mainGlobals "all" = some none)
    (z_enumerate : PySem.W.nsIn K mainGlobals "enumerate" = some none)
    (z_max : PySem.W.nsIn K mainGlobals "max" = some none)
    (z_min : PySem.W.nsIn K mainGlobals "min" = some none)
    (z_zip : PySem.W.nsIn K mainGlobals "zip" = some none)
    (z_dict : PySem.W.nsIn K mainGlobals "dict" = some none)
    (mCB : PySem.W.nsIn K mainGlobals "BadWorld" = some (some (.ref CB)))
    (mCH : PySem.W.nsIn K mainGlobals "HeldError" = some (some (.ref CH)))
    (mCO : PySem.W.nsIn K mainGlobals "NotOnce" = some (some (.ref CO)))
    (mCP : PySem.W.nsIn K mainGlobals "NotPlain" = some (some (.ref CP)))
    (mCS : PySem.W.nsIn K mainGlobals "NotSimple" = some (some (.ref CS)))
    (mCG : PySem.W.nsIn K mainGlobals "WrongGoal" = some (some (.ref CG)))
    (xLCB : K.lookup CB = some (excClassObj nmCB qnCB CB NaCB bsCB [.ref CH, .type "ValueError", .type "Exception", .type "BaseException", .type "object"] true snCB subCB abCB colCB ddCB x0CB x1CB x2CB x3CB x5CB "ValueError.__new__"))
    (a25 : PySem.W.findIn K (.ref CB) "__init__" = some (some (.ref f25)))
    (i25 : PySem.W.isFn K (.ref f25) = true)
    (l25 : K.lookup f25 = some ⟨oc25, od25, .func (PySem.W.fnOf "__init__" "BadWorld.__init__" (defArgs s_BadWorld___init) (defBody s_BadWorld___init) (defScope s_BadWorld___init) .none kV25 dc25 pm25 an25 cd25 ct25), sl25⟩)
    (c25 : PySem.W.codeIn K cd25 "BadWorld.__init__" = true)
    (k25 : PySem.W.keepIn K (.ref f25) = true)
    (saCB : PySem.W.findIn K (.ref CB) "__setattr__" = some (some (.builtin "object.__setattr__")))
    (gaCB : PySem.W.findIn K (.ref CB) "__getattribute__" = some (some (.builtin "BaseException.__getattribute__")))
    (ggCB : PySem.W.findIn K (.ref CB) "__getattr__" = some none)
    (nkCB : PySem.W.findIn K (.ref CB) "reason" = some none)
    (kCCB : PySem.W.keepIn K (.ref CB) = true)
    (eCCB : PySem.W.subIn K (.ref CB) (.type "BaseException") = some true)
    (tCCB : PySem.W.typeIn K (.ref CB) = some (.type "type"))
    (hCCB : PySem.W.hasDictIn K CB = true)
    (haCB : PySem.W.findIn K (.ref CB) "__class__" = some (some (.builtin "object.__class__")))
    (hmCB : PySem.W.mroIn K CB (.type "object") = some true)
    (sICB : PySem.W.subIn K (.ref CB) (.ref CB) = some true)
    (sHCB : PySem.W.subIn K (.ref CB) (.ref CH) = some true)
    (gaCO : PySem.W.findIn K (.ref CO) "__getattribute__" = some (some (.builtin "BaseException.__getattribute__")))
    (ggCO : PySem.W.findIn K (.ref CO) "__getattr__" = some none)
    (kCCO : PySem.W.keepIn K (.ref CO) = true)
    (eCCO : PySem.W.subIn K (.ref CO) (.type "BaseException") = some true)
    (tCCO : PySem.W.typeIn K (.ref CO) = some (.type "type"))
    (hCCO : PySem.W.hasDictIn K CO = true)
    (haCO : PySem.W.findIn K (.ref CO) "__class__" = some (some (.builtin "object.__class__")))
    (hmCO : PySem.W.mroIn K CO (.type "object") = some true)
    (sICO : PySem.W.subIn K (.ref CO) (.ref CO) = some true)
    (sHCO : PySem.W.subIn K (.ref CO) (.ref CH) = some true)
    (eiCO : PySem.W.excIn K CO bmVE "ValueError.__new__" = true)
    (sCOCB : PySem.W.subIn K (.ref CO) (.ref CB) = some false)
    (sCOCP : PySem.W.subIn K (.ref CO) (.ref CP) = some false)
    (sCOCS : PySem.W.subIn K (.ref CO) (.ref CS) = some false)
    (sCOCG : PySem.W.subIn K (.ref CO) (.ref CG) = some false)
    (hn : PySem.W.specialIn K (.builtin "object.__class__") "__get__" = some (some (.builtin "getset_descriptor.__get__")))
    (ht : PySem.W.takesIn K (.builtin "object.__class__") = some true)
    (tCP : PySem.W.typeIn K (.ref CP) = some (.type "type"))
    (dCP : PySem.W.hasDictIn K CP = true)
    (tCS : PySem.W.typeIn K (.ref CS) = some (.type "type"))
    (dCS : PySem.W.hasDictIn K CS = true)
    (tCG : PySem.W.typeIn K (.ref CG) = some (.type "type"))
    (dCG : PySem.W.hasDictIn K CG = true)
    (tCH : PySem.W.typeIn K (.ref CH) = some (.type "type"))
    (dCH : PySem.W.hasDictIn K CH = true)
    (aC : PySem.W.nsIn K mainGlobals "World" = some (some (.ref C)))
    (a26 : PySem.W.findIn K (.ref C) "__init__" = some (some (.ref f26)))
    (i26 : PySem.W.isFn K (.ref f26) = true)
    (l26 : K.lookup f26 = some ⟨oc26, od26, .func (PySem.W.fnOf "__init__" "World.__init__" (defArgs s_World___init) (defBody s_World___init) (defScope s_World___init) .none kV26 dc26 pm26 an26 cd26 ct26), sl26⟩)
    (c26 : PySem.W.codeIn K cd26 "World.__init__" = true)
    (k26 : PySem.W.keepIn K (.ref f26) = true)
    (a27 : PySem.W.findIn K (.ref C) "__len__" = some (some (.ref f27)))
    (i27 : PySem.W.isFn K (.ref f27) = true)
    (l27 : K.lookup f27 = some ⟨oc27, od27, .func (PySem.W.fnOf "__len__" "World.__len__" (defArgs s_World___len) (defBody s_World___len) (defScope s_World___len) .none kV27 dc27 pm27 an27 cd27 ct27), sl27⟩)
    (c27 : PySem.W.codeIn K cd27 "World.__len__" = true)
    (k27 : PySem.W.keepIn K (.ref f27) = true)
    (a28 : PySem.W.findIn K (.ref C) "product" = some (some (.ref f28)))
    (i28 : PySem.W.isFn K (.ref f28) = true)
    (l28 : K.lookup f28 = some ⟨oc28, od28, .func (PySem.W.fnOf "product" "World.product" (defArgs s_World_product) (defBody s_World_product) (defScope s_World_product) .none kV28 dc28 pm28 an28 cd28 ct28), sl28⟩)
    (c28 : PySem.W.codeIn K cd28 "World.product" = true)
    (k28 : PySem.W.keepIn K (.ref f28) = true)
    (a29 : PySem.W.findIn K (.ref C) "has" = some (some (.ref f29)))
    (i29 : PySem.W.isFn K (.ref f29) = true)
    (l29 : K.lookup f29 = some ⟨oc29, od29, .func (PySem.W.fnOf "has" "World.has" (defArgs s_World_has) (defBody s_World_has) (defScope s_World_has) .none kV29 dc29 pm29 an29 cd29 ct29), sl29⟩)
    (c29 : PySem.W.codeIn K cd29 "World.has" = true)
    (k29 : PySem.W.keepIn K (.ref f29) = true)
    (a30 : PySem.W.findIn K (.ref C) "fails" = some (some (.ref f30)))
    (i30 : PySem.W.isFn K (.ref f30) = true)
    (l30 : K.lookup f30 = some ⟨oc30, od30, .func (PySem.W.fnOf "fails" "World.fails" (defArgs s_World_fails) (defBody s_World_fails) (defScope s_World_fails) .none kV30 dc30 pm30 an30 cd30 ct30), sl30⟩)
    (c30 : PySem.W.codeIn K cd30 "World.fails" = true)
    (k30 : PySem.W.keepIn K (.ref f30) = true)
    (pg : PySem.W.plainGet K C Str.empty = true)
    (hd : PySem.W.hasDictIn K C = true)
    (po : PySem.W.plainOver K C = true)
    (sa : PySem.W.findIn K (.ref C) "__setattr__" = some (some (.builtin "object.__setattr__")))
    (mks : PySem.W.makesIn K C = true)
    (kC : PySem.W.keepIn K (.ref C) = true)
    (nP : PySem.W.findIn K (.ref C) "products" = some none)
    (nF : PySem.W.findIn K (.ref C) "facts" = some none) :
    ∃ fd : FuncData, (∀ (s : Shared) (v : Value), BindsTo s fd ⟨[v], []⟩ [("_law_script", v)]) ∧ ∀ base : Heap, K.In base → base.Ns mainGlobals mg → FnG l.prog w K mg base 84 fa fd ["_law_script"] (spLaw K) := by
  have e := hfa.symm.trans (PySem.W.mg_of X G a24)
  cases e
  have mIs := (PySem.W.mg_none_of X G z_isinstance)
  have mInt := (PySem.W.mg_none_of X G z_int)
  have mBool := (PySem.W.mg_none_of X G z_bool)
  have mList := (PySem.W.mg_none_of X G z_list)
  have mLen := (PySem.W.mg_none_of X G z_len)
  have mR := (PySem.W.mg_none_of X G z_range)
  have mAbs := (PySem.W.mg_none_of X G z_abs)
  have mAll := (PySem.W.mg_none_of X G z_all)
  have mEn := (PySem.W.mg_none_of X G z_enumerate)
  have mMax := (PySem.W.mg_none_of X G z_max)
  have mMin := (PySem.W.mg_none_of X G z_min)
  have mTup := (PySem.W.mg_none_of X G z_tuple)
  have mZip := (PySem.W.mg_none_of X G z_zip)
  have mDict := (PySem.W.mg_none_of X G z_dict)
  have mStr := (PySem.W.mg_none_of X G z_str)
  have CL : Cls K C := ⟨pg, hd, po, sa⟩
  have O : WOk K mg C := ⟨CL, nP, nF, mks, kC, PySem.W.mg_of X G aC⟩
  have FL := fun_mk (st := s_law) l24 c24 k24
  have cB_CO : (PySem.W.clsIn K CO).isSome = true := by
    obtain ⟨cd, hc, _⟩ := PySem.W.any_some hCCO
    rw [hc]
    rfl
  have OB : OexC K CB := ⟨⟨_, _, _, _, _, _, _, _, _, _, _, _, _, _, _, xLCB, by first | rfl | simp [PySem.HandSPX.refsVE]⟩, saCB, eCCB, tCCB, kCCB⟩
  have R : Errs K mg CO CH CB CP CS CG := ⟨⟨PySem.W.mg_of X G mCO, kCCO, eiCO, eCCO, tCCO⟩, PySem.W.mg_of X G mCH, PySem.W.mg_of X G mCB, PySem.W.mg_of X G mCP, PySem.W.mg_of X G mCS, PySem.W.mg_of X G mCG, ⟨cB_CO, gaCO, ggCO, eCCO, haCO, hn, ht, hmCO⟩, PySem.W.exm_ref eCCO hCCO tCCO sICO, kit_sub dCH tCH sHCO, kitAny_cons (kit_not hCCB tCCB sCOCB sICO) (fun _ => kitAny_cons (kit_not dCP tCP sCOCP sICO) (fun _ => kitAny_cons (kit_not dCS tCS sCOCS sICO) (fun _ => kitAny_cons (kit_not dCG tCG sCOCG sICO) (fun _ => rfl) (fun z => nomatch z)) (fun z => nomatch z)) (fun z => nomatch z)) (fun z => nomatch z)⟩
  refine ⟨PySem.W.fnOf "law" "law" (defArgs s_law) (defBody s_law) (defScope s_law) .none kV24 dc24 pm24 an24 cd24 ct24, fun s v => .of_eq rfl, fun base _ _ => ?_⟩
  have Fcell : Fn l.prog w K mg base 1 "_law_cell" (spCell K) := ok_cell (top_mk X G a6 l6 c6 k6) mLen mAbs
  have Fpool := ok_pool (top_mk X G a7 l7 c7 k7) Fcell mInt
  have Fnext : Fn l.prog w K mg base 1 "_law_next" spNext := ok_next (top_mk X G a8 l8 c8 k8) mInt
  have Fshape : Fn l.prog w K mg base 1 "has_shape" spShape := ok_shape (top_mk X G a4 l4 c4 k4) mLen mAll
  have Fgrp : Fn l.prog w K mg base 1 "does_grouping_hold" spGrp := ok_grp (top_mk X G a5 l5 c5 k5) mEn
  have Ffault := ok_fault (top_mk X G a3 l3 c3 k3) mLen mAll mList mR Fshape Fgrp
  have ER : Er l.prog w K mg base "BadWorld" CB "reason" := ok_bw (topM_mk a25 i25 l25 c25 k25) OB nkCB (PySem.W.mg_of X G mCB)
  have KW : KlN l.prog w K mg base 3 "World" C (spWInit C CB) := ok_winit (topM_mk a26 i26 l26 c26 k26) O mList Ffault ER
  have Fonce : Fn l.prog w K mg base 1 "is_all_once" spOnce := ok_once (top_mk X G a0 l0 c0 k0)
  have Ftruths := ok_truths (P := l.prog) (w := w) (base := base) (top_mk X G a2 l2 c2 k2) mLen mR mZip mAll 3
  have Freq : FnN l.prog w K mg base 2 "require_once" (spReq CO) := ok_req (top_mk X G a1 l1 c1 k1) R Fonce
  have MH := ok_whas (topM_mk a29 i29 l29 c29 k29) O R Fonce Ftruths
  have MF := ok_wfails (topM_mk a30 i30 l30 c30 k30) O mZip Freq Ftruths
  have Fhas := ok_has (top_mk X G a18 l18 c18 k18) mIs R MH
  have Ffails := ok_fails (top_mk X G a19 l19 c19 k19) mIs mList R MF
  have Flonce := ok_lonce (P := l.prog) (w := w) (base := base) (top_mk X G a17 l17 c17 k17) 3
  have Ftrue := ok_true (P := l.prog) (w := w) (base := base) (top_mk X G a16 l16 c16 k16) mLen mR 3
  have Fdue := ok_due (top_mk X G a21 l21 c21 k21) mLen mR Flonce Ftrue
  have Fpr : Fn l.prog w K mg base 1 "_law_product" spPr := ok_pr (top_mk X G a12 l12 c12 k12) mMin mMax mInt
  have Fren := ok_ren (top_mk X G a13 l13 c13 k13) mLen mList mR Fnext
  have Ftable := ok_table (top_mk X G a14 l14 c14 k14) mR mMax Fnext Fpr Fren
  have Ffcts := ok_fcts (top_mk X G a15 l15 c15 k15) mR Fnext
  have Fstate := ok_state (top_mk X G a10 l10 c10 k10) mInt mR Fnext
  have Fnear := ok_near (top_mk X G a22 l22 c22 k22) mLen Fnext
  have Fname := ok_name (top_mk X G a9 l9 c9 k9) mLen mStr mR Fnext
  have Fsent := ok_sent (top_mk X G a11 l11 c11 k11) mLen Fnext 3
  have Fclaim := ok_claim (top_mk X G a20 l20 c20 k20) mLen mR mTup Fnext Fsent Ftrue Fname
  have Fcase := ok_case (top_mk X G a23 l23 c23 k23) mLen mR mList mDict Fpool Fnext Fstate Fnear Ftable Ffcts Fsent Fclaim KW
  exact ok_law FL mLen mR mInt mStr Fcase Ftrue Flonce Fhas Fdue Ffails
theorem walk {l : PySem.W.OpenLaw} {q : Program} {loose : List Str} {XP : (Str → Option Value) → Heap → Prop} {YP : World → Heap → Prop} {d : DefRec} {K : Params → PySem.W.Frag} (hn : l.most = some 63) (hdf : d.params.defaults = [])
    (hY : ∀ (w : World) (h : Heap), YP w h → (K w.params).In h)
    (F : ∀ (w : World) (mg : Str → Option Value) (fa : Addr) (h : Heap), (K w.params).In h → h.Ns mainGlobals mg → mg d.name = some (.ref fa) →
      ∃ fd : FuncData, (∀ (s : Shared) (u : Value), BindsTo s fd ⟨[u], []⟩ [("_law_script", u)]) ∧ ∀ base : Heap, (K w.params).In base → base.Ns mainGlobals mg → FnG l.prog w (K w.params) mg base 84 fa fd ["_law_script"] (spLaw (K w.params))) :
    PySem.W.WalkO q loose XP YP l.row.toRowW d [] (fun f vs => PySem.call f vs) :=
  walk_ofG (n := 63) (k := 84) (x := "_law_script") (sp := fun w => spLaw (K w.params)) hn (by decide) hdf ⟨rfl, by decide, by decide⟩ hY F (fun _ _ a ns hl _ hS => ⟨a, ns, rfl, hS, hl, fun _ => rfl⟩)
end
end K18
open PySem PySem.W PyProof.Rows
set_option maxRecDepth 100000 in
set_option maxHeartbeats 0 in
theorem PySem.Challenge.cw_heldproofs_k18_true_at_elements_holds : PySem.Challenge.rw_heldproofs_k18_true_at_elements.Holds := by
  w_on; o_law; k_head; (case hw => w_witness2)
  k_fill
  refine K18.walk (l := PySem.Challenge.rw_heldproofs_k18_true_at_elements) rfl rfl (fun w h Y => PySem.W.kIn_of Y) ?F
  case F =>
    intro w mg fa h KX G hmg
    refine' K18.all_mk KX G hmg ?a0 ?l0 ?c0 ?k0 ?a1 ?l1 ?c1 ?k1 ?a2 ?l2 ?c2 ?k2 ?a3 ?l3 ?c3 ?k3 ?a4 ?l4 ?c4 ?k4 ?a5 ?l5 ?c5 ?k5 ?a6 ?l6 ?c6 ?k6 ?a7 ?l7 ?c7 ?k7 ?a8 ?l8 ?c8 ?k8 ?a9 ?l9 ?c9 ?k9 ?a10 ?l10 ?c10 ?k10 ?a11 ?l11 ?c11 ?k11 ?a12 ?l12 ?c12 ?k12 ?a13 ?l13 ?c13 ?k13 ?a14 ?l14 ?c14 ?k14 ?a15 ?l15 ?c15 ?k15 ?a16 ?l16 ?c16 ?k16 ?a17 ?l17 ?c17 ?k17 ?a18 ?l18 ?c18 ?k18 ?a19 ?l19 ?c19 ?k19 ?a20 ?l20 ?c20 ?k20 ?a21 ?l21 ?c21 ?k21 ?a22 ?l22 ?c22 ?k22 ?a23 ?l23 ?c23 ?k23 ?a24 ?l24 ?c24 ?k24 ?z_isinstance ?z_int ?z_bool ?z_str ?z_tuple ?z_list ?z_len ?z_range ?z_abs ?z_all ?z_enumerate ?z_max ?z_min ?z_zip ?z_dict ?mCB ?mCH ?mCO ?mCP ?mCS ?mCG ?xLCB ?a25 ?i25 ?l25 ?c25 ?k25 ?saCB ?gaCB ?ggCB ?nkCB ?kCCB ?eCCB ?tCCB ?hCCB ?haCB ?hmCB ?sICB ?sHCB ?gaCO ?ggCO ?kCCO ?eCCO ?tCCO ?hCCO ?haCO ?hmCO ?sICO ?sHCO ?eiCO ?sCOCB ?sCOCP ?sCOCS ?sCOCG ?hn ?ht ?tCP ?dCP ?tCS ?dCS ?tCG ?dCG ?tCH ?dCH ?aC ?a26 ?i26 ?l26 ?c26 ?k26 ?a27 ?i27 ?l27 ?c27 ?k27 ?a28 ?i28 ?l28 ?c28 ?k28 ?a29 ?i29 ?l29 ?c29 ?k29 ?a30 ?i30 ?l30 ?c30 ?k30 ?pg ?hd ?po ?sa ?mks ?kC ?nP ?nF
    (case a0 => k_is)
    (case l0 => k_is)
    (case c0 => k_is)
    (case k0 => k_is)
    (case a1 => k_is)
    (case l1 => k_is)
    (case c1 => k_is)
    (case k1 => k_is)
    (case a2 => k_is)
    (case l2 => k_is)
    (case c2 => k_is)
    (case k2 => k_is)
    (case a3 => k_is)
    (case l3 => k_is)
    (case c3 => k_is)
    (case k3 => k_is)
    (case a4 => k_is)
    (case l4 => k_is)
    (case c4 => k_is)
    (case k4 => k_is)
    (case a5 => k_is)
    (case l5 => k_is)
    (case c5 => k_is)
    (case k5 => k_is)
    (case a6 => k_is)
    (case l6 => k_is)
    (case c6 => k_is)
    (case k6 => k_is)
    (case a7 => k_is)
    (case l7 => k_is)
    (case c7 => k_is)
    (case k7 => k_is)
    (case a8 => k_is)
    (case l8 => k_is)
    (case c8 => k_is)
    (case k8 => k_is)
    (case a9 => k_is)
    (case l9 => k_is)
    (case c9 => k_is)
    (case k9 => k_is)
    (case a10 => k_is)
    (case l10 => k_is)
    (case c10 => k_is)
    (case k10 => k_is)
    (case a11 => k_is)
    (case l11 => k_is)
    (case c11 => k_is)
    (case k11 => k_is)
    (case a12 => k_is)
    (case l12 => k_is)
    (case c12 => k_is)
    (case k12 => k_is)
    (case a13 => k_is)
    (case l13 => k_is)
    (case c13 => k_is)
    (case k13 => k_is)
    (case a14 => k_is)
    (case l14 => k_is)
    (case c14 => k_is)
    (case k14 => k_is)
    (case a15 => k_is)
    (case l15 => k_is)
    (case c15 => k_is)
    (case k15 => k_is)
    (case a16 => k_is)
    (case l16 => k_is)
    (case c16 => k_is)
    (case k16 => k_is)
    (case a17 => k_is)
    (case l17 => k_is)
    (case c17 => k_is)
    (case k17 => k_is)
    (case a18 => k_is)
    (case l18 => k_is)
    (case c18 => k_is)
    (case k18 => k_is)
    (case a19 => k_is)
    (case l19 => k_is)
    (case c19 => k_is)
    (case k19 => k_is)
    (case a20 => k_is)
    (case l20 => k_is)
    (case c20 => k_is)
    (case k20 => k_is)
    (case a21 => k_is)
    (case l21 => k_is)
    (case c21 => k_is)
    (case k21 => k_is)
    (case a22 => k_is)
    (case l22 => k_is)
    (case c22 => k_is)
    (case k22 => k_is)
    (case a23 => k_is)
    (case l23 => k_is)
    (case c23 => k_is)
    (case k23 => k_is)
    (case a24 => k_is)
    (case l24 => k_is)
    (case c24 => k_is)
    (case k24 => k_is)
    (case z_isinstance => k_is)
    (case z_int => k_is)
    (case z_bool => k_is)
    (case z_str => k_is)
    (case z_tuple => k_is)
    (case z_list => k_is)
    (case z_len => k_is)
    (case z_range => k_is)
    (case z_abs => k_is)
    (case z_all => k_is)
    (case z_enumerate => k_is)
    (case z_max => k_is)
    (case z_min => k_is)
    (case z_zip => k_is)
    (case z_dict => k_is)
    (case mCB => k_is)
    (case mCH => k_is)
    (case mCO => k_is)
    (case mCP => k_is)
    (case mCS => k_is)
    (case mCG => k_is)
    (case xLCB => k_is)
    (case a25 => k_is)
    (case i25 => k_is)
    (case l25 => k_is)
    (case c25 => k_is)
    (case k25 => k_is)
    (case saCB => k_is)
    (case gaCB => k_is)
    (case ggCB => k_is)
    (case nkCB => k_is)
    (case kCCB => k_is)
    (case eCCB => k_is)
    (case tCCB => k_is)
    (case hCCB => k_is)
    (case haCB => k_is)
    (case hmCB => k_is)
    (case sICB => first | rfl | k_is)
    (case sHCB => k_is)
    (case gaCO => k_is)
    (case ggCO => k_is)
    (case kCCO => k_is)
    (case eCCO => k_is)
    (case tCCO => k_is)
    (case hCCO => k_is)
    (case haCO => k_is)
    (case hmCO => k_is)
    (case sICO => first | rfl | k_is)
    (case sHCO => k_is)
    (case eiCO => k_exc)
    (case sCOCB => k_is)
    (case sCOCP => k_is)
    (case sCOCS => k_is)
    (case sCOCG => k_is)
    (case hn => k_is)
    (case ht => k_is)
    (case tCP => k_is)
    (case dCP => k_is)
    (case tCS => k_is)
    (case dCS => k_is)
    (case tCG => k_is)
    (case dCG => k_is)
    (case tCH => k_is)
    (case dCH => k_is)
    (case aC => k_is)
    (case a26 => k_is)
    (case i26 => k_is)
    (case l26 => k_is)
    (case c26 => k_is)
    (case k26 => k_is)
    (case a27 => k_is)
    (case i27 => k_is)
    (case l27 => k_is)
    (case c27 => k_is)
    (case k27 => k_is)
    (case a28 => k_is)
    (case i28 => k_is)
    (case l28 => k_is)
    (case c28 => k_is)
    (case k28 => k_is)
    (case a29 => k_is)
    (case i29 => k_is)
    (case l29 => k_is)
    (case c29 => k_is)
    (case k29 => k_is)
    (case a30 => k_is)
    (case i30 => k_is)
    (case l30 => k_is)
    (case c30 => k_is)
    (case k30 => k_is)
    (case pg => k_is)
    (case hd => k_is)
    (case po => k_is)
    (case sa => k_is)
    (case mks => k_is)
    (case kC => k_is)
    (case nP => k_is)
    (case nF => k_is)
