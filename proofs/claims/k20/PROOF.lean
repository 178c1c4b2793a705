import PyProof.Rows.All
import Wide.All
import OpenK.AllK
import Wide.FinOn
import HandS.ForMost
import HandS.IsInst
import HandS.Codes
import HandS.ForExc
import HandS.ExcInit
import HandS.ExcField
import HandS.CallSlots
import HandS.TupLe
import KE.KExcIs
import HandS.Flt
import HandS.ExcCtx
import HandS.HotCalls
import HandS.ExcInitHot
import HandS.Text
import HandS.Iter
import HandS.Wide
import HandS.Defaults
import HandS.More
import HandS.Conv
import HandS.Deep
import HandS.Set
import HandS.SetFor
import HandS.Strs
import HandS.Rev
import HandS.TupSets
import HandS.DictComp
import HandS.Dict
import HandS.Finally
import HandS.Flow
import PySem.Challenge.RW_heldproofs_k20_spans_and_doubts
set_option Elab.async false
set_option linter.all false
set_option maxRecDepth 100000
/-! My own layer over the hand layer: the weakest reading of a piece of syntax, and a rule a construct, chosen where the values are known. -/
namespace Wk
open PySem PySem.Spec PyProof.Rows L2
section
variable (X : Cx)
@[irreducible] def wE (e : Expr) : TE := fun σ H Q => ∀ (pins : List (Addr × Obj)) (s : Shared), Inv X pins σ H s → wpAny (model X.prog X.w) X.A (eval e X.env) (EP X pins σ Q) X.xe s
@[irreducible] def wT (e : Expr) : TT := fun σ H Q => ∀ (pins : List (Addr × Obj)) (s : Shared), Inv X pins σ H s → wpAny (model X.prog X.w) X.A (isTrue e X.env (eval e X.env)) (TP X pins σ Q) X.xe s
@[irreducible] def wW (e : Expr) : TT := fun σ H Q => ∀ (whole : Sem Value) (pins : List (Addr × Obj)) (s : Shared), Inv X pins σ H s → wpAny (model X.prog X.w) X.A (isTrue e X.env whole) (TP X pins σ Q) X.xe s
@[irreducible] def wA (es : List Expr) : TA := fun σ H Q => ∀ (pos : Pos) (pins : List (Addr × Obj)) (s : Shared), Inv X pins σ H s → wpAny (model X.prog X.w) X.A (spliced (backTo pos (starEach es X.env))) (AP X pins σ Q) X.xe s
@[irreducible] def wS (st : Stmt) : TS := fun D σ H => ∀ (pins : List (Addr × Obj)) (s : Shared), Inv X pins σ H s → wpAny (model X.prog X.w) X.A (exec st X.env) (SP X pins D) X.xe s
@[irreducible] def wL (st : List Stmt) : TS := fun D σ H => ∀ (pins : List (Addr × Obj)) (s : Shared), Inv X pins σ H s → wpAny (model X.prog X.w) X.A (execs st X.env) (SP X pins D) X.xe s
@[irreducible] def wO (f : Value → Value → Sem Value) : R2 := fun x y H Q => ∀ (pins : List (Addr × Obj)) (s : Shared) (σ : L2.St) (v u : Value), Inv X pins σ H s → RelV x v → RelV y u → wpAny (model X.prog X.w) X.A (f v u) (EP X pins σ Q) X.xe s
@[irreducible] def wB (op : Operator) : R2 := fun x y H Q => wO X (binaryOp op) x y H Q
@[irreducible] def wK (op : CmpOp) : R2 := fun x y H Q => wO X (compareOp op) x y H Q
@[irreducible] def wIx : R2 := fun x y H Q => ∀ (value slice : Expr) (pins : List (Addr × Obj)) (s : Shared) (σ : L2.St) (v u : Value), Inv X pins σ H s → RelV x v → RelV y u → subscripted slice false v u = operate [v, u] (getItem v u) → wpAny (model X.prog X.w) X.A (subscriptTail value slice v u) (EP X pins σ Q) X.xe s
@[irreducible] def wC (f : Value) : List V → Hp → VK → Prop := fun xs H Q => ∀ (pins : List (Addr × Obj)) (s : Shared) (σ : L2.St) (us : List Value), Inv X pins σ H s → Vals xs us → wpAny (model X.prog X.w) X.A (call f us) (EP X pins σ Q) X.xe s
@[irreducible] def wSet : V → V → V → Hp → (Hp → Prop) → Prop := fun o i v H Q => ∀ (pins : List (Addr × Obj)) (s : Shared) (σ : L2.St) (ov iv u : Value), Inv X pins σ H s → RelV o ov → RelV i iv → RelV v u → wpAny (model X.prog X.w) X.A (setItem ov iv u) (fun _ s' => ∃ H', Inv X pins σ H' s' ∧ Q H') X.xe s
end
section
variable {X : Cx} {e a b c : Expr} {es rest : List Expr} {st : Stmt} {sts : List Stmt} {σ : L2.St} {H : Hp} {Q : VK} {D : Ends} {pos p0 : Pos} {QT : Bool → Hp → Prop}
theorem pe : PE X e (wE X e) := ⟨fun pins s _ _ _ I h => by unfold wE at h; exact h pins s I⟩
theorem pt : PT X e (wT X e) := ⟨fun pins s _ _ _ I h => by unfold wT at h; exact h pins s I⟩
theorem pw : PW X e (wW X e) := ⟨fun wh pins s _ _ _ I h => by unfold wW at h; exact h wh pins s I⟩
theorem pa : PA X es (wA X es) := ⟨fun p pins s _ _ _ I h => by unfold wA at h; exact h p pins s I⟩
theorem ps : PS X st (wS X st) := ⟨fun pins s _ _ _ I h => by unfold wS at h; exact h pins s I⟩
theorem pl : PSs X sts (wL X sts) := ⟨fun pins s _ _ _ I h => by unfold wL at h; exact h pins s I⟩
theorem opr {f : Value → Value → Sem Value} : OpR X f (wO X f) := fun pins s σ _ _ _ v u _ I rx ry h => by unfold wO at h; exact h pins s σ v u I rx ry
theorem opb {op : Operator} : OpR X (binaryOp op) (wB X op) := fun pins s σ _ _ _ v u _ I rx ry h => by unfold wB at h; exact opr pins s σ _ _ _ v u _ I rx ry h
theorem opk {op : CmpOp} : OpR X (compareOp op) (wK X op) := fun pins s σ _ _ _ v u _ I rx ry h => by unfold wK at h; exact opr pins s σ _ _ _ v u _ I rx ry h
theorem ixr : IxR X (wIx X) := fun va sl pins s σ _ _ _ v u _ I rx ry h hs => by unfold wIx at h; exact h va sl pins s σ v u I rx ry hs
theorem cr {f : Value} : CallR X f (wC X f) := fun pins s σ _ _ us _ I r h => by unfold wC at h; exact h pins s σ us I r
theorem pset : PSet X (wSet X) := fun pins s σ _ _ _ _ ov iv u _ I ro ri rv h => by unfold wSet at h; exact h pins s σ ov iv u I ro ri rv
theorem e_of {t : TE} (h : PE X e t) (q : t σ H Q) : wE X e σ H Q := by unfold wE; exact fun pins s I => h.run pins s σ H Q I q
theorem t_of {t : TT} (h : PT X e t) (q : t σ H QT) : wT X e σ H QT := by unfold wT; exact fun pins s I => h.run pins s σ H QT I q
theorem w_of {t : TT} (h : PW X e t) (q : t σ H QT) : wW X e σ H QT := by unfold wW; exact fun wh pins s I => h.run wh pins s σ H QT I q
theorem a_of {t : TA} {QA : List V → Hp → Prop} (h : PA X es t) (q : t σ H QA) : wA X es σ H QA := by unfold wA; exact fun p pins s I => h.run p pins s σ H QA I q
theorem s_of {t : TS} (h : PS X st t) (q : t D σ H) : wS X st D σ H := by unfold wS; exact fun pins s I => h.run pins s σ H D I q
theorem l_of {t : TS} (h : PSs X sts t) (q : t D σ H) : wL X sts D σ H := by unfold wL; exact fun pins s I => h.run pins s σ H D I q
theorem o_of {f : Value → Value → Sem Value} {r : R2} {x y : V} (h : OpR X f r) (q : r x y H Q) : wO X f x y H Q := by unfold wO; exact fun pins s σ v u I rx ry => h pins s σ H x y v u Q I rx ry q
theorem b_of {op : Operator} {r : R2} {x y : V} (h : OpR X (binaryOp op) r) (q : r x y H Q) : wB X op x y H Q := by unfold wB; exact o_of h q
theorem k_of {op : CmpOp} {r : R2} {x y : V} (h : OpR X (compareOp op) r) (q : r x y H Q) : wK X op x y H Q := by unfold wK; exact o_of h q
theorem ix_of {r : R2} {x y : V} (h : IxR X r) (q : r x y H Q) : wIx X x y H Q := by unfold wIx; exact fun va sl pins s σ v u I rx ry hs => h va sl pins s σ H x y v u Q I rx ry q hs
theorem c_of {f : Value} {r : List V → Hp → VK → Prop} {xs : List V} (h : CallR X f r) (q : r xs H Q) : wC X f xs H Q := by unfold wC; exact fun pins s σ us I r => h pins s σ H xs us Q I r q
theorem set_of {t : V → V → V → Hp → (Hp → Prop) → Prop} {o i v : V} {QH : Hp → Prop} (h : PSet X t) (q : t o i v H QH) : wSet X o i v H QH := by unfold wSet; exact fun pins s σ ov iv u I ro ri rv => h pins s σ H o i v ov iv u QH I ro ri rv q

theorem e_mono {Q' : VK} (q : wE X e σ H Q) (h : ∀ v H1, Q v H1 → Q' v H1) : wE X e σ H Q' := by
  unfold wE at q ⊢
  exact fun pins s I => wpAny_mono (q pins s I) (fun _ _ ⟨v, H1, I1, r, z⟩ => ⟨v, H1, I1, r, h v H1 z⟩) fun _ _ z => z
theorem a_mono {QA QA' : List V → Hp → Prop} (q : wA X es σ H QA) (h : ∀ v H1, QA v H1 → QA' v H1) : wA X es σ H QA' := by
  unfold wA at q ⊢
  exact fun pp pins s I => wpAny_mono (q pp pins s I) (fun _ _ ⟨v, H1, I1, r, z⟩ => ⟨v, H1, I1, r, h v H1 z⟩) fun _ _ z => z

end
/-- where a name stands in a list; found by its spelling -/
inductive At {α : Type} : List α → Nat → α → Prop where
  | z {x : α} {l : List α} : At (x :: l) 0 x
  | s {x y : α} {l : List α} {i : Nat} (h : At l i x) : At (y :: l) (i + 1) x
theorem At.get {α : Type} {l : List α} {i : Nat} {x : α} (h : At l i x) : l[i]? = some x := by
  induction h with
  | z => rfl
  | s _ ih => simpa using ih
theorem At.mem {α : Type} {l : List α} {i : Nat} {x : α} (h : At l i x) : x ∈ l := List.mem_of_getElem? h.get
instance locDec {sc : Scope} {x : Str} : Decidable (Loc sc x) := inferInstanceAs (Decidable (_ ∨ _))
/-- a def's names: its own, in their slots, and the global ones -/
structure ScOk (N G : List Str) (sc : Scope) : Prop where
  nd : N.Nodup
  lo : ∀ x ∈ N, Loc sc x ∧ (x == ("__debug__" : Str)) = false ∧ (x == ("__classdict__" : Str)) = false
  gl : ∀ x ∈ G, sc.names.lookup x = some .globalImplicit ∧ (x == ("__debug__" : Str)) = false ∧ x ≠ "__name__"
/-- the body that the proof stands in -/
structure In (X : Cx) (N G : List Str) (sc : Scope) : Prop where
  ok : ScOk N G sc
  n : ∃ C, X.N = N ++ C
  nd : X.N.Nodup
  sc : X.env.scope = sc
  fn : X.fn = fun _ => true
  nev : PassesOwn (model X.prog X.w) X.A X.env X.xe
section
variable {X : Cx} {e a b c : Expr} {es rest : List Expr} {st : Stmt} {sts : List Stmt} {σ : L2.St} {H : Hp} {Q : VK} {D : Ends} {pos p0 : Pos} {QT : Bool → Hp → Prop} {N G : List Str} {sc : Scope}
theorem In.loc (I : In X N G sc) {i : Nat} {x : Str} (h : At N i x) : Loc X.env.scope x := by rw [I.sc]; exact (I.ok.lo x h.mem).1
theorem In.vis (I : In X N G sc) {i : Nat} {x : Str} (h : At N i x) : Vis X.env.scope x := by
  rcases I.loc h with z | z
  · exact .inl z
  · exact .inr (.inl z)
theorem In.hi (I : In X N G sc) {i : Nat} {x : Str} (h : At N i x) : X.N[i]? = some x := by
  obtain ⟨C, e⟩ := I.n
  have hl : i < N.length := by
    have := h.get
    exact (List.getElem?_eq_some_iff.mp this).1
  rw [e, List.getElem?_append_left hl]
  exact h.get
theorem In.f (I : In X N G sc) {x : Str} : X.fn x = true ∨ X.env.scope.names.lookup x = some .local := .inl (by rw [I.fn])
theorem In.g (I : In X N G sc) {i : Nat} {x : Str} (h : At G i x) : Gl X x := by
  show X.env.scope.names.lookup x = _
  rw [I.sc]
  exact (I.ok.gl x h.mem).1
theorem In.gd (I : In X N G sc) {i : Nat} {x : Str} (h : At G i x) : (x == ("__debug__" : Str)) = false := (I.ok.gl x h.mem).2.1
theorem In.gn (I : In X N G sc) {i : Nat} {x : Str} (h : At G i x) : x ≠ "__name__" := (I.ok.gl x h.mem).2.2
theorem In.never (I : In X N G sc) : PassesOwn (model X.prog X.w) X.A X.env X.xe := I.nev

/-! ### statements -/
theorem l_nil {nx : L2.St → Hp → Prop} {rt : VK} {bk ct : L2.St → Hp → Prop} (q : nx σ H) : wL X [] ⟨nx, rt, bk, ct⟩ σ H := l_of pss_nil q
theorem l_cons {nx : L2.St → Hp → Prop} {rt : VK} {bk ct : L2.St → Hp → Prop} (q : wS X st ⟨fun σ' H' => wL X sts ⟨nx, rt, bk, ct⟩ σ' H', rt, bk, ct⟩ σ H) : wL X (st :: sts) ⟨nx, rt, bk, ct⟩ σ H := l_of (pss_cons ps pl) q
theorem s_set {nx : L2.St → Hp → Prop} {rt : VK} {bk ct : L2.St → Hp → Prop} {i : Nat} {x : Str} {pos' : Pos} (q : wE X e σ H fun v H' => nx (σ.set i (some v)) H') (I : In X N G sc := by assumption) (hA : At N i x := by repeat (first | with_reducible apply At.z | with_reducible apply At.s)) (hs : swapsWith e (some (.Name x pos')) pos.line X.env = pure false := by rfl) :
    wS X (.Assign [.Name x pos'] e pos) ⟨nx, rt, bk, ct⟩ σ H := s_of (ps_set I.nd (I.hi hA) (I.loc hA) pe hs I.f) q
theorem s_ret {nx : L2.St → Hp → Prop} {rt : VK} {bk ct : L2.St → Hp → Prop} (q : wE X e σ H rt) : wS X (.Return (some e) pos) ⟨nx, rt, bk, ct⟩ σ H := s_of (ps_ret pe) q
theorem s_retN {nx : L2.St → Hp → Prop} {rt : VK} {bk ct : L2.St → Hp → Prop} (q : rt .non H) : wS X (.Return none pos) ⟨nx, rt, bk, ct⟩ σ H := s_of ps_retN q
theorem s_pass {nx : L2.St → Hp → Prop} {rt : VK} {bk ct : L2.St → Hp → Prop} (q : nx σ H) : wS X (.Pass pos) ⟨nx, rt, bk, ct⟩ σ H := s_of ps_pass q
theorem s_brk {nx : L2.St → Hp → Prop} {rt : VK} {bk ct : L2.St → Hp → Prop} (q : bk σ H) : wS X (.Break pos) ⟨nx, rt, bk, ct⟩ σ H := s_of ps_break q
theorem s_cnt {nx : L2.St → Hp → Prop} {rt : VK} {bk ct : L2.St → Hp → Prop} (q : ct σ H) : wS X (.Continue pos) ⟨nx, rt, bk, ct⟩ σ H := s_of ps_continue q
theorem s_expr {nx : L2.St → Hp → Prop} {rt : VK} {bk ct : L2.St → Hp → Prop} (q : wE X e σ H fun _ H' => nx σ H') (hs : swapsWith e none pos.line X.env = pure false := by rfl) : wS X (.Expr e pos) ⟨nx, rt, bk, ct⟩ σ H := s_of (ps_expr pe hs) q
theorem s_if {nx : L2.St → Hp → Prop} {rt : VK} {bk ct : L2.St → Hp → Prop} {A B : List Stmt} (q : wT X c σ H fun k H1 => if k = true then wL X A ⟨nx, rt, bk, ct⟩ σ H1 else wL X B ⟨nx, rt, bk, ct⟩ σ H1) : wS X (.If c A B pos) ⟨nx, rt, bk, ct⟩ σ H := s_of (ps_if pt pl pl) q
theorem s_fld {nx : L2.St → Hp → Prop} {rt : VK} {bk ct : L2.St → Hp → Prop} {o value : Expr} {f : Str} {pos' : Pos} (q : wE X value σ H fun y H1 => wE X o σ H1 fun x H2 => ∃ a C dx fs, x = .ref a ∧ H2 a = some (.ins C dx fs) ∧ Cls X.K C ∧ NoAttr X.K C f ∧ fs.length < 1000 ∧ nx σ (upd H2 a (.ins C dx (putF f y fs))))
    (hs : swapsWith value (some (.Attribute o f pos')) pos.line X.env = pure false := by rfl) : wS X (.Assign [.Attribute o f pos'] value pos) ⟨nx, rt, bk, ct⟩ σ H := s_of (ps_fld pe pe hs) q
/-- o[i] = v -/
theorem s_sub {nx : L2.St → Hp → Prop} {rt : VK} {bk ct : L2.St → Hp → Prop} {o i value : Expr} {pos' : Pos} (q : wE X value σ H fun v H1 => wE X o σ H1 fun x H2 => wE X i σ H2 fun y H3 => wSet X x y v H3 fun H4 => nx σ H4)
    (hs : swapsWithSole [.Subscript o i pos'] value pos.line X.env = pure false := by rfl) (hw : swappedStores [.Subscript o i pos'] value X.env = pure none := by rfl) (h1 : (assignEach [.Subscript o i pos'] X.env).map (·.2) = [assign (.Subscript o i pos') X.env] := by rfl)
    (ha : ∀ v, assign (.Subscript o i pos') X.env v = (do let ov ← holding [v] (eval o X.env); let iv ← holding [v, ov] (eval i X.env); standAt pos'; holding [v, ov, iv] (setItem ov iv v); release [v, ov, iv] []) := by intro _; rfl) : wS X (.Assign [.Subscript o i pos'] value pos) ⟨nx, rt, bk, ct⟩ σ H := s_of (ps_asg pe (pg_sub pe pe pset ha) hs hw h1) q
/-- two names from a tuple -/
theorem s_tup2 {nx : L2.St → Hp → Prop} {rt : VK} {bk ct : L2.St → Hp → Prop} {i j : Nat} {x y : Str} {k : Nat} {px py pt : Pos} (q : wE X e σ H fun v H1 => ∃ a u w, v = .ref a ∧ SqT X.K H1 a [u, w] ∧ nx ((σ.set i (some u)).set j (some w)) H1)
    (I : In X N G sc := by assumption) (hc : X.calm = true := by rfl) (hA : At N i x := by repeat (first | with_reducible apply At.z | with_reducible apply At.s)) (hB : At N j y := by repeat (first | with_reducible apply At.z | with_reducible apply At.s))
    (hs : swapsWithSole [.Tuple [.Name x px, .Name y py] k pt] e pos.line X.env = pure false := by rfl) (hw : swappedStores [.Tuple [.Name x px, .Name y py] k pt] e X.env = pure none := by rfl) (h1 : (assignEach [.Tuple [.Name x px, .Name y py] k pt] X.env).map (·.2) = [assign (.Tuple [.Name x px, .Name y py] k pt) X.env] := by rfl) :
    wS X (.Assign [.Tuple [.Name x px, .Name y py] k pt] e pos) ⟨nx, rt, bk, ct⟩ σ H := by
  refine s_of (ps_asg pe (pg_tup hc (pgs_cons (pg_name I.nd (I.hi hA) (I.loc hA) I.f) (pgs_cons (pg_name I.nd (I.hi hB) (I.loc hB) I.f) pgs_nil))) hs hw h1) (e_mono q fun v H1 q1 => ?_)
  obtain ⟨ad, u, w, ev, hq, q2⟩ := q1
  exact ⟨ad, [u, w], ev, hq, rfl, u, [w], rfl, w, [], rfl, rfl, q2⟩
/-! ### expressions -/
theorem e_var {i : Nat} {x : Str} {v : V} (q : Q v H) (I : In X N G sc := by assumption) (hA : At N i x := by repeat (first | with_reducible apply At.z | with_reducible apply At.s)) (hσ : σ[i]? = some (some v) := by exact rfl) : wE X (.Name x pos) σ H Q :=
  e_of (pe_var (I.hi hA) (I.vis hA) (I.ok.lo x hA.mem).2.1 (I.ok.lo x hA.mem).2.2) ⟨v, hσ, q⟩
theorem e_int {i : Int} {j} (q : Q (.int i) H) : wE X (.Constant (.int i) j pos) σ H Q := e_of pe_int q
theorem e_bl {k : Bool} {j} (q : Q (.bl k) H) : wE X (.Constant (.bool k) j pos) σ H Q := e_of pe_bl q
theorem e_non {j} (q : Q .non H) : wE X (.Constant .none j pos) σ H Q := e_of pe_non q
theorem e_str {x : Str} {j} (q : Q (.str x) H) : wE X (.Constant (.str x) j pos) σ H Q := e_of pe_str q
theorem e_bin {op : Operator} (q : wE X a σ H fun x H1 => wE X b σ H1 fun y H2 => wB X op x y H2 Q) : wE X (.BinOp a op b pos) σ H Q := e_of (pe_op opb pe pe) q
theorem e_cmp {op : CmpOp} (q : wE X a σ H fun x H1 => wE X b σ H1 fun y H2 => wK X op x y H2 Q) (hm : behindInMarks op b = false := by first | exact nomark _ | rfl) : wE X (.Compare a [op] [b] pos) σ H Q := e_of (pe_cmpR opk pe pe hm) q
theorem t_cmp {op : CmpOp} (q : wE X a σ H fun x H1 => wE X b σ H1 fun y H2 => wK X op x y H2 fun z H3 => ∃ k, z = .bl k ∧ QT k H3) (hm : behindInMarks op b = false := by first | exact nomark _ | rfl) : wT X (.Compare a [op] [b] pos) σ H QT := t_of (pt_cmpR opk pe pe hm) q
theorem t_val (q : wE X e σ H fun z H3 => ∃ k, z = .bl k ∧ QT k H3) (he : ∀ whole, isTrue e X.env whole = (do let v ← whole; standAt e.pos; holding [v] (truthy v)) := by intro _; rfl) : wT X e σ H QT := t_of (pt_val pe he) q
theorem t_not (q : wT X a σ H fun k H1 => QT (!k) H1) : wT X (.UnaryOp .Not a pos) σ H QT := t_of (pt_not pt) q
theorem t_w (q : wW X e σ H QT) : wT X e σ H QT := t_of pw.pt q
theorem w_and1 (q : wT X a σ H QT) : wW X (.BoolOp .And [a] pos) σ H QT := w_of (pw_and1 pt) q
theorem w_or1 (q : wT X a σ H QT) : wW X (.BoolOp .Or [a] pos) σ H QT := w_of (pw_or1 pt) q
theorem w_and (q : wT X a σ H fun k H1 => if k = true then wW X (.BoolOp .And (b :: rest) pos) σ H1 QT else QT false H1) : wW X (.BoolOp .And (a :: b :: rest) pos) σ H QT := w_of (pw_and pt pw) q
theorem w_or (q : wT X a σ H fun k H1 => if k = true then QT true H1 else wW X (.BoolOp .Or (b :: rest) pos) σ H1 QT) : wW X (.BoolOp .Or (a :: b :: rest) pos) σ H QT := w_of (pw_or pt pw) q
theorem e_one {op} (q : wE X a σ H Q) : wE X (.BoolOp op [a] pos) σ H Q := e_of (pe_one pe) q
theorem e_and (q : wE X a σ H fun x H1 => ∃ k, x = .bl k ∧ if k = true then wE X (.BoolOp .And (b :: rest) pos) σ H1 Q else Q (.bl false) H1) : wE X (.BoolOp .And (a :: b :: rest) pos) σ H Q := e_of (pe_and pe pe) q
theorem e_or (q : wE X a σ H fun x H1 => ∃ k, x = .bl k ∧ if k = true then Q (.bl true) H1 else wE X (.BoolOp .Or (b :: rest) pos) σ H1 Q) : wE X (.BoolOp .Or (a :: b :: rest) pos) σ H Q := e_of (pe_or pe pe) q
theorem e_not (q : wE X a σ H fun x H1 => ∃ k, x = .bl k ∧ Q (.bl (!k)) H1) : wE X (.UnaryOp .Not a pos) σ H Q := e_of (pe_not pe) q
theorem e_ifExp (q : wT X c σ H fun k H1 => if k = true then wE X a σ H1 Q else wE X b σ H1 Q) : wE X (.IfExp c a b pos) σ H Q := e_of (pe_ifExp pt pe pe) q
theorem e_ix (q : wE X a σ H fun x H1 => wE X b σ H1 fun y H2 => wIx X x y H2 Q) (hs : PlainIx b := by intro _ _; rfl) : wE X (.Subscript a b pos) σ H Q := e_of (pe_ix ixr pe pe hs) q
theorem e_fld {f : Str} (q : wE X e σ H fun x H1 => ∃ a C dx fs v, x = .ref a ∧ H1 a = some (.ins C dx fs) ∧ Cls X.K C ∧ NoAttr X.K C f ∧ fs.lookup f = some v ∧ Q v H1) (hb : attributeBase e f X.env (eval e X.env) = eval e X.env := by rfl) : wE X (.Attribute e f pos) σ H Q := e_of (pe_fld pe hb) q
theorem a_nil {QA : List V → Hp → Prop} (q : QA [] H) : wA X [] σ H QA := a_of pa_nil q
theorem a_cons {QA : List V → Hp → Prop} (q : wE X e σ H fun x H1 => wA X es σ H1 fun xs H2 => QA (x :: xs) H2) (hs : starEach (e :: es) X.env = (false, eval e X.env) :: starEach es X.env := by rfl) : wA X (e :: es) σ H QA := a_of (pa_cons pe pa hs) q
theorem e_tup {k} (q : wA X es σ H fun xs H1 => xs.length ≤ sizeLine ∧ ∀ p H2, Same H1 H2 → H1 p = none → H2 p = some (.tup xs) → Q (.ref p) H2) : wE X (.Tuple es k pos) σ H Q :=
  e_of (pe_tup pa) (a_mono q fun xs H1 z => ⟨z.1, fun p np => z.2 p _ (fun b o eo => by rw [upd_ne (ne_of_none eo np)]; exact eo) np upd_same⟩)
theorem e_lst (q : wA X es σ H fun xs H1 => xs.length ≤ sizeLine ∧ ∀ p H2, Same H1 H2 → H1 p = none → H2 p = some (.lst xs) → Q (.ref p) H2) : wE X (.List es pos) σ H Q :=
  e_of (pe_lst pa) (a_mono q fun xs H1 z => ⟨z.1, fun p np => z.2 p _ (fun b o eo => by rw [upd_ne (ne_of_none eo np)]; exact eo) np upd_same⟩)
/-! ### calls -/
/-- a def of the module that no exception leaves -/
structure Fn (P : Program) (w : World) (K : PySem.W.Frag) (mg : Str → Option Value) (base : Heap) (k : Nat) (x : Str) (sp : Sp) : Prop where
  ex : ∃ (f : Addr) (fd : FuncData) (ps : List Str), FnOk P w K mg base CX0 k f fd ps sp ∧ mg x = some (.ref f) ∧ PySem.W.keepIn K (.ref f) = true ∧ Binds K fd ps []
theorem e_call {g : Nat} {k n : Nat} {x : Str} {sp : Sp} (F : Fn X.prog X.w X.K X.mg X.base k x sp) (hr : Room n X.A) (hk : k ≤ n) (q : wA X (e :: es) σ H fun vs H1 => sp vs H1 Q E0) (I : In X N G sc := by assumption) (hG : At G g x := by repeat (first | with_reducible apply At.z | with_reducible apply At.s))
    (he : starEach (e :: es) X.env = (false, eval e X.env) :: starEach es X.env := by rfl) (hpl : (backTo pos (starEach es X.env)).any (·.1) = false := by rfl) : wE X (.Call (.Name x p0) (e :: es) [] pos) σ H Q := by
  obtain ⟨f, fd, ps, F0, hm, hkp, hb⟩ := F.ex
  refine e_of (pe_call F0 (hr.mono hk) (I.g hG) hm hkp hb .nil pass0 pa (I.gd hG) he hpl) ?_
  show wA X (e :: es) σ H fun vs H1 => sp (vs ++ []) H1 Q E0
  simp only [List.append_nil]
  exact q
theorem e_call0 {g : Nat} {k n : Nat} {x : Str} {sp : Sp} (F : Fn X.prog X.w X.K X.mg X.base k x sp) (hr : Room n X.A) (hk : k ≤ n) (q : sp [] H Q E0) (I : In X N G sc := by assumption) (hG : At G g x := by repeat (first | with_reducible apply At.z | with_reducible apply At.s)) : wE X (.Call (.Name x p0) [] [] pos) σ H Q := by
  obtain ⟨f, fd, ps, F0, hm, hkp, hb⟩ := F.ex
  exact e_of (pe_call0 F0 (hr.mono hk) (I.g hG) hm hkp hb .nil pass0 (I.gd hG)) q
theorem e_callB {g : Nat} {x : Str} {id : String} (hm : X.mg x = none) (hv : bootBuiltins x = some (.builtin id)) (q : wA X (e :: es) σ H fun vs H1 => wC X (.builtin id) vs H1 Q) (I : In X N G sc := by assumption) (hG : At G g x := by repeat (first | with_reducible apply At.z | with_reducible apply At.s))
    (he : starEach (e :: es) X.env = (false, eval e X.env) :: starEach es X.env := by rfl) (hpl : (backTo pos (starEach es X.env)).any (·.1) = false := by rfl) : wE X (.Call (.Name x p0) (e :: es) [] pos) σ H Q := e_of (pe_callB cr (I.g hG) hm hv pa (I.gn hG) (I.gd hG) he hpl) q
theorem e_callTy {g : Nat} {x : Str} {T : String} (hm : X.mg x = none) (hv : bootBuiltins x = some (.type T)) (q : wA X (e :: es) σ H fun vs H1 => wC X (.type T) vs H1 Q) (I : In X N G sc := by assumption) (hG : At G g x := by repeat (first | with_reducible apply At.z | with_reducible apply At.s))
    (he : starEach (e :: es) X.env = (false, eval e X.env) :: starEach es X.env := by rfl) (hpl : (backTo pos (starEach es X.env)).any (·.1) = false := by rfl) : wE X (.Call (.Name x p0) (e :: es) [] pos) σ H Q := e_of (pe_callTy cr (I.g hG) hm hv pa (I.gn hG) (I.gd hG) he hpl) q
theorem e_glob {g : Nat} {x : Str} {v : V} {u : Value} (hm : X.mg x = some u) (r : RelV v u) (q : Q v H) (I : In X N G sc := by assumption) (hG : At G g x := by repeat (first | with_reducible apply At.z | with_reducible apply At.s)) : wE X (.Name x pos) σ H Q := e_of (pe_glob (I.g hG) hm r (I.gd hG)) q
theorem e_bltn {g : Nat} {x : Str} {v : V} {u : Value} (hm : X.mg x = none) (hv : bootBuiltins x = some u) (r : RelV v u) (q : Q v H) (I : In X N G sc := by assumption) (hG : At G g x := by repeat (first | with_reducible apply At.z | with_reducible apply At.s)) : wE X (.Name x pos) σ H Q := e_of (pe_bltn (I.g hG) hm hv r (I.gn hG) (I.gd hG)) q
/-- a method of a class that no exception leaves -/
structure Mt (P : Program) (w : World) (K : PySem.W.Frag) (mg : Str → Option Value) (base : Heap) (k : Nat) (C : Addr) (m : Str) (sp : Sp) : Prop where
  ex : ∃ (f : Addr) (fd : FuncData) (ps : List Str), FnOk P w K mg base CX0 k f fd ps sp ∧ Meth K C m f ∧ Binds K fd ps [] ∧ Cls K C
theorem e_meth {k n : Nat} {o : Expr} {m : Str} {C : Addr} {apos : Pos} {pl : Sem Bool} {sp : Sp} (F : Mt X.prog X.w X.K X.mg X.base k C m sp) (hr : Room n X.A) (hk : k ≤ n)
    (q : wE X o σ H fun x H1 => ∃ a dx fs, x = .ref a ∧ H1 a = some (.ins C dx fs) ∧ fs.lookup m = none ∧ wA X (e :: es) σ H1 fun vs H2 => sp (x :: vs) H2 Q E0)
    (hst : starEach (e :: es) X.env = (false, eval e X.env) :: starEach es X.env := by rfl) (hpl : (backTo pos (starEach es X.env)).any (·.1) = false := by rfl)
    (ht : eval (.Call (.Attribute o m apos) (e :: es) [] pos) X.env = (do let ov ← eval o X.env; standAt apos.atName; let (f, first) ← holding [ov] (getMethod ov m pl); callWith pos f first (backTo pos (starEach (e :: es) X.env)) (backToKw pos (keywordEach [] X.env))) := by rfl) :
    wE X (.Call (.Attribute o m apos) (e :: es) [] pos) σ H Q := by
  obtain ⟨f, fd, ps, F0, M, hb, c⟩ := F.ex
  refine e_of (pe_meth (pl := pl) pe c M F0 (hr.mono hk) hb .nil pass0 pa hst hpl ht) ?_
  show wE X o σ H fun x H1 => ∃ a dx fs, x = .ref a ∧ H1 a = some (.ins C dx fs) ∧ fs.lookup m = none ∧ wA X (e :: es) σ H1 fun vs H2 => sp (x :: (vs ++ [])) H2 Q E0
  simp only [List.append_nil]
  exact q
theorem e_meth0 {k n : Nat} {o : Expr} {m : Str} {C : Addr} {apos : Pos} {pl : Sem Bool} {sp : Sp} (F : Mt X.prog X.w X.K X.mg X.base k C m sp) (hr : Room n X.A) (hk : k ≤ n)
    (q : wE X o σ H fun x H1 => ∃ a dx fs, x = .ref a ∧ H1 a = some (.ins C dx fs) ∧ fs.lookup m = none ∧ sp [x] H1 Q E0)
    (ht : eval (.Call (.Attribute o m apos) [] [] pos) X.env = (do let ov ← eval o X.env; standAt apos.atName; let (f, first) ← holding [ov] (getMethod ov m pl); callWith pos f first (backTo pos (starEach [] X.env)) (backToKw pos (keywordEach [] X.env))) := by rfl) :
    wE X (.Call (.Attribute o m apos) [] [] pos) σ H Q := by
  obtain ⟨f, fd, ps, F0, M, hb, c⟩ := F.ex
  exact e_of (pe_meth0 (pl := pl) pe c M F0 (hr.mono hk) hb .nil pass0 ht) q
/-- an own class whose __init__ no exception leaves -/
structure Kl (P : Program) (w : World) (K : PySem.W.Frag) (mg : Str → Option Value) (base : Heap) (k : Nat) (x : Str) (C : Addr) (sp : Sp) : Prop where
  ex : ∃ (f : Addr) (fd : FuncData) (ps : List Str), FnOk P w K mg base CX0 k f fd ps sp ∧ mg x = some (.ref C) ∧ Mk K C f ∧ Binds K fd ps []
theorem e_make {g : Nat} {k n : Nat} {x : Str} {C : Addr} {sp : Sp} (F : Kl X.prog X.w X.K X.mg X.base k x C sp) (hr : Room n X.A) (hk : k + 1 ≤ n)
    (q : wA X (e :: es) σ H fun vs H1 => ∀ x dx, H1 x = none → H1 dx = none → dx ≠ x → sp (.ref x :: vs) (upd (upd H1 dx (.own x)) x (.ins C dx [])) (fun v H2 => v = .non ∧ Q (.ref x) H2) E0)
    (I : In X N G sc := by assumption) (hG : At G g x := by repeat (first | with_reducible apply At.z | with_reducible apply At.s)) (he : starEach (e :: es) X.env = (false, eval e X.env) :: starEach es X.env := by rfl) (hpl : (backTo pos (starEach es X.env)).any (·.1) = false := by rfl) : wE X (.Call (.Name x p0) (e :: es) [] pos) σ H Q := by
  obtain ⟨f, fd, ps, F0, hm, M, hb⟩ := F.ex
  refine e_of (pe_make M F0 (hr.mono hk) (I.g hG) hm hb .nil pass0 pa (I.gd hG) he hpl) ?_
  show wA X (e :: es) σ H fun vs H1 => ∀ x dx, H1 x = none → H1 dx = none → dx ≠ x → sp (.ref x :: (vs ++ [])) (upd (upd H1 dx (.own x)) x (.ins C dx [])) (fun v H2 => v = .non ∧ Q (.ref x) H2) E0
  simp only [List.append_nil]
  exact q
end
/-! ### values -/
section
variable {X : Cx} {H : Hp} {Q : VK} {i j : Int} {σ : L2.St} {D : Ends}
theorem o_add (q : Q (.int (i + j)) H) : wB X .Add (.int i) (.int j) H Q := b_of op_add ⟨i, j, rfl, rfl, q⟩
theorem o_sub (q : Q (.int (i - j)) H) : wB X .Sub (.int i) (.int j) H Q := b_of op_sub ⟨i, j, rfl, rfl, q⟩
theorem o_mul (c : CMul i j) (q : Q (.int (i * j)) H) : wB X .Mult (.int i) (.int j) H Q := b_of op_mul ⟨i, j, rfl, rfl, c, q⟩
theorem o_mod (c : 0 < j) (q : Q (.int (i % j)) H) : wB X .Mod (.int i) (.int j) H Q := b_of op_mod ⟨i, j, rfl, rfl, c, q⟩
theorem o_fdiv (c : 0 < j ∧ j < 1073741824) (q : Q (.int (i / j)) H) : wB X .FloorDiv (.int i) (.int j) H Q := b_of op_fdiv ⟨i, j, rfl, rfl, c, q⟩
theorem o_pow (c : CPow i j) (q : Q (.int (i ^ j.toNat)) H) : wB X .Pow (.int i) (.int j) H Q := b_of op_pow ⟨i, j, rfl, rfl, c, q⟩
theorem o_lt (q : Q (.bl (decide (i < j))) H) : wK X .Lt (.int i) (.int j) H Q := k_of op_lt ⟨i, j, rfl, rfl, q⟩
theorem o_le (q : Q (.bl (decide (i ≤ j))) H) : wK X .LtE (.int i) (.int j) H Q := k_of op_le ⟨i, j, rfl, rfl, q⟩
theorem o_gt (q : Q (.bl (decide (j < i))) H) : wK X .Gt (.int i) (.int j) H Q := k_of op_gt ⟨i, j, rfl, rfl, q⟩
theorem o_ge (q : Q (.bl (decide (j ≤ i))) H) : wK X .GtE (.int i) (.int j) H Q := k_of op_ge ⟨i, j, rfl, rfl, q⟩
theorem dint {i j : Int} : decide (V.int i = V.int j) = decide (i = j) := by simp
theorem dbl {i j : Bool} : decide (V.bl i = V.bl j) = decide (i = j) := by simp
theorem dstr {i j : Str} : decide (V.str i = V.str j) = decide (i = j) := by simp
theorem o_eqI (q : Q (.bl (decide (i = j))) H) : wK X .Eq (.int i) (.int j) H Q := k_of op_eq ⟨rfl, dint ▸ q⟩
theorem o_neI (q : Q (.bl (!decide (i = j))) H) : wK X .NotEq (.int i) (.int j) H Q := k_of op_ne ⟨rfl, dint ▸ q⟩
theorem o_eqB {i j : Bool} (q : Q (.bl (decide (i = j))) H) : wK X .Eq (.bl i) (.bl j) H Q := k_of op_eq ⟨rfl, dbl ▸ q⟩
theorem o_neB {i j : Bool} (q : Q (.bl (!decide (i = j))) H) : wK X .NotEq (.bl i) (.bl j) H Q := k_of op_ne ⟨rfl, dbl ▸ q⟩
theorem o_eqS {i j : Str} (q : Q (.bl (decide (i = j))) H) : wK X .Eq (.str i) (.str j) H Q := k_of op_eq ⟨rfl, dstr ▸ q⟩
theorem o_neS {i j : Str} (q : Q (.bl (!decide (i = j))) H) : wK X .NotEq (.str i) (.str j) H Q := k_of op_ne ⟨rfl, dstr ▸ q⟩
/-- a pair of ints beside a text -/
theorem o_eqPS {n : Nat} {a : Addr} {u v : Int} {z : Str} (hr : Room n X.A) (h : H a = some (.tup [.int u, .int v])) (hz : SeqAt.shaped (.str z) = true) (q : Q (.bl false) H) : wK X .Eq (.ref a) (.str z) H Q :=
  k_of (op_eqD hr.units) ⟨.tuple [.int u, .int v], .str z, .tup (SqT.of h) (.cons (.int u) (.cons (.int v) .nil)), .str z, rfl, hz, q⟩
theorem ix_l {a : Addr} {xs : List V} {v : V} (h : SqL X.K H a xs) (e : atI xs i = some v) (q : Q v H) : wIx X (.ref a) (.int i) H Q := ix_of ix_list ⟨a, xs, i, v, rfl, rfl, h, e, q⟩
theorem ix_t {a : Addr} {xs : List V} {v : V} (h : SqT X.K H a xs) (e : atI xs i = some v) (q : Q v H) : wIx X (.ref a) (.int i) H Q := ix_of ix_tup ⟨a, xs, i, v, rfl, rfl, h, e, q⟩
theorem set_l {a : Addr} {xs : List V} {v : V} {k : Nat} {QH : Hp → Prop} (h : H a = some (.lst xs)) (e : ixN xs.length i = some k) (q : QH (upd H a (.lst (xs.set k v)))) : wSet X (.ref a) (.int i) v H QH := set_of set_list ⟨a, xs, i, k, rfl, rfl, h, e, q⟩
theorem c_int (q : Q (.int i) H) : wC X (.type "int") [.int i] H Q := c_of call_int1 (.inl ⟨i, rfl, q⟩)
theorem c_abs (q : Q (.int (if i < 0 then -i else i)) H) : wC X (.builtin "abs") [.int i] H Q := c_of call_abs ⟨i, rfl, q⟩
theorem c_max (hc : X.calm = true) (q : Q (.int (if j > i then j else i)) H) : wC X (.builtin "max") [.int i, .int j] H Q := c_of (call_max2 hc) ⟨i, j, rfl, q⟩
theorem c_min (hc : X.calm = true) (q : Q (.int (if j < i then j else i)) H) : wC X (.builtin "min") [.int i, .int j] H Q := c_of (call_min2 hc) ⟨i, j, rfl, q⟩
theorem c_lenL {a : Addr} {xs : List V} (h : SqL X.K H a xs) (q : Q (.int xs.length) H) : wC X (.builtin "len") [.ref a] H Q := c_of call_len_seq ⟨a, xs, rfl, .inl h, q⟩
theorem c_lenT {a : Addr} {xs : List V} (h : SqT X.K H a xs) (q : Q (.int xs.length) H) : wC X (.builtin "len") [.ref a] H Q := c_of call_len_seq ⟨a, xs, rfl, .inr h, q⟩
theorem c_isi {x c : V} {t u : Value} {b : Bool} (ty : TyX X.K H x t) (k : ClsV c u) (e : PySem.W.kitOne X.K t u = some b) (q : Q (.bl b) H) : wC X (.builtin "isinstance") [x, c] H Q := c_of call_isi ⟨x, c, t, u, b, rfl, k, ty, e, q⟩
theorem c_isiT {x : V} {tp : Addr} {cs : List V} {t : Value} {us : List Value} {b : Bool} (ty : TyX X.K H x t) (h : H tp = some (.tup cs)) (k : Paired ClsV cs us) (e : PySem.W.kitAny X.K t us = some b) (q : Q (.bl b) H) : wC X (.builtin "isinstance") [x, .ref tp] H Q :=
  c_of call_isiT ⟨x, tp, cs, t, us, b, rfl, h, k, ty, e, q⟩
theorem ty_non : TyX X.K H .non (.type "NoneType") := .base .non
theorem ty_bl {b : Bool} : TyX X.K H (.bl b) (.type "bool") := .base (.bl b)
theorem ty_int : TyX X.K H (.int i) (.type "int") := .base (.int i)
theorem ty_str {z : Str} : TyX X.K H (.str z) (.type "str") := .base (.str z)
theorem ty_tup {a : Addr} {xs : List V} (h : H a = some (.tup xs)) : TyX X.K H (.ref a) (.type "tuple") := .base (.tup h)
theorem ty_lst {a : Addr} {xs : List V} (h : H a = some (.lst xs)) : TyX X.K H (.ref a) (.type "list") := .base (.lst h)
theorem two_ty {a b : String} : Paired ClsV [.ty a, .ty b] [.type a, .type b] := .cons (.ty a) (.cons (.ty b) .nil)
theorem kit2 {K : PySem.W.Frag} {t a b : String} {x y : Bool} (h1 : kitB t a = some x) (h2 : kitB t b = some y) : PySem.W.kitAny K (.type t) [.type a, .type b] = some (x || y) := by
  cases x with
  | true => exact kitAny_cons (kit_ty h1) (fun z => nomatch z) fun _ => rfl
  | false =>
    refine kitAny_cons (kit_ty h1) (fun _ => ?_) (fun z => nomatch z)
    cases y with
    | true => exact kitAny_cons (kit_ty h2) (fun z => nomatch z) fun _ => rfl
    | false => exact kitAny_cons (kit_ty h2) (fun _ => rfl) (fun z => nomatch z)
theorem kb_int_tuple : kitB "int" "tuple" = some false := by decide +kernel
theorem kb_int_list : kitB "int" "list" = some false := by decide +kernel
theorem kb_int_int : kitB "int" "int" = some true := by decide +kernel
theorem kb_int_bool : kitB "int" "bool" = some false := by decide +kernel
theorem kb_int_str : kitB "int" "str" = some false := by decide +kernel
theorem kb_tuple_tuple : kitB "tuple" "tuple" = some true := by decide +kernel
theorem kb_tuple_list : kitB "tuple" "list" = some false := by decide +kernel
theorem kb_tuple_str : kitB "tuple" "str" = some false := by decide +kernel
theorem kb_tuple_int : kitB "tuple" "int" = some false := by decide +kernel
theorem kb_tuple_bool : kitB "tuple" "bool" = some false := by decide +kernel
theorem kb_list_tuple : kitB "list" "tuple" = some false := by decide +kernel
theorem kb_list_list : kitB "list" "list" = some true := by decide +kernel
theorem kb_list_str : kitB "list" "str" = some false := by decide +kernel
theorem kb_list_int : kitB "list" "int" = some false := by decide +kernel
theorem kb_list_bool : kitB "list" "bool" = some false := by decide +kernel
theorem kb_bool_bool : kitB "bool" "bool" = some true := by decide +kernel
theorem kb_bool_int : kitB "bool" "int" = some true := by decide +kernel
theorem kb_bool_str : kitB "bool" "str" = some false := by decide +kernel
theorem kb_bool_tuple : kitB "bool" "tuple" = some false := by decide +kernel
theorem kb_bool_list : kitB "bool" "list" = some false := by decide +kernel
theorem kb_str_str : kitB "str" "str" = some true := by decide +kernel
theorem kb_str_bool : kitB "str" "bool" = some false := by decide +kernel
theorem kb_str_int : kitB "str" "int" = some false := by decide +kernel
theorem kb_str_tuple : kitB "str" "tuple" = some false := by decide +kernel
theorem kb_str_list : kitB "str" "list" = some false := by decide +kernel
theorem kb_non_bool : kitB "NoneType" "bool" = some false := by decide +kernel
theorem kb_non_int : kitB "NoneType" "int" = some false := by decide +kernel
theorem kb_non_str : kitB "NoneType" "str" = some false := by decide +kernel
theorem kb_non_tuple : kitB "NoneType" "tuple" = some false := by decide +kernel
theorem kb_non_list : kitB "NoneType" "list" = some false := by decide +kernel
theorem b_int : bootBuiltins "int" = some (.type "int") := by decide +kernel
theorem b_bool : bootBuiltins "bool" = some (.type "bool") := by decide +kernel
theorem b_str : bootBuiltins "str" = some (.type "str") := by decide +kernel
theorem b_tuple : bootBuiltins "tuple" = some (.type "tuple") := by decide +kernel
theorem b_list : bootBuiltins "list" = some (.type "list") := by decide +kernel
theorem b_isi : bootBuiltins "isinstance" = some (.builtin "isinstance") := by decide +kernel
theorem b_len : bootBuiltins "len" = some (.builtin "len") := by decide +kernel
theorem b_abs : bootBuiltins "abs" = some (.builtin "abs") := by decide +kernel
theorem b_max : bootBuiltins "max" = some (.builtin "max") := by decide +kernel
theorem b_min : bootBuiltins "min" = some (.builtin "min") := by decide +kernel
/-! ### loops -/
theorem s_forR {nx : L2.St → Hp → Prop} {rt : VK} {bk ct : L2.St → Hp → Prop} {g : Nat} {N G : List Str} {sc : Scope} {x : Str} {i : Nat} {a : Expr} {body : List Stmt} {px p cp pos : Pos} (hm : X.mg "range" = none)
    (q : wE X a σ H fun v H1 => ∃ n : Nat, v = .int n ∧ n < 2 ^ 62 ∧ ∃ Pv : Nat → L2.St → Hp → Prop, Pv 0 σ H1 ∧ (∀ k σ H, k < n → Pv k σ H → wL X body ⟨Pv (k + 1), rt, nx, Pv (k + 1)⟩ (σ.set i (some (.int (k : Int)))) H) ∧ ∀ σ H, Pv n σ H → nx σ H)
    (I : In X N G sc := by assumption) (hc : X.calm = true := by rfl) (hA : At N i x := by repeat (first | with_reducible apply At.z | with_reducible apply At.s))
    (hG : At G g ("range" : Str) := by repeat (first | with_reducible apply At.z | with_reducible apply At.s)) (hs : starEach [a] X.env = [(false, eval a X.env)] := by rfl) (hs2 : ∀ z, foldedSetIterable (.Call (.Name "range" p) [a] [] cp) X.env z = pure z := by intro _; rfl)
    (hs1 : starEach (a :: []) X.env = (false, eval a X.env) :: starEach [] X.env := by rfl) :
    wS X (.For (.Name x px) (.Call (.Name "range" p) [a] [] cp) body [] pos) ⟨nx, rt, bk, ct⟩ σ H := by
  refine s_of (ps_for I.never hc (pi_range1 (I.g hG) hm (pa_cons pe pa_nil hs1) hs) (pg_name I.nd (I.hi hA) (I.loc hA) I.f) pl hs2) (e_mono q fun v H1 q1 => ?_)
  obtain ⟨n, rfl, hn, Pv, h0, hb, hd⟩ := q1
  refine ⟨(n : Int), rfl, by omega, by omega, ?_⟩
  rw [Int.toNat_natCast]
  refine for_range (n := n) Pv h0 (fun k σ H hk p => ?_) hd
  rw [Int.zero_add]
  exact hb k σ H hk p
theorem s_forL {nx : L2.St → Hp → Prop} {rt : VK} {bk ct : L2.St → Hp → Prop} {N G : List Str} {sc : Scope} {x : Str} {i : Nat} {a : Expr} {body : List Stmt} {px pos : Pos}
    (q : wE X a σ H fun v H1 => ∃ ad xs, v = .ref ad ∧ SqL X.K H1 ad xs ∧ ∃ Pv : Nat → L2.St → Hp → Prop, Pv 0 σ H1 ∧ (∀ k σ H, k ≤ xs.length → Pv k σ H → SqL X.K H ad xs) ∧ (∀ k y σ H, xs[k]? = some y → Pv k σ H → wL X body ⟨Pv (k + 1), rt, nx, Pv (k + 1)⟩ (σ.set i (some y)) H) ∧ ∀ σ H, Pv xs.length σ H → nx σ H)
    (I : In X N G sc := by assumption) (hc : X.calm = true := by rfl) (hA : At N i x := by repeat (first | with_reducible apply At.z | with_reducible apply At.s))
    (hs2 : ∀ z, foldedSetIterable a X.env z = pure z := by intro _; rfl) :
    wS X (.For (.Name x px) a body [] pos) ⟨nx, rt, bk, ct⟩ σ H := by
  refine s_of (ps_for I.never hc (pi_list pe) (pg_name I.nd (I.hi hA) (I.loc hA) I.f) pl hs2) (e_mono q fun v H1 q1 => ?_)
  obtain ⟨ad, xs, rfl, hl, Pv, h0, hk, hb, hd⟩ := q1
  exact ⟨ad, rfl, ⟨xs, hl⟩, for_list Pv h0 hk hb hd⟩
theorem s_forT {nx : L2.St → Hp → Prop} {rt : VK} {bk ct : L2.St → Hp → Prop} {N G : List Str} {sc : Scope} {x : Str} {i : Nat} {a : Expr} {body : List Stmt} {px pos : Pos}
    (q : wE X a σ H fun v H1 => ∃ ad xs, v = .ref ad ∧ SqT X.K H1 ad xs ∧ ∃ Pv : Nat → L2.St → Hp → Prop, Pv 0 σ H1 ∧ (∀ k σ H, k ≤ xs.length → Pv k σ H → SqT X.K H ad xs) ∧ (∀ k y σ H, xs[k]? = some y → Pv k σ H → wL X body ⟨Pv (k + 1), rt, nx, Pv (k + 1)⟩ (σ.set i (some y)) H) ∧ ∀ σ H, Pv xs.length σ H → nx σ H)
    (I : In X N G sc := by assumption) (hc : X.calm = true := by rfl) (hA : At N i x := by repeat (first | with_reducible apply At.z | with_reducible apply At.s))
    (hs2 : ∀ z, foldedSetIterable a X.env z = pure z := by intro _; rfl) :
    wS X (.For (.Name x px) a body [] pos) ⟨nx, rt, bk, ct⟩ σ H := by
  refine s_of (ps_for I.never hc (pi_tup pe) (pg_name I.nd (I.hi hA) (I.loc hA) I.f) pl hs2) (e_mono q fun v H1 q1 => ?_)
  obtain ⟨ad, xs, rfl, hl, Pv, h0, hk, hb, hd⟩ := q1
  exact ⟨ad, rfl, ⟨xs, hl⟩, for_tup Pv h0 hk hb hd⟩
/-! ### an own operator of an own class -/
theorem op_own {op : Operator} {k n : Nat} {C f : Addr} {fd : FuncData} {pn : List Str} {sp : Sp} (F : FnOk X.prog X.w X.K X.mg X.base CX0 k f fd pn sp) (hs : PySem.W.findIn X.K (.ref C) (PySem.dunder op.info.2) = some (some (.ref f))) (hf : PySem.W.isFn X.K (.ref f) = true)
    (hc : PySem.W.selfFirst X.K C = true) (hb : Binds X.K fd pn []) (hr : Room n X.A) (hk : k ≤ n) :
    OpR X (binaryOp op) (fun x y H Q => ∃ a b dx dy fs gs, x = .ref a ∧ y = .ref b ∧ H a = some (.ins C dx fs) ∧ H b = some (.ins C dy gs) ∧ sp [x, y] H (fun v H' => (∃ p, v = .ref p) ∧ Q v H') E0) := by
  intro pins s σ H x y u v Q I rx ry h
  obtain ⟨a, b, dx, dy, fs, gs, rfl, rfl, ha, hb', hsp⟩ := h
  cases rx
  cases ry
  obtain ⟨mA, J, _⟩ := ins_get I.hok ha
  obtain ⟨mB, J', _⟩ := ins_get I.hok hb'
  obtain ⟨od, J, _⟩ := J.look
  obtain ⟨od', J', _⟩ := J'.look
  obtain ⟨m, hF⟩ := I.fr
  refine PySem.W.binop_K hF I.ok.mod.kin J J'.type hc hs hf ?_
  refine wpAny_mono (run_fn (E := E0) F (hr.mono hk) hb .nil pass0 I (show Vals [V.ref a, V.ref b] [Value.ref a, Value.ref b] from .cons rfl (.cons rfl .nil)) (by rw [List.append_nil]; exact hsp)) (fun w s' z => ?_) fun _ _ z => z
  obtain ⟨v', H', I', rz, ⟨p, rfl⟩, q⟩ := z
  cases rz
  exact ⟨.ref p, H', I', rfl, q⟩
structure Op2 (P : Program) (w : World) (K : PySem.W.Frag) (mg : Str → Option Value) (base : Heap) (k : Nat) (C : Addr) (op : Operator) (sp : Sp) : Prop where
  ex : ∃ (f : Addr) (fd : FuncData) (pn : List Str), FnOk P w K mg base CX0 k f fd pn sp ∧ PySem.W.findIn K (.ref C) (PySem.dunder op.info.2) = some (some (.ref f)) ∧ PySem.W.isFn K (.ref f) = true ∧ PySem.W.selfFirst K C = true ∧ Binds K fd pn []
theorem o_own {op : Operator} {k n : Nat} {C a b dx dy : Addr} {fs gs : List (Str × V)} {sp : Sp} (F : Op2 X.prog X.w X.K X.mg X.base k C op sp) (hr : Room n X.A) (hk : k ≤ n) (ha : H a = some (.ins C dx fs)) (hb : H b = some (.ins C dy gs))
    (q : sp [.ref a, .ref b] H (fun v H' => (∃ p, v = .ref p) ∧ Q v H') E0) : wB X op (.ref a) (.ref b) H Q := by
  obtain ⟨f, fd, pn, G, hs, hf, hc, hb'⟩ := F.ex
  exact b_of (op_own G hs hf hc hb' hr hk) ⟨a, b, dx, dy, fs, gs, rfl, rfl, ha, hb, q⟩
end
/-! ### heaps -/
/-- all but a stays -/
def But (a : Addr) (H H' : Hp) : Prop := ∀ b o, b ≠ a → H b = some o → H' b = some o
theorem But.refl {a : Addr} {H : Hp} : But a H H := fun _ _ _ h => h
theorem But.trans {a : Addr} {H H1 H2 : Hp} (x : But a H H1) (y : But a H1 H2) : But a H H2 := fun b o n h => y b o n (x b o n h)
theorem But.of {a : Addr} {H H1 : Hp} (x : Same H H1) : But a H H1 := fun b o _ h => x b o h
theorem But.upd {a : Addr} {H H1 : Hp} {o : HO} (x : But a H H1) : But a H (L2.upd H1 a o) := fun b u n h => by
  rw [upd_ne n]
  exact x b u n h
theorem But.tup {a p : Addr} {H H1 : Hp} {l xs : List V} (x : But a H H1) (ha : H a = some (.lst l)) (hp : H p = some (.tup xs)) : H1 p = some (.tup xs) := x p _ (ne_of hp ha (by intro z; cases z)) hp
theorem But.ins {a p C dx : Addr} {H H1 : Hp} {l : List V} {fs : List (Str × V)} (x : But a H H1) (ha : H a = some (.lst l)) (hp : H p = some (.ins C dx fs)) : H1 p = some (.ins C dx fs) := x p _ (ne_of hp ha (by intro z; cases z)) hp
theorem But.frz {a p : Addr} {H H1 : Hp} {l : List V} {o : Obj} {u : HO} (x : But a H H1) (ha : H a = some (.lst l)) (hp : H p = some (.frz o u)) : H1 p = some (.frz o u) := x p _ (ne_of hp ha (by intro z; cases z)) hp
section
variable {P : Program} {w : World} {K : PySem.W.Frag} {mg : Str → Option Value} {base : Heap}
/-- a def of the module where the top has left it -/
structure Top (K : PySem.W.Frag) (mg : Str → Option Value) (x : Str) (st : Stmt) : Prop where
  ex : ∃ (f : Addr) (fd : FuncData), Fun K x x st f fd ∧ mg x = some (.ref f)
theorem top_mk {h : Heap} {x : Str} {st : Stmt} {f : Addr} {oc : Value} {od an : Option Addr} {osl : Array (Option Value)} {kV doc pm cdv ct : Value} (X : K.In h) (G : h.Ns mainGlobals mg) (a : PySem.W.nsIn K mainGlobals x = some (some (.ref f)))
    (l : K.lookup f = some ⟨oc, od, .func (PySem.W.fnOf x x (defArgs st) (defBody st) (defScope st) .none kV doc pm an cdv ct), osl⟩) (c : PySem.W.codeIn K cdv x = true) (k : PySem.W.keepIn K (.ref f) = true) : Top K mg x st :=
  ⟨f, _, fun_mk l c k, PySem.W.mg_of X G a⟩
theorem fn_ok {x : Str} {st : Stmt} {N G ps : List Str} {k : Nat} {sp : Sp} (T : Top K mg x st) (S : FnScope N ps (defScope st)) (O : ScOk N G (defScope st)) (len : ∀ vs H Q E, sp vs H Q E → vs.length = ps.length)
    (hb : ∀ (kV doc pm : Value) (an : Option Addr) (cdv ct : Value) (us : List Value), us.length = ps.length → bindArgs (PySem.W.fnOf x x (defArgs st) (defBody st) (defScope st) .none kV doc pm an cdv ct) ⟨us, []⟩ = pure (ps.zip us))
    (hbody : ∀ (f : Addr) (cdv : Value) (A : Around) (outer : List Env) (s : Shared) (H : Hp) (vs : List V) (Q : VK) (E : XK), Room k (A.deeper (envOfC x (defScope st) s.heap.objs.size f cdv)) → sp vs H Q E → In (cxOf CX0 P w K mg base N x (defScope st) f cdv A outer s H E).nox N G (defScope st) →
      wL (cxOf CX0 P w K mg base N x (defScope st) f cdv A outer s H E).nox (defBody st) { nx := fun _ H' => Q .non H', rt := Q } (start N vs) H) : Fn P w K mg base (k + 1) x sp := by
  obtain ⟨f, fd, F, hm⟩ := T.ex
  exact ⟨f, fd, ps, F.ok S len (fun cdv A outer s H vs Q E hr h => ⟨_, pl, hbody f cdv A outer s H vs Q E hr h ⟨O, ⟨[], (List.append_nil _).symm⟩, S.nd, rfl, rfl, PassesOwn.never⟩⟩), hm, F.kp, F.binds hb⟩
/-- a method where the top has left it -/
structure TopM (K : PySem.W.Frag) (C : Addr) (x qual : Str) (st : Stmt) : Prop where
  ex : ∃ (f : Addr) (fd : FuncData), Fun K x qual st f fd ∧ PySem.W.findIn K (.ref C) x = some (some (.ref f)) ∧ PySem.W.isFn K (.ref f) = true
theorem topM_mk {x qual : Str} {st : Stmt} {C f : Addr} {oc : Value} {od an : Option Addr} {osl : Array (Option Value)} {kV doc pm cdv ct : Value} (a : PySem.W.findIn K (.ref C) x = some (some (.ref f))) (i : PySem.W.isFn K (.ref f) = true)
    (l : K.lookup f = some ⟨oc, od, .func (PySem.W.fnOf x qual (defArgs st) (defBody st) (defScope st) .none kV doc pm an cdv ct), osl⟩) (c : PySem.W.codeIn K cdv qual = true) (k : PySem.W.keepIn K (.ref f) = true) : TopM K C x qual st :=
  ⟨f, _, fun_mk l c k, a, i⟩
theorem me_ok {x qual : Str} {C : Addr} {st : Stmt} {N G ps : List Str} {k : Nat} {sp : Sp} (T : TopM K C x qual st) (S : FnScope N ps (defScope st)) (O : ScOk N G (defScope st)) (len : ∀ vs H Q E, sp vs H Q E → vs.length = ps.length)
    (hb : ∀ (kV doc pm : Value) (an : Option Addr) (cdv ct : Value) (us : List Value), us.length = ps.length → bindArgs (PySem.W.fnOf x qual (defArgs st) (defBody st) (defScope st) .none kV doc pm an cdv ct) ⟨us, []⟩ = pure (ps.zip us))
    (hbody : ∀ (f : Addr) (cdv : Value) (A : Around) (outer : List Env) (s : Shared) (H : Hp) (vs : List V) (Q : VK) (E : XK), Room k (A.deeper (envOfC qual (defScope st) s.heap.objs.size f cdv)) → sp vs H Q E → In (cxOf CX0 P w K mg base N qual (defScope st) f cdv A outer s H E).nox N G (defScope st) →
      wL (cxOf CX0 P w K mg base N qual (defScope st) f cdv A outer s H E).nox (defBody st) { nx := fun _ H' => Q .non H', rt := Q } (start N vs) H) :
    ∃ (f : Addr) (fd : FuncData), FnOk P w K mg base CX0 (k + 1) f fd ps sp ∧ Binds K fd ps [] ∧ PySem.W.findIn K (.ref C) x = some (some (.ref f)) ∧ PySem.W.isFn K (.ref f) = true ∧ PySem.W.keepIn K (.ref f) = true := by
  obtain ⟨f, fd, F, hf, hi⟩ := T.ex
  exact ⟨f, fd, F.ok S len (fun cdv A outer s H vs Q E hr h => ⟨_, pl, hbody f cdv A outer s H vs Q E hr h ⟨O, ⟨[], (List.append_nil _).symm⟩, S.nd, rfl, rfl, PassesOwn.never⟩⟩), F.binds hb, hf, hi, F.kp⟩
end
/-- a bool test that is decided by a fact -/
theorem ifT {c A B : Prop} [Decidable c] (hc : c) (h : A) : if decide c = true then A else B := by
  rw [decide_eq_true hc]
  exact iteT h
theorem ifF {c A B : Prop} [Decidable c] (hc : ¬ c) (h : B) : if decide c = true then A else B := by
  rw [decide_eq_false hc]
  exact iteF h
theorem if2 {c A B : Prop} [Decidable c] (h1 : c → A) (h2 : ¬ c → B) : if decide c = true then A else B := by
  by_cases h : c
  · exact ifT h (h1 h)
  · exact ifF h (h2 h)
theorem ite_t {c : Bool} {A B : Prop} (hc : c = true) (h : A) : if c = true then A else B := by
  rw [hc]
  exact iteT h
theorem ite_f {c : Bool} {A B : Prop} (hc : c = false) (h : B) : if c = true then A else B := by
  rw [hc]
  exact iteF h
section
variable {P : Program} {w : World} {K : PySem.W.Frag} {mg : Str → Option Value} {base : Heap}
theorem run_ok {x qual : Str} {st : Stmt} {N G ps : List Str} {k : Nat} {sp : Sp} {f : Addr} {fd : FuncData} (F : Fun K x qual st f fd) (S : FnScope N ps (defScope st)) (O : ScOk N G (defScope st)) (len : ∀ vs H Q E, sp vs H Q E → vs.length = ps.length)
    (hbody : ∀ (f : Addr) (cdv : Value) (A : Around) (outer : List Env) (s : Shared) (H : Hp) (vs : List V) (Q : VK) (E : XK), Room k (A.deeper (envOfC qual (defScope st) s.heap.objs.size f cdv)) → sp vs H Q E → In (cxOf CX0 P w K mg base N qual (defScope st) f cdv A outer s H E).nox N G (defScope st) →
      wL (cxOf CX0 P w K mg base N qual (defScope st) f cdv A outer s H E).nox (defBody st) { nx := fun _ H' => Q .non H', rt := Q } (start N vs) H) : FnOk P w K mg base CX0 (k + 1) f fd ps sp :=
  F.ok S len (fun cdv A outer s H vs Q E hr h => ⟨_, pl, hbody f cdv A outer s H vs Q E hr h ⟨O, ⟨[], (List.append_nil _).symm⟩, S.nd, rfl, rfl, PassesOwn.never⟩⟩)
end
end Wk

/-! My own layer, errors: an own class of errors with fields, raised, caught, asked. -/
namespace Wk
open PySem PySem.Spec PyProof.Rows L2
section
variable {X : Cx} {N G : List Str} {sc : Scope} {e o : Expr} {es : List Expr} {σ : L2.St} {H : Hp} {Q : VK} {pos p0 np : Pos}
theorem o_isN {x : V} (q : Q (.bl (decide (x = .non))) H) : wK X .Is x .non H Q := k_of op_isN ⟨rfl, q⟩
theorem o_nisB {a b : Bool} (q : Q (.bl (!decide (a = b))) H) : wK X .IsNot (.bl a) (.bl b) H Q := k_of op_isnot_bl ⟨a, b, rfl, rfl, q⟩
/-- a def of the module that may raise -/
structure FnX (P : Program) (w : World) (K : PySem.W.Frag) (mg : Str → Option Value) (base : Heap) (k : Nat) (x : Str) (sp : Sp) : Prop where
  ex : ∃ (f : Addr) (fd : FuncData) (ps : List Str), FnOk P w K mg base (L2.CX P w) k f fd ps sp ∧ mg x = some (.ref f) ∧ PySem.W.keepIn K (.ref f) = true ∧ Binds K fd ps []
theorem e_callX {g k n : Nat} {x : Str} {sp : Sp} {W : WX} (F : FnX X.prog X.w X.K X.mg X.base k x sp) (tk : Takes X W) (hr : Room n X.A) (hk : k ≤ n) (q : wA X (e :: es) σ H fun vs H1 => sp vs H1 Q (fun cls d H' => W cls d σ H'))
    (I : In X N G sc := by assumption) (hG : At G g x := by repeat (first | with_reducible apply At.z | with_reducible apply At.s)) (he : starEach (e :: es) X.env = (false, eval e X.env) :: starEach es X.env := by rfl) (hpl : (backTo pos (starEach es X.env)).any (·.1) = false := by rfl) :
    wE X (.Call (.Name x p0) (e :: es) [] pos) σ H Q := by
  obtain ⟨f, fd, ps, F0, hm, hkp, hb⟩ := F.ex
  refine e_of (pe_callSD (E := fun σ cls d H' => W cls d σ H') F0 (hr.mono hk) (I.g hG) hm hkp hb .nil (fun σ => passAt tk σ) pa (I.gd hG) he hpl) ?_
  show wA X (e :: es) σ H fun vs H1 => sp (vs ++ []) H1 Q (fun cls d H' => W cls d σ H')
  simp only [List.append_nil]
  exact q
/-- an own class of errors whose __init__ stores its one argument in the field f -/
def sp1 (C : Addr) (f : Str) : Sp := fun vs H Q _ => ∃ (a : Addr) (v : V), vs = [.ref a, v] ∧ H a = some (exo a C none) ∧ ∀ dx, H dx = none → dx ≠ a → Q .non (upd (upd H dx (exd dx [(f, v)])) a (exo a C (some dx)))
structure Er (P : Program) (w : World) (K : PySem.W.Frag) (mg : Str → Option Value) (base : Heap) (x : Str) (C : Addr) (f : Str) : Prop where
  o : OexC K C
  mgC : mg x = some (.ref C)
  ex : ∃ (fI : Addr) (fd : FuncData) (ps : List Str), FnOk P w K mg base CX0 1 fI fd ps (sp1 C f) ∧ PySem.W.findIn K (.ref C) "__init__" = some (some (.ref fI)) ∧ PySem.W.typeIn K (.ref fI) = some (.type "function") ∧ Binds K fd ps []
/-- self.f = e of an error that is being made -/
theorem s_ost {nx : L2.St → Hp → Prop} {rt : VK} {bk ct : L2.St → Hp → Prop} {f : Str} {value : Expr} {pos' : Pos} (q : wE X value σ H fun y H1 => wE X o σ H1 fun x H2 => ∃ a C : Addr, x = .ref a ∧ OexC X.K C ∧ PySem.W.findIn X.K (.ref C) f = some none ∧ H2 a = some (exo a C none) ∧ ∀ dx, H2 dx = none → dx ≠ a → nx σ (upd (upd H2 dx (exd dx [(f, y)])) a (exo a C (some dx))))
    (hs : swapsWith value (some (.Attribute o f pos')) pos.line X.env = pure false := by rfl) : wS X (.Assign [.Attribute o f pos'] value pos) ⟨nx, rt, bk, ct⟩ σ H :=
  s_of (ps_ost pe pe hs) (e_mono q fun y H1 z => e_mono z fun x H2 ⟨a, C, h1, h2, h3, h4, h5⟩ => ⟨a, C, h1, h2, h3, .inl ⟨h4, h5⟩⟩)
/-- raise C(e) -/
theorem s_raise1 {nx : L2.St → Hp → Prop} {rt : VK} {bk ct : L2.St → Hp → Prop} {g n : Nat} {x f : Str} {C : Addr} {W : WX} {pos' : Pos} (R : Er X.prog X.w X.K X.mg X.base x C f) (tk : Takes X W) (hr : Room n X.A) (hn : 2 ≤ n)
    (q : wE X e σ H fun v H1 => ∀ d H', Same H1 H' → H1 d = none → H' d = some (.xd [(f, v)]) → W (.ref C) (some d) σ H')
    (I : In X N G sc := by assumption) (hG : At G g x := by repeat (first | with_reducible apply At.z | with_reducible apply At.s)) (hc : X.calm = true := by rfl)
    (he : starEach (e :: []) X.env = (false, eval e X.env) :: starEach [] X.env := by rfl) (hpl : (backTo pos (starEach [] X.env)).any (·.1) = false := by rfl) :
    wS X (.Raise (some (.Call (.Name x p0) [e] [] pos)) none pos') ⟨nx, rt, bk, ct⟩ σ H := by
  obtain ⟨fI, fd, ps, F0, hi, ht, hb⟩ := R.ex
  refine s_of (ps_raise hc tk (pmk_oex R.o hi ht F0 (hr.mono hn) hb .nil pass0 (I.g hG) R.mgC pa (I.gd hG) he hpl)) ?_
  refine a_cons (e_mono q fun v H1 z => a_nil ⟨by show 1 ≤ 1000; decide, fun a na => ?_⟩) he
  refine ⟨a, v, rfl, upd_same, fun dx nd ne => ⟨rfl, dx, [(f, v)], upd_same, ?_, ?_, ?_⟩⟩
  · rw [upd_ne ne, upd_same]
  · rw [upd_ne ne] at nd
    exact nd
  · refine z dx _ (fun b u hb => ?_) (by rw [upd_ne ne] at nd; exact nd) upd_same
    have h1 : b ≠ a := ne_of_none hb na
    have h2 : b ≠ dx := ne_of_none hb (by rw [upd_ne ne] at nd; exact nd)
    rw [upd_ne h2, del_ne h1, upd_ne h1, upd_ne h2, upd_ne h1]
    exact hb
/-- the suite of an except clause -/
def tsS (X : Cx) (N G : List Str) (sc : Scope) (sts : List Stmt) : Addr → Value → Option Addr → TS := fun a cls d D σ H => ∀ (oe : Obj) (pn : List (Addr × Obj)), Zc cls d oe → (∃ vs, oe.data = .fields vs) → In (X.suite a ((a, oe) :: pn)) N G sc → wL (X.suite a ((a, oe) :: pn)) sts D σ H
theorem In.tr (I : In X N G sc) {pn : List (Addr × Obj)} {xe : Value → Shared → Prop} (h : PassesOwn (model X.prog X.w) X.A X.env xe) : In (X.tr pn xe) N G sc := ⟨I.ok, I.n, I.nd, I.sc, I.fn, h⟩
theorem In.suite (I : In X N G sc) {a : Addr} {pn : List (Addr × Obj)} : In (X.suite a pn) N G sc := ⟨I.ok, I.n, I.nd, I.sc, I.fn, PassesOwn.never⟩
/-- try: body, except x as n: suite -/
theorem s_tryAs {nx : L2.St → Hp → Prop} {rt : VK} {bk ct : L2.St → Hp → Prop} {i g : Nat} {x n : Str} {c : Value} {body suite : List Stmt} {b0 : Stmt} {pos' : Pos} {Wout : WX} (hm : X.mg x = some c) (tk : Takes X Wout)
    (q : ∀ (pn : List (Addr × Obj)) (xe : Value → Shared → Prop), Takes (X.tr pn xe) (wAs X.K c i (tsS X N G sc (b0 :: suite)) Wout ⟨nx, rt, bk, ct⟩) → In (X.tr pn xe) N G sc → wL (X.tr pn xe) body ⟨nx, rt, bk, ct⟩ σ H)
    (I : In X N G sc := by assumption) (hA : At N i n := by repeat (first | with_reducible apply At.z | with_reducible apply At.s)) (hG : At G g x := by repeat (first | with_reducible apply At.z | with_reducible apply At.s))
    (hln : X.env.kindOf n = some .local := by rfl) (hs : X.stack = X.env :: X.outer := by rfl) (hf : X.env.frame = some X.env.locals := by rfl) :
    wS X (.Try body [.ExceptHandler (some (.Name x np)) (some n) (b0 :: suite) pos'] [] [] pos) ⟨nx, rt, bk, ct⟩ σ H :=
  s_of (ps_try_as (tb := fun W D σ H => ∀ (pn : List (Addr × Obj)) (xe : Value → Shared → Prop), Takes (X.tr pn xe) W → In (X.tr pn xe) N G sc → wL (X.tr pn xe) body D σ H) hs hf I.nd (I.hi hA) hln ⟨I.g hG, I.gd hG, .inl hm⟩ tk
    (fun W pn xe tk' po => ⟨fun pins s σ H D Iv h => pl.run pins s σ H D Iv (h pn xe tk' (I.tr po))⟩)
    (fun a oe cls d pn hz hd => ⟨fun pins s σ H D Iv h => pl.run pins s σ H D Iv (h oe pn hz hd I.suite)⟩)) q
/-- what the class D must say, so that isinstance asks its errors rightly -/
structure EcC (K : PySem.W.Frag) (D : Addr) : Prop where
  cl : (PySem.W.clsIn K D).isSome = true
  hg : PySem.W.findIn K (.ref D) "__getattribute__" = some (some (.builtin "BaseException.__getattribute__"))
  hk : PySem.W.findIn K (.ref D) "__getattr__" = some none
  hs : PySem.W.subIn K (.ref D) (.type "BaseException") = some true
  ha : PySem.W.findIn K (.ref D) "__class__" = some (some (.builtin "object.__class__"))
  hn : PySem.W.specialIn K (.builtin "object.__class__") "__get__" = some (some (.builtin "getset_descriptor.__get__"))
  ht : PySem.W.takesIn K (.builtin "object.__class__") = some true
  hm : PySem.W.mroIn K D (.type "object") = some true
/-- the caught error at a stands as an instance -/
theorem inst_of {pins : List (Addr × Obj)} {s : Shared} {a D : Addr} {d : Option Addr} {oe : Obj} {pn : List (Addr × Obj)} {fs : List (Str × V)} (I : Inv (X.suite a ((a, oe) :: pn)) pins σ H s) (hz : Zc (.ref D) d oe) (hf : ∃ vs, oe.data = .fields vs)
    (hd : ∀ dd, d = some dd → H dd = some (.xd fs)) : ∃ od, PySem.W.InstAt s.heap a oe D od := by
  obtain ⟨hget, _⟩ := I.pin (a, oe) (List.mem_append.mpr (.inl List.mem_cons_self))
  obtain ⟨vs, hv⟩ := hf
  have nc : PySem.W.notCls oe := by unfold PySem.W.notCls; rw [hv] <;> trivial
  cases d with
  | none => exact ⟨none, hget, hz.1, nc, by rw [hz.2]; trivial⟩
  | some dd =>
    obtain ⟨mA, hns, _⟩ := (show ObjOk X.prog X.w H s.heap dd (.xd fs) from I.hok dd _ (hd dd rfl))
    obtain ⟨od, ho, _⟩ := lookIn_ns hns
    exact ⟨some od, hget, hz.1, nc, by rw [hz.2]; exact ho⟩
theorem c_isE {a D : Addr} {d : Option Addr} {oe : Obj} {pn : List (Addr × Obj)} {fs : List (Str × V)} {c : V} {cv : Value} {b : Bool} (C : EcC X.K D) (hz : Zc (.ref D) d oe) (hf : ∃ vs, oe.data = .fields vs) (hd : ∀ dd, d = some dd → H dd = some (.xd fs))
    (k : ClsV c cv) (e : PySem.W.kitOne X.K (.ref D) cv = some b) (q : Q (.bl b) H) : wC (X.suite a ((a, oe) :: pn)) (.builtin "isinstance") [.ref a, c] H Q := by
  unfold wC
  intro pins s σ us I r
  obtain ⟨u1, u2, rfl, r1, r2⟩ := vals2 r
  cases (show u1 = Value.ref a from r1)
  have ec := k.eq r2
  subst ec
  obtain ⟨od, J⟩ := inst_of I hz hf hd
  exact PySem.W.kia_one (PySem.W.kitx_exc (od := od) C.cl C.hg C.hk C.hs C.ha C.hn C.ht C.hm) I.kIn J e (fun z => nomatch z) fun tk => ⟨.bl b, H, I.tok tk, rfl, q⟩
theorem c_isET {a D tp : Addr} {d : Option Addr} {oe : Obj} {pn : List (Addr × Obj)} {fs : List (Str × V)} {cs : List V} {us' : List Value} {b : Bool} (C : EcC X.K D) (hz : Zc (.ref D) d oe) (hf : ∃ vs, oe.data = .fields vs) (hd : ∀ dd, d = some dd → H dd = some (.xd fs))
    (hT : H tp = some (.tup cs)) (k : Paired ClsV cs us') (e : PySem.W.kitAny X.K (.ref D) us' = some b) (q : Q (.bl b) H) : wC (X.suite a ((a, oe) :: pn)) (.builtin "isinstance") [.ref a, .ref tp] H Q := by
  unfold wC
  intro pins s σ us I r
  obtain ⟨u1, u2, rfl, r1, r2⟩ := vals2 r
  cases (show u1 = Value.ref a from r1)
  cases (show u2 = Value.ref tp from r2)
  obtain ⟨od, J⟩ := inst_of I hz hf hd
  obtain ⟨_, its, rv, o, h1, h2, n, h3⟩ := (show ObjOk X.prog X.w H s.heap tp (.tup cs) from I.hok tp _ hT)
  have e3 := ClsV.all k rv
  subst e3
  obtain ⟨oc, odd, dt, sl⟩ := o
  simp only at h2 h3
  subst h2 h3
  exact PySem.W.kia_tup (PySem.W.kitx_exc (od := od) C.cl C.hg C.hk C.hs C.ha C.hn C.ht C.hm) I.kIn J h1 e (fun z => nomatch z) fun tk => ⟨.bl b, H, I.tok tk, rfl, q⟩
/-- e.f of the caught error -/
theorem e_xf {a C : Addr} {oe : Obj} {d : Option Addr} {pn : List (Addr × Obj)} {f : Str} (T : XfC X.K C) (hno : PySem.W.findIn X.K (.ref C) f = some none) (hz : Zc (.ref C) d oe) (hf : ∃ vs, oe.data = .fields vs)
    (q : wE (X.suite a ((a, oe) :: pn)) e σ H fun x H1 => x = .ref a ∧ ∃ (dd : Addr) (fs : List (Str × V)) (v : V), d = some dd ∧ H1 dd = some (.xd fs) ∧ fs.lookup f = some v ∧ Q v H1) (hb : attributeBase e f X.env (eval e X.env) = eval e X.env := by rfl) :
    wE (X.suite a ((a, oe) :: pn)) (.Attribute e f pos) σ H Q := e_of (pe_xf T hno hz hf pe hb) (e_mono q fun x H1 z => ⟨z.1, rfl, z.2⟩)
end
section
variable {P : Program} {w : World} {K : PySem.W.Frag} {mg : Str → Option Value} {base : Heap}
theorem fn_okX {x : Str} {st : Stmt} {N G ps : List Str} {k : Nat} {sp : Sp} (T : Top K mg x st) (S : FnScope N ps (defScope st)) (O : ScOk N G (defScope st)) (len : ∀ vs H Q E, sp vs H Q E → vs.length = ps.length)
    (hb : ∀ (kV doc pm : Value) (an : Option Addr) (cdv ct : Value) (us : List Value), us.length = ps.length → bindArgs (PySem.W.fnOf x x (defArgs st) (defBody st) (defScope st) .none kV doc pm an cdv ct) ⟨us, []⟩ = pure (ps.zip us))
    (hbody : ∀ (f : Addr) (cdv : Value) (A : Around) (outer : List Env) (s : Shared) (H : Hp) (vs : List V) (Q : VK) (E : XK), Room k (A.deeper (envOfC x (defScope st) s.heap.objs.size f cdv)) → sp vs H Q E → In (cxOf (L2.CX P w) P w K mg base N x (defScope st) f cdv A outer s H E) N G (defScope st) →
      Takes (cxOf (L2.CX P w) P w K mg base N x (defScope st) f cdv A outer s H E) (fun cls d _ H => E cls d H) →
      wL (cxOf (L2.CX P w) P w K mg base N x (defScope st) f cdv A outer s H E) (defBody st) { nx := fun _ H' => Q .non H', rt := Q } (start N vs) H) : FnX P w K mg base (k + 1) x sp := by
  obtain ⟨f, fd, F, hm⟩ := T.ex
  exact ⟨f, fd, ps, F.okX S len (fun cdv A outer s H vs Q E hr h => ⟨_, pl, hbody f cdv A outer s H vs Q E hr h ⟨O, ⟨[], (List.append_nil _).symm⟩, S.nd, rfl, rfl, passes_of rfl⟩ (takes_of rfl rfl rfl rfl)⟩), hm, F.kp, F.binds hb⟩
end
end Wk

/-! My own layer, errors whose context is None: raised where nothing is handled, so that defs may be called in the suite that catches them. -/
namespace Wk
open PySem PySem.Spec PyProof.Rows L2
section
variable {X : Cx} {N G : List Str} {sc : Scope} {e o : Expr} {es : List Expr} {σ : L2.St} {H : Hp} {Q : VK} {pos p0 np : Pos}
/-- C(e) of a class whose __init__ stores one field: the made error's fields are known -/
theorem pmkN {n : Nat} {x f : Str} {C : Addr} (R : Er X.prog X.w X.K X.mg X.base x C f) (hr : Room n X.A) (hn : 2 ≤ n) (hg : Gl X x) (hdb : (x == ("__debug__" : Str)) = false)
    (he : starEach (e :: []) X.env = (false, eval e X.env) :: starEach [] X.env) (hpl : (backTo pos (starEach [] X.env)).any (·.1) = false) :
    L2N.PMk X (.Call (.Name x p0) [e] [] pos) (fun σ H Q => wE X e σ H fun v H1 => ∀ d H', Same H1 H' → H1 d = none → H' d = some (.xd [(f, v)]) → Q (.ref C) (some d) H') := by
  intro pins s σ H Q I h
  obtain ⟨fI, fd, ps, F0, hi, ht, hb⟩ := R.ex
  obtain ⟨_, _, _, _, bm, _, _, _, _, _, _, _, _, _, _, hC, hbm⟩ := R.o.cls
  refine wpAny_Call_Name_kw (ld_glob I hg R.mgC ?_ hdb)
  refine PySem.W.callWith_K (h₀ := X.base) I.ok.mod.kin R.o.kC (thn ((pa_cons pe pa_nil he).run pos pins s σ H (fun vs H1 => ∃ v, vs = [v] ∧ ∀ d H', Same H1 H' → H1 d = none → H' d = some (.xd [(f, v)]) → Q (.ref C) (some d) H') I (e_mono h fun v H1 z => ⟨v, rfl, z⟩)) fun us s1 ⟨vs, H1, I1, r1, v, ev, q1⟩ => ⟨I1.kIn, ?_⟩) he hpl
  subst ev
  show wpAny _ _ (call (.ref C) us) _ _ _
  obtain ⟨hp, g, dr, tk, os⟩ := s1
  have hget0 : ((hp.push (PySem.W.kdv_tup us)).push (PySem.HandSPX.excO C hp.objs.size)).get? (hp.objs.size + 1) = some (PySem.HandSPX.excO C hp.objs.size) := by heap_get
  let a := hp.objs.size + 1
  have na : H1 a = none := I1.hok.fresh (Nat.le_succ _)
  let hp2 := (hp.push (PySem.W.kdv_tup us)).push (PySem.HandSPX.excO C hp.objs.size)
  have kk : ∀ b o, hp.get? b = some o → hp2.get? b = some o := fun b o z => Heap.get?_push_of_some _ (Heap.get?_push_of_some _ z)
  have hget : hp2.get? a = some (PySem.HandSPX.excO C hp.objs.size) := hget0
  have I2 : Inv X pins σ (upd H1 a (exo a C none)) ⟨hp2, g, dr, tk, os⟩ := I1.laid (t' := tk) (h' := hp2) kk (Nat.le_succ _) (exo_ok hget)
  have r2 : Vals (V.ref a :: [v]) (Value.ref a :: us) := .cons rfl r1
  have lu : us.length = 1 := r1.length.symm
  -- what __init__ is asked for
  have hq : sp1 C f [.ref a, v] (upd H1 a (exo a C none)) (fun w H2 => w = .non ∧ ∃ d, H2 a = some (exo a C (some d)) ∧ H2 d = some (exd d [(f, v)]) ∧ H1 d = none ∧ Q (.ref C) (some d) (upd (del H2 a) d (.xd [(f, v)]))) (fun _ _ _ => False) := by
    refine ⟨a, v, rfl, upd_same, fun dx nd ne => ⟨rfl, dx, upd_same, by rw [upd_ne ne, upd_same], by rw [upd_ne ne] at nd; exact nd, ?_⟩⟩
    rw [upd_ne ne] at nd
    refine q1 dx _ (fun b u hb => ?_) nd upd_same
    have h1 : b ≠ a := ne_of_none hb na
    have h2 : b ≠ dx := ne_of_none hb nd
    rw [upd_ne h2, del_ne h1, upd_ne h1, upd_ne h2, upd_ne h1]
    exact hb
  have lp : (Value.ref a :: us).length = ps.length := by
    have z1 := r2.length
    rw [F0.len _ _ _ _ hq] at z1
    exact z1.symm
  have bind : BindsTo ⟨hp2, g, dr, tk, os⟩ fd ⟨Value.ref a :: us, []⟩ (ps.zip (Value.ref a :: us)) := by
    have z1 := hb ⟨hp2, g, dr, tk, os⟩ (Value.ref a :: us) I2.kIn (by rw [List.append_nil]; exact lp)
    rwa [List.append_nil] at z1
  have room : Room 1 (X.A.under (.builtin "type.__call__" ⟨.ref C :: us, []⟩)) := (hr.mono hn).make C us []
  have go := F0.run _ X.stack _ _ ⟨Value.ref a :: us, []⟩ (Value.ref a :: us) [V.ref a, v] _ (fun _ _ _ => False) room (I2.env0.make C us []) bind r2 hq
  refine wpAny_call (PySem.HandSPX.call_own F.excBase_ValueError (fun Y => PySem.HandSPX.refsVE_contains Y bm hbm) (I1.kIn _ _ hC) (PySem.W.looks_findIn I1.kIn hi) (fun self => PySem.W.bind_fn I1.kIn self ht) (by rw [lu, sizeLine_eq]; decide) (codeAny_mono go fun r s' back => ?_))
  cases r with
  | error er => exact False.elim back
  | ok fl =>
    cases fl with
    | ret u =>
      obtain ⟨w, H2, o2, b2, un2, ok2, rw2, ew, d, ea, ed, nd1, q2⟩ := back
      subst ew
      obtain ⟨h2, g2, d2, t2, os'⟩ := s'
      obtain ⟨t0, Gh, J, kG, ge, hoe, nH⟩ := mk_end0 (d2 := d2) (t2 := t2) I1 (Nat.le_succ _) kk un2 ok2 o2 b2 ea ed nd1
      refine ⟨rw2, a, _, #[.ref t0, .none, .none, .none, .bool false, .none], ⟨Gh, g2, d2, t2, os'⟩, _, .ref C, some d, rfl, J, kG, ge, hoe, ⟨rfl, rfl, ?_⟩, rfl, rfl, nH, rfl, b2, raises_own R.o.exC R.o.tyC, q2⟩
      intro vs z
      cases z
      rfl
    | next => exact False.elim back
    | brk => exact False.elim back
    | cont => exact False.elim back

theorem e_dict (q : ∀ p H2, Same H H2 → H p = none → H2 p = some (.dK []) → Q (.ref p) H2) : wE X (.Dict [] [] pos) σ H Q :=
  e_of pe_dnewK fun p np => q p _ (fun b u eo => by rw [upd_ne (ne_of_none eo np)]; exact eo) np upd_same
theorem e_neg {a : Expr} (q : wE X a σ H fun x H1 => ∃ i, x = .int i ∧ Q (.int (-i)) H1) : wE X (.UnaryOp .USub a pos) σ H Q := e_of (pe_un un_neg pe) q
theorem o_cat {l b : Addr} {xs zs : List V} (h1 : H l = some (.lst xs)) (h2 : H b = some (.lst zs)) (hz : xs.length + zs.length ≤ sizeLine) (q : ∀ p H2, Same H H2 → H2 p = some (.lst (xs ++ zs)) → Q (.ref p) H2) : wB X .Add (.ref l) (.ref b) H Q :=
  b_of op_cat ⟨l, b, xs, zs, rfl, rfl, h1, h2, hz, fun p np => q p _ (fun c u eo => by rw [upd_ne (ne_of_none eo np)]; exact eo) upd_same⟩
theorem c_str {i : Int} (hl : i.natAbs.log2 < 1920) (q : Q (.str (toString i)) H) : wC X (.type "str") [.int i] H Q := c_of call_str_int ⟨i, rfl, hl, q⟩
theorem o_isB {a b : Bool} (q : Q (.bl (decide (a = b))) H) : wK X .Is (.bl a) (.bl b) H Q := k_of op_is_bl ⟨a, b, rfl, rfl, q⟩
/-- raise C(e), where nothing is handled -/
theorem s_raiseN {nx : L2.St → Hp → Prop} {rt : VK} {bk ct : L2.St → Hp → Prop} {g n : Nat} {x f : Str} {C : Addr} {W : WX} {pos' : Pos} (R : Er X.prog X.w X.K X.mg X.base x C f) (tk : L2N.Takes X W) (hr : Room n X.A) (hn : 2 ≤ n)
    (q : wE X e σ H fun v H1 => ∀ d H', Same H1 H' → H1 d = none → H' d = some (.xd [(f, v)]) → W (.ref C) (some d) σ H')
    (I : In X N G sc := by assumption) (hG : At G g x := by repeat (first | with_reducible apply At.z | with_reducible apply At.s)) (hc : X.calm = true := by rfl)
    (he : starEach (e :: []) X.env = (false, eval e X.env) :: starEach [] X.env := by rfl) (hpl : (backTo pos (starEach [] X.env)).any (·.1) = false := by rfl) :
    wS X (.Raise (some (.Call (.Name x p0) [e] [] pos)) none pos') ⟨nx, rt, bk, ct⟩ σ H :=
  s_of (L2N.ps_raise hc tk (pmkN R hr hn (I.g hG) (I.gd hG) he hpl)) q
/-- a def of the module that may raise so -/
structure FnN (P : Program) (w : World) (K : PySem.W.Frag) (mg : Str → Option Value) (base : Heap) (k : Nat) (x : Str) (sp : Sp) : Prop where
  ex : ∃ (f : Addr) (fd : FuncData) (ps : List Str), FnOk P w K mg base (L2N.CX P w) k f fd ps sp ∧ mg x = some (.ref f) ∧ PySem.W.keepIn K (.ref f) = true ∧ Binds K fd ps []
theorem e_callN {g k n : Nat} {x : Str} {sp : Sp} {W : WX} (F : FnN X.prog X.w X.K X.mg X.base k x sp) (tk : L2N.Takes X W) (hr : Room n X.A) (hk : k ≤ n) (q : wA X (e :: es) σ H fun vs H1 => sp vs H1 Q (fun cls d H' => W cls d σ H'))
    (I : In X N G sc := by assumption) (hG : At G g x := by repeat (first | with_reducible apply At.z | with_reducible apply At.s)) (he : starEach (e :: es) X.env = (false, eval e X.env) :: starEach es X.env := by rfl) (hpl : (backTo pos (starEach es X.env)).any (·.1) = false := by rfl) :
    wE X (.Call (.Name x p0) (e :: es) [] pos) σ H Q := by
  obtain ⟨f, fd, ps, F0, hm, hkp, hb⟩ := F.ex
  refine e_of (pe_callSD (E := fun σ cls d H' => W cls d σ H') F0 (hr.mono hk) (I.g hG) hm hkp hb .nil (fun σ => L2N.passAt tk σ) pa (I.gd hG) he hpl) ?_
  show wA X (e :: es) σ H fun vs H1 => sp (vs ++ []) H1 Q (fun cls d H' => W cls d σ H')
  simp only [List.append_nil]
  exact q
/-- the suite of an except clause that catches such an error -/
def tsN (X : Cx) (N G : List Str) (sc : Scope) (sts : List Stmt) : Addr → Value → Option Addr → TS := fun a cls d D σ H => ∀ (oe : Obj) (pn : List (Addr × Obj)), Zc cls d oe → (∃ vs, oe.data = .fields vs) → In (X.suite a ((a, oe) :: pn)) N G sc → L2H.HotC (X.suite a ((a, oe) :: pn)) → wL (X.suite a ((a, oe) :: pn)) sts D σ H
theorem s_tryN {nx : L2.St → Hp → Prop} {rt : VK} {bk ct : L2.St → Hp → Prop} {i g : Nat} {x n : Str} {c : Value} {body suite : List Stmt} {b0 : Stmt} {pos' : Pos} {Wout : WX} (hm : X.mg x = some c) (tk : L2N.Takes X Wout)
    (q : ∀ (pn : List (Addr × Obj)) (xe : Value → Shared → Prop), L2N.Takes (X.tr pn xe) (wAs X.K c i (tsN X N G sc (b0 :: suite)) Wout ⟨nx, rt, bk, ct⟩) → In (X.tr pn xe) N G sc → wL (X.tr pn xe) body ⟨nx, rt, bk, ct⟩ σ H)
    (I : In X N G sc := by assumption) (hA : At N i n := by repeat (first | with_reducible apply At.z | with_reducible apply At.s)) (hG : At G g x := by repeat (first | with_reducible apply At.z | with_reducible apply At.s))
    (hln : X.env.kindOf n = some .local := by rfl) (hs : X.stack = X.env :: X.outer := by rfl) (hf : X.env.frame = some X.env.locals := by rfl) :
    wS X (.Try body [.ExceptHandler (some (.Name x np)) (some n) (b0 :: suite) pos'] [] [] pos) ⟨nx, rt, bk, ct⟩ σ H :=
  s_of (L2N.ps_try_as (tb := fun W D σ H => ∀ (pn : List (Addr × Obj)) (xe : Value → Shared → Prop), L2N.Takes (X.tr pn xe) W → In (X.tr pn xe) N G sc → wL (X.tr pn xe) body D σ H) hs hf I.nd (I.hi hA) hln ⟨I.g hG, I.gd hG, .inl hm⟩ tk
    (fun W pn xe tk' po => ⟨fun pins s σ H D Iv h => pl.run pins s σ H D Iv (h pn xe tk' (I.tr po))⟩)
    (fun a oe cls d pn hz hd => ⟨fun pins s σ H D Iv h => pl.run pins s σ H D Iv (h oe pn hz.zc hd I.suite (by
      obtain ⟨vs, hv⟩ := hd
      exact ⟨(a, oe), ⟨rfl, vs, hv, hz.2.2 vs hv⟩, List.mem_cons_self⟩))⟩)) q
theorem takesN0 : L2N.Takes X (fun _ _ _ _ => False) := fun _ _ x => by
  obtain ⟨_, _, _, _, _, _, _, _, _, _, _, _, _, _, _, _, z⟩ := x
  exact z.elim
/-- a def that is called where an error is handled -/
structure FnHt (P : Program) (w : World) (K : PySem.W.Frag) (mg : Str → Option Value) (base : Heap) (k : Nat) (x : Str) (sp : Sp) : Prop where
  ex : ∃ (f : Addr) (fd : FuncData) (ps : List Str), L2H.FnH P w K mg base CX0 k f fd ps sp ∧ mg x = some (.ref f) ∧ PySem.W.keepIn K (.ref f) = true ∧ Binds K fd ps []
theorem e_callH {g k n : Nat} {x : Str} {sp : Sp} (F : FnHt X.prog X.w X.K X.mg X.base k x sp) (hr : L2H.RoomH n X.A) (hk : k ≤ n) (hh : L2H.HotC X) (q : wA X (e :: es) σ H fun vs H1 => sp vs H1 Q E0)
    (I : In X N G sc := by assumption) (hG : At G g x := by repeat (first | with_reducible apply At.z | with_reducible apply At.s)) (he : starEach (e :: es) X.env = (false, eval e X.env) :: starEach es X.env := by rfl) (hpl : (backTo pos (starEach es X.env)).any (·.1) = false := by rfl) :
    wE X (.Call (.Name x p0) (e :: es) [] pos) σ H Q := by
  obtain ⟨f, fd, ps, F0, hm, hkp, hb⟩ := F.ex
  exact e_of (L2H.pe_callH (E := fun _ => E0) F0 (hr.mono hk) hh (I.g hG) hm hkp hb (fun σ pins H s e s' I z => z.elim) pa (I.gd hG) he hpl) q
end
section
variable {P : Program} {w : World} {K : PySem.W.Frag} {mg : Str → Option Value} {base : Heap}
theorem fn_okN {x : Str} {st : Stmt} {N G ps : List Str} {k : Nat} {sp : Sp} (T : Top K mg x st) (S : FnScope N ps (defScope st)) (O : ScOk N G (defScope st)) (len : ∀ vs H Q E, sp vs H Q E → vs.length = ps.length)
    (hb : ∀ (kV doc pm : Value) (an : Option Addr) (cdv ct : Value) (us : List Value), us.length = ps.length → bindArgs (PySem.W.fnOf x x (defArgs st) (defBody st) (defScope st) .none kV doc pm an cdv ct) ⟨us, []⟩ = pure (ps.zip us))
    (hbody : ∀ (f : Addr) (cdv : Value) (A : Around) (outer : List Env) (s : Shared) (H : Hp) (vs : List V) (Q : VK) (E : XK), Room k (A.deeper (envOfC x (defScope st) s.heap.objs.size f cdv)) → sp vs H Q E → In (cxOf (L2N.CX P w) P w K mg base N x (defScope st) f cdv A outer s H E) N G (defScope st) →
      L2N.Takes (cxOf (L2N.CX P w) P w K mg base N x (defScope st) f cdv A outer s H E) (fun cls d _ H => E cls d H) →
      wL (cxOf (L2N.CX P w) P w K mg base N x (defScope st) f cdv A outer s H E) (defBody st) { nx := fun _ H' => Q .non H', rt := Q } (start N vs) H) : FnN P w K mg base (k + 1) x sp := by
  obtain ⟨f, fd, F, hm⟩ := T.ex
  obtain ⟨oc, od, kV, doc, pm, an, cdv, ct, osl, rfl, lk, hcd⟩ := id F.ex
  exact ⟨f, _, ps, fn_of lk hcd S len (fun A outer s H vs Q E hr h => ⟨_, pl, hbody f cdv A outer s H vs Q E hr h ⟨O, ⟨[], (List.append_nil _).symm⟩, S.nd, rfl, rfl, passes_of rfl⟩ (L2N.takes_of rfl rfl rfl rfl)⟩), hm, F.kp, F.binds hb⟩
theorem fn_okH {x : Str} {st : Stmt} {N G ps : List Str} {k : Nat} {sp : Sp} (T : Top K mg x st) (S : FnScope N ps (defScope st)) (O : ScOk N G (defScope st)) (len : ∀ vs H Q E, sp vs H Q E → vs.length = ps.length)
    (hb : ∀ (kV doc pm : Value) (an : Option Addr) (cdv ct : Value) (us : List Value), us.length = ps.length → bindArgs (PySem.W.fnOf x x (defArgs st) (defBody st) (defScope st) .none kV doc pm an cdv ct) ⟨us, []⟩ = pure (ps.zip us))
    (hbody : ∀ (f : Addr) (cdv : Value) (A : Around) (outer : List Env) (s : Shared) (H : Hp) (vs : List V) (Q : VK) (E : XK) (p : Addr × Obj), L2H.RoomH k (A.deeper (envOfC x (defScope st) s.heap.objs.size f cdv)) → sp vs H Q E → In (L2H.cxH CX0 P w K mg base N x (defScope st) f cdv A outer s H E p).nox N G (defScope st) →
      wL (L2H.cxH CX0 P w K mg base N x (defScope st) f cdv A outer s H E p).nox (defBody st) { nx := fun _ H' => Q .non H', rt := Q } (start N vs) H) : FnHt P w K mg base (k + 1) x sp := by
  obtain ⟨f, fd, F, hm⟩ := T.ex
  obtain ⟨oc, od, kV, doc, pm, an, cdv, ct, osl, rfl, lk, hcd⟩ := id F.ex
  exact ⟨f, _, ps, L2H.fn_ofH lk hcd S len (fun A outer s H vs Q E p hot hr h => ⟨_, PSs.nox pl, hbody f cdv A outer s H vs Q E p hr h ⟨O, ⟨[], (List.append_nil _).symm⟩, S.nd, rfl, rfl, PassesOwn.never⟩⟩), hm, F.kp, F.binds hb⟩
end
end Wk

/-! My own layer, texts: chains of comparisons, order and length of texts, a sign of a text, a loop over a text. -/
namespace Wk
open PySem PySem.Spec PyProof.Rows L2
section
variable {X : Cx} {N G : List Str} {sc : Scope} {a b c e : Expr} {es : List Expr} {σ : L2.St} {H : Hp} {Q : VK} {pos : Pos} {QT : Bool → Hp → Prop}
theorem e_chain {op op' : CmpOp} (q : wE X a σ H fun x H1 => wE X b σ H1 fun y H2 => wK X op x y H2 fun z H3 => ∃ k, z = .bl k ∧ (if k = true then wE X c σ H3 fun w H4 => wK X op' y w H4 Q else Q (.bl false) H3)) (hm : lastMarks [op, op'] [b, c] = false := by with_unfolding_all rfl) :
    wE X (.Compare a [op, op'] [b, c] pos) σ H Q := e_of (pe_chain opk opk pe pe pe hm) q
theorem t_chain {op op' : CmpOp} (q : wE X a σ H fun x H1 => wE X b σ H1 fun y H2 => wK X op x y H2 fun z H3 => ∃ k, z = .bl k ∧ (if k = true then wE X c σ H3 fun w H4 => wK X op' y w H4 fun z H5 => ∃ k, z = .bl k ∧ QT k H5 else ∃ k, V.bl false = .bl k ∧ QT k H3)) (hm : lastMarks [op, op'] [b, c] = false := by with_unfolding_all rfl) :
    wT X (.Compare a [op, op'] [b, c] pos) σ H QT := t_of (pt_chain opk opk pe pe pe hm) q
/-- one sign -/
abbrev sg (c : Nat) : Str := ⟨#[c]⟩
theorem lt1 (c d : Nat) : (([c] : List Nat) < [d]) ↔ c < d := by
  constructor
  · intro h
    cases h with
    | rel h => exact h
    | cons h => cases h
  · exact fun h => .rel h
theorem o_le1 {c d : Nat} (q : Q (.bl (decide (c ≤ d))) H) : wK X .LtE (.str (sg c)) (.str (sg d)) H Q := by
  refine k_of op_le_str ⟨sg c, sg d, rfl, rfl, ?_⟩
  have e1 : (!decide (([d] : List Nat) < [c])) = decide (c ≤ d) := by
    by_cases h : c ≤ d
    · have h2 : ¬ (([d] : List Nat) < [c]) := fun z => absurd ((lt1 d c).mp z) (by omega)
      rw [decide_eq_true h, decide_eq_false h2]
      rfl
    · have h2 : ([d] : List Nat) < [c] := (lt1 d c).mpr (by omega)
      rw [decide_eq_false h, decide_eq_true h2]
      rfl
  show Q (.bl (!decide (([d] : List Nat) < [c]))) H
  rw [e1]
  exact q
theorem c_lenS {z : Str} (h : z.length ≤ sizeLine) (q : Q (.int (z.length : Int)) H) : wC X (.builtin "len") [.str z] H Q := c_of call_len ⟨.str z, z.length, rfl, ⟨h, rfl⟩, q⟩
theorem ix_s {z : Str} {i : Int} {c : Nat} (h : z.length ≤ sizeLine) (e : atI z.cps.toList i = some c) (q : Q (.str (sg c)) H) : wIx X (.str z) (.int i) H Q := ix_of ix_str ⟨z, i, c, rfl, rfl, h, e, q⟩
theorem s_forS {nx : L2.St → Hp → Prop} {rt : VK} {bk ct : L2.St → Hp → Prop} {x : Str} {i : Nat} {body : List Stmt} {px : Pos}
    (q : wE X a σ H fun v H1 => ∃ z : Str, v = .str z ∧ ∃ Pv : Nat → L2.St → Hp → Prop, Pv 0 σ H1 ∧ (∀ k c σ H, z.cps[k]? = some c → Pv k σ H → wL X body ⟨Pv (k + 1), rt, nx, Pv (k + 1)⟩ (σ.set i (some (.str (sg c)))) H) ∧ ∀ σ H, Pv z.cps.size σ H → nx σ H)
    (I : In X N G sc := by assumption) (hc : X.calm = true := by rfl) (hA : At N i x := by repeat (first | with_reducible apply At.z | with_reducible apply At.s)) (hs2 : ∀ z, foldedSetIterable a X.env z = pure z := by intro _; rfl) :
    wS X (.For (.Name x px) a body [] pos) ⟨nx, rt, bk, ct⟩ σ H := by
  refine s_of (ps_for I.never hc (pi_str pe) (pg_name I.nd (I.hi hA) (I.loc hA) I.f) pl hs2) (e_mono q fun v H1 q1 => ?_)
  obtain ⟨z, rfl, Pv, h0, hb, hd⟩ := q1
  refine ⟨z, rfl, fun k m σ H => m = z.cps.size - k ∧ k ≤ z.cps.size ∧ Pv k σ H, ⟨z.cps.size, by simp, Nat.zero_le _, h0⟩, ?_⟩
  rintro k m σ H ⟨rfl, hk, p⟩
  by_cases hlt : k < z.cps.size
  · refine .inr ⟨hlt, Pv (k + 1), fun σ' H' p' => ⟨z.cps.size - (k + 1), by omega, rfl, hlt, p'⟩, fun y H' hy => ?_⟩
    obtain ⟨rfl, c, hc', rfl⟩ := hy
    exact hb k c σ _ hc' p
  · have e : k = z.cps.size := by omega
    subst e
    exact .inl ⟨Nat.le_refl _, hd σ H p⟩
end
end Wk

/-! My own layer, comprehensions with their own names, and ground terms: what only makes new objects, over facts that last. -/
namespace Wk
open PySem PySem.Spec PyProof.Rows L2
section
variable {P : Program} {w : World} {K : PySem.W.Frag} {mg : Str → Option Value} {base : Heap}
/-- a def with further slots C for the names of its comprehensions -/
theorem fn_okC {x : Str} {st : Stmt} {N C G ps : List Str} {k : Nat} {sp : Sp} (T : Top K mg x st) (S : FnScope (N ++ C) ps (defScope st)) (O : ScOk N G (defScope st)) (len : ∀ vs H Q E, sp vs H Q E → vs.length = ps.length)
    (hb : ∀ (kV doc pm : Value) (an : Option Addr) (cdv ct : Value) (us : List Value), us.length = ps.length → bindArgs (PySem.W.fnOf x x (defArgs st) (defBody st) (defScope st) .none kV doc pm an cdv ct) ⟨us, []⟩ = pure (ps.zip us))
    (hbody : ∀ (f : Addr) (cdv : Value) (A : Around) (outer : List Env) (s : Shared) (H : Hp) (vs : List V) (Q : VK) (E : XK), Room k (A.deeper (envOfC x (defScope st) s.heap.objs.size f cdv)) → sp vs H Q E → In (cxOf CX0 P w K mg base (N ++ C) x (defScope st) f cdv A outer s H E).nox N G (defScope st) →
      wL (cxOf CX0 P w K mg base (N ++ C) x (defScope st) f cdv A outer s H E).nox (defBody st) { nx := fun _ H' => Q .non H', rt := Q } (start (N ++ C) vs) H) : Fn P w K mg base (k + 1) x sp := by
  obtain ⟨f, fd, F, hm⟩ := T.ex
  exact ⟨f, fd, ps, F.ok S len (fun cdv A outer s H vs Q E hr h => ⟨_, pl, hbody f cdv A outer s H vs Q E hr h ⟨O, ⟨C, rfl⟩, S.nd, rfl, rfl, PassesOwn.never⟩⟩), hm, F.kp, F.binds hb⟩
end
/-! ### blocks -/
instance visDec {sc : Scope} {x : Str} : Decidable (Vis sc x) := inferInstanceAs (Decidable (_ ∨ _))
/-- the names of a comprehension's block: the seen ones with their slots, the global ones, its own at slot i -/
structure BkOk (N : List Str) (Vn : List (Nat × Str)) (G : List Str) (i : Nat) (x : Str) (sc scope : Scope) : Prop where
  lo : ∀ p ∈ Vn, N[p.1]? = some p.2 ∧ Vis (relS scope sc) p.2 ∧ (p.2 == ("__debug__" : Str)) = false ∧ (p.2 == ("__classdict__" : Str)) = false
  gl : ∀ x ∈ G, (relS scope sc).names.lookup x = some .globalImplicit ∧ (x == ("__debug__" : Str)) = false ∧ x ≠ "__name__"
  own : N[i]? = some x ∧ (relS scope sc).names.lookup x = some .local
  blk : blkC N sc scope [(x, i)] = true
structure InB (X : Cx) (Vn : List (Nat × Str)) (G : List Str) : Prop where
  nd : X.N.Nodup
  lo : ∀ p ∈ Vn, X.N[p.1]? = some p.2 ∧ Vis X.env.scope p.2 ∧ (p.2 == ("__debug__" : Str)) = false ∧ (p.2 == ("__classdict__" : Str)) = false
  gl : ∀ x ∈ G, Gl X x ∧ (x == ("__debug__" : Str)) = false ∧ x ≠ "__name__"
abbrev Bk (X : Cx) (s : Shared) (H : Hp) (scope : Scope) (C : Addr) (cl : List (Str × Addr)) (fp : List Addr) : Cx := X.blk s H scope (compEnvC scope cl C X.env) fp
section
variable {X : Cx} {e a b c elt : Expr} {es rest : List Expr} {σ : L2.St} {H : Hp} {Q : VK} {pos p0 : Pos} {N G G' : List Str} {Vn : List (Nat × Str)} {sc scope : Scope}
theorem rel_eq (h : X.env.scope = sc) (C : Addr) (cl : List (Str × Addr)) : (compEnvC scope cl C X.env).scope = relS scope sc := by
  subst h
  rfl
theorem BkOk.inB {i : Nat} {x : Str} (B : BkOk X.N Vn G' i x sc scope) (I : In X N G sc) (s : Shared) (H : Hp) (C : Addr) (cl : List (Str × Addr)) (fp : List Addr) : InB (Bk X s H scope C cl fp) Vn G' := by
  have e : (compEnvC scope cl C X.env).scope = relS scope sc := rel_eq I.sc C cl
  refine ⟨I.nd, fun p hp => ?_, fun y hy => ?_⟩
  · obtain ⟨h1, h2, h3, h4⟩ := B.lo p hp
    exact ⟨h1, by show Vis (compEnvC scope cl C X.env).scope p.2; rw [e]; exact h2, h3, h4⟩
  · obtain ⟨h1, h2, h3⟩ := B.gl y hy
    exact ⟨by show (compEnvC scope cl C X.env).scope.names.lookup y = _; rw [e]; exact h1, h2, h3⟩
theorem BkOk.pg {i : Nat} {x : Str} {px : Pos} (B : BkOk X.N Vn G' i x sc scope) (I : In X N G sc) (s : Shared) (H : Hp) (C : Addr) (cl : List (Str × Addr)) (fp : List Addr) : PG (Bk X s H scope C cl fp) (.Name x px) (gName i) := by
  have e : (compEnvC scope cl C X.env).scope = relS scope sc := rel_eq I.sc C cl
  have l : (Bk X s H scope C cl fp).env.scope.names.lookup x = some .local := by
    show (compEnvC scope cl C X.env).scope.names.lookup x = _
    rw [e]
    exact B.own.2
  exact pg_name I.nd B.own.1 (.inl l) (.inr l)
theorem BkOk.ok {i : Nat} {x : Str} (B : BkOk X.N Vn G' i x sc scope) (I : In X N G sc) : BlkOk X.N X.env.scope scope [(x, i)] := by
  rw [I.sc]
  exact blkOk_by B.blk
theorem InB.g (I : InB X Vn G) {i : Nat} {x : Str} (h : At G i x) : Gl X x := (I.gl x h.mem).1
theorem InB.gd (I : InB X Vn G) {i : Nat} {x : Str} (h : At G i x) : (x == ("__debug__" : Str)) = false := (I.gl x h.mem).2.1
theorem InB.gn (I : InB X Vn G) {i : Nat} {x : Str} (h : At G i x) : x ≠ "__name__" := (I.gl x h.mem).2.2
theorem b_var {j i : Nat} {x : Str} {v : V} (q : Q v H) (I : InB X Vn G := by assumption) (hA : At Vn j (i, x) := by repeat (first | with_reducible apply At.z | with_reducible apply At.s)) (hσ : σ[i]? = some (some v) := by exact rfl) : wE X (.Name x pos) σ H Q :=
  e_of (pe_var (I.lo _ hA.mem).1 (I.lo _ hA.mem).2.1 (I.lo _ hA.mem).2.2.1 (I.lo _ hA.mem).2.2.2) ⟨v, hσ, q⟩
theorem b_call {g : Nat} {k n : Nat} {x : Str} {sp : Sp} (F : Fn X.prog X.w X.K X.mg X.base k x sp) (hr : Room n X.A) (hk : k ≤ n) (q : wA X (e :: es) σ H fun vs H1 => sp vs H1 Q E0) (I : InB X Vn G := by assumption) (hG : At G g x := by repeat (first | with_reducible apply At.z | with_reducible apply At.s))
    (he : starEach (e :: es) X.env = (false, eval e X.env) :: starEach es X.env := by rfl) (hpl : (backTo pos (starEach es X.env)).any (·.1) = false := by rfl) : wE X (.Call (.Name x p0) (e :: es) [] pos) σ H Q := by
  obtain ⟨f, fd, ps, F0, hm, hkp, hb⟩ := F.ex
  refine e_of (pe_call F0 (hr.mono hk) (I.g hG) hm hkp hb .nil pass0 pa (I.gd hG) he hpl) ?_
  show wA X (e :: es) σ H fun vs H1 => sp (vs ++ []) H1 Q E0
  simp only [List.append_nil]
  exact q
theorem b_callB {g : Nat} {x : Str} {id : String} (hm : X.mg x = none) (hv : bootBuiltins x = some (.builtin id)) (q : wA X (e :: es) σ H fun vs H1 => wC X (.builtin id) vs H1 Q) (I : InB X Vn G := by assumption) (hG : At G g x := by repeat (first | with_reducible apply At.z | with_reducible apply At.s))
    (he : starEach (e :: es) X.env = (false, eval e X.env) :: starEach es X.env := by rfl) (hpl : (backTo pos (starEach es X.env)).any (·.1) = false := by rfl) : wE X (.Call (.Name x p0) (e :: es) [] pos) σ H Q := e_of (pe_callB cr (I.g hG) hm hv pa (I.gn hG) (I.gd hG) he hpl) q
theorem b_glob {g : Nat} {x : Str} {v : V} {u : Value} (hm : X.mg x = some u) (r : RelV v u) (q : Q v H) (I : InB X Vn G := by assumption) (hG : At G g x := by repeat (first | with_reducible apply At.z | with_reducible apply At.s)) : wE X (.Name x pos) σ H Q := e_of (pe_glob (I.g hG) hm r (I.gd hG)) q
theorem wipe1 (σ : L2.St) (i : Nat) : wipe σ [i] = σ.set i none := rfl
theorem wipe_set (σ : L2.St) (i : Nat) (v : L2.V) : wipe ((wipe σ [i]).set i (some v)) [i] = wipe σ [i] := by
  simp [wipe1, List.set_set]
/-- what the turns of a comprehension ask: over range(n) -/
def LcR (X : Cx) (Vn : List (Nat × Str)) (G' : List Str) (elt : Expr) (scope : Scope) (i n : Nat) (D : Addr) (σ : L2.St) (H1 : Hp) (Qd : Hp → Prop) : Prop := ∃ Pv : Nat → Hp → Prop, Pv 0 (upd H1 D (.lst [])) ∧
  (∀ k H2, k < n → Pv k H2 → ∀ s0 H0 C cl fp, InB (Bk X s0 H0 scope C cl fp) Vn G' → wE (Bk X s0 H0 scope C cl fp) elt ((wipe σ [i]).set i (some (.int (k : Int)))) H2 fun y H4 => ∃ acc, H4 D = some (.lst acc) ∧ acc.length < sizeLine ∧ Pv (k + 1) (upd H4 D (.lst (acc ++ [y])))) ∧
  ∀ H2, Pv n H2 → Qd H2
/-- .. over a list that stays -/
def LcL (X : Cx) (Vn : List (Nat × Str)) (G' : List Str) (elt : Expr) (scope : Scope) (i : Nat) (ad : Addr) (xs : List L2.V) (D : Addr) (σ : L2.St) (H1 : Hp) (Qd : Hp → Prop) : Prop := ∃ Pv : Nat → Hp → Prop, Pv 0 (upd H1 D (.lst [])) ∧ (∀ k H2, k ≤ xs.length → Pv k H2 → SqL X.K H2 ad xs) ∧
  (∀ k x H2, xs[k]? = some x → Pv k H2 → ∀ s0 H0 C cl fp, InB (Bk X s0 H0 scope C cl fp) Vn G' → wE (Bk X s0 H0 scope C cl fp) elt ((wipe σ [i]).set i (some x)) H2 fun y H4 => ∃ acc, H4 D = some (.lst acc) ∧ acc.length < sizeLine ∧ Pv (k + 1) (upd H4 D (.lst (acc ++ [y])))) ∧
  ∀ H2, Pv xs.length H2 → Qd H2
/-- the turn's reading, where the block may run anywhere -/
@[irreducible] def wBk (X : Cx) (Vn : List (Nat × Str)) (G' : List Str) (elt : Expr) (scope : Scope) : TE := fun σ H Q => ∀ s0 H0 C cl fp, InB (Bk X s0 H0 scope C cl fp) Vn G' → wE (Bk X s0 H0 scope C cl fp) elt σ H Q
theorem pe_bk {s0 : Shared} {H0 : Hp} {C : Addr} {cl : List (Str × Addr)} {fp : List Addr} (I : InB (Bk X s0 H0 scope C cl fp) Vn G') : PE (Bk X s0 H0 scope C cl fp) elt (wBk X Vn G' elt scope) :=
  ⟨fun pins s σ H Q Iv h => by unfold wBk at h; exact pe.run pins s σ H Q Iv (h s0 H0 C cl fp I)⟩
theorem lcR_of {i n : Nat} {D : Addr} {H1 : Hp} {Qd : Hp → Prop} (q : LcR X Vn G' elt scope i n D σ H1 Qd) : ∃ W : Nat → Nat → Hp → Prop, (∃ m, W 0 m (upd H1 D (.lst []))) ∧ ∀ k m H, W k m H →
    ((Itr 0 n).stop k H ∧ Qd H) ∨ ((Itr 0 n).go k H ∧ ∃ Nx : Hp → Prop, (∀ H', Nx H' → ∃ m', m' < m ∧ W (k + 1) m' H') ∧ ∀ x H', (Itr 0 n).yld k H x H' → gName i x (wipe σ [i]) H' fun σ2 H2 => wipe σ2 [i] = wipe σ [i] ∧ tYes σ2 H2 fun b H3 =>
      if b = true then wBk X Vn G' elt scope σ2 H3 fun y H4 => ∃ acc, H4 D = some (.lst acc) ∧ acc.length < sizeLine ∧ Nx (upd H4 D (.lst (acc ++ [y]))) else Nx H3) := by
  obtain ⟨Pv, h0, hs, hd⟩ := q
  refine lc_range Pv h0 (fun k H hk p => ?_) hd
  refine ⟨wipe_set σ i _, ?_⟩
  unfold tYes
  refine iteT ?_
  unfold wBk
  intro s0 H0 C cl fp I
  rw [Int.zero_add]
  exact hs k H hk p s0 H0 C cl fp I
theorem lcL_of {i : Nat} {ad : Addr} {xs : List L2.V} {D : Addr} {H1 : Hp} {Qd : Hp → Prop} (q : LcL X Vn G' elt scope i ad xs D σ H1 Qd) : ∃ W : Nat → Nat → Hp → Prop, (∃ m, W 0 m (upd H1 D (.lst []))) ∧ ∀ k m H, W k m H →
    ((Itl X.K ad).stop k H ∧ Qd H) ∨ ((Itl X.K ad).go k H ∧ ∃ Nx : Hp → Prop, (∀ H', Nx H' → ∃ m', m' < m ∧ W (k + 1) m' H') ∧ ∀ x H', (Itl X.K ad).yld k H x H' → gName i x (wipe σ [i]) H' fun σ2 H2 => wipe σ2 [i] = wipe σ [i] ∧ tYes σ2 H2 fun b H3 =>
      if b = true then wBk X Vn G' elt scope σ2 H3 fun y H4 => ∃ acc, H4 D = some (.lst acc) ∧ acc.length < sizeLine ∧ Nx (upd H4 D (.lst (acc ++ [y]))) else Nx H3) := by
  obtain ⟨Pv, h0, hl, hs, hd⟩ := q
  refine lc_list Pv h0 hl (fun k x H hk p => ?_) hd
  refine ⟨wipe_set σ i _, ?_⟩
  unfold tYes
  refine iteT ?_
  unfold wBk
  intro s0 H0 C cl fp I
  exact hs k x H hk p s0 H0 C cl fp I
/-- [elt for x in range(a)] -/
theorem e_lcR {i g : Nat} {x : Str} {px p cp : Pos} (B : BkOk X.N Vn G' i x sc scope) (hm : X.mg "range" = none)
    (q : wE X a σ H fun v H1 => ∃ n : Nat, v = .int n ∧ n < 2 ^ 62 ∧ ∀ D, H1 D = none → LcR X Vn G' elt scope i n D σ H1 fun H2 => Q (.ref D) H2)
    (I : In X N G sc := by assumption) (hc : X.calm = true := by rfl) (hG : At G g ("range" : Str) := by repeat (first | with_reducible apply At.z | with_reducible apply At.s)) (hs : starEach [a] X.env = [(false, eval a X.env)] := by rfl) (hs2 : ∀ z, foldedSetIterable (.Call (.Name "range" p) [a] [] cp) X.env z = pure z := by intro _; rfl)
    (hs1 : starEach (a :: []) X.env = (false, eval a X.env) :: starEach [] X.env := by rfl) :
    wE X (.ListComp elt [⟨.Name x px, .Call (.Name "range" p) [a] [] cp, [], 0⟩] scope pos) σ H Q := by
  refine e_of (pe_lc (own := [(x, i)]) (g := gName i) (tt := tYes) (te := wBk X Vn G' elt scope) hc I.nd (pi_range1 (I.g hG) hm (pa_cons pe pa_nil hs1) hs) (B.ok I) (fun s H C cl fp => B.pg I s H C cl fp) (fun _ _ _ _ _ => pts_nil) (fun s H C cl fp => pe_bk (B.inB I s H C cl fp)) hs2) (e_mono q fun v H1 q1 => ?_)
  obtain ⟨n, rfl, hn, q2⟩ := q1
  refine ⟨(n : Int), rfl, by omega, by omega, ?_⟩
  rw [Int.toNat_natCast]
  exact fun D hD => lcR_of (q2 D hD)
/-- [elt for x in a], a list -/
theorem e_lcL {i : Nat} {x : Str} {px : Pos} (B : BkOk X.N Vn G' i x sc scope)
    (q : wE X a σ H fun v H1 => ∃ ad xs, v = .ref ad ∧ SqL X.K H1 ad xs ∧ ∀ D, H1 D = none → LcL X Vn G' elt scope i ad xs D σ H1 fun H2 => Q (.ref D) H2)
    (I : In X N G sc := by assumption) (hc : X.calm = true := by rfl) (hs2 : ∀ z, foldedSetIterable a X.env z = pure z := by intro _; rfl) :
    wE X (.ListComp elt [⟨.Name x px, a, [], 0⟩] scope pos) σ H Q := by
  refine e_of (pe_lc (own := [(x, i)]) (g := gName i) (tt := tYes) (te := wBk X Vn G' elt scope) hc I.nd (pi_list pe) (B.ok I) (fun s H C cl fp => B.pg I s H C cl fp) (fun _ _ _ _ _ => pts_nil) (fun s H C cl fp => pe_bk (B.inB I s H C cl fp)) hs2) (e_mono q fun v H1 q1 => ?_)
  obtain ⟨ad, xs, rfl, hl, q2⟩ := q1
  exact ⟨ad, rfl, ⟨xs, hl⟩, fun D hD => lcL_of (q2 D hD)⟩
theorem s_lcR {nx : L2.St → Hp → Prop} {rt : VK} {bk ct : L2.St → Hp → Prop} {i j g : Nat} {x y : Str} {px py p cp spos : Pos} (B : BkOk X.N Vn G' i x sc scope) (hm : X.mg "range" = none)
    (q : wE X a σ H fun v H1 => ∃ n : Nat, v = .int n ∧ n < 2 ^ 62 ∧ ∀ D, H1 D = none → LcR X Vn G' elt scope i n D σ H1 fun H2 => nx (σ.set j (some (.ref D))) H2)
    (I : In X N G sc := by assumption) (hc : X.calm = true := by rfl) (hA : At N j y := by repeat (first | with_reducible apply At.z | with_reducible apply At.s)) (hG : At G g ("range" : Str) := by repeat (first | with_reducible apply At.z | with_reducible apply At.s))
    (hk : X.env.scope.kind = .function := by rfl) (hy : X.env.scope.names.lookup y = some .local := by rfl) (hl : (py.line == pos.line) = true := by rfl) (ha : (scope.names.any fun (n, k) => n == y && (k == .local || k == .cell)) = false := by decide +kernel)
    (hs : starEach [a] X.env = [(false, eval a X.env)] := by rfl) (hs2 : ∀ z, foldedSetIterable (.Call (.Name "range" p) [a] [] cp) X.env z = pure z := by intro _; rfl) (hs1 : starEach (a :: []) X.env = (false, eval a X.env) :: starEach [] X.env := by rfl) :
    wS X (.Assign [.Name y py] (.ListComp elt [⟨.Name x px, .Call (.Name "range" p) [a] [] cp, [], 0⟩] scope pos) spos) ⟨nx, rt, bk, ct⟩ σ H := by
  refine s_of (ps_setLc (own := [(x, i)]) (g := gName i) (tt := tYes) (te := wBk X Vn G' elt scope) hc I.nd (I.hi hA) hy (sw_true hk hy hl ha) (pi_range1 (I.g hG) hm (pa_cons pe pa_nil hs1) hs) (B.ok I) (fun s H C cl fp => B.pg I s H C cl fp) (fun _ _ _ _ _ => pts_nil) (fun s H C cl fp => pe_bk (B.inB I s H C cl fp)) hs2) (e_mono q fun v H1 q1 => ?_)
  obtain ⟨n, rfl, hn, q2⟩ := q1
  refine ⟨(n : Int), rfl, by omega, by omega, ?_⟩
  rw [Int.toNat_natCast]
  exact fun D hD => lcR_of (q2 D hD)
theorem s_lcL {nx : L2.St → Hp → Prop} {rt : VK} {bk ct : L2.St → Hp → Prop} {i j : Nat} {x y : Str} {px py spos : Pos} (B : BkOk X.N Vn G' i x sc scope)
    (q : wE X a σ H fun v H1 => ∃ ad xs, v = .ref ad ∧ SqL X.K H1 ad xs ∧ ∀ D, H1 D = none → LcL X Vn G' elt scope i ad xs D σ H1 fun H2 => nx (σ.set j (some (.ref D))) H2)
    (I : In X N G sc := by assumption) (hc : X.calm = true := by rfl) (hA : At N j y := by repeat (first | with_reducible apply At.z | with_reducible apply At.s))
    (hk : X.env.scope.kind = .function := by rfl) (hy : X.env.scope.names.lookup y = some .local := by rfl) (hl : (py.line == pos.line) = true := by rfl) (ha : (scope.names.any fun (n, k) => n == y && (k == .local || k == .cell)) = false := by decide +kernel) (hs2 : ∀ z, foldedSetIterable a X.env z = pure z := by intro _; rfl) :
    wS X (.Assign [.Name y py] (.ListComp elt [⟨.Name x px, a, [], 0⟩] scope pos) spos) ⟨nx, rt, bk, ct⟩ σ H := by
  refine s_of (ps_setLc (own := [(x, i)]) (g := gName i) (tt := tYes) (te := wBk X Vn G' elt scope) hc I.nd (I.hi hA) hy (sw_true hk hy hl ha) (pi_list pe) (B.ok I) (fun s H C cl fp => B.pg I s H C cl fp) (fun _ _ _ _ _ => pts_nil) (fun s H C cl fp => pe_bk (B.inB I s H C cl fp)) hs2) (e_mono q fun v H1 q1 => ?_)
  obtain ⟨ad, xs, rfl, hl, q2⟩ := q1
  exact ⟨ad, rfl, ⟨xs, hl⟩, fun D hD => lcL_of (q2 D hD)⟩
end
/-! ### ground terms: they make new objects and change none -/
abbrev Rl := Hp → L2.V → Prop
class Lasts (Γ : Hp → Prop) : Prop where
  up : ∀ H H', Same H H' → Γ H → Γ H'
class LastR (R : Rl) : Prop where
  up : ∀ H H' v, Same H H' → R H v → R H' v
def All2 : List Rl → Hp → List L2.V → Prop
  | [], _, vs => vs = []
  | R :: Rs, H, vs => ∃ v us, vs = v :: us ∧ R H v ∧ All2 Rs H us
@[irreducible] def Ev (X : Cx) (e : Expr) (σ : L2.St) (H : Hp) (R : Rl) : Prop := ∀ Q : VK, (∀ v H', Same H H' → R H' v → Q v H') → wE X e σ H Q
@[irreducible] def EvA (X : Cx) (es : List Expr) (σ : L2.St) (H : Hp) (Rs : List Rl) : Prop := ∀ Q : List L2.V → Hp → Prop, (∀ vs H', Same H H' → All2 Rs H' vs → Q vs H') → wA X es σ H Q
/-- a promise of a def that makes new objects alone -/
def spG {α : Type} (A : α → List Rl) (R : α → Rl) : Sp := fun vs H Q _ => ∃ x, All2 (A x) H vs ∧ ∀ v H', Same H H' → R x H' v → Q v H'
section
variable {X : Cx} {e a b c : Expr} {es : List Expr} {σ : L2.St} {H : Hp} {Q : VK} {pos p0 : Pos} {N G : List Str} {sc : Scope} {R R1 R2 : Rl} {Rs : List Rl}
theorem ev_e (h : Ev X e σ H R) (q : ∀ v H', Same H H' → R H' v → Q v H') : wE X e σ H Q := by unfold Ev at h; exact h Q q
theorem ev_of (h : ∀ Q : VK, (∀ v H', Same H H' → R H' v → Q v H') → wE X e σ H Q) : Ev X e σ H R := by unfold Ev; exact h
theorem ev_a {QA : List L2.V → Hp → Prop} (h : EvA X es σ H Rs) (q : ∀ vs H', Same H H' → All2 Rs H' vs → QA vs H') : wA X es σ H QA := by unfold EvA at h; exact h QA q
theorem ev_up {H0 : Hp} (h : Ev X e σ H R) : Ev X e σ H R := h
theorem g_var {i : Nat} {x : Str} {v : V} (r : R H v) (I : In X N G sc := by assumption) (hA : At N i x := by repeat (first | with_reducible apply At.z | with_reducible apply At.s)) (hσ : σ[i]? = some (some v) := by exact rfl) : Ev X (.Name x pos) σ H R :=
  ev_of fun Q q => e_var (q v H (Same.refl H) r) I hA hσ
theorem g_nil : EvA X [] σ H [] := by unfold EvA; exact fun Q q => a_nil (q [] H (Same.refl H) rfl)
theorem g_cons [LastR R] (h1 : Ev X e σ H R) (h2 : ∀ H', Same H H' → EvA X es σ H' Rs) (hs : starEach (e :: es) X.env = (false, eval e X.env) :: starEach es X.env := by rfl) : EvA X (e :: es) σ H (R :: Rs) := by
  unfold EvA
  exact fun Q q => a_cons (ev_e h1 fun v H1 s1 r1 => ev_a (h2 H1 s1) fun vs H2 s2 r2 => q (v :: vs) H2 (s1.trans s2) ⟨v, vs, rfl, LastR.up H1 H2 v s2 r1, r2⟩) hs
theorem g_call {α : Type} {A : α → List Rl} {R : α → Rl} {g k n : Nat} {x : Str} {z : α} (F : Fn X.prog X.w X.K X.mg X.base k x (spG A R)) (hr : Room n X.A) (hk : k ≤ n) (h : EvA X (e :: es) σ H (A z)) (I : In X N G sc := by assumption) (hG : At G g x := by repeat (first | with_reducible apply At.z | with_reducible apply At.s))
    (he : starEach (e :: es) X.env = (false, eval e X.env) :: starEach es X.env := by rfl) (hpl : (backTo pos (starEach es X.env)).any (·.1) = false := by rfl) : Ev X (.Call (.Name x p0) (e :: es) [] pos) σ H (R z) :=
  ev_of fun Q q => e_call F hr hk (ev_a h fun vs H1 s1 r1 => ⟨z, r1, fun v H2 s2 r2 => q v H2 (s1.trans s2) r2⟩) I hG he hpl
theorem g_test {QT : Bool → Hp → Prop} (h : Ev X e σ H fun _ v => v = .bl true) (q : ∀ H', Same H H' → QT true H') (he : ∀ whole, isTrue e X.env whole = (do let v ← whole; standAt e.pos; holding [v] (truthy v)) := by intro _; rfl) : wT X e σ H QT :=
  t_val (ev_e h fun v H' s r => by
    cases (show v = .bl true from r)
    exact ⟨true, rfl, q H' s⟩) he
/-- if not a or not b: return False -/
theorem s_no2 {nx : L2.St → Hp → Prop} {rt : VK} {bk ct : L2.St → Hp → Prop} {body : List Stmt} {p1 p2 p3 p4 : Pos} (h1 : Ev X a σ H fun _ v => v = .bl true) (h2 : ∀ H', Same H H' → Ev X b σ H' fun _ v => v = .bl true) (q : ∀ H', Same H H' → nx σ H')
    (he : ∀ whole, isTrue a X.env whole = (do let v ← whole; standAt a.pos; holding [v] (truthy v)) := by intro _; rfl) (he2 : ∀ whole, isTrue b X.env whole = (do let v ← whole; standAt b.pos; holding [v] (truthy v)) := by intro _; rfl) :
    wS X (.If (.BoolOp .Or [.UnaryOp .Not a p1, .UnaryOp .Not b p2] p3) body [] p4) ⟨nx, rt, bk, ct⟩ σ H := by
  refine s_if (t_w (w_or (t_not (g_test h1 (fun H1 s1 => ?_) he))))
  refine iteF (w_or1 (t_not (g_test (h2 H1 s1) (fun H2 s2 => ?_) he2)))
  exact iteF (l_nil (q H2 (s1.trans s2)))
theorem s_no1 {nx : L2.St → Hp → Prop} {rt : VK} {bk ct : L2.St → Hp → Prop} {body : List Stmt} {p1 p4 : Pos} (h1 : Ev X a σ H fun _ v => v = .bl true) (q : ∀ H', Same H H' → nx σ H')
    (he : ∀ whole, isTrue a X.env whole = (do let v ← whole; standAt a.pos; holding [v] (truthy v)) := by intro _; rfl) :
    wS X (.If (.UnaryOp .Not a p1) body [] p4) ⟨nx, rt, bk, ct⟩ σ H := by
  refine s_if (t_not (g_test h1 (fun H1 s1 => ?_) he))
  exact iteF (l_nil (q H1 s1))
theorem g_and2 (h1 : Ev X a σ H fun _ v => v = .bl true) (h2 : ∀ H', Same H H' → Ev X b σ H' fun _ v => v = .bl true) : Ev X (.BoolOp .And [a, b] pos) σ H fun _ v => v = .bl true :=
  ev_of fun Q q => e_and (ev_e h1 fun v H1 s1 r1 => by
    cases (show v = .bl true from r1)
    exact ⟨true, rfl, iteT (e_one (ev_e (h2 H1 s1) fun v H2 s2 r2 => q v H2 (s1.trans s2) r2))⟩)
theorem g_and3 (h1 : Ev X a σ H fun _ v => v = .bl true) (h2 : ∀ H', Same H H' → Ev X b σ H' fun _ v => v = .bl true) (h3 : ∀ H', Same H H' → Ev X c σ H' fun _ v => v = .bl true) : Ev X (.BoolOp .And [a, b, c] pos) σ H fun _ v => v = .bl true :=
  ev_of fun Q q => e_and (ev_e h1 fun v H1 s1 r1 => by
    cases (show v = .bl true from r1)
    refine ⟨true, rfl, iteT (e_and (ev_e (h2 H1 s1) fun v H2 s2 r2 => ?_))⟩
    cases (show v = .bl true from r2)
    exact ⟨true, rfl, iteT (e_one (ev_e (h3 H2 (s1.trans s2)) fun v H3 s3 r3 => q v H3 ((s1.trans s2).trans s3) r3))⟩)
end
section
variable {X : Cx} {H : Hp} {Q : VK} {i j : Int}
theorem o_mulW (c : CMulW i j) (q : Q (.int (i * j)) H) : wB X .Mult (.int i) (.int j) H Q := b_of op_mulW ⟨i, j, rfl, rfl, c, q⟩
end
end Wk
namespace Wk
open PySem PySem.Spec
/-- the value of a return or of an assignment, a comprehension's scope -/
def valE : Stmt → Expr
  | .Return (some e) _ => e
  | .Assign _ e _ => e
  | .Expr e _ => e
  | _ => .Name "" ⟨0, 0, 0, 0⟩
def lcSc : Expr → Scope
  | .ListComp _ _ sc _ => sc
  | _ => { kind := .function, names := [], isGenerator := false, isCoroutine := false }
end Wk
namespace Wk
open PySem PySem.Spec PyProof.Rows L2
section
variable {X : Cx} {c e : Expr} {body : List Stmt} {σ : L2.St} {H : Hp} {pos : Pos} {N G : List Str} {sc : Scope} {QT QT' : Bool → Hp → Prop}
theorem t_mono (q : wT X c σ H QT) (h : ∀ b H1, QT b H1 → QT' b H1) : wT X c σ H QT' := by
  unfold wT at q ⊢
  exact fun pins s I => wpAny_mono (q pins s I) (fun _ _ ⟨H1, I1, z⟩ => ⟨H1, I1, h _ _ z⟩) fun _ _ z => z
theorem s_while {nx : L2.St → Hp → Prop} {rt : VK} {bk ct : L2.St → Hp → Prop} (Pv : L2.St → Hp → Prop) (μ : L2.St → Hp → Nat) (h0 : Pv σ H)
    (hs : ∀ σ H, Pv σ H → wT X c σ H fun b H1 => if b = true then wL X body ⟨fun σ' H' => Pv σ' H' ∧ μ σ' H' < μ σ H, rt, nx, fun σ' H' => Pv σ' H' ∧ μ σ' H' < μ σ H⟩ σ H1 else nx σ H1)
    (I : In X N G sc := by assumption) : wS X (.While c body [] pos) ⟨nx, rt, bk, ct⟩ σ H :=
  s_of (ps_while I.never pt pl) (while_by Pv μ h0 hs fun _ _ _ _ h q => t_mono q h)
end
end Wk
namespace Wk
open PySem PySem.Spec PyProof.Rows L2
section
variable {X : Cx} {o e : Expr} {σ : L2.St} {H : Hp} {Q : VK} {pos apos : Pos}
/-- o.append(e) -/
theorem e_app (q : wE X o σ H fun x H1 => ∃ l xs0, x = .ref l ∧ SqL X.K H1 l xs0 ∧ wE X e σ H1 fun y H2 => ∃ xs, H2 l = some (.lst xs) ∧ xs.length < sizeLine ∧ Q .non (upd H2 l (.lst (xs ++ [y]))))
    (hbase : attributeBase o "append" X.env (eval o X.env) = eval o X.env := by rfl)
    (hfew : ((backTo pos (starEach (e :: []) X.env)).all (fun x => !x.1) && (backToKw pos (keywordEach [] X.env)).all (fun x => x.1.isSome)
      && decide ((e :: []).length + ([] : List Keyword).length + (if ([] : List Keyword).isEmpty then 0 else 1) < 30)) = true := by rfl)
    (hline : (apos.endLine == pos.line) = true := by rfl) (hs : starEach (e :: []) X.env = (false, eval e X.env) :: starEach [] X.env := by rfl) (hplain : (backTo pos (starEach [] X.env)).any (·.1) = false := by rfl) :
    wE X (.Call (.Attribute o "append" apos) [e] [] pos) σ H Q := by
  refine e_of (pe_bm PySem.F.plainAttrs_list PySem.F.slot_list_append PySem.F.type_list_append mt_append pe (pa_cons pe pa_nil hs) hbase hfew hline hs hplain) (e_mono q fun x H1 z => ?_)
  obtain ⟨l, xs0, rfl, hl, z⟩ := z
  refine ⟨.inl ⟨rfl, _, hl⟩, e_mono z fun y H2 z2 => ?_⟩
  obtain ⟨xs, h1, h2, h3⟩ := z2
  exact ⟨l, xs, y, rfl, rfl, h1, h2, h3⟩
end
end Wk
namespace Wk
open PySem PySem.Spec PyProof.Rows L2
theorem All2.len {Rs : List Rl} {H : Hp} : ∀ {vs : List L2.V}, All2 Rs H vs → vs.length = Rs.length := by
  induction Rs with
  | nil => intro vs h; cases (show vs = [] from h); rfl
  | cons R Rs ih => intro vs h; obtain ⟨v, us, rfl, _, h⟩ := h; simp [ih h]
end Wk
namespace Wk
open PySem PySem.Spec PyProof.Rows L2
/-- from the heap H on -/
def EvS (X : Cx) (e : Expr) (σ : L2.St) (H : Hp) (R : Rl) : Prop := ∀ H', Same H H' → Ev X e σ H' R
def EvSA (X : Cx) (es : List Expr) (σ : L2.St) (H : Hp) (Rs : List Rl) : Prop := ∀ H', Same H H' → EvA X es σ H' Rs
abbrev IsT : Rl := fun _ v => v = .bl true
section
variable {X : Cx} {e a b c : Expr} {es : List Expr} {σ : L2.St} {H H0 : Hp} {Q : VK} {pos p0 : Pos} {N G : List Str} {sc : Scope} {R R1 R2 : Rl} {Rs : List Rl}
theorem EvS.up {H1 : Hp} (h : EvS X e σ H R) (s : Same H H1) : EvS X e σ H1 R := fun H' t => h H' (s.trans t)
theorem EvS.get (h : EvS X e σ H R) (q : ∀ v H', Same H H' → R H' v → Q v H') : wE X e σ H Q := ev_e (h H (Same.refl H)) q
theorem gs_var [LastR R] {i : Nat} {x : Str} {v : L2.V} (r : R H v) (I : In X N G sc := by assumption) (hA : At N i x := by repeat (first | with_reducible apply At.z | with_reducible apply At.s)) (hσ : σ[i]? = some (some v) := by exact rfl) : EvS X (.Name x pos) σ H R :=
  fun H' s => g_var (LastR.up H H' v s r) I hA hσ
theorem gs_int {i : Int} {j} : EvS X (.Constant (.int i) j pos) σ H (fun _ v => v = .int i) := fun H' _ => ev_of fun Q q => e_int (q _ H' (Same.refl H') rfl)
theorem gs_nil : EvSA X [] σ H [] := fun _ _ => g_nil
theorem gs_cons [LastR R] (h1 : EvS X e σ H R) (h2 : EvSA X es σ H Rs) (hs : starEach (e :: es) X.env = (false, eval e X.env) :: starEach es X.env := by rfl) : EvSA X (e :: es) σ H (R :: Rs) := fun H' s => g_cons (h1 H' s) (fun H2 s2 => h2 H2 (s.trans s2)) hs
theorem gs_call {α : Type} {A : α → List Rl} {R : α → Rl} {g k n : Nat} {x : Str} {z : α} (F : Fn X.prog X.w X.K X.mg X.base k x (spG A R)) (hr : Room n X.A) (hk : k ≤ n) (h : EvSA X (e :: es) σ H (A z)) (I : In X N G sc := by assumption) (hG : At G g x := by repeat (first | with_reducible apply At.z | with_reducible apply At.s))
    (he : starEach (e :: es) X.env = (false, eval e X.env) :: starEach es X.env := by rfl) (hpl : (backTo pos (starEach es X.env)).any (·.1) = false := by rfl) : EvS X (.Call (.Name x p0) (e :: es) [] pos) σ H (R z) := fun H' s => g_call F hr hk (h H' s) I hG he hpl
/-- if not a or not b: return False; both hold -/
theorem s_nn {nx : L2.St → Hp → Prop} {rt : VK} {bk ct : L2.St → Hp → Prop} {body : List Stmt} {p1 p2 p3 p4 : Pos} (s0 : Same H0 H) (h1 : EvS X a σ H0 IsT) (h2 : EvS X b σ H0 IsT) (q : ∀ H', Same H0 H' → nx σ H')
    (he : ∀ whole, isTrue a X.env whole = (do let v ← whole; standAt a.pos; holding [v] (truthy v)) := by intro _; rfl) (he2 : ∀ whole, isTrue b X.env whole = (do let v ← whole; standAt b.pos; holding [v] (truthy v)) := by intro _; rfl) :
    wS X (.If (.BoolOp .Or [.UnaryOp .Not a p1, .UnaryOp .Not b p2] p3) body [] p4) ⟨nx, rt, bk, ct⟩ σ H := s_no2 (h1 H s0) (fun H1 s1 => h2 H1 (s0.trans s1)) (fun H1 s1 => q H1 (s0.trans s1)) he he2
theorem s_n {nx : L2.St → Hp → Prop} {rt : VK} {bk ct : L2.St → Hp → Prop} {body : List Stmt} {p1 p4 : Pos} (s0 : Same H0 H) (h1 : EvS X a σ H0 IsT) (q : ∀ H', Same H0 H' → nx σ H')
    (he : ∀ whole, isTrue a X.env whole = (do let v ← whole; standAt a.pos; holding [v] (truthy v)) := by intro _; rfl) :
    wS X (.If (.UnaryOp .Not a p1) body [] p4) ⟨nx, rt, bk, ct⟩ σ H := s_no1 (h1 H s0) (fun H1 s1 => q H1 (s0.trans s1)) he
theorem gs_and2 (h1 : EvS X a σ H IsT) (h2 : EvS X b σ H IsT) : EvS X (.BoolOp .And [a, b] pos) σ H IsT := fun H' s => g_and2 (h1 H' s) fun H2 s2 => h2 H2 (s.trans s2)
theorem gs_and3 (h1 : EvS X a σ H IsT) (h2 : EvS X b σ H IsT) (h3 : EvS X c σ H IsT) : EvS X (.BoolOp .And [a, b, c] pos) σ H IsT := fun H' s => g_and3 (h1 H' s) (fun H2 s2 => h2 H2 (s.trans s2)) fun H2 s2 => h3 H2 (s.trans s2)
theorem s_let {nx : L2.St → Hp → Prop} {rt : VK} {bk ct : L2.St → Hp → Prop} {i : Nat} {x : Str} {pos' : Pos} (s0 : Same H0 H) (h : EvS X e σ H0 R) (q : ∀ v H', Same H0 H' → R H' v → nx (σ.set i (some v)) H')
    (I : In X N G sc := by assumption) (hA : At N i x := by repeat (first | with_reducible apply At.z | with_reducible apply At.s)) (hs : swapsWith e (some (.Name x pos')) pos.line X.env = pure false := by rfl) :
    wS X (.Assign [.Name x pos'] e pos) ⟨nx, rt, bk, ct⟩ σ H := s_set ((h.up s0).get fun v H' s r => q v H' (s0.trans s) r) I hA hs
theorem s_retS {nx : L2.St → Hp → Prop} {rt : VK} {bk ct : L2.St → Hp → Prop} (s0 : Same H0 H) (h : EvS X e σ H0 R) (q : ∀ v H', Same H0 H' → R H' v → rt v H') : wS X (.Return (some e) pos) ⟨nx, rt, bk, ct⟩ σ H := s_ret ((h.up s0).get fun v H' s r => q v H' (s0.trans s) r)
end
end Wk

/-! My own layer, more: defs with loops where an error is handled, a keyword-only parameter with a default, insert. -/
namespace Wk
open PySem PySem.Spec PyProof.Rows L2
section
variable {P : Program} {w : World} {K : PySem.W.Frag} {mg : Str → Option Value} {base : Heap}
theorem fn_okH2 {x : Str} {st : Stmt} {N G ps : List Str} {k : Nat} {sp : Sp} (T : Top K mg x st) (S : FnScope N ps (defScope st)) (O : ScOk N G (defScope st)) (len : ∀ vs H Q E, sp vs H Q E → vs.length = ps.length)
    (hb : ∀ (kV doc pm : Value) (an : Option Addr) (cdv ct : Value) (us : List Value), us.length = ps.length → bindArgs (PySem.W.fnOf x x (defArgs st) (defBody st) (defScope st) .none kV doc pm an cdv ct) ⟨us, []⟩ = pure (ps.zip us))
    (hbody : ∀ (f : Addr) (cdv : Value) (A : Around) (outer : List Env) (s : Shared) (H : Hp) (vs : List L2.V) (Q : VK) (E : XK) (p : Addr × Obj), L2H.RoomH k (A.deeper (envOfC x (defScope st) s.heap.objs.size f cdv)) → sp vs H Q E → In (L2H.cxH CX0 P w K mg base N x (defScope st) f cdv A outer s H E p).nox N G (defScope st) →
      L2H.HotC (L2H.cxH CX0 P w K mg base N x (defScope st) f cdv A outer s H E p).nox →
      wL (L2H.cxH CX0 P w K mg base N x (defScope st) f cdv A outer s H E p).nox (defBody st) { nx := fun _ H' => Q .non H', rt := Q } (start N vs) H) : FnHt P w K mg base (k + 1) x sp := by
  obtain ⟨f, fd, F, hm⟩ := T.ex
  obtain ⟨oc, od, kV, doc, pm, an, cdv, ct, osl, rfl, lk, hcd⟩ := id F.ex
  exact ⟨f, _, ps, L2H.fn_ofH lk hcd S len (fun A outer s H vs Q E p hot hr h => ⟨_, PSs.nox pl, hbody f cdv A outer s H vs Q E p hr h ⟨O, ⟨[], (List.append_nil _).symm⟩, S.nd, rfl, rfl, PassesOwn.never⟩ ⟨p, ⟨hot.1, hot.2⟩, List.mem_cons_self⟩⟩), hm, F.kp, F.binds hb⟩
end
section
variable {X : Cx} {N G : List Str} {sc : Scope} {a e v o : Expr} {es : List Expr} {σ : L2.St} {H : Hp} {Q : VK} {pos p0 kpos apos : Pos}
theorem s_forRH {nx : L2.St → Hp → Prop} {rt : VK} {bk ct : L2.St → Hp → Prop} {g : Nat} {x : Str} {i : Nat} {body : List Stmt} {px p cp : Pos} (hm : X.mg "range" = none) (hot : L2H.HotC X)
    (q : wE X a σ H fun v H1 => ∃ n : Nat, v = .int n ∧ n < 2 ^ 62 ∧ ∃ Pv : Nat → L2.St → Hp → Prop, Pv 0 σ H1 ∧ (∀ k σ H, k < n → Pv k σ H → wL X body ⟨Pv (k + 1), rt, nx, Pv (k + 1)⟩ (σ.set i (some (.int (k : Int)))) H) ∧ ∀ σ H, Pv n σ H → nx σ H)
    (I : In X N G sc := by assumption) (hA : At N i x := by repeat (first | with_reducible apply At.z | with_reducible apply At.s))
    (hG : At G g ("range" : Str) := by repeat (first | with_reducible apply At.z | with_reducible apply At.s)) (hs : starEach [a] X.env = [(false, eval a X.env)] := by rfl) (hs2 : ∀ z, foldedSetIterable (.Call (.Name "range" p) [a] [] cp) X.env z = pure z := by intro _; rfl)
    (hs1 : starEach (a :: []) X.env = (false, eval a X.env) :: starEach [] X.env := by rfl) :
    wS X (.For (.Name x px) (.Call (.Name "range" p) [a] [] cp) body [] pos) ⟨nx, rt, bk, ct⟩ σ H := by
  refine s_of (L2H.ps_forH I.never hot (L2H.pi_range1H (I.g hG) hm (pa_cons pe pa_nil hs1) hs) (pg_name I.nd (I.hi hA) (I.loc hA) I.f) pl hs2) (e_mono q fun v H1 q1 => ?_)
  obtain ⟨n, rfl, hn, Pv, h0, hb, hd⟩ := q1
  refine ⟨(n : Int), rfl, by omega, by omega, ?_⟩
  rw [Int.toNat_natCast]
  refine for_range (n := n) Pv h0 (fun k σ H hk p => ?_) hd
  rw [Int.zero_add]
  exact hb k σ H hk p
/-- a def with one keyword-only parameter kw and its default d, that may raise -/
structure FnKw (P : Program) (w : World) (K : PySem.W.Frag) (mg : Str → Option Value) (base : Heap) (k : Nat) (x kw : Str) (m : Nat) (d : L2.V) (sp : Sp) : Prop where
  ex : ∃ (f : Addr) (fd : FuncData) (ps : List Str), FnOk P w K mg base (L2N.CX P w) k f fd ps sp ∧ mg x = some (.ref f) ∧ PySem.W.keepIn K (.ref f) = true ∧ (∃ ds, Vals [d] ds ∧ Binds K fd ps ds) ∧ ∃ g, KBn K fd ps m [kw] g (fun vs zs => vs ++ zs)
theorem e_callD {g k n m : Nat} {x kw : Str} {d : L2.V} {sp : Sp} {W : WX} (F : FnKw X.prog X.w X.K X.mg X.base k x kw m d sp) (tk : L2N.Takes X W) (hr : Room n X.A) (hk : k ≤ n) (q : wA X (e :: es) σ H fun vs H1 => sp (vs ++ [d]) H1 Q (fun cls d H' => W cls d σ H'))
    (I : In X N G sc := by assumption) (hG : At G g x := by repeat (first | with_reducible apply At.z | with_reducible apply At.s)) (he : starEach (e :: es) X.env = (false, eval e X.env) :: starEach es X.env := by rfl) (hpl : (backTo pos (starEach es X.env)).any (·.1) = false := by rfl) :
    wE X (.Call (.Name x p0) (e :: es) [] pos) σ H Q := by
  obtain ⟨f, fd, ps, F0, hm, hkp, ⟨ds, hd, hb⟩, _⟩ := F.ex
  exact e_of (pe_callSD (E := fun σ cls d H' => W cls d σ H') F0 (hr.mono hk) (I.g hG) hm hkp hb hd (fun σ => L2N.passAt tk σ) pa (I.gd hG) he hpl) q
theorem e_callK {g k n m : Nat} {x kw : Str} {d : L2.V} {sp : Sp} {W : WX} (F : FnKw X.prog X.w X.K X.mg X.base k x kw m d sp) (tk : L2N.Takes X W) (hr : Room n X.A) (hk : k ≤ n) (q : wA X (e :: es) σ H fun vs H1 => wE X v σ H1 fun z H2 => vs.length = m ∧ sp (vs ++ [z]) H2 Q (fun cls d H' => W cls d σ H'))
    (I : In X N G sc := by assumption) (hG : At G g x := by repeat (first | with_reducible apply At.z | with_reducible apply At.s))
    (hall : (backToKw pos (keywordEach [⟨some kw, v, kpos⟩] X.env)).all (·.1.isSome) = true := by rfl) (hks : (backToKw pos (keywordEach [⟨some kw, v, kpos⟩] X.env)).filterMap (·.1) = [kw] := by rfl)
    (he : starEach (e :: es) X.env = (false, eval e X.env) :: starEach es X.env := by rfl) (hpl : ((backTo pos (starEach (e :: es) X.env)).any (·.1) || (backToKw pos (keywordEach [⟨some kw, v, kpos⟩] X.env)).any (·.1.isNone)) = false := by rfl) :
    wE X (.Call (.Name x p0) (e :: es) [⟨some kw, v, kpos⟩] pos) σ H Q := by
  obtain ⟨f, fd, ps, F0, hm, hkp, _, g0, hb⟩ := F.ex
  unfold wE
  intro pins s I0
  refine wpAny_Call_Name_kw (ld_glob I0 (I.g hG) hm ?_ (I.gd hG))
  refine PySem.W.callWith_KW (h₀ := X.base) I0.ok.mod.kin hkp hall (thn (pa.run pos pins s σ H _ I0 q) fun us s1 ⟨vs, H1, I1, r, q1⟩ => ?_) hpl he
  refine thn ((pk_cons pe pk_nil).run pos pins s1 σ H1 (fun zs H2 => ∃ z, zs = [z] ∧ vs.length = m ∧ sp (vs ++ [z]) H2 Q (fun cls d H' => W cls d σ H')) I1 (e_mono q1 fun z H2 z2 => ⟨z, rfl, z2⟩)) fun ws s2 ⟨zs, H2, I2, rz, z, ez, l1, q2⟩ => ⟨I2.kIn, ?_⟩
  subst ez
  rw [hks]
  have r2 := hb.rel r rz
  have l2 : ws.length = [kw].length := rz.length.symm
  refine wpAny_call (codeAny_mono (F0.run X.A X.stack s2 H2 ⟨us, [kw].zip ws⟩ (g0 us ws) (vs ++ [z]) Q (fun cls d H' => W cls d σ H') (hr.mono hk) I2.env0 (hb.to s2 us ws I2.kIn (r.length.symm.trans l1) l2) r2 q2) fun r s' hq => ?_)
  cases r with
  | error e => exact L2N.passAt tk σ pins H2 s2 e s' I2 hq
  | ok fl =>
    cases fl with
    | ret u => exact I2.after hq
    | next => exact False.elim hq
    | brk => exact False.elim hq
    | cont => exact False.elim hq
/-- o.insert(0, v) and its like -/
theorem e_ins {i : Expr} (q : wE X o σ H fun x H1 => ∃ l xs0, x = .ref l ∧ SqL X.K H1 l xs0 ∧ wE X i σ H1 fun j H2 => wE X e σ H2 fun y H3 => ∃ n : Int, ∃ xs, j = .int n ∧ H3 l = some (.lst xs) ∧ xs.length < sizeLine ∧ 0 ≤ n ∧ n < 2 ^ 63 ∧ Q .non (upd H3 l (.lst (xs.take n.toNat ++ [y] ++ xs.drop n.toNat))))
    (hbase : attributeBase o "insert" X.env (eval o X.env) = eval o X.env := by rfl)
    (hfew : ((backTo pos (starEach (i :: [e]) X.env)).all (fun x => !x.1) && (backToKw pos (keywordEach [] X.env)).all (fun x => x.1.isSome)
      && decide ((i :: [e]).length + ([] : List Keyword).length + (if ([] : List Keyword).isEmpty then 0 else 1) < 30)) = true := by rfl)
    (hline : (apos.endLine == pos.line) = true := by rfl) (hs : starEach (i :: [e]) X.env = (false, eval i X.env) :: starEach [e] X.env := by rfl) (hs2 : starEach (e :: []) X.env = (false, eval e X.env) :: starEach [] X.env := by rfl) (hplain : (backTo pos (starEach [e] X.env)).any (·.1) = false := by rfl) :
    wE X (.Call (.Attribute o "insert" apos) [i, e] [] pos) σ H Q := by
  refine e_of (pe_bm PySem.F.plainAttrs_list PySem.F.slot_list_insert PySem.F.type_list_insert mt_insert pe (pa_cons pe (pa_cons pe pa_nil hs2) hs) hbase hfew hline hs hplain) (e_mono q fun x H1 z => ?_)
  obtain ⟨l, xs0, rfl, hl, z⟩ := z
  refine ⟨.inl ⟨rfl, _, hl⟩, e_mono z fun j H2 z2 => e_mono z2 fun y H3 z3 => ?_⟩
  obtain ⟨n, xs, rfl, h1, h2, h3, h4, h5⟩ := z3
  exact ⟨l, xs, n, y, rfl, rfl, h1, h2, h3, h4, h5⟩
end
end Wk
namespace Wk
open PySem PySem.Spec PyProof.Rows L2
section
variable {X : Cx} {N G : List Str} {sc : Scope} {a b e v o i : Expr} {es : List Expr} {σ : L2.St} {H : Hp} {Q : VK} {QT : Bool → Hp → Prop} {pos p0 p2 apos : Pos}
theorem t_tru (q : wE X a σ H fun x H' => ∃ k, TruV X.K x H' k ∧ QT k H') (he : ∀ whole, isTrue a X.env whole = (do let v ← whole; standAt a.pos; holding [v] (truthy v)) := by intro _; rfl) : wT X a σ H QT := t_of (pt_truth pe he) q
theorem tru_l {K : PySem.W.Frag} {l : Addr} {xs : List L2.V} (h : H l = some (.lst xs)) : TruV K (.ref l) H (!xs.isEmpty) := .inl ⟨xs, SqL.of h, rfl⟩
/-- o.pop() -/
theorem e_pop (q : wE X o σ H fun x H1 => ∃ l xs y, x = .ref l ∧ H1 l = some (.lst (xs ++ [y])) ∧ Q y (upd H1 l (.lst xs)))
    (hbase : attributeBase o "pop" X.env (eval o X.env) = eval o X.env := by rfl) (hline : (apos.endLine == pos.line) = true := by rfl) : wE X (.Call (.Attribute o "pop" apos) [] [] pos) σ H Q := by
  refine e_of (pe_bm0 PySem.F.plainAttrs_list PySem.F.slot_list_pop PySem.F.type_list_pop mt_pop pe hbase hline) (e_mono q fun x H1 z => ?_)
  obtain ⟨l, xs, y, rfl, h1, h2⟩ := z
  refine ⟨.inl ⟨rfl, _, SqL.of h1⟩, l, _, y, rfl, rfl, h1, by simp, ?_⟩
  rw [List.dropLast_concat]
  exact h2
theorem e_slL0 {r : L2.V → Option Int → Option Int → Hp → VK → Prop} (hr : SlR X r) (q : wE X e σ H fun x H1 => wE X a σ H1 fun y H2 => ∃ j, y = .int j ∧ r x (some j) none H2 Q) : wE X (.Subscript e (.Slice (some a) none none p2) pos) σ H Q :=
  e_of (pe_slice hr pe (po_some pe) po_none) (e_mono q fun x H1 z => e_mono z fun y H2 ⟨j, e, z2⟩ => ⟨j, e, z2⟩)
theorem e_slL1 {r : L2.V → Option Int → Option Int → Hp → VK → Prop} (hr : SlR X r) (q : wE X e σ H fun x H1 => wE X b σ H1 fun y H2 => ∃ j, y = .int j ∧ r x none (some j) H2 Q) : wE X (.Subscript e (.Slice none (some b) none p2) pos) σ H Q :=
  e_of (pe_slice hr pe po_none (po_some pe)) (e_mono q fun x H1 z => e_mono z fun y H2 ⟨j, e, z2⟩ => ⟨j, e, z2⟩)
theorem s_dput {nx : L2.St → Hp → Prop} {rt : VK} {bk ct : L2.St → Hp → Prop} {pos' : Pos} (hu : X.A.units + 1 < cLine) (q : wE X v σ H fun v H1 => wE X o σ H1 fun x H2 => wE X i σ H2 fun y H3 => ∃ a H4, x = .ref a ∧ DPut H3 a y v H4 ∧ nx σ H4)
    (hs : swapsWith v (some (.Subscript o i pos')) pos.line X.env = pure false := by rfl) : wS X (.Assign [.Subscript o i pos'] v pos) ⟨nx, rt, bk, ct⟩ σ H := s_of (ps_dput hu pe pe pe hs) q
theorem c_listD {p : Addr} {kvs : List (Key × L2.V)} (hc : X.calm = true) (h : H p = some (.dK kvs)) (q : ∀ l H2, Same H H2 → H2 l = some (.lst (kvs.map fun kv => kV kv.1)) → Q (.ref l) H2) : wC X (.type "list") [.ref p] H Q :=
  c_of (call_list_dK hc) ⟨p, kvs, rfl, h, fun l np => q l _ (fun c u eo => by rw [upd_ne (ne_of_none eo np)]; exact eo) upd_same⟩
theorem c_listL {p : Addr} {xs : List L2.V} (h : H p = some (.lst xs)) (q : ∀ l H2, Same H H2 → H l = none → H2 l = some (.lst xs) → Q (.ref l) H2) : wC X (.type "list") [.ref p] H Q :=
  c_of call_list_of ⟨p, xs, rfl, .inl (SqL.of h), fun l np => q l _ (fun c u eo => by rw [upd_ne (ne_of_none eo np)]; exact eo) np upd_same⟩
end
end Wk
namespace Wk
open PySem PySem.Spec PyProof.Rows L2
section
variable {X : Cx} {c e : Expr} {body : List Stmt} {σ : L2.St} {H : Hp} {pos : Pos} {N G : List Str} {sc : Scope}
theorem s_whileN {nx : L2.St → Hp → Prop} {rt : VK} {bk ct : L2.St → Hp → Prop} (Pv : Nat → L2.St → Hp → Prop) (n0 : Nat) (h0 : Pv n0 σ H)
    (hs : ∀ n σ H, Pv n σ H → wT X c σ H fun b H1 => if b = true then wL X body ⟨fun σ' H' => ∃ m, m < n ∧ Pv m σ' H', rt, nx, fun σ' H' => ∃ m, m < n ∧ Pv m σ' H'⟩ σ H1 else nx σ H1)
    (I : In X N G sc := by assumption) : wS X (.While c body [] pos) ⟨nx, rt, bk, ct⟩ σ H := by
  refine s_of (ps_while I.never pt pl) ⟨Pv, ⟨n0, h0⟩, fun n σ H p => ?_⟩
  refine t_mono (hs n σ H p) fun b H1 q => ?_
  cases b with
  | true => exact ⟨fun σ' H' => ∃ m, m < n ∧ Pv m σ' H', fun σ' H' z => z, q⟩
  | false => exact q
end
end Wk
namespace Wk
open PySem PySem.Spec PyProof.Rows L2
/-- a block with two own names -/
structure BkOk2 (N : List Str) (V : List (Nat × Str)) (G : List Str) (i j : Nat) (x y : Str) (sc scope : Scope) : Prop where
  lo : ∀ p ∈ V, N[p.1]? = some p.2 ∧ Vis (relS scope sc) p.2 ∧ (p.2 == ("__debug__" : Str)) = false ∧ (p.2 == ("__classdict__" : Str)) = false
  gl : ∀ x ∈ G, (relS scope sc).names.lookup x = some .globalImplicit ∧ (x == ("__debug__" : Str)) = false ∧ x ≠ "__name__"
  own : N[i]? = some x ∧ (relS scope sc).names.lookup x = some .local
  own2 : N[j]? = some y ∧ (relS scope sc).names.lookup y = some .local
  ne : i ≠ j
  blk : blkC N sc scope [(x, i), (y, j)] = true
section
variable {X : Cx} {e a b c elt : Expr} {es rest : List Expr} {σ : L2.St} {H : Hp} {Q : VK} {pos p0 : Pos} {N G G' : List Str} {Vn : List (Nat × Str)} {sc scope : Scope}
theorem BkOk2.inB {i j : Nat} {x y : Str} (B : BkOk2 X.N Vn G' i j x y sc scope) (I : In X N G sc) (s : Shared) (H : Hp) (C : Addr) (cl : List (Str × Addr)) (fp : List Addr) : InB (Bk X s H scope C cl fp) Vn G' := by
  have e : (compEnvC scope cl C X.env).scope = relS scope sc := rel_eq I.sc C cl
  refine ⟨I.nd, fun p hp => ?_, fun y hy => ?_⟩
  · obtain ⟨h1, h2, h3, h4⟩ := B.lo p hp
    exact ⟨h1, by show Vis (compEnvC scope cl C X.env).scope p.2; rw [e]; exact h2, h3, h4⟩
  · obtain ⟨h1, h2, h3⟩ := B.gl y hy
    exact ⟨by show (compEnvC scope cl C X.env).scope.names.lookup y = _; rw [e]; exact h1, h2, h3⟩
def gT2 (K : PySem.W.Frag) (i j : Nat) : TG := fun v σ H Q => ∃ a u w, v = .ref a ∧ SqT K H a [u, w] ∧ Q ((σ.set i (some u)).set j (some w)) H
theorem BkOk2.pg {i j : Nat} {x y : Str} {px py pt : Pos} {k : Nat} (B : BkOk2 X.N Vn G' i j x y sc scope) (hc : X.calm = true) (I : In X N G sc) (s : Shared) (H : Hp) (C : Addr) (cl : List (Str × Addr)) (fp : List Addr) : PG (Bk X s H scope C cl fp) (.Tuple [.Name x px, .Name y py] k pt) (gT2 X.K i j) := by
  have e : (compEnvC scope cl C X.env).scope = relS scope sc := rel_eq I.sc C cl
  have l : (Bk X s H scope C cl fp).env.scope.names.lookup x = some .local := by
    show (compEnvC scope cl C X.env).scope.names.lookup x = _
    rw [e]
    exact B.own.2
  have l2 : (Bk X s H scope C cl fp).env.scope.names.lookup y = some .local := by
    show (compEnvC scope cl C X.env).scope.names.lookup y = _
    rw [e]
    exact B.own2.2
  refine ⟨fun pins s σ H v u Q I0 r h => ?_⟩
  obtain ⟨ad, u1, w1, rfl, hq, q⟩ := h
  exact (pg_tup (X := Bk X _ _ scope C cl fp) hc (pgs_cons (pg_name I.nd B.own.1 (.inl l) (.inr l)) (pgs_cons (pg_name I.nd B.own2.1 (.inl l2) (.inr l2)) pgs_nil))).run pins s σ H _ u Q I0 r ⟨ad, [u1, w1], rfl, hq, rfl, u1, [w1], rfl, w1, [], rfl, rfl, q⟩
theorem BkOk2.ok {i j : Nat} {x y : Str} (B : BkOk2 X.N Vn G' i j x y sc scope) (I : In X N G sc) : BlkOk X.N X.env.scope scope [(x, i), (y, j)] := by
  rw [I.sc]
  exact blkOk_by B.blk
theorem wipe2 (σ : L2.St) (i j : Nat) : wipe σ [i, j] = (σ.set j none).set i none := rfl
theorem wipe_set2 (σ : L2.St) {i j : Nat} (h : i ≠ j) (u w : L2.V) : wipe (((wipe σ [i, j]).set i (some u)).set j (some w)) [i, j] = wipe σ [i, j] := by
  rw [wipe2, wipe2]
  apply List.ext_getElem?
  intro k
  by_cases h1 : i = k
  · subst h1
    simp [List.getElem?_set, h.symm]
  · by_cases h2 : j = k
    · subst h2
      simp [List.getElem?_set, h1]
    · simp [List.getElem?_set, h1, h2]
/-- [elt for x, y in a], a list of pairs -/
def LcL2 (X : Cx) (Vn : List (Nat × Str)) (G' : List Str) (elt : Expr) (scope : Scope) (i j : Nat) (ad : Addr) (xs : List L2.V) (D : Addr) (σ : L2.St) (H1 : Hp) (Qd : Hp → Prop) : Prop := ∃ Pv : Nat → Hp → Prop, Pv 0 (upd H1 D (.lst [])) ∧ (∀ k H2, k ≤ xs.length → Pv k H2 → SqL X.K H2 ad xs) ∧
  (∀ k x H2, xs[k]? = some x → Pv k H2 → ∃ t u w, x = .ref t ∧ SqT X.K H2 t [u, w] ∧ ∀ s0 H0 C cl fp, InB (Bk X s0 H0 scope C cl fp) Vn G' → wE (Bk X s0 H0 scope C cl fp) elt (((wipe σ [i, j]).set i (some u)).set j (some w)) H2 fun y H4 => ∃ acc, H4 D = some (.lst acc) ∧ acc.length < sizeLine ∧ Pv (k + 1) (upd H4 D (.lst (acc ++ [y])))) ∧
  ∀ H2, Pv xs.length H2 → Qd H2
theorem pe_bk2 {i j : Nat} {x y : Str} {s0 : Shared} {H0 : Hp} {C : Addr} {cl : List (Str × Addr)} {fp : List Addr} (I : InB (Bk X s0 H0 scope C cl fp) Vn G') : PE (Bk X s0 H0 scope C cl fp) elt (wBk X Vn G' elt scope) := pe_bk I
theorem lcL2_of {i j : Nat} (hij : i ≠ j) {ad : Addr} {xs : List L2.V} {D : Addr} {H1 : Hp} {Qd : Hp → Prop} (q : LcL2 X Vn G' elt scope i j ad xs D σ H1 Qd) : ∃ W : Nat → Nat → Hp → Prop, (∃ m, W 0 m (upd H1 D (.lst []))) ∧ ∀ k m H, W k m H →
    ((Itl X.K ad).stop k H ∧ Qd H) ∨ ((Itl X.K ad).go k H ∧ ∃ Nx : Hp → Prop, (∀ H', Nx H' → ∃ m', m' < m ∧ W (k + 1) m' H') ∧ ∀ x H', (Itl X.K ad).yld k H x H' → gT2 X.K i j x (wipe σ [i, j]) H' fun σ2 H2 => wipe σ2 [i, j] = wipe σ [i, j] ∧ tYes σ2 H2 fun b H3 =>
      if b = true then wBk X Vn G' elt scope σ2 H3 fun y H4 => ∃ acc, H4 D = some (.lst acc) ∧ acc.length < sizeLine ∧ Nx (upd H4 D (.lst (acc ++ [y]))) else Nx H3) := by
  obtain ⟨Pv, h0, hl, hs, hd⟩ := q
  refine lc_list Pv h0 hl (fun k x H hk p => ?_) hd
  obtain ⟨t, u, w, rfl, hq, z⟩ := hs k x H hk p
  refine ⟨t, u, w, rfl, hq, wipe_set2 σ hij u w, ?_⟩
  unfold tYes
  refine iteT ?_
  unfold wBk
  intro s0 H0 C cl fp I
  exact z s0 H0 C cl fp I
theorem e_lcL2 {i j : Nat} {x y : Str} {px py pt : Pos} {kt : Nat} (B : BkOk2 X.N Vn G' i j x y sc scope)
    (q : wE X a σ H fun v H1 => ∃ ad xs, v = .ref ad ∧ SqL X.K H1 ad xs ∧ ∀ D, H1 D = none → LcL2 X Vn G' elt scope i j ad xs D σ H1 fun H2 => Q (.ref D) H2)
    (I : In X N G sc := by assumption) (hc : X.calm = true := by rfl) (hs2 : ∀ z, foldedSetIterable a X.env z = pure z := by intro _; rfl) :
    wE X (.ListComp elt [⟨.Tuple [.Name x px, .Name y py] kt pt, a, [], 0⟩] scope pos) σ H Q := by
  refine e_of (pe_lc (own := [(x, i), (y, j)]) (g := gT2 X.K i j) (tt := tYes) (te := wBk X Vn G' elt scope) hc I.nd (pi_list pe) (B.ok I) (fun s H C cl fp => B.pg hc I s H C cl fp) (fun _ _ _ _ _ => pts_nil) (fun s H C cl fp => pe_bk (B.inB I s H C cl fp)) hs2) (e_mono q fun v H1 q1 => ?_)
  obtain ⟨ad, xs, rfl, hl, q2⟩ := q1
  exact ⟨ad, rfl, ⟨xs, hl⟩, fun D hD => lcL2_of B.ne (q2 D hD)⟩
end
end Wk
namespace Wk
open PySem PySem.Spec PyProof.Rows L2
section
variable {P : Program} {w : World} {K : PySem.W.Frag} {mg : Str → Option Value} {base : Heap}
/-- a def of the module with one keyword-only default -/
structure TopK (K : PySem.W.Frag) (mg : Str → Option Value) (x : Str) (st : Stmt) (kw : Str) (d : L2.V) : Prop where
  ex : ∃ (f : Addr) (fd : FuncData), FunD K x x (defArgs st) (defBody st) (defScope st) [] [(kw, d)] f fd ∧ mg x = some (.ref f)
theorem topK_mk {h : Heap} {x kw : Str} {d : L2.V} {u : Value} {st : Stmt} {f D : Addr} {oc : Value} {od an : Option Addr} {osl : Array (Option Value)} {doc pm cdv ct : Value} (X : K.In h) (G : h.Ns mainGlobals mg) (a : PySem.W.nsIn K mainGlobals x = some (some (.ref f)))
    (l : K.lookup f = some ⟨oc, od, .func (PySem.W.fnOf x x (defArgs st) (defBody st) (defScope st) .none (.ref D) doc pm an cdv ct), osl⟩) (c : PySem.W.codeIn K cdv x = true) (k : PySem.W.keepIn K (.ref f) = true)
    (hd : PySem.W.nsIn K D kw = some (some u)) (r : RelV d u) : TopK K mg x st kw d :=
  ⟨f, _, ⟨⟨oc, od, .none, .ref D, doc, pm, an, cdv, ct, osl, rfl, l, c, .inl ⟨rfl, rfl⟩, .inr ⟨D, rfl, fun q hq => by
    simp only [List.mem_singleton] at hq
    subst hq
    exact ⟨u, hd, r⟩⟩⟩, k⟩, PySem.W.mg_of X G a⟩
theorem fn_okKw {x kw : Str} {d : L2.V} {st : Stmt} {N G : List Str} {p1 p2 : Str} {k : Nat} {sp : Sp} (T : TopK K mg x st kw d) (S : FnScope N [p1, p2, kw] (defScope st)) (O : ScOk N G (defScope st)) (len : ∀ vs H Q E, sp vs H Q E → vs.length = 3)
    (hb : ∀ (D : Addr) (doc pm : Value) (an : Option Addr) (cdv ct : Value) (a b u : Value), KwChain D [(kw, u)] (bindArgs (PySem.W.fnOf x x (defArgs st) (defBody st) (defScope st) .none (.ref D) doc pm an cdv ct) ⟨[a, b], []⟩) [(p1, a), (p2, b), (kw, u)])
    (hb2 : ∀ (kV doc pm : Value) (an : Option Addr) (cdv ct : Value) (a b u : Value), bindArgs (PySem.W.fnOf x x (defArgs st) (defBody st) (defScope st) .none kV doc pm an cdv ct) ⟨[a, b], [(kw, u)]⟩ = pure [(p1, a), (p2, b), (kw, u)])
    (hbody : ∀ (f : Addr) (cdv : Value) (A : Around) (outer : List Env) (s : Shared) (H : Hp) (vs : List L2.V) (Q : VK) (E : XK), Room k (A.deeper (envOfC x (defScope st) s.heap.objs.size f cdv)) → sp vs H Q E → In (cxOf (L2N.CX P w) P w K mg base N x (defScope st) f cdv A outer s H E) N G (defScope st) →
      L2N.Takes (cxOf (L2N.CX P w) P w K mg base N x (defScope st) f cdv A outer s H E) (fun cls d _ H => E cls d H) →
      wL (cxOf (L2N.CX P w) P w K mg base N x (defScope st) f cdv A outer s H E) (defBody st) { nx := fun _ H' => Q .non H', rt := Q } (start N vs) H) : FnKw P w K mg base (k + 1) x kw 2 d sp := by
  obtain ⟨f, fd, F, hm⟩ := T.ex
  have hbd := FunD.binds0 (ps := [p1, p2, kw]) F 2 (by simp) rfl (fun D doc pm an cdv ct us ks l1 l2 => by
    match us, ks, l1, l2 with
    | [a, b], [u], _, _ => exact hb D doc pm an cdv ct a b u)
  obtain ⟨oc, od, dV, kV, doc, pm, an, cdv, ct, osl, rfl, lk, hcd, hD, hK⟩ := id F.ex
  obtain rfl : dV = .none := by
    rcases hD with ⟨_, h⟩ | ⟨h, _⟩
    · exact h
    · exact absurd rfl h
  refine ⟨f, _, [p1, p2, kw], fn_of lk hcd S len (fun A outer s H vs Q E hr h => ⟨_, pl, hbody f cdv A outer s H vs Q E hr h ⟨O, ⟨[], (List.append_nil _).symm⟩, S.nd, rfl, rfl, passes_of rfl⟩ (L2N.takes_of rfl rfl rfl rfl)⟩), hm, F.kp, ?_, fun us ws => us ++ ws, ⟨fun s us ws _ l1 l2 => ?_, fun r1 r2 => r1.append r2⟩⟩
  · obtain ⟨ds, h1, h2⟩ := hbd
    exact ⟨ds, h1, h2⟩
  · match us, ws, l1, l2 with
    | [a, b], [u], _, _ => exact .of_eq (hb2 kV doc pm an cdv ct a b u)
end
end Wk

set_option maxHeartbeats 4000000
/-! My own layer: sorted(set(xs)) of a list of texts. -/
namespace Wk
open PySem PySem.Spec PyProof.Rows L2
/-- one more text, if it is new -/
def addL (l : List Str) (z : Str) : List Str := if z ∈ l then l else l ++ [z]
def txE (e : Int × Value) : Str := strOf e.2
def TxE (w : World) (e : Int × Value) : Prop := ∃ z tk, e.2 = Value.str z tk ∧ e.1 = hashStr w z
/-- the set of the texts L -/
def SetTx (w : World) (h : Heap) (a : Addr) (L : List Str) : Prop :=
  ∃ ob es ep tb, h.get? a = some ob ∧ ob.ExactSet ∧ ob.data = .set es ep tb ∧ (∀ e ∈ es.toList, TxE w e) ∧ (es.toList.map txE).Perm L ∧ L.Nodup ∧
    es.size < scanBound ∧ tb.fits es.size = true ∧ Ris tb.place.toList ∧ (w.params.followText "set-order" = true ∨ tb.led = true)
section
variable {P : Program} {w : World} {h h' : Heap} {a : Addr} {L : List Str}
theorem SetTx.moves (R : SetTx w h a L) (k : ∀ o, h.get? a = some o → h'.get? a = some o) : SetTx w h' a L := by
  obtain ⟨ob, es, ep, tb, g1, rest⟩ := R
  exact ⟨ob, es, ep, tb, k ob g1, rest⟩
theorem tx_elems {l : List (Int × Value)} (g : ∀ e ∈ l, TxE w e) : ElemsOf (PySem.strKind P w) l := fun e m => by
  obtain ⟨z, tk, e1, e2⟩ := g e m
  refine ⟨⟨z, by rw [e1]; exact strKind_is P w z tk, e2⟩, ?_⟩
  rw [e1]
  rfl
theorem tx_is {e : Int × Value} (g : TxE w e) (z : Str) : (PySem.strKind P w).is z e.2 = true ↔ txE e = z := by
  obtain ⟨y, tk, e1, _⟩ := g
  have e2 : txE e = y := by unfold txE; rw [e1]; rfl
  rw [e2, e1]
  constructor
  · intro q
    obtain ⟨u, eu⟩ := Value.isStrOf_shape (x := z) (show Value.isStrOf z (.str y tk) = true from q)
    injection eu
  · rintro rfl
    exact strKind_is P w y tk
theorem tx_mem {l : List (Int × Value)} (g : ∀ e ∈ l, TxE w e) (z : Str) : z ∈ l.map txE ↔ ∃ e ∈ l, (PySem.strKind P w).is z e.2 = true := by
  rw [List.mem_map]
  exact ⟨fun ⟨e, m, q⟩ => ⟨e, m, (tx_is (g e m) z).2 q⟩, fun ⟨e, m, q⟩ => ⟨e, m, (tx_is (g e m) z).1 q⟩⟩
theorem tx_fresh (ho : h.get? a = some { cls := .type "set", dict := none, data := .set #[] 0 (.fresh 0 0 (!w.params.followText "set-order")) }) : SetTx w h a [] := by
  refine ⟨_, #[], 0, _, ho, ⟨rfl, rfl, rfl⟩, rfl, (fun e m => by simp at m), .refl _, List.nodup_nil, by decide, rfl, List.Pairwise.nil, ?_⟩
  show _ ∨ (!w.params.followText "set-order") = true
  cases w.params.followText "set-order" with
  | false => exact .inr rfl
  | true => exact .inl rfl
end
section
variable {P : Program} {w : World} {A : Around} {E : Value → Shared → Prop} {s : Shared} {a : Addr} {L : List Str}
theorem tx_tail {g : Bool → Sem Unit} (hg : ∀ (b : Bool) (s1 : Shared) (Q1 : Unit → Shared → Prop), Q1 () s1 → wpAny (model P w) A (g b) Q1 E s1)
    {ob : Obj} {es : Array (Int × Value)} {ep : Nat} {tb : SetTable} (g0 : s.heap.get? a = some ob) (gx : ob.ExactSet) (gd : ob.data = .set es ep tb)
    {fs : Array (Int × Value)} {t2 : SetTable} {M : List Str} (g1 : ∀ e ∈ fs.toList, TxE w e) (pm1 : (fs.toList.map txE).Perm M) (nd1 : M.Nodup)
    (b1 : fs.size < scanBound) (f1 : t2.fits fs.size = true) (r1 : Ris t2.place.toList) (l1 : w.params.followText "set-order" = true ∨ t2.led = true) {wd : Bool} {R : Option Bool → Shared → Prop}
    (hR : ∀ h1, Heap.SameBut a s.heap h1 → SetTx w h1 a M → R (some true) { s with heap := h1 }) :
    wpAny (model P w) A (do
        storeSet a fs t2
        if (!wd && t2.tooFull) = true then do
            g (relayAll t2 fs (SetTable.grown fs.size)).2.2
            storeSet a (relayAll t2 fs (SetTable.grown fs.size)).1 (relayAll t2 fs (SetTable.grown fs.size)).2.1
            pure (some true)
          else pure (some true)) R E s := by
  refine wpAny_bind (wpAny_storeSet_of g0 gd ?_ (fits_of_scanBound b1))
  have g02 := store_at (es' := fs) (t' := t2) g0 gd
  have sb := Heap.SameBut.update s.heap a (Obj.putSet fs t2)
  split
  · have pm := relayAll_perm t2 fs (SetTable.grown fs.size)
    have f3 := relayAll_fits t2 fs (SetTable.grown fs.size)
    have r3 := relayAll_ris t2 fs (SetTable.grown fs.size)
    have l3 := relayAll_led t2 fs (SetTable.grown fs.size)
    generalize relayAll t2 fs (SetTable.grown fs.size) = Z at pm f3 r3 l3 ⊢
    obtain ⟨gs, t3, gave⟩ := Z
    dsimp only at pm f3 r3 l3 ⊢
    have zs : gs.size = fs.size := by rw [← Array.length_toList, pm.length_eq, Array.length_toList]
    have b2 : gs.size < scanBound := zs ▸ b1
    refine wpAny_bind (hg _ _ _ (wpAny_bind (wpAny_storeSet_of g02 rfl ?_ (fits_of_scanBound b2))))
    have g03 := store_at (es' := gs) (t' := t3) g02 rfl
    refine wpAny_pure (hR _ (sb.trans (Heap.SameBut.update _ a _)) ⟨_, gs, _, t3, g03, gx, rfl, fun e m => g1 e (pm.mem_iff.mp m), (pm.map txE).trans pm1, nd1, b2, f3, r3, ?_⟩)
    rw [l3]
    exact l1
  · exact wpAny_pure (hR _ sb ⟨_, fs, _, t2, g02, gx, rfl, g1, pm1, nd1, b1, f1, r1, l1⟩)
theorem addL_in {z : Str} (m : z ∈ L) : addL L z = L := if_pos m
theorem addL_new {z : Str} (m : z ∉ L) : addL L z = L ++ [z] := if_neg m
theorem tx_add {z : Str} {tk : Tok} {Q : Bool → Shared → Prop} (R : SetTx w s.heap a L) (room : L.length + 1 < scanBound)
    (hQ : ∀ (b : Bool) h1, Heap.SameBut a s.heap h1 → SetTx w h1 a (addL L z) → Q b { s with heap := h1 }) :
    wpAny (model P w) A (setAddHashed a (.str z tk) ((PySem.strKind P w).hash z)) Q E s := by
  obtain ⟨ob, es, ep, tb, g0, gx, gd, g, pm0, nd, bb, ff, rr, ll⟩ := R
  have hkey : (PySem.strKind P w).is z (.str z tk) = true := strKind_is P w z tk
  have hsc : (Value.str z tk).scannable = true := rfl
  have hel : ElemsOf (PySem.strKind P w) es.toList := tx_elems g
  unfold setAddHashed setAddHashedIn
  refine wpAny_holding (wpAny_bind (wpAny_setState_of g0 gd ff ?_))
  dsimp only
  rw [byScan_of hsc bb hel]
  simp only [↓reduceIte]
  unfold setAddByScan
  refine wpAny_bind (wpAny_bind (wpAny_rule (wpAny_bind (wpAny_setScan_of hkey g0 gd ff hel ?_))))
  cases fi : List.findIdx? (fun e => (PySem.strKind P w).is z e.2) es.toList with
  | some j =>
    dsimp only
    obtain ⟨hj, pj, _⟩ := List.findIdx?_eq_some_iff_getElem.mp fi
    have m : z ∈ L := pm0.mem_iff.mp ((tx_mem (P := P) g z).2 ⟨es.toList[j], List.getElem_mem hj, pj⟩)
    refine wpAny_pure (wpAny_pure (hQ _ s.heap (Heap.SameBut.refl a s.heap) ?_))
    rw [addL_in m]
    exact ⟨ob, es, ep, tb, g0, gx, gd, g, pm0, nd, bb, ff, rr, ll⟩
  | none =>
    dsimp only
    have nz : z ∉ L := fun m => by
      obtain ⟨e, me, q⟩ := (tx_mem (P := P) g z).1 (pm0.mem_iff.mpr m)
      have c := List.findIdx?_eq_none_iff.mp fi e me
      rw [q] at c
      cases c
    have hgw : ∀ (b : Bool) {s1 : Shared} {Q1 : Unit → Shared → Prop}, Q1 () s1 → wpAny (model P w) A (match b with | true => rule "set.scan.the-table-gave-way" | false => pure ()) Q1 E s1 :=
      fun b s1 Q1 q => by cases b <;> first | exact wpAny_pure q | exact wpAny_rule q
    have pm := layNew_perm tb es ((PySem.strKind P w).hash z) (.str z tk)
    have f1 := layNew_fits tb es ((PySem.strKind P w).hash z) (.str z tk)
    have r1 := layNew_ris tb es ((PySem.strKind P w).hash z) (.str z tk) rr
    have l1 := layNew_led tb es ((PySem.strKind P w).hash z) (.str z tk)
    generalize layNew tb es ((PySem.strKind P w).hash z) (.str z tk) = Z at pm f1 r1 l1 ⊢
    obtain ⟨fs, t1, wd, gave⟩ := Z
    dsimp only at pm f1 r1 l1 ⊢
    rw [Array.toList_push] at pm
    have pk : (fs.toList.map txE).Perm (addL L z) := by
      rw [addL_new nz]
      refine (pm.map txE).trans ?_
      rw [List.map_append]
      exact pm0.append_right _
    have g1 : ∀ e ∈ fs.toList, TxE w e := fun e m => by
      rcases List.mem_append.mp (pm.mem_iff.mp m) with y | y
      · exact g e y
      · rw [List.mem_singleton.mp y]
        exact ⟨z, tk, rfl, rfl⟩
    have nd1 : (addL L z).Nodup := by
      rw [addL_new nz]
      exact List.nodup_append.mpr ⟨nd, by simp, fun x hx y hy e => by rw [List.mem_singleton] at hy; subst hy; subst e; exact nz hx⟩
    have zs : fs.size = L.length + 1 := by
      have q := pk.length_eq
      rw [addL_new nz, List.length_map, List.length_append, Array.length_toList] at q
      exact q
    have b1 : fs.size < scanBound := by rw [zs]; exact room
    have led : w.params.followText "set-order" = true ∨ t1.led = true := by rw [l1]; exact ll
    refine wpAny_bind (hgw _ ?_)
    split
    · refine wpAny_bind ?_
      rw [hashByValue_scannable 8 hsc]
      refine wpAny_pure (tx_tail ?_ g0 gx gd g1 pk nd1 b1 ?_ ?_ ?_ ?_)
      · intro b s1 Q1 q; cases b <;> first | exact wpAny_pure q | exact wpAny_rule q
      · first | (split <;> first | exact f1 | exact SetTable.fits_plain_off f1) | exact f1
      · first | (split <;> exact r1 rr) | exact r1 rr | (split <;> exact r1) | exact r1
      · first | (split <;> exact led) | exact led
      · intro h1 sb r; dsimp only; exact wpAny_pure (hQ true h1 sb r)
    · refine wpAny_bind (wpAny_pure ?_)
      simp only [↓reduceIte]
      refine tx_tail ?_ g0 gx gd g1 pk nd1 b1 f1 ?_ led ?_
      · intro b s1 Q1 q; cases b <;> first | exact wpAny_pure q | exact wpAny_rule q
      · first | exact r1 | exact r1 rr
      · intro h1 sb r; dsimp only; exact wpAny_pure (hQ true h1 sb r)
end
section
variable {P : Program} {w : World} {A : Around} {E : Value → Shared → Prop} {s : Shared}
def uniqL (zs : List Str) : List Str := zs.foldl addL []
theorem uniqL_snoc (zs : List Str) (z : Str) : uniqL (zs ++ [z]) = addL (uniqL zs) z := by unfold uniqL; rw [List.foldl_append]; rfl
theorem addL_len (l : List Str) (z : Str) : (addL l z).length ≤ l.length + 1 := by unfold addL; split <;> simp
theorem foldL_len : ∀ (zs l : List Str), (zs.foldl addL l).length ≤ l.length + zs.length
  | [], l => by simp
  | z :: zs, l => by
    have h1 := foldL_len zs (addL l z)
    have h2 := addL_len l z
    simp only [List.foldl_cons, List.length_cons]
    omega
theorem uniqL_len (zs : List Str) : (uniqL zs).length ≤ zs.length := by
  have h := foldL_len zs []
  simpa [uniqL] using h
theorem tx_loop {I : Addr} {fp wr : List Addr} {G : Array GenState → Array GenState → Prop} {n : Nat} {Pv : Nat → Value → Prop} {St : Nat → Shared → Prop} {R : Result → Shared → Prop}
    (W : WalksS P w A.in1 I fp wr G n Pv St) (D : Addr) (dfp : D ∉ fp) (zs : List Str) (en : n = zs.length) (hb : zs.length + 1 < scanBound) (hv : ∀ i v, Pv i v → ∃ z t, zs[i]? = some z ∧ v = .str z t) :
    ∀ (k i : Nat) (s : Shared), n - i = k → i ≤ n → St i s → SetTx w s.heap D (uniqL (zs.take i)) →
      (∀ s1, Moved (D :: wr) G s s1 → SetTx w s1.heap D (uniqL zs) → R (.ok (.ret .none)) s1) →
      codeAny (model P w) A (.builtin "set.update.loop" ⟨[.ref D, .ref I], []⟩) R s := by
  have dwr : D ∉ wr := fun m => dfp (W.sub _ m)
  have more : ∀ b ∈ wr, b ∈ D :: wr := fun b m => List.mem_cons_of_mem _ m
  intro k
  induction k with
  | zero =>
    intro i s ek hi st hD hR
    obtain rfl : i = n := by omega
    refine codeAny_builtin PyProof.Rows.F.entry_set_update_loop ?_
    rw [Around.under_plainId PyProof.Rows.F.plain_set_update_loop _]
    show wpAny _ A.in1 (pyNext (.ref I) >>= _) _ _ s
    refine wpAny_bind (W.done s _ _ st fun s1 mv => ?_)
    show wpAny _ A.in1 (ret Value.none) _ _ s1
    rw [List.take_of_length_le (by omega)] at hD
    exact wpAny_pure (hR s1 (mv.mono more) (hD.moves fun o e => mv.heap D o dwr e))
  | succ k ih =>
    intro i s ek hi st hD hR
    have lt : i < n := by omega
    refine codeAny_builtin PyProof.Rows.F.entry_set_update_loop ?_
    rw [Around.under_plainId PyProof.Rows.F.plain_set_update_loop _]
    show wpAny _ A.in1 (pyNext (.ref I) >>= _) _ _ s
    refine wpAny_bind (W.item i s _ _ lt st fun v s1 hp st1 mv => ?_)
    obtain ⟨z, t, hz, rfl⟩ := hv i v hp
    have hD1 : SetTx w s1.heap D (uniqL (zs.take i)) := hD.moves fun o e => mv.heap D o dwr e
    show wpAny _ A.in1 (holding [Value.str z t] (setAdd D (.str z t)) >>= _) _ _ s1
    refine wpAny_bind (wpAny_holding ?_)
    unfold setAdd
    refine wpAny_holding (wpAny_bind ((PySem.strKind P w).pyHash (k := z) (strKind_is _ _ _ _) ?_))
    have hl := uniqL_len (zs.take i)
    rw [List.length_take] at hl
    refine tx_add (s := { s1 with toks := s1.toks + 1 }) hD1 (by omega) fun b h1 sb hD2 => ?_
    rw [← uniqL_snoc, show zs.take i ++ [z] = zs.take (i + 1) by rw [List.take_add_one, hz]; rfl] at hD2
    refine wpAny_pure ⟨plainId_quiet PyProof.Rows.F.plain_set_update_loop _, ih (i + 1) _ (by omega) lt (W.frame _ s1 _ _ st1 (Nat.le_succ _) fun b m o e => ?_) hD2 fun s2 mv2 hD3 => ?_⟩
    · rw [sb.2 b (fun q : b = D => dfp (q ▸ m))]
      exact e
    · refine hR s2 (Moved.trans W.gtrans ((mv.mono more).then_heap (Nat.le_succ _) fun b o m e => ?_) mv2) hD3
      rw [sb.2 b (fun q : b = D => m (by rw [q]; exact List.mem_cons_self))]
      exact e
def freshSet (w : World) : Obj := { cls := .type "set", dict := none, data := .set #[] 0 (.fresh 0 0 (!w.params.followText "set-order")) }
theorem call_setTx {l : Addr} {items : Array Value} (zs : List Str) {Q : Value → Shared → Prop} (hh : A.handled = none) (hl : s.heap.IsList l items) (hit : StrsAre items.toList zs) (hb : zs.length + 1 < scanBound)
    (h : ∀ (h1 : Heap) (tk : Nat), SetTx w h1 s.heap.objs.size (uniqL zs) → (∀ b o, s.heap.get? b = some o → h1.get? b = some o) → Q (.ref s.heap.objs.size) { s with heap := h1, toks := tk }) :
    wpAny (model P w) A (call (.type "set") [.ref l]) Q E s := by
  have hisz : items.size = zs.length := by rw [← StrsAre.len_eq hit, Array.length_toList]
  obtain ⟨c, tl, hmro⟩ := PySem.F.called_set.mro
  have hmade := PySem.F.called_set.made
  have hsub := PySem.F.called_set.sub
  refine wpAny_call (codeAny_of_tree ?_)
  show wpAny _ _ (callAny (.type "set") _) _ _ _
  refine wpAny_pure ⟨Code.quiet_builtin _ (by decide +kernel), codeAny_builtin PySem.F.entry_type_call ?_⟩
  rw [Around.under_plain (weight_type_call_type "set" [.ref l] []) rfl]
  have h1 := PySem.F.called_set.notType
  have h2 := PySem.F.called_set.canCreate
  have hct := PySem.F.typeCall_set_1 (.ref l)
  repeat (any_goals (first | assumption | wp_step))
  refine codeAny_mono (code_set_led1 (.ref l) (E := E) (Q₁ := fun ov s1 => ov = .ref s.heap.objs.size ∧ s1 = { s with heap := s.heap.push (freshSet w) }) ⟨rfl, rfl⟩) fun r s1 hr => ?_
  cases r with
  | error e => exact hr
  | ok fl =>
    cases fl with
    | ret ov =>
      obtain ⟨rfl, rfl⟩ := hr
      have gS : (s.heap.push (freshSet w)).get? s.heap.objs.size = some (freshSet w) := Heap.get?_push_size _ rfl
      have gT : Shared.TypeIs { s with heap := s.heap.push (freshSet w) } (.ref s.heap.objs.size) "set" := ⟨_, gS, rfl⟩
      have hli := PySem.F.called_set.init.lookup
      have hbi := PySem.F.called_set.init.bind (.ref s.heap.objs.size)
      repeat (any_goals (first | assumption | wp_step))
      refine codeAny_mono (codeAny_call_builtin (R := wants (fun r s2 => r = .none ∧ ∃ h1 tk, s2 = { s with heap := h1, toks := tk } ∧ SetTx w h1 s.heap.objs.size (uniqL zs) ∧
          (∀ b o, s.heap.get? b = some o → h1.get? b = some o)) E) PySem.F.called_set.init.plain PySem.F.entry_set_init (check_set_init_1 gT ?_)) fun r2 s2 hr2 => ?_
      · obtain ⟨ol, hol, hcl, nl, hdl⟩ := hl
        obtain ⟨ocls, odict, odata, oslots⟩ := ol
        simp only at hcl hdl
        subst hcl; subst hdl
        have hol1 : (s.heap.push (freshSet w)).get? l = some { cls := .type "list", dict := odict, data := .seq items nl, slots := oslots } := Heap.get?_push_of_some _ hol
        have hsls := PySem.F.sub_list_set
        have hslf := PySem.F.sub_list_frozenset
        have hne : (Value.type "list" == Value.type "dict") = false := by decide
        have hl1 : (s.heap.push (freshSet w)).IsList l items := ⟨_, hol1, rfl, nl, rfl⟩
        unfold Builtin.«set.__init__» noKeywords Builtin.Frozenset.updateFrom
        generalize hPI : pyIter = PI
        wp_walk
        subst hPI
        refine wpAny_pyIter_list hl1 ?_
        refine wpAny_bind (wpAny_runValue ?_)
        have hlS : l < s.heap.objs.size := Heap.lt_size hol
        have hh3 : A.in1.in1.in1.handled = none := by simp [hh]
        have hneI : l ≠ (s.heap.push (freshSet w)).objs.size := by
          rw [Heap.size_push]; exact Nat.ne_of_lt (Nat.lt_succ_of_lt hlS)
        have hSf : s.heap.objs.size ∉ [(s.heap.push (freshSet w)).objs.size, l] := by
          rw [Heap.size_push]; simp only [List.mem_cons, List.mem_singleton, List.not_mem_nil, or_false, not_or]
          exact ⟨Nat.ne_of_lt (Nat.lt_succ_self _), Nat.ne_of_gt hlS⟩
        have hval : ∀ (i : Nat) (v : Value), items[i]? = some v → ∃ z t, zs[i]? = some z ∧ v = .str z t := fun i v hv => by
          have hi : i < zs.length := by rw [← hisz]; exact (Array.getElem?_eq_some_iff.mp hv).1
          obtain ⟨t, e⟩ := SS.strs_at hit i v (by rw [Array.getElem?_toList]; exact hv)
          refine ⟨zs[i], t, List.getElem?_eq_getElem hi, ?_⟩
          rw [e, List.getD_eq_getElem?_getD, List.getElem?_eq_getElem hi] <;> rfl
        refine tx_loop ((Walks.list hh3 _ l hneI items).toS) s.heap.objs.size hSf zs hisz hb hval (items.size - 0) 0 _ (by omega) (Nat.zero_le _)
          ⟨⟨_, Heap.get?_push_size _ rfl, rfl, rfl⟩, (hl1.push _)⟩ (tx_fresh (Heap.get?_push_of_some _ gS)) fun s3 hm hD => ?_
        obtain ⟨h3, g3, d3, tk3, os3⟩ := s3
        obtain rfl : g3 = s.gens := hm.gens
        obtain rfl : d3 = s.drawn := hm.drawn
        obtain rfl : os3 = s.os := hm.os
        show wpAny _ _ _ _ _ _
        refine wpAny_pure ?_
        show wpAny _ _ (ret Value.none) _ _ _
        refine wpAny_pure ⟨rfl, h3, tk3, rfl, hD, fun b o e => ?_⟩
        have hb0 : b < s.heap.objs.size := Heap.lt_size e
        refine hm.heap b o ?_ (Heap.get?_push_of_some _ (Heap.get?_push_of_some _ e))
        simp only [List.mem_cons, List.mem_singleton, List.not_mem_nil, or_false, not_or]
        exact ⟨Nat.ne_of_lt hb0, by rw [Heap.size_push]; exact Nat.ne_of_lt (Nat.lt_succ_of_lt hb0)⟩
      · cases r2 with
        | error e => exact hr2
        | ok fl2 =>
          cases fl2 with
          | ret r =>
            obtain ⟨rfl, h3, tk, rfl, hD, hk⟩ := hr2
            repeat (any_goals (first | assumption | wp_step))
            exact h _ _ hD hk
          | _ => exact hr2.elim
    | _ => exact hr.elim
end
end Wk

set_option maxHeartbeats 4000000
/-! My own layer: sorted of a set of texts, tuple(reversed(t)) of a tuple. -/
namespace Wk
open PySem PySem.Spec PyProof.Rows L2
section
variable {P : Program} {w : World} {A : Around} {E : Value → Shared → Prop} {s : Shared} {a : Addr} {L : List Str}
theorem sorted_setTx {Q : Value → Shared → Prop} (R : SetTx w s.heap a L) (hh : A.handled = none) (h64 : L.length < 64)
    (hQ : ∀ s1 p (out : Array Value) (c : Nat) (ys : List Str), (∀ b o, s.heap.get? b = some o → s1.heap.get? b = some o) → s1.gens = s.gens → s1.os = s.os → s.heap.objs.size ≤ p →
      s1.heap.get? p = some (seqObj "list" out c) → StrsAre out.toList ys → ys.Perm L → sortedS ys = true → Q (.ref p) s1) :
    wpAny (model P w) A (call (.builtin "sorted") [.ref a]) Q E s := by
  obtain ⟨ob, es, ep, tb, g0, gx, gd, g, pm0, nd, bb, ff, rr, ll⟩ := R
  refine Calls.call_function_entry kind_sorted plain_sorted entry_sorted (args_sorted1 _) ?_
  unfold Builtin.«sorted»
  refine wpAny_bind (m := checkCount "sorted" 1 1 _) (wpAny_pure ?_)
  refine wpAny_bind (collect_set (A := A.in1) hh ⟨ob, g0, gx.1, gd⟩ ff bb rr ll fun s1 vs k1 hz g1 o1 pm => ?_)
  have hI : StrsAre vs (vs.map strOf) := strsAre_map vs fun v hv => by
    obtain ⟨e, he, q⟩ := List.mem_map.mp (pm.mem_iff.mp hv)
    obtain ⟨z, tk, e1, _⟩ := g e he
    exact ⟨z, tk, q ▸ e1⟩
  have pk : (vs.map strOf).Perm L := by
    have q := pm.map strOf
    rw [List.map_map] at q
    exact q.trans pm0
  have hvl : vs.length = L.length := by have q := pk.length_eq; rwa [List.length_map] at q
  refine wpAny_bind (wpAny_newList ?_ (by rw [hvl, sizeLine_eq]; omega))
  have hoL : (s1.heap.push (seqObj "list" vs.toArray 0)).get? s1.heap.objs.size = some (seqObj "list" vs.toArray 0) := Heap.get?_push_size _ rfl
  refine wpAny_bind (wpAny_holding (wpAny_call_entry slot_list_sort ⟨_, hoL, rfl⟩ entry_list_sort (list_sort_treeK strKind_oneLt hoL hI.keysOf
    (fun v1 v2 rest e => keyKind_strs (ss := vs.map strOf) (by rw [← e]; exact hI)) (by rw [hvl]; exact h64) fun st hp hs => ⟨_, rfl, ?_⟩) (args_list_sort _)))
  obtain ⟨ys, y1, y2, y3⟩ := sorted_out_str hI hp hs
  obtain ⟨c, hc⟩ := sortedHeap_at (vs := vs) (out := (arrOf st).map (·.2)) hoL
  refine wpAny_pure ⟨_, rfl, hQ _ s1.heap.objs.size _ c ys (fun b u e => ?_) g1 o1 hz hc y1 (y2.trans pk) y3⟩
  have q := k1 b u e
  have lt := Heap.lt_size q
  show (sortedHeap (s1.heap.push (seqObj "list" vs.toArray 0)) s1.heap.objs.size vs ((arrOf st).map (·.2))).get? b = some u
  rw [sortedHeap_old (Nat.ne_of_lt lt) (by rw [size_push']; exact Nat.lt_succ_of_lt lt)]
  exact Heap.get?_push_of_some _ q
end
/-- the set of the texts L at a -/
def SetTO (w : World) (a : Addr) (L : List Str) : HO := .ext fun h => SetTx w h a L
section
variable {X : Cx}
theorem setTO_ok {w : World} {P : Program} {H : Hp} {h : Heap} {a : Addr} {L : List Str} (R : SetTx w h a L) : ObjOk P w H h a (SetTO w a L) := by
  have ⟨o, _, _, _, ho, _⟩ := R
  exact ⟨R, ⟨o, ho⟩, fun _ _ p k => SetTx.moves p k⟩
def rSetOfTx (w : World) (K : PySem.W.Frag) : List V → Hp → VK → Prop := fun xs H Q => ∃ (l : Addr) (zs : List Str), xs = [V.ref l] ∧ SqL K H l (zs.map V.str) ∧ zs.length + 1 < scanBound ∧ ∀ p, H p = none → Q (.ref p) (upd H p (SetTO w p (uniqL zs)))
theorem cr_setOfTx (hc : X.calm = true) : CallR X (.type "set") (rSetOfTx X.w X.K) := by
  intro pins s σ H xs us Q I r h
  obtain ⟨l, zs, rfl, hq, hb, q⟩ := h
  rw [Vals.ref1 r]
  obtain ⟨its, rv, pl, hz⟩ := I.list hq
  refine call_setTx zs (I.ok.hd hc) pl.isList (by simpa using strsAre_of rv) hb fun h1 tk hD k => ?_
  exact ⟨.ref _, upd H s.heap.objs.size (SetTO X.w s.heap.objs.size (uniqL zs)), I.laid (t' := tk) k (Nat.le_refl _) (setTO_ok hD), rfl, q _ (I.hok.fresh (Nat.le_refl _))⟩
def rSortedTx (w : World) : List V → Hp → VK → Prop := fun vs H Q => ∃ (a : Addr) (L : List Str), vs = [V.ref a] ∧ H a = some (SetTO w a L) ∧ L.length < 64 ∧
  ∀ (ys : List Str) (p : Addr), ys.Perm L → sortedS ys = true → H p = none → Q (.ref p) (upd H p (.lst (ys.map V.str)))
theorem cr_sortedTx (hc : X.calm = true) : CallR X (.builtin "sorted") (rSortedTx X.w) := by
  intro pins s σ H vs us Q I r h
  obtain ⟨a, L, rfl, ha, h64, q⟩ := h
  have R : SetTx X.w s.heap a L := (I.hok a _ ha).1
  rw [Vals.ref1 r]
  refine sorted_setTx R (I.ok.hd hc) h64 fun s1 p out c ys k g o hp hg hi pm hs => ?_
  have hlen : (ys.map V.str).length ≤ sizeLine := by rw [List.length_map, pm.length_eq, sizeLine_eq]; omega
  have hn : H p = none := I.hok.fresh hp
  have J : Inv X pins σ (upd H p (.lst (ys.map V.str))) { s with heap := s1.heap, gens := s1.gens, drawn := s1.drawn, toks := s1.toks } :=
    I.call (ch := []) (Un.laid k hp hn) (I.hok.laid k hp ⟨hlen, out.toList, c, vals_of_strs hi, hg⟩) (by rw [g]; exact I.bare) (fun _ z => nomatch z)
  have e : s1 = { s with heap := s1.heap, gens := s1.gens, drawn := s1.drawn, toks := s1.toks } := by
    cases s1
    cases s
    cases o
    rfl
  rw [e]
  exact ⟨.ref p, _, J, rfl, q ys p pm hs hn⟩
end
end Wk

set_option maxHeartbeats 4000000
/-! My own layer: tuple(reversed(t)) of a tuple. -/
namespace Wk
open PySem PySem.Spec PyProof.Rows L2 RT
theorem nolen_rt : typeLookup (.type "reversed") "__len__" = pure none := by rw [typeLookup_type, builtinLookup_eq_fast]; kernel_rfl
theorem hint_rt : typeLookup (.type "reversed") "__length_hint__" = pure (some (.builtin "reversed.__length_hint__")) := by rw [typeLookup_type, builtinLookup_eq_fast]; kernel_rfl
theorem slot_rt_hint : Slot "reversed" "__length_hint__" "reversed.__length_hint__" :=
  .of (owner := "reversed") (n := "__length_hint__") (by rw [typeLookup_type, builtinLookup_eq_fast]; kernel_rfl) (by decide +kernel) (by decide +kernel) (by decide +kernel)
    (by first | exact .inl (by decide +kernel) | exact .inr (by decide +kernel)) (by rw [isSubtype_type]; kernel_rfl)
theorem entry_rt_hint : entryFor table "reversed.__length_hint__" = some Builtin.«reversed.__length_hint__» := entryFor_of_tree (by kernel_rfl)
theorem args_rt_hint (a : Value) : argsOk "reversed.__length_hint__" ⟨[a], []⟩ := by
  unfold argsOk; rw [signature?_of (id := "reversed.__length_hint__") (n := ['_', '_', 't', 'n', 'i', 'h', '_', 'h', 't', 'g', 'n', 'e', 'l', '_', '_']) (o := ['d', 'e', 's', 'r', 'e', 'v', 'e', 'r']) (by kernel_rfl) owner_rt]; kernel_rfl
theorem bind_rt_hint (x : Value) : bindSpecial (.builtin "reversed.__length_hint__") x = pure (.builtin "reversed.__length_hint__", [x]) := by
  unfold bindSpecial
  rw [show typeOf (.builtin "reversed.__length_hint__") = pure (.type "method_descriptor") from by kernel_rfl]
  rfl
section
variable {prog : Program} {w : World} {A : Around} {E : Value → Shared → Prop} {s : Shared}
theorem walks_rt (hh : A.handled = none) (it t : Addr) (ne : t ≠ it) (items : Array Value) (hz : items.size ≤ sizeLine) :
    Walks prog w A it [it, t] [it] items.size (fun i v => items[items.size - 1 - i]? = some v) (fun i h => i ≤ items.size ∧ IsRt h it t ((items.size : Int) - 1 - (i : Int)) ∧ IsTup h t items) where
  sub := fun b m => by simp at m; simp [m]
  frame := fun _ _ _ x k => ⟨x.1, x.2.1.at fun o e => k it (by simp) o e, let ⟨o, e, z⟩ := x.2.2; ⟨o, k t (by simp) o e, z⟩⟩
  item := fun i s Q E hi x hQ => by
    have e1 : (items.size : Int) - 1 - (i : Int) = ((items.size - 1 - i : Nat) : Int) := by omega
    have hit := x.2.1
    rw [e1] at hit
    have hx : items[items.size - 1 - i]? = some (items[items.size - 1 - i]'(by omega)) := Array.getElem?_eq_getElem (by omega)
    refine next_rt_item hit x.2.2 hx hz fun h1 st sb => ?_
    have e2 : ((items.size - 1 - i : Nat) : Int) - 1 = (items.size : Int) - 1 - ((i + 1 : Nat) : Int) := by omega
    rw [e2] at st
    exact hQ _ h1 _ hx ⟨hi, st, let ⟨o, eo, z⟩ := x.2.2; ⟨o, (sb.2 t ne).trans eo, z⟩⟩ fun b o nb eo => sb.extBut b o (fun q => nb (by simp [q])) eo
  done := fun s Q E x hQ => by
    have e1 : (items.size : Int) - 1 - (items.size : Int) = -1 := by omega
    have hit := x.2.1
    rw [e1] at hit
    exact next_rt_end hh hit fun h1 he => hQ h1 s.toks fun b o nb eo => he b o (fun q => nb (by simp [q])) eo
  self := fun _ _ _ _ x hQ => iter_rt x.2.1 hQ
theorem call_rt_hint {it t : Addr} {items : Array Value} {Q : Value → Shared → Prop} (hit : IsRt s.heap it t ((items.size : Int) - 1)) (ht : IsTup s.heap t items) (hz : items.size ≤ sizeLine)
    (hQ : ∀ tk u, Q (.int items.size tk) { s with toks := u }) : wpAny (model prog w) A (call (.builtin "reversed.__length_hint__") [.ref it]) Q E s := by
  obtain ⟨o, ho, hc, hd⟩ := id hit
  have z2 := hz
  rw [sizeLine_eq] at z2
  refine wpAny_call_entry slot_rt_hint hit.typeIs entry_rt_hint ?_ (args_rt_hint _)
  unfold Builtin.«reversed.__length_hint__»
  refine wpAny_bind (wpAny_of_eq (a := Value.ref it) rfl ?_)
  try dsimp only
  refine wpAny_bind (wpAny_field ho hd (x := .ref t) rfl ?_)
  try dsimp only
  have nn : (Value.ref t == Value.none) = false := by
    first | rfl | exact beq_eq_false_iff_ne.mpr (fun z => nomatch z)
  rw [nn]
  simp only [Bool.false_eq_true, ↓reduceIte]
  refine wpAny_bind (len_tuple ht (by omega) ?_)
  refine wpAny_bind (wpAny_of_eq (a := some ((items.size : Nat) : Int)) rfl ?_)
  try dsimp only
  refine wpAny_bind (wpAny_field (s := { s with toks := s.toks + 1 + 1 }) ho hd (x := rawInt ((items.size : Int) - 1)) rfl ?_)
  show wpAny _ _ (if (items.size : Int) < (items.size : Int) - 1 + 1 then _ else _) _ _ _
  rw [if_neg (by omega)]
  have e1 : (items.size : Int) - 1 + 1 = items.size := by omega
  show wpAny _ _ (retInt ((items.size : Int) - 1 + 1)) _ _ _
  rw [e1]
  unfold retInt
  refine wpAny_bind (wpAny_mkInt ?_)
  exact wpAny_pure ⟨_, rfl, hQ _ _⟩
theorem collect_rt {it t : Addr} {items : Array Value} {Q : List Value → Shared → Prop} (hh : A.handled = none) (hit : IsRt s.heap it t ((items.size : Int) - 1)) (ht : IsTup s.heap t items) (ne : t ≠ it) (hz : items.size ≤ sizeLine)
    (hQ : ∀ (h1 : Heap) (tk : Nat) (acc : Array Value), (∀ b o, b ≠ it → s.heap.get? b = some o → h1.get? b = some o) → ItemsOf (fun i v => items[items.size - 1 - i]? = some v) acc items.size → Q acc.toList { s with heap := h1, toks := tk }) :
    wpAny (model prog w) A (collect (.ref it)) Q E s := by
  have W := (walks_rt (prog := prog) (w := w) (A := A.in1) hh it t ne items hz).toS
  obtain ⟨oi, hoi, _⟩ := id hit
  obtain ⟨ot, hot, _⟩ := id ht
  have nSi : s.heap.objs.size ≠ it := Nat.ne_of_gt (Heap.lt_size hoi)
  have nSt : s.heap.objs.size ≠ t := Nat.ne_of_gt (Heap.lt_size hot)
  have nSf : s.heap.objs.size ∉ [it, t] := by simp only [List.mem_cons, List.not_mem_nil, or_false, not_or]; exact ⟨nSi, nSt⟩
  unfold collect
  refine wpAny_bind (wpAny_runValue (codeAny_builtin F.entry_proto_collect ?_))
  rw [Around.under_plainId F.plain_proto_collect _]
  show wpAny _ A.in1 (newList [] >>= fun l' => again (.builtin "list.__iadd__" ⟨[l', .ref it], []⟩)) _ _ s
  refine wpAny_bind (wpAny_newObj_type ?_)
  refine wpAny_pure ⟨plainId_quiet F.plain_list_iadd _, codeAny_builtin F.entry_list_iadd ?_⟩
  rw [Around.under_plainId F.plain_list_iadd _]
  have gS : (s.heap.push { cls := .type "list", data := .seq ([] : List Value).toArray }).get? s.heap.objs.size = some { cls := .type "list", data := .seq ([] : List Value).toArray } := Heap.get?_push_size _ rfl
  have hit1 : IsRt (s.heap.push { cls := .type "list", data := .seq ([] : List Value).toArray }) it t ((items.size : Int) - 1) := hit.at fun o e => Heap.get?_push_of_some _ e
  have ht1 : IsTup (s.heap.push { cls := .type "list", data := .seq ([] : List Value).toArray }) t items := let ⟨o, e, z⟩ := ht; ⟨o, Heap.get?_push_of_some _ e, z⟩
  have hT : ({ s with heap := s.heap.push { cls := .type "list", data := .seq ([] : List Value).toArray } } : Shared).TypeIs (.ref it) "reversed" := IsRt.typeIs (s := { s with heap := s.heap.push { cls := .type "list", data := .seq ([] : List Value).toArray } }) hit1
  have q1 : Builtin.List.listSameRef (.ref s.heap.objs.size) (.ref it) = false := by simp [Builtin.List.listSameRef, nSi]
  show wpAny _ A.in1 (Builtin.List.listExtendWith (.ref s.heap.objs.size) (.ref it) (.ref s.heap.objs.size)) _ _ _
  unfold Builtin.List.listExtendWith
  refine wpAny_bind (wpAny_typeOf hT ?_)
  rw [if_neg (by rw [q1]; decide)]
  refine wpAny_bind (iter_rt (s := { s with heap := s.heap.push { cls := .type "list", data := .seq ([] : List Value).toArray } }) hit1 ?_)
  refine wpAny_bind (wpAny_holding ?_)
  unfold Builtin.List.listLengthHint
  refine wpAny_bind (wpAny_specialOf hT nolen_rt ?_)
  show wpAny _ A.in1 (specialOf (Value.ref it) (Str.ofString "__length_hint__") >>= _) _ _ _
  refine wpAny_bind (wpAny_specialOf hT hint_rt ?_)
  generalize hid : ("reversed.__length_hint__" : String) = id0
  wp_delta
  rw [show splitId id0 = some ("reversed", "__length_hint__") from by subst hid; decide +kernel]
  subst hid
  refine wpAny_bind (wpAny_isInstance (b := true) hT (by rw [isSubtype_type]; kernel_rfl) ?_)
  simp only [Bool.not_true, Bool.false_eq_true, ↓reduceIte]
  rw [if_neg (by decide +kernel)]
  refine wpAny_bind (wpAny_rule ?_)
  refine wpAny_bind (wpAny_of_eq (bind_rt_hint _) ?_)
  dsimp only
  have hh1 : A.in1.handled = none := hh
  refine wpAny_bind (wpAny_attempt (call_rt_hint hit1 ht1 hz fun tk u => ?_))
  have ea : asInt? (Value.int ((items.size : Nat) : Int) tk) = pure (some ((items.size : Nat) : Int)) := rfl
  simp only [ea, pure_bind]
  have z2 := hz
  rw [sizeLine_eq] at z2
  have f1 : Builtin.List.listFitsIndex ((items.size : Nat) : Int) = true := by
    unfold Builtin.List.listFitsIndex
    simp only [Bool.and_eq_true, decide_eq_true_eq]
    omega
  have f2 : ¬ (((items.size : Nat) : Int) < 0) := by omega
  have f3 : Builtin.List.listTooLong ((items.size : Nat) : Int).toNat = false := by
    unfold Builtin.List.listTooLong
    simp only [Int.toNat_natCast, decide_eq_false_iff_not]
    omega
  rw [f1]
  simp only [Bool.not_true, Bool.false_eq_true, ↓reduceIte]
  rw [if_neg f2, f3]
  simp only [Bool.false_eq_true, ↓reduceIte]
  refine wpAny_pure ?_
  have e0 : ((items.size : Nat) : Int) - 1 - ((0 : Nat) : Int) = (items.size : Int) - 1 := by omega
  split
  · refine wpAny_bind (wpAny_rule ?_)
    refine wpAny_bind ?_
    show wpAny _ A.in1 (updateSeq s.heap.objs.size (·.push .none) >>= fun _ => updateSeq s.heap.objs.size (·.pop)) _ _ _
    refine wpAny_bind (wpAny_updateSeq gS rfl ?_ (by rw [sizeLine_eq]; decide) (by rw [sizeLine_eq]; decide))
    have gS3 := Heap.get?_update_self (Obj.mapSeq (·.push Value.none)) gS rfl
    refine wpAny_updateSeq gS3 rfl ?_ (by rw [sizeLine_eq]; decide) (by rw [sizeLine_eq]; decide)
    have gS4 := Heap.get?_update_self (Obj.mapSeq (·.pop)) gS3 rfl
    have oth : ∀ b o, b ≠ s.heap.objs.size → (s.heap.push { cls := .type "list", data := .seq ([] : List Value).toArray }).get? b = some o → (((s.heap.push { cls := .type "list", data := .seq ([] : List Value).toArray }).update s.heap.objs.size (Obj.mapSeq (·.push Value.none))).update s.heap.objs.size (Obj.mapSeq (·.pop))).get? b = some o :=
      fun b o nb e => (Heap.get?_update_other _ _ (Ne.symm nb)).trans ((Heap.get?_update_other _ _ (Ne.symm nb)).trans e)
    refine wpAny_pure ⟨plainId_quiet F.plain_extend_loop _, codeAny_extend_loopS W hz _ nSf _ items.size 0 _ _ _ rfl (Nat.zero_le _) ⟨Nat.zero_le _, ?_, ?_⟩ gS4 (ItemsOf.nil _) fun s1 acc c1 hm hS1 hacc => ?_⟩
    · rw [e0]
      exact hit1.at fun o e => oth it o nSi.symm e
    · exact let ⟨o, e, z⟩ := ht1; ⟨o, oth t o nSt.symm e, z⟩
    · show wpAny _ A (load s.heap.objs.size >>= _) _ _ s1
      refine wpAny_bind (wpAny_load hS1 (wpAny_pure ?_))
      rw [Moved.eq_with hm]
      refine hQ s1.heap s1.toks acc (fun b o nb e => ?_) hacc
      have lt := Heap.lt_size e
      refine hm.heap b o (fun mm => ?_) (oth b o (Nat.ne_of_lt lt) (Heap.get?_push_of_some _ e))
      rcases List.mem_cons.mp mm with e' | mm
      · exact absurd lt (by rw [e']; exact Nat.lt_irrefl _)
      · exact nb (List.mem_singleton.mp mm)
  · have oth : ∀ b o, b ≠ s.heap.objs.size → (s.heap.push { cls := .type "list", data := .seq ([] : List Value).toArray }).get? b = some o → (s.heap.push { cls := .type "list", data := .seq ([] : List Value).toArray }).get? b = some o := fun b o _ e => e
    refine wpAny_pure ⟨plainId_quiet F.plain_extend_loop _, codeAny_extend_loopS W hz _ nSf _ items.size 0 _ _ _ rfl (Nat.zero_le _) ⟨Nat.zero_le _, ?_, ?_⟩ gS (ItemsOf.nil _) fun s1 acc c1 hm hS1 hacc => ?_⟩
    · rw [e0]
      exact hit1.at fun o e => oth it o nSi.symm e
    · exact let ⟨o, e, z⟩ := ht1; ⟨o, oth t o nSt.symm e, z⟩
    · show wpAny _ A (load s.heap.objs.size >>= _) _ _ s1
      refine wpAny_bind (wpAny_load hS1 (wpAny_pure ?_))
      rw [Moved.eq_with hm]
      refine hQ s1.heap s1.toks acc (fun b o nb e => ?_) hacc
      have lt := Heap.lt_size e
      refine hm.heap b o (fun mm => ?_) (oth b o (Nat.ne_of_lt lt) (Heap.get?_push_of_some _ e))
      rcases List.mem_cons.mp mm with e' | mm
      · exact absurd lt (by rw [e']; exact Nat.lt_irrefl _)
      · exact nb (List.mem_singleton.mp mm)
theorem code_tuple_rt {it t : Addr} {items : Array Value} {Q1 : Value → Shared → Prop} (hh : A.handled = none) (hit : IsRt s.heap it t ((items.size : Int) - 1)) (ht : IsTup s.heap t items) (ne : t ≠ it) (hz : items.size ≤ sizeLine)
    (hq : ∀ (h1 : Heap) (tk : Nat) (acc : Array Value), (∀ b o, b ≠ it → s.heap.get? b = some o → h1.get? b = some o) → ItemsOf (fun i v => items[items.size - 1 - i]? = some v) acc items.size →
      Q1 (.ref h1.objs.size) { s with heap := h1.push { cls := .type "tuple", data := .seq acc }, toks := tk }) :
    codeAny (model prog w) A (.call (.builtin "tuple.__new__") ⟨[.type "tuple", .ref it], []⟩) (wants Q1 E) s := by
  refine codeAny_of_tree ?_
  show wpAny _ A.in1 (do checkBuiltinCall "tuple.__new__" ⟨[.type "tuple", .ref it], []⟩; again (.builtin "tuple.__new__" ⟨[.type "tuple", .ref it], []⟩)) _ _ s
  refine wpAny_bind (wpAny_of_eq (F.newCall_tuple_1 _) (wpAny_pure ⟨plainId_quiet F.plain_tuple_new _, codeAny_builtin F.entry_tuple_new ?_⟩))
  rw [Around.under_plainId F.plain_tuple_new _]
  have hsub := sub_tuple_self
  have hinit := init_tuple_lookup
  have hmh := madeHere_tuple
  have hTI : s.TypeIs (.ref it) "reversed" := hit.typeIs
  have hh1 : A.in1.handled = none := hh
  wp_walk using wpAny_typeOf hTI, collect_rt (A := A.in1) hh1 hit ht ne hz
  intro h1 tk acc k hacc
  show wpAny _ _ (Builtin.Tuple.tupleExact acc.toList.toArray >>= fun v => ret v) _ _ _
  unfold Builtin.Tuple.tupleExact
  refine wpAny_bind (wpAny_newObj_type ?_ (by show acc.toList.toArray.size ≤ sizeLine; simp only [Array.toArray_toList]; rw [hacc.1]; exact hz))
  refine wpAny_pure ?_
  have e : acc.toList.toArray = acc := by simp
  rw [e]
  exact hq h1 tk acc k hacc
theorem call_tuple_rt {it t : Addr} {items : Array Value} {Q : Value → Shared → Prop} (hh : A.handled = none) (hit : IsRt s.heap it t ((items.size : Int) - 1)) (ht : IsTup s.heap t items) (ne : t ≠ it) (hz : items.size ≤ sizeLine)
    (hQ : ∀ (h1 : Heap) (tk : Nat) (acc : Array Value), (∀ b o, b ≠ it → s.heap.get? b = some o → h1.get? b = some o) → ItemsOf (fun i v => items[items.size - 1 - i]? = some v) acc items.size →
      Q (.ref h1.objs.size) { s with heap := h1.push { cls := .type "tuple", data := .seq acc }, toks := tk }) :
    wpAny (model prog w) A (call (.type "tuple") [.ref it]) Q E s := by
  refine callType_codes (Q₁ := fun ov s1 => s1.TypeIs ov "tuple" ∧ Q ov s1) F.called_tuple (F.typeCall_tuple_1 _) F.entry_object_init
    (code_tuple_rt (A := A.in1) hh hit ht ne hz fun h1 tk acc k hacc => ⟨⟨_, Heap.get?_push_size _ rfl, rfl⟩, hQ h1 tk acc k hacc⟩) fun ov s1 z => ?_
  exact ⟨z.1, F.args_object_init_2 ov _, object_init_meets F.called_tuple.init.lookup F.called_tuple.made (by decide) prog w A.in1 _ s1 ⟨z.1, rfl, z.2⟩⟩
end
section
variable {X : Cx}
/-- tuple(reversed(x)), x a tuple -/
def tTupRt (K : PySem.W.Frag) (te : TE) : TE := fun σ H Q => te σ H fun v H1 => ∃ (a : Addr) (xs : List V), v = .ref a ∧ SqT K H1 a xs ∧ ∀ q, H1 q = none → Q (.ref q) (upd H1 q (.tup xs.reverse))
theorem pe_tupRt {e : Expr} {te : TE} {p p2 pos pos2 : Pos} (hc : X.calm = true) (hg : Gl X "tuple") (hm : X.mg "tuple" = none) (hg2 : Gl X "reversed") (hm2 : X.mg "reversed" = none) (he : PE X e te)
    (hs : starEach [e] X.env = (false, eval e X.env) :: starEach [] X.env := by rfl)
    (hs2 : starEach [.Call (.Name "reversed" p2) [e] [] pos2] X.env = (false, eval (.Call (.Name "reversed" p2) [e] [] pos2) X.env) :: starEach [] X.env := by rfl) :
    PE X (.Call (.Name "tuple" p) [.Call (.Name "reversed" p2) [e] [] pos2] [] pos) (tTupRt X.K te) := by
  refine ⟨fun pins s σ H Q I h => ?_⟩
  refine Call_ (ld_blt I hg hm boot_tuple (PyProof.Rows.callWith_type1 (args_cons (Call_ (ld_blt I hg2 hm2 PyProof.Rows.boot_reversed (PyProof.Rows.callWith_type1 (args_cons (thn (he.run pins s σ H _ I h) fun u s1 ⟨v, H1, I1, r1, q1⟩ => args_nil ?_) hs) hs rfl))) hs2) hs2 rfl))
  obtain ⟨a, xs, ev, hq, q⟩ := q1
  subst ev
  obtain rfl : u = Value.ref a := r1
  obtain ⟨its, rv, p1, hz⟩ := I1.tuple hq
  have hn : its.toArray.size ≤ sizeLine := by rw [List.size_toArray, ← rv.length]; exact hz
  have hn2 := hn
  rw [sizeLine_eq] at hn2
  refine call_reversed_tup p1 (fun A E Q k => len_tuple p1 (by omega) k) (args_nil ?_)
  have I1' : Inv X pins σ H1 { s1 with toks := s1.toks + 1 + 1 } := I1.tok _
  have k0 : ∀ b o, s1.heap.get? b = some o → (s1.heap.push (rtObj a ((its.toArray.size : Int) - 1))).get? b = some o := fun b o e => Heap.get?_push_of_some _ e
  have I2 : Inv X pins σ H1 { s1 with heap := s1.heap.push (rtObj a ((its.toArray.size : Int) - 1)), toks := s1.toks + 1 + 1 } := I1.kept (t' := s1.toks + 1 + 1) k0
  obtain ⟨f0, f1, f2, f3, f4, f5⟩ := I1.fpOk (H' := H1) (b := s1.heap.objs.size) (Nat.le_refl _) (I1.hok.fresh (Nat.le_refl _))
  obtain ⟨ol, hol, hol2⟩ := id p1
  have ne : a ≠ s1.heap.objs.size := Nat.ne_of_lt (Heap.lt_size hol)
  refine call_tuple_rt (s := { s1 with heap := s1.heap.push (rtObj a ((its.toArray.size : Int) - 1)), toks := s1.toks + 1 + 1 }) (I1.ok.hd hc) ⟨_, Heap.get?_push_size _ rfl, rfl, rfl⟩ ⟨ol, k0 _ _ hol, hol2⟩ ne hn fun h1 tk acc hk hi => ?_
  have I3 : Inv X pins σ H1 { s1 with heap := h1, toks := tk } := I2.turned (t' := tk) (fun b o nb e => hk b o nb e) f0 f1 f3 f4 f5
  refine ⟨.ref h1.objs.size, upd H1 h1.objs.size (.tup xs.reverse), I3.laid (t' := tk) (fun c o e => Heap.get?_push_of_some _ e) (Nat.le_refl _) (show ObjOk X.prog X.w _ _ _ (.tup xs.reverse) from ⟨by rw [List.length_reverse]; exact hz, acc.toList, vals_rev rv hi, ?_⟩), rfl, q _ (I3.hok.fresh (Nat.le_refl _))⟩
  rw [Array.toArray_toList]
  exact IsTup.new _ _
end
end Wk

set_option maxHeartbeats 4000000
/-! My own layer: comprehensions with a test, over a list and over a dict; dict comprehensions; dicts; loops over tuples of three. -/
namespace Wk
open PySem PySem.Spec PyProof.Rows L2
section
variable {X : Cx} {e a b c elt kx vx : Expr} {es rest : List Expr} {σ : L2.St} {H : Hp} {Q : VK} {pos p0 : Pos} {N G G' : List Str} {Vn : List (Nat × Str)} {sc scope : Scope}
@[irreducible] def wBkT (X : Cx) (Vn : List (Nat × Str)) (G' : List Str) (c : Expr) (scope : Scope) : TT := fun σ H Q => ∀ s0 H0 C cl fp, InB (Bk X s0 H0 scope C cl fp) Vn G' → wT (Bk X s0 H0 scope C cl fp) c σ H Q
theorem pts_bk {s0 : Shared} {H0 : Hp} {C : Addr} {cl : List (Str × Addr)} {fp : List Addr} (I : InB (Bk X s0 H0 scope C cl fp) Vn G') : PTs (Bk X s0 H0 scope C cl fp) [c] (wBkT X Vn G' c scope) :=
  pts_one ⟨fun pins s σ H Q Iv h => by unfold wBkT at h; exact pt.run pins s σ H Q Iv (h s0 H0 C cl fp I)⟩
/-- what the turns ask where there is a test -/
def Turn1 (X : Cx) (Vn : List (Nat × Str)) (G' : List Str) (elt c : Expr) (scope : Scope) (i : Nat) (D : Addr) (σ : L2.St) (x : L2.V) (H2 : Hp) (Nx : Hp → Prop) : Prop :=
  ∀ s0 H0 C cl fp, InB (Bk X s0 H0 scope C cl fp) Vn G' → wT (Bk X s0 H0 scope C cl fp) c ((wipe σ [i]).set i (some x)) H2 fun b H3 =>
    if b = true then ∀ s0 H0 C cl fp, InB (Bk X s0 H0 scope C cl fp) Vn G' → wE (Bk X s0 H0 scope C cl fp) elt ((wipe σ [i]).set i (some x)) H3 fun y H4 => ∃ acc, H4 D = some (.lst acc) ∧ acc.length < sizeLine ∧ Nx (upd H4 D (.lst (acc ++ [y]))) else Nx H3
theorem turn1_of {i : Nat} {D : Addr} {x : L2.V} {H2 : Hp} {Nx : Hp → Prop} (q : Turn1 X Vn G' elt c scope i D σ x H2 Nx) : gName i x (wipe σ [i]) H2 fun σ2 H3 => wipe σ2 [i] = wipe σ [i] ∧ wBkT X Vn G' c scope σ2 H3 fun b H4 =>
    if b = true then wBk X Vn G' elt scope σ2 H4 fun y H5 => ∃ acc, H5 D = some (.lst acc) ∧ acc.length < sizeLine ∧ Nx (upd H5 D (.lst (acc ++ [y]))) else Nx H4 := by
  refine ⟨wipe_set σ i _, ?_⟩
  unfold wBkT
  intro s0 H0 C cl fp I
  refine t_mono (q s0 H0 C cl fp I) fun b H4 z => ?_
  cases b with
  | true =>
    unfold wBk
    exact iteT z
  | false => exact iteF z
def LcLf (X : Cx) (Vn : List (Nat × Str)) (G' : List Str) (elt c : Expr) (scope : Scope) (i : Nat) (ad : Addr) (xs : List L2.V) (D : Addr) (σ : L2.St) (H1 : Hp) (Qd : Hp → Prop) : Prop := ∃ Pv : Nat → Hp → Prop, Pv 0 (upd H1 D (.lst [])) ∧ (∀ k H2, k ≤ xs.length → Pv k H2 → SqL X.K H2 ad xs) ∧
  (∀ k x H2, xs[k]? = some x → Pv k H2 → Turn1 X Vn G' elt c scope i D σ x H2 (Pv (k + 1))) ∧ ∀ H2, Pv xs.length H2 → Qd H2
def LcDf (X : Cx) (Vn : List (Nat × Str)) (G' : List Str) (elt c : Expr) (scope : Scope) (i : Nat) (d : Addr) (o : Obj) (kvs : List (Key × L2.V)) (D : Addr) (σ : L2.St) (H1 : Hp) (Qd : Hp → Prop) : Prop := ∃ Pv : Nat → Hp → Prop, Pv 0 (upd H1 D (.lst [])) ∧ (∀ k H2, k ≤ kvs.length → Pv k H2 → H2 d = some (.frz o (.dK kvs))) ∧
  (∀ k y v H2, kvs[k]? = some (y, v) → Pv k H2 → Turn1 X Vn G' elt c scope i D σ (kV y) H2 (Pv (k + 1))) ∧ ∀ H2, Pv kvs.length H2 → Qd H2
theorem lcLf_of {i : Nat} {ad : Addr} {xs : List L2.V} {D : Addr} {H1 : Hp} {Qd : Hp → Prop} (q : LcLf X Vn G' elt c scope i ad xs D σ H1 Qd) : ∃ W : Nat → Nat → Hp → Prop, (∃ m, W 0 m (upd H1 D (.lst []))) ∧ ∀ k m H, W k m H →
    ((Itl X.K ad).stop k H ∧ Qd H) ∨ ((Itl X.K ad).go k H ∧ ∃ Nx : Hp → Prop, (∀ H', Nx H' → ∃ m', m' < m ∧ W (k + 1) m' H') ∧ ∀ x H', (Itl X.K ad).yld k H x H' → gName i x (wipe σ [i]) H' fun σ2 H2 => wipe σ2 [i] = wipe σ [i] ∧ wBkT X Vn G' c scope σ2 H2 fun b H3 =>
      if b = true then wBk X Vn G' elt scope σ2 H3 fun y H4 => ∃ acc, H4 D = some (.lst acc) ∧ acc.length < sizeLine ∧ Nx (upd H4 D (.lst (acc ++ [y]))) else Nx H3) := by
  obtain ⟨Pv, h0, hl, hs, hd⟩ := q
  exact lc_list Pv h0 hl (fun k x H hk p => turn1_of (hs k x H hk p)) hd
theorem lcDf_of {i : Nat} {d : Addr} {o : Obj} {kvs : List (Key × L2.V)} {D : Addr} {H1 : Hp} {Qd : Hp → Prop} (q : LcDf X Vn G' elt c scope i d o kvs D σ H1 Qd) : ∃ W : Nat → Nat → Hp → Prop, (∃ m, W 0 m (upd H1 D (.lst []))) ∧ ∀ k m H, W k m H →
    ((Itk d o kvs).stop k H ∧ Qd H) ∨ ((Itk d o kvs).go k H ∧ ∃ Nx : Hp → Prop, (∀ H', Nx H' → ∃ m', m' < m ∧ W (k + 1) m' H') ∧ ∀ x H', (Itk d o kvs).yld k H x H' → gName i x (wipe σ [i]) H' fun σ2 H2 => wipe σ2 [i] = wipe σ [i] ∧ wBkT X Vn G' c scope σ2 H2 fun b H3 =>
      if b = true then wBk X Vn G' elt scope σ2 H3 fun y H4 => ∃ acc, H4 D = some (.lst acc) ∧ acc.length < sizeLine ∧ Nx (upd H4 D (.lst (acc ++ [y]))) else Nx H3) := by
  obtain ⟨Pv, h0, hl, hs, hd⟩ := q
  refine ⟨fun k m H => m = kvs.length - k ∧ k ≤ kvs.length ∧ Pv k H, ⟨kvs.length, rfl, Nat.zero_le _, h0⟩, ?_⟩
  rintro k m H ⟨rfl, hk, p⟩
  have fz := hl k H hk p
  by_cases lt : k < kvs.length
  · refine .inr ⟨⟨fz, lt⟩, Pv (k + 1), fun H' p' => ⟨kvs.length - (k + 1), by omega, rfl, lt, p'⟩, fun x H' y => ?_⟩
    obtain ⟨rfl, ky, v, hkv, rfl⟩ := y
    exact turn1_of (hs k ky v _ hkv p)
  · have ek : k = kvs.length := by omega
    subst ek
    exact .inl ⟨⟨fz, Nat.le_refl _⟩, hd H p⟩
theorem e_lcLf {i : Nat} {x : Str} {px : Pos} (B : BkOk X.N Vn G' i x sc scope)
    (q : wE X a σ H fun v H1 => ∃ ad xs, v = .ref ad ∧ SqL X.K H1 ad xs ∧ ∀ D, H1 D = none → LcLf X Vn G' elt c scope i ad xs D σ H1 fun H2 => Q (.ref D) H2)
    (I : In X N G sc := by assumption) (hc : X.calm = true := by rfl) (hs2 : ∀ z, foldedSetIterable a X.env z = pure z := by intro _; rfl) :
    wE X (.ListComp elt [⟨.Name x px, a, [c], 0⟩] scope pos) σ H Q := by
  refine e_of (pe_lc (own := [(x, i)]) (g := gName i) (tt := wBkT X Vn G' c scope) (te := wBk X Vn G' elt scope) hc I.nd (pi_list pe) (B.ok I) (fun s H C cl fp => B.pg I s H C cl fp) (fun s H C cl fp => pts_bk (B.inB I s H C cl fp)) (fun s H C cl fp => pe_bk (B.inB I s H C cl fp)) hs2) (e_mono q fun v H1 q1 => ?_)
  obtain ⟨ad, xs, rfl, hl, q2⟩ := q1
  exact ⟨ad, rfl, ⟨xs, hl⟩, fun D hD => lcLf_of (q2 D hD)⟩
theorem s_lcLf {nx : L2.St → Hp → Prop} {rt : VK} {bk ct : L2.St → Hp → Prop} {i j : Nat} {x y : Str} {px py spos : Pos} (B : BkOk X.N Vn G' i x sc scope)
    (q : wE X a σ H fun v H1 => ∃ ad xs, v = .ref ad ∧ SqL X.K H1 ad xs ∧ ∀ D, H1 D = none → LcLf X Vn G' elt c scope i ad xs D σ H1 fun H2 => nx (σ.set j (some (.ref D))) H2)
    (I : In X N G sc := by assumption) (hc : X.calm = true := by rfl) (hA : At N j y := by repeat (first | with_reducible apply At.z | with_reducible apply At.s))
    (hk : X.env.scope.kind = .function := by rfl) (hy : X.env.scope.names.lookup y = some .local := by rfl) (hl : (py.line == pos.line) = true := by rfl) (ha : (scope.names.any fun (n, k) => n == y && (k == .local || k == .cell)) = false := by decide +kernel) (hs2 : ∀ z, foldedSetIterable a X.env z = pure z := by intro _; rfl) :
    wS X (.Assign [.Name y py] (.ListComp elt [⟨.Name x px, a, [c], 0⟩] scope pos) spos) ⟨nx, rt, bk, ct⟩ σ H := by
  refine s_of (ps_setLc (own := [(x, i)]) (g := gName i) (tt := wBkT X Vn G' c scope) (te := wBk X Vn G' elt scope) hc I.nd (I.hi hA) hy (sw_true hk hy hl ha) (pi_list pe) (B.ok I) (fun s H C cl fp => B.pg I s H C cl fp) (fun s H C cl fp => pts_bk (B.inB I s H C cl fp)) (fun s H C cl fp => pe_bk (B.inB I s H C cl fp)) hs2) (e_mono q fun v H1 q1 => ?_)
  obtain ⟨ad, xs, rfl, hl, q2⟩ := q1
  exact ⟨ad, rfl, ⟨xs, hl⟩, fun D hD => lcLf_of (q2 D hD)⟩
/-- [elt for x in d if c], d a dict that stands at ad -/
theorem e_lcDf {i : Nat} {x : Str} {px : Pos} {ad : Addr} {kvs : List (Key × L2.V)} (B : BkOk X.N Vn G' i x sc scope) (hd : H ad = some (.dK kvs))
    (q : ∀ o, wE X a σ (upd H ad (.frz o (.dK kvs))) fun v H1 => v = .ref ad ∧ H1 ad = some (.frz o (.dK kvs)) ∧ ∀ D, H1 D = none → LcDf X Vn G' elt c scope i ad o kvs D σ H1 fun H2 => H2 ad = some (.frz o (.dK kvs)) ∧ Q (.ref D) (upd H2 ad (.dK kvs)))
    (I : In X N G sc := by assumption) (hc : X.calm = true := by rfl) (hs2 : ∀ z, foldedSetIterable a X.env z = pure z := by intro _; rfl) :
    wE X (.ListComp elt [⟨.Name x px, a, [c], 0⟩] scope pos) σ H Q := by
  refine e_of (pe_lock (pe_lc (own := [(x, i)]) (g := gName i) (tt := wBkT X Vn G' c scope) (te := wBk X Vn G' elt scope) hc I.nd (pi_keys pe) (B.ok I) (fun s H C cl fp => B.pg I s H C cl fp) (fun s H C cl fp => pts_bk (B.inB I s H C cl fp)) (fun s H C cl fp => pe_bk (B.inB I s H C cl fp)) hs2)) ?_
  refine ⟨ad, .dK kvs, hd, trivial, fun o => e_mono (q o) fun v H1 q1 => ?_⟩
  obtain ⟨rfl, h1, q2⟩ := q1
  exact ⟨ad, o, rfl, .inl ⟨kvs, h1, fun D hD => lcDf_of (q2 D hD)⟩⟩
end
end Wk
namespace Wk
open PySem PySem.Spec PyProof.Rows L2
section
variable {X : Cx} {e a b c elt kx vx o : Expr} {es rest : List Expr} {σ : L2.St} {H : Hp} {Q : VK} {pos p0 apos : Pos} {N G G' : List Str} {Vn : List (Nat × Str)} {sc scope : Scope}
theorem sw_trueD {gs : List Comprehension} {py : Pos} {y : Str} {l : Nat} {env : Env} (hk : env.scope.kind = .function) (hy : env.scope.names.lookup y = some .local) (hl : (py.line == pos.line) = true)
    (ha : (scope.names.any fun (n, k) => n == y && (k == .local || k == .cell)) = false) : swapsWith (.DictComp kx vx gs scope pos) (some (.Name y py)) l env = pure true := by
  have ky : env.kindOf y = some .local := hy
  have hb : env.blockKind = .function := by unfold Env.blockKind; rw [hk]; rfl
  unfold swapsWith
  simp only [hb, ky, ha, Expr.pos, hl]
  rfl
theorem ps_setDc {i : Nat} {y : Str} {py : Pos} {tg iter : Expr} {ifs : List Expr} {own : List (Str × Nat)} {spos : Pos} {wi : TI} {g : TG} {tt : TT} {tk tv : TE} (hc : X.calm = true) (hN : X.N.Nodup) (hy : X.N[i]? = some y) (hyl : X.env.scope.names.lookup y = some .local)
    (hsw : swapsWith (.DictComp kx vx [⟨tg, iter, ifs, 0⟩] scope pos) (some (.Name y py)) spos.line X.env = pure true) (hi : PI X tg iter wi) (ok : BlkOk X.N X.env.scope scope own)
    (hg : ∀ (s : Shared) (H : Hp) (C : Addr) (cl : List (Str × Addr)) (fp : List Addr), PG (X.blk s H scope (compEnvC scope cl C X.env) fp) tg g) (ht : ∀ (s : Shared) (H : Hp) (C : Addr) (cl : List (Str × Addr)) (fp : List Addr), PTs (X.blk s H scope (compEnvC scope cl C X.env) fp) ifs tt)
    (hkx : ∀ (s : Shared) (H : Hp) (C : Addr) (cl : List (Str × Addr)) (fp : List Addr), PE (X.blk s H scope (compEnvC scope cl C X.env) fp) kx tk)
    (hvx : ∀ (s : Shared) (H : Hp) (C : Addr) (cl : List (Str × Addr)) (fp : List Addr), PE (X.blk s H scope (compEnvC scope cl C X.env) fp) vx tv) (hs : ∀ x, foldedSetIterable iter X.env x = pure x) :
    PS X (.Assign [.Name y py] (.DictComp kx vx [⟨tg, iter, ifs, 0⟩] scope pos) spos) (tAsg (tDc wi g tt tk tv (own.map (·.2))) (gName i)) := by
  refine ⟨fun pins s σ H D I h => ?_⟩
  rw [exec_Assign_Name_used _ _ _ _ hsw]
  refine wpAny_bind (wpAny_standAt (wpAny_bind ?_))
  show wpAny _ X.A (do let _ ← comprehension (.DictComp kx vx [⟨tg, iter, ifs, 0⟩] scope pos) scope X.env (firstIterPos [⟨tg, iter, ifs, 0⟩] pos) newDict false (eval iter X.env) (some (assign (.Name y py) X.env))) _ _ s
  have h : tDc wi g tt tk tv (own.map (·.2)) σ H (fun x H1 => gName i x σ H1 D.nx) := h
  refine wpAny_bind (thn (dc_core (Qf := fun _ s' => SP X pins D .next s') hc hN I hi ok hg ht hkx hvx hs h fun L C s' m H' I' q hn f => ?_) fun _ s' hq => wpAny_pure (wpAny_pure hq))
  show wpAny _ _ (assign (.Name y py) X.env (.ref L)) _ _ _
  refine wpAny_assign_Name (store_ok2 (v := V.ref L) I' hN hy (.inl hyl) rfl (fun s2 I2 ⟨ad, sb, had⟩ => ?_) (.inr hyl))
  obtain ⟨f0, f1, f2, f3, f4, f5⟩ := f
  have nC : C ≠ ad := by
    rcases had with z | z
    · rw [z]; exact f1
    · exact fun e => f4 y ad z e.symm
  exact ⟨m, hn.sameBut sb nC, fun h3 sb3 => ⟨_, H', I2.turned (t' := s2.toks) (fun b o hb e => (sb3.2 b hb).trans e) f0 f1 f3 f4 f5, q⟩⟩
/-- d = {k: v for x in a}, a a list that stays -/
def DcL (X : Cx) (Vn : List (Nat × Str)) (G' : List Str) (kx vx : Expr) (scope : Scope) (i : Nat) (ad : Addr) (xs : List L2.V) (D : Addr) (σ : L2.St) (H1 : Hp) (Qd : Hp → Prop) : Prop := ∃ Pv : Nat → Hp → Prop, Pv 0 (upd H1 D (.dK [])) ∧ (∀ k H2, k ≤ xs.length → Pv k H2 → SqL X.K H2 ad xs) ∧
  (∀ k x H2, xs[k]? = some x → Pv k H2 → ∀ s0 H0 C cl fp, InB (Bk X s0 H0 scope C cl fp) Vn G' → wE (Bk X s0 H0 scope C cl fp) kx ((wipe σ [i]).set i (some x)) H2 fun y H3 => ∀ s0 H0 C cl fp, InB (Bk X s0 H0 scope C cl fp) Vn G' →
    wE (Bk X s0 H0 scope C cl fp) vx ((wipe σ [i]).set i (some x)) H3 fun z H4 => ∃ kvs ky, y = kV ky ∧ H4 D = some (.dK kvs) ∧ kvs.length < sizeLine ∧ Pv (k + 1) (upd H4 D (.dK (putK kvs ky z)))) ∧
  ∀ H2, Pv xs.length H2 → Qd H2
theorem dcL_of {i : Nat} {ad : Addr} {xs : List L2.V} {D : Addr} {H1 : Hp} {Qd : Hp → Prop} (q : DcL X Vn G' kx vx scope i ad xs D σ H1 Qd) : ∃ W : Nat → Nat → Hp → Prop, (∃ m, W 0 m (upd H1 D (.dK []))) ∧ ∀ k m H, W k m H →
    ((Itl X.K ad).stop k H ∧ Qd H) ∨ ((Itl X.K ad).go k H ∧ ∃ Nx : Hp → Prop, (∀ H', Nx H' → ∃ m', m' < m ∧ W (k + 1) m' H') ∧ ∀ x H', (Itl X.K ad).yld k H x H' → gName i x (wipe σ [i]) H' fun σ2 H2 => wipe σ2 [i] = wipe σ [i] ∧ tYes σ2 H2 fun b H3 =>
      if b = true then wBk X Vn G' kx scope σ2 H3 fun y H4 => wBk X Vn G' vx scope σ2 H4 fun z H5 => ∃ kvs k, y = kV k ∧ H5 D = some (.dK kvs) ∧ kvs.length < sizeLine ∧ Nx (upd H5 D (.dK (putK kvs k z))) else Nx H3) := by
  obtain ⟨Pv, h0, hl, hs, hd⟩ := q
  refine ⟨fun k m H => m = xs.length - k ∧ k ≤ xs.length ∧ Pv k H, ⟨xs.length, rfl, Nat.zero_le _, h0⟩, ?_⟩
  rintro k m H ⟨rfl, hk, p⟩
  have sq := hl k H hk p
  by_cases lt : k < xs.length
  · refine .inr ⟨⟨xs, xs[k], sq, by simp [lt]⟩, Pv (k + 1), fun H' p' => ⟨xs.length - (k + 1), by omega, rfl, lt, p'⟩, fun x H' y => ?_⟩
    obtain ⟨rfl, y⟩ := y
    refine ⟨wipe_set σ i _, ?_⟩
    unfold tYes
    refine iteT ?_
    unfold wBk
    intro s0 H0 C cl fp I
    exact hs k x _ (y xs sq) p s0 H0 C cl fp I
  · have ek : k = xs.length := by omega
    subst ek
    exact .inl ⟨⟨xs, sq, Nat.le_refl _⟩, hd H p⟩
theorem s_dcL {nx : L2.St → Hp → Prop} {rt : VK} {bk ct : L2.St → Hp → Prop} {i j : Nat} {x y : Str} {px py spos : Pos} (B : BkOk X.N Vn G' i x sc scope)
    (q : wE X a σ H fun v H1 => ∃ ad xs, v = .ref ad ∧ SqL X.K H1 ad xs ∧ ∀ D, H1 D = none → DcL X Vn G' kx vx scope i ad xs D σ H1 fun H2 => nx (σ.set j (some (.ref D))) H2)
    (I : In X N G sc := by assumption) (hc : X.calm = true := by rfl) (hA : At N j y := by repeat (first | with_reducible apply At.z | with_reducible apply At.s))
    (hk : X.env.scope.kind = .function := by rfl) (hy : X.env.scope.names.lookup y = some .local := by rfl) (hl : (py.line == pos.line) = true := by rfl) (ha : (scope.names.any fun (n, k) => n == y && (k == .local || k == .cell)) = false := by decide +kernel) (hs2 : ∀ z, foldedSetIterable a X.env z = pure z := by intro _; rfl) :
    wS X (.Assign [.Name y py] (.DictComp kx vx [⟨.Name x px, a, [], 0⟩] scope pos) spos) ⟨nx, rt, bk, ct⟩ σ H := by
  refine s_of (ps_setDc (own := [(x, i)]) (g := gName i) (tt := tYes) (tk := wBk X Vn G' kx scope) (tv := wBk X Vn G' vx scope) hc I.nd (I.hi hA) hy (sw_trueD hk hy hl ha) (pi_list pe) (B.ok I) (fun s H C cl fp => B.pg I s H C cl fp) (fun _ _ _ _ _ => pts_nil) (fun s H C cl fp => pe_bk (B.inB I s H C cl fp)) (fun s H C cl fp => pe_bk (B.inB I s H C cl fp)) hs2) (e_mono q fun v H1 q1 => ?_)
  obtain ⟨ad, xs, rfl, hl, q2⟩ := q1
  exact ⟨ad, rfl, ⟨xs, hl⟩, fun D hD => dcL_of (q2 D hD)⟩
theorem e_dcL {i : Nat} {x : Str} {px : Pos} (B : BkOk X.N Vn G' i x sc scope)
    (q : wE X a σ H fun v H1 => ∃ ad xs, v = .ref ad ∧ SqL X.K H1 ad xs ∧ ∀ D, H1 D = none → DcL X Vn G' kx vx scope i ad xs D σ H1 fun H2 => Q (.ref D) H2)
    (I : In X N G sc := by assumption) (hc : X.calm = true := by rfl) (hs2 : ∀ z, foldedSetIterable a X.env z = pure z := by intro _; rfl) :
    wE X (.DictComp kx vx [⟨.Name x px, a, [], 0⟩] scope pos) σ H Q := by
  refine e_of (pe_dc (own := [(x, i)]) (g := gName i) (tt := tYes) (tk := wBk X Vn G' kx scope) (tv := wBk X Vn G' vx scope) hc I.nd (pi_list pe) (B.ok I) (fun s H C cl fp => B.pg I s H C cl fp) (fun _ _ _ _ _ => pts_nil) (fun s H C cl fp => pe_bk (B.inB I s H C cl fp)) (fun s H C cl fp => pe_bk (B.inB I s H C cl fp)) hs2) (e_mono q fun v H1 q1 => ?_)
  obtain ⟨ad, xs, rfl, hl, q2⟩ := q1
  exact ⟨ad, rfl, ⟨xs, hl⟩, fun D hD => dcL_of (q2 D hD)⟩
/-- for x, y, z in t, a tuple of triples -/
theorem s_forT3 {nx : L2.St → Hp → Prop} {rt : VK} {bk ct : L2.St → Hp → Prop} {x y z : Str} {i j k : Nat} {body : List Stmt} {px py pz pt : Pos} {kk : Nat}
    (q : wE X a σ H fun v H1 => ∃ ad xs, v = .ref ad ∧ SqT X.K H1 ad xs ∧ ∃ Pv : Nat → L2.St → Hp → Prop, Pv 0 σ H1 ∧ (∀ n σ H, n ≤ xs.length → Pv n σ H → SqT X.K H ad xs) ∧
      (∀ n u σ H, xs[n]? = some u → Pv n σ H → ∃ t u1 u2 u3, u = .ref t ∧ SqT X.K H t [u1, u2, u3] ∧ wL X body ⟨Pv (n + 1), rt, nx, Pv (n + 1)⟩ (((σ.set i (some u1)).set j (some u2)).set k (some u3)) H) ∧ ∀ σ H, Pv xs.length σ H → nx σ H)
    (I : In X N G sc := by assumption) (hc : X.calm = true := by rfl) (hA : At N i x := by repeat (first | with_reducible apply At.z | with_reducible apply At.s)) (hB : At N j y := by repeat (first | with_reducible apply At.z | with_reducible apply At.s)) (hC : At N k z := by repeat (first | with_reducible apply At.z | with_reducible apply At.s))
    (hs2 : ∀ z, foldedSetIterable a X.env z = pure z := by intro _; rfl) :
    wS X (.For (.Tuple [.Name x px, .Name y py, .Name z pz] kk pt) a body [] pos) ⟨nx, rt, bk, ct⟩ σ H := by
  refine s_of (ps_for I.never hc (pi_tup pe) (pg_tup hc (pgs_cons (pg_name I.nd (I.hi hA) (I.loc hA) I.f) (pgs_cons (pg_name I.nd (I.hi hB) (I.loc hB) I.f) (pgs_cons (pg_name I.nd (I.hi hC) (I.loc hC) I.f) pgs_nil)))) pl hs2) (e_mono q fun v H1 q1 => ?_)
  obtain ⟨ad, xs, rfl, hl, Pv, h0, hk, hb, hd⟩ := q1
  refine ⟨ad, rfl, ⟨xs, hl⟩, for_tup Pv h0 hk (fun n u σ H hu p => ?_) hd⟩
  obtain ⟨t, u1, u2, u3, rfl, hq, z⟩ := hb n u σ H hu p
  exact ⟨t, [u1, u2, u3], rfl, hq, rfl, u1, [u2, u3], rfl, u2, [u3], rfl, u3, [], rfl, rfl, z⟩
end
end Wk

set_option maxHeartbeats 4000000
/-! My own layer: dicts, membership, least and greatest of a list, and the like. -/
namespace Wk
open PySem PySem.Spec PyProof.Rows L2
section
variable {X : Cx} {e a b c f o i : Expr} {es rest : List Expr} {σ : L2.St} {H : Hp} {Q : VK} {pos p0 apos : Pos} {N G G' : List Str} {Vn : List (Nat × Str)} {sc scope : Scope} {n : Nat}
theorem e_dg (hr : Room n X.A) (q : wE X o σ H fun x H1 => wE X i σ H1 fun y H2 => ∃ a v, x = .ref a ∧ DGet H2 a y (some v) ∧ Q v H2) (hs : NoSl i := by intro _ _; rfl) : wE X (.Subscript o i pos) σ H Q := e_of (pe_dget (hu_of hr) pe pe hs) q
theorem dg_k {ad : Addr} {kvs : List (Key × L2.V)} {z : Str} {v : L2.V} (h : H ad = some (.dK kvs)) (e : valV kvs (Sum.inr z) = some v) : DGet H ad (.str z) (some v) := by
  have g := DGet.k (k := (Sum.inr z : Key)) h
  rw [e] at g
  exact g
theorem dg_f {ad : Addr} {ob : Obj} {kvs : List (Key × L2.V)} {z : Str} {v : L2.V} (h : H ad = some (.frz ob (.dK kvs))) (e : valV kvs (Sum.inr z) = some v) : DGet H ad (.str z) (some v) :=
  .inl ⟨kvs, Sum.inr z, .inr ⟨ob, h⟩, rfl, e.symm⟩
theorem e_dget2 (hr : Room n X.A) (q : wE X o σ H fun x H1 => ∃ a, x = .ref a ∧ IsD H1 a ∧ wE X e σ H1 fun y H2 => wE X f σ H2 fun z H3 => ∃ o, DGet H3 a y o ∧ Q (o.getD z) H3)
    (m : M2 X o "get" apos e f pos := by exact ⟨rfl, rfl, rfl, rfl⟩) : wE X (.Call (.Attribute o "get" apos) [e, f] [] pos) σ H Q := e_of (pe_dget2 (hu_of hr) pe pe pe m) q
theorem e_dnew (q : ∀ p, H p = none → Q (.ref p) (upd H p (.dK []))) : wE X (.Dict [] [] pos) σ H Q := e_of pe_dnewK q
theorem o_in {x : L2.V} {p : Addr} {xs : List L2.V} (h : SqL X.K H p xs) (hx : flatV x = true) (hs : xs.all flatV = true) (q : Q (.bl (inV x xs)) H) : wK X .In x (.ref p) H Q := k_of op_in_seq ⟨p, xs, rfl, .inl h, hx, hs, q⟩
theorem o_nin {x : L2.V} {p : Addr} {xs : List L2.V} (h : SqL X.K H p xs) (hx : flatV x = true) (hs : xs.all flatV = true) (q : Q (.bl (!inV x xs)) H) : wK X .NotIn x (.ref p) H Q := k_of op_notIn_seq ⟨p, xs, rfl, .inl h, hx, hs, q⟩
theorem o_inS {c : Nat} {z : Str} (q : Q (.bl (decide (c ∈ z.cps.toList))) H) : wK X .In (.str ⟨#[c]⟩) (.str z) H Q := k_of op_in_sign ⟨c, z, rfl, rfl, q⟩
theorem c_minL {p : Addr} {ns : List Int} (hc : X.calm = true) (h : SqL X.K H p (ns.map V.int)) (h0 : 0 < ns.length) {m0 : Int} (h1 : m0 ∈ ns) (h2 : ∀ y ∈ ns, m0 ≤ y) (q : Q (.int m0) H) : wC X (.builtin "min") [.ref p] H Q :=
  c_of (cr_min hc) ⟨p, ns, rfl, h, h0, fun m hm hle => by
    have e : m = m0 := Int.le_antisymm (hle m0 h1) (h2 m hm)
    rw [e]
    exact q⟩
theorem c_maxL {p : Addr} {ns : List Int} (hc : X.calm = true) (h : SqL X.K H p (ns.map V.int)) (h0 : 0 < ns.length) {m0 : Int} (h1 : m0 ∈ ns) (h2 : ∀ y ∈ ns, y ≤ m0) (q : Q (.int m0) H) : wC X (.builtin "max") [.ref p] H Q :=
  c_of (cr_max hc) ⟨p, ns, rfl, h, h0, fun m hm hle => by
    have e : m = m0 := Int.le_antisymm (h2 m hm) (hle m0 h1)
    rw [e]
    exact q⟩
theorem c_setTx {l : Addr} {zs : List Str} (hc : X.calm = true) (h : SqL X.K H l (zs.map V.str)) (hb : zs.length + 1 < scanBound) (q : ∀ p, H p = none → Q (.ref p) (upd H p (SetTO X.w p (uniqL zs)))) : wC X (.type "set") [.ref l] H Q := c_of (cr_setOfTx hc) ⟨l, zs, rfl, h, hb, q⟩
theorem c_sortedTx {p : Addr} {L : List Str} (hc : X.calm = true) (h : H p = some (SetTO X.w p L)) (h64 : L.length < 64) (q : ∀ (ys : List Str) (l : Addr) H2, ys.Perm L → sortedS ys = true → Same H H2 → H l = none → H2 l = some (.lst (ys.map V.str)) → Q (.ref l) H2) : wC X (.builtin "sorted") [.ref p] H Q :=
  c_of (cr_sortedTx hc) ⟨p, L, rfl, h, h64, fun ys l pm hs np => q ys l _ pm hs (fun b o eo => by rw [upd_ne (ne_of_none eo np)]; exact eo) np upd_same⟩
theorem c_sortedL {p : Addr} {zs : List Str} (h : SqL X.K H p (zs.map V.str)) (h64 : zs.length < 64) (q : ∀ (ys : List Str) (l : Addr) H2, ys.Perm zs → sortedS ys = true → Same H H2 → H l = none → H2 l = some (.lst (ys.map V.str)) → Q (.ref l) H2) : wC X (.builtin "sorted") [.ref p] H Q :=
  c_of cr_sortedS ⟨p, zs, rfl, h, h64, fun ys l pm hs np => q ys l _ pm hs (fun b o eo => by rw [upd_ne (ne_of_none eo np)]; exact eo) np upd_same⟩
theorem c_tupL {p : Addr} {xs : List L2.V} (h : SqL X.K H p xs) (q : ∀ l H2, Same H H2 → H l = none → H2 l = some (.tup xs) → Q (.ref l) H2) : wC X (.type "tuple") [.ref p] H Q :=
  c_of call_tuple_of ⟨p, xs, rfl, .inl ⟨h, fun l np => q l _ (fun b o eo => by rw [upd_ne (ne_of_none eo np)]; exact eo) np upd_same⟩⟩
theorem c_strI {k : Int} (h : k.natAbs.log2 < 1920) (q : Q (.str (toString k)) H) : wC X (.type "str") [.int k] H Q := c_of call_str_int ⟨k, rfl, h, q⟩
theorem c_intB {k : Bool} (q : Q (.int (if k then 1 else 0)) H) : wC X (.type "int") [.bl k] H Q := c_of call_int1 (.inr ⟨k, rfl, q⟩)
theorem e_tupRev {g1 g2 : Nat} {p p2 pos2 : Pos} (hm : X.mg "tuple" = none) (hm2 : X.mg "reversed" = none) (q : wE X e σ H fun v H1 => ∃ (a : Addr) (xs : List L2.V), v = .ref a ∧ SqT X.K H1 a xs ∧ ∀ q H2, Same H1 H2 → H1 q = none → H2 q = some (.tup xs.reverse) → Q (.ref q) H2)
    (I : In X N G sc := by assumption) (hc : X.calm = true := by rfl) (hG : At G g1 ("tuple" : Str) := by repeat (first | with_reducible apply At.z | with_reducible apply At.s)) (hG2 : At G g2 ("reversed" : Str) := by repeat (first | with_reducible apply At.z | with_reducible apply At.s))
    (hs : starEach [e] X.env = (false, eval e X.env) :: starEach [] X.env := by rfl) (hs2 : starEach [.Call (.Name "reversed" p2) [e] [] pos2] X.env = (false, eval (.Call (.Name "reversed" p2) [e] [] pos2) X.env) :: starEach [] X.env := by rfl) :
    wE X (.Call (.Name "tuple" p) [.Call (.Name "reversed" p2) [e] [] pos2] [] pos) σ H Q :=
  e_of (pe_tupRt hc (I.g hG) hm (I.g hG2) hm2 pe hs hs2) (e_mono q fun v H1 ⟨a, xs, ev, hq, z⟩ => ⟨a, xs, ev, hq, fun l np => z l _ (fun b o eo => by rw [upd_ne (ne_of_none eo np)]; exact eo) np upd_same⟩)
theorem e_clear (q : wE X o σ H fun x H1 => ∃ l xs, x = .ref l ∧ H1 l = some (.lst xs) ∧ Q .non (upd H1 l (.lst [])))
    (hbase : attributeBase o "clear" X.env (eval o X.env) = eval o X.env := by rfl) (hline : (apos.endLine == pos.line) = true := by rfl) : wE X (.Call (.Attribute o "clear" apos) [] [] pos) σ H Q := by
  refine e_of (pe_bm0 PySem.F.plainAttrs_list PySem.F.slot_list_clear PySem.F.type_list_clear mt_clear pe hbase hline) (e_mono q fun x H1 z => ?_)
  obtain ⟨l, xs, rfl, h1, h2⟩ := z
  exact ⟨.inl ⟨rfl, _, SqL.of h1⟩, l, xs, rfl, rfl, h1, h2⟩
theorem b_callTy {g : Nat} {x : Str} {T : String} (hm : X.mg x = none) (hv : bootBuiltins x = some (.type T)) (q : wA X (e :: es) σ H fun vs H1 => wC X (.type T) vs H1 Q) (I : InB X Vn G := by assumption) (hG : At G g x := by repeat (first | with_reducible apply At.z | with_reducible apply At.s))
    (he : starEach (e :: es) X.env = (false, eval e X.env) :: starEach es X.env := by rfl) (hpl : (backTo pos (starEach es X.env)).any (·.1) = false := by rfl) : wE X (.Call (.Name x p0) (e :: es) [] pos) σ H Q := e_of (pe_callTy cr (I.g hG) hm hv pa (I.gn hG) (I.gd hG) he hpl) q
theorem b_bltn {g : Nat} {x : Str} {v : L2.V} {u : Value} (hm : X.mg x = none) (hv : bootBuiltins x = some u) (r : RelV v u) (q : Q v H) (I : InB X Vn G := by assumption) (hG : At G g x := by repeat (first | with_reducible apply At.z | with_reducible apply At.s)) : wE X (.Name x pos) σ H Q := e_of (pe_bltn (I.g hG) hm hv r (I.gn hG) (I.gd hG)) q
theorem o_eqD {x y : L2.V} {d e : PyData} (hr : Room n X.A) (h1 : Dp X.K H x d) (h2 : Dp X.K H y e) (s1 : SeqAt.shaped d = true) (s2 : SeqAt.shaped e = true) (q : Q (.bl (PyData.eqv d e)) H) : wK X .Eq x y H Q := k_of (op_eqD hr.units) ⟨d, e, h1, h2, s1, s2, q⟩
theorem o_neD {x y : L2.V} {d e : PyData} (hr : Room n X.A) (h1 : Dp X.K H x d) (h2 : Dp X.K H y e) (s1 : SeqAt.shaped d = true) (s2 : SeqAt.shaped e = true) (q : Q (.bl (!PyData.eqv d e)) H) : wK X .NotEq x y H Q := k_of (op_neD hr.units) ⟨d, e, h1, h2, s1, s2, q⟩
theorem b_set : bootBuiltins "set" = some (.type "set") := by decide +kernel
theorem b_sorted : bootBuiltins "sorted" = some (.builtin "sorted") := by decide +kernel
theorem ixr_d (hu : X.A.units + 1 < cLine) : IxR X (fun x y H Q => ∃ a v, x = .ref a ∧ DGet H a y (some v) ∧ Q v H) := by
  intro value slice pins s σ H x y v u Q I rx ry h hs
  obtain ⟨ad, z, rfl, g, q⟩ := h
  cases rx
  have hT := dict_typeIs I g
  unfold subscriptTail
  refine wpAny_bind ?_
  rw [getitemInPython_of_ne hT.not_modules]
  refine wpAny_bind (wpAny_specialOf hT PySem.F.slot_dict_getitem.lookup ?_)
  have fin : wpAny (model X.prog X.w) X.A (subscripted slice false (.ref ad) u) (fun r s3 => wpAny (model X.prog X.w) X.A (letTemporaryGo value (.ref ad) r >>= fun _ => pure r) (EP X pins σ Q) X.xe s3) X.xe s := by
    rw [hs]
    refine wpAny_operating (d_getItem hu I g ry fun w2 s2 I2 r2 => wpAny_bind (wpAny_letTemporaryGo (wpAny_pure ?_)))
    exact ⟨z, H, I2, r2, q⟩
  first
    | exact wpAny_pure (wpAny_bind fin)
    | exact wpAny_bind fin
    | exact wpAny_pure fin
theorem ix_d {x y : L2.V} (hr : Room n X.A) (q : ∃ a v, x = .ref a ∧ DGet H a y (some v) ∧ Q v H) : wIx X x y H Q := ix_of (ixr_d (hu_of hr)) q
end
end Wk

set_option maxHeartbeats 4000000
namespace K20
open PySem PySem.Spec PyProof.Rows L2 Wk
def topS (i : Nat) : Stmt := PySem.Challenge.pw_heldproofs_k20_spans_and_doubts.main.body.getD i (.Pass ⟨0, 0, 0, 0⟩)
abbrev s_names_within : Stmt := topS 1
abbrev N_names_within : List Str := ["sentence", "names", "waiting", "here"]
abbrev P_names_within : List Str := ["sentence"]
abbrev G_names_within : List Str := []
theorem so_names_within : ScOk N_names_within G_names_within (defScope s_names_within) := ⟨by decide +kernel, by decide +kernel, by decide +kernel⟩
theorem sc_names_within : FnScope N_names_within P_names_within (defScope s_names_within) := ⟨rfl, rfl, rfl, by decide +kernel, rfl, by decide +kernel, by decide +kernel⟩
abbrev s_words_in : Stmt := topS 2
abbrev N_words_in : List Str := ["sentence", "found", "name"]
abbrev P_words_in : List Str := ["sentence"]
abbrev G_words_in : List Str := ["names_within", "list"]
theorem so_words_in : ScOk N_words_in G_words_in (defScope s_words_in) := ⟨by decide +kernel, by decide +kernel, by decide +kernel⟩
theorem sc_words_in : FnScope N_words_in P_words_in (defScope s_words_in) := ⟨rfl, rfl, rfl, by decide +kernel, rfl, by decide +kernel, by decide +kernel⟩
abbrev s_span : Stmt := topS 4
abbrev N_span : List Str := ["sentence", "name", "first", "second", "low", "high"]
abbrev P_span : List Str := ["sentence", "name"]
abbrev G_span : List Str := ["span_of_word", "span", "min", "max", "span_in"]
theorem so_span : ScOk N_span G_span (defScope s_span) := ⟨by decide +kernel, by decide +kernel, by decide +kernel⟩
theorem sc_span : FnScope N_span P_span (defScope s_span) := ⟨rfl, rfl, rfl, by decide +kernel, rfl, by decide +kernel, by decide +kernel⟩
abbrev s_span_of_word : Stmt := topS 5
abbrev N_span_of_word : List Str := ["word", "name"]
abbrev P_span_of_word : List Str := ["word", "name"]
abbrev G_span_of_word : List Str := []
theorem so_span_of_word : ScOk N_span_of_word G_span_of_word (defScope s_span_of_word) := ⟨by decide +kernel, by decide +kernel, by decide +kernel⟩
theorem sc_span_of_word : FnScope N_span_of_word P_span_of_word (defScope s_span_of_word) := ⟨rfl, rfl, rfl, by decide +kernel, rfl, by decide +kernel, by decide +kernel⟩
abbrev s_span_in : Stmt := topS 6
abbrev N_span_in : List Str := ["pair", "kind"]
abbrev P_span_in : List Str := ["pair", "kind"]
abbrev G_span_in : List Str := ["min", "max"]
theorem so_span_in : ScOk N_span_in G_span_in (defScope s_span_in) := ⟨by decide +kernel, by decide +kernel, by decide +kernel⟩
theorem sc_span_in : FnScope N_span_in P_span_in (defScope s_span_in) := ⟨rfl, rfl, rfl, by decide +kernel, rfl, by decide +kernel, by decide +kernel⟩
abbrev s_joined : Stmt := topS 7
abbrev N_joined : List Str := ["first", "second"]
abbrev P_joined : List Str := ["first", "second"]
abbrev G_joined : List Str := []
theorem so_joined : ScOk N_joined G_joined (defScope s_joined) := ⟨by decide +kernel, by decide +kernel, by decide +kernel⟩
theorem sc_joined : FnScope N_joined P_joined (defScope s_joined) := ⟨rfl, rfl, rfl, by decide +kernel, rfl, by decide +kernel, by decide +kernel⟩
abbrev s_doubts : Stmt := topS 8
abbrev N_doubts : List Str := ["claim", "holds", "goal", "name", "given", "_", "kind", "sentence"]
abbrev P_doubts : List Str := ["claim"]
abbrev G_doubts : List Str := ["words_in", "joined", "span_in", "span", "sorted"]
theorem so_doubts : ScOk N_doubts G_doubts (defScope s_doubts) := ⟨by decide +kernel, by decide +kernel, by decide +kernel⟩
theorem sc_doubts : FnScope N_doubts P_doubts (defScope s_doubts) := ⟨rfl, rfl, rfl, by decide +kernel, rfl, by decide +kernel, by decide +kernel⟩
abbrev s_is_balanced : Stmt := topS 9
abbrev N_is_balanced : List Str := ["goal", "name", "given", "needed", "_"]
abbrev P_is_balanced : List Str := ["goal", "name", "given"]
abbrev G_is_balanced : List Str := ["span_of_word", "is_balanced", "joined", "span_in", "span"]
theorem so_is_balanced : ScOk N_is_balanced G_is_balanced (defScope s_is_balanced) := ⟨by decide +kernel, by decide +kernel, by decide +kernel⟩
theorem sc_is_balanced : FnScope N_is_balanced P_is_balanced (defScope s_is_balanced) := ⟨rfl, rfl, rfl, by decide +kernel, rfl, by decide +kernel, by decide +kernel⟩
abbrev s_cell : Stmt := topS 11
abbrev N_cell : List Str := ["_law_script", "_law_k"]
abbrev P_cell : List Str := ["_law_script", "_law_k"]
abbrev G_cell : List Str := ["len", "abs"]
theorem so_cell : ScOk N_cell G_cell (defScope s_cell) := ⟨by decide +kernel, by decide +kernel, by decide +kernel⟩
theorem sc_cell : FnScope N_cell P_cell (defScope s_cell) := ⟨rfl, rfl, rfl, by decide +kernel, rfl, by decide +kernel, by decide +kernel⟩
abbrev s_pool : Stmt := topS 12
abbrev N_pool : List Str := ["_law_script", "_law_k", "_law_cell_here"]
abbrev P_pool : List Str := ["_law_script", "_law_k"]
abbrev G_pool : List Str := ["_law_cell", "int"]
theorem so_pool : ScOk N_pool G_pool (defScope s_pool) := ⟨by decide +kernel, by decide +kernel, by decide +kernel⟩
theorem sc_pool : FnScope N_pool P_pool (defScope s_pool) := ⟨rfl, rfl, rfl, by decide +kernel, rfl, by decide +kernel, by decide +kernel⟩
abbrev s_next : Stmt := topS 13
abbrev N_next : List Str := ["_law_pool_here", "_law_many", "_law_digit", "_law_mixed"]
abbrev P_next : List Str := ["_law_pool_here", "_law_many"]
abbrev G_next : List Str := ["int"]
theorem so_next : ScOk N_next G_next (defScope s_next) := ⟨by decide +kernel, by decide +kernel, by decide +kernel⟩
theorem sc_next : FnScope N_next P_next (defScope s_next) := ⟨rfl, rfl, rfl, by decide +kernel, rfl, by decide +kernel, by decide +kernel⟩
abbrev s_name : Stmt := topS 14
abbrev N_name : List Str := ["_law_pool_here", "_law_taken", "_law_stems", "_law_name_here", "_law_k"]
abbrev P_name : List Str := ["_law_pool_here", "_law_taken"]
abbrev G_name : List Str := ["_law_next", "range", "str", "len"]
theorem so_name : ScOk N_name G_name (defScope s_name) := ⟨by decide +kernel, by decide +kernel, by decide +kernel⟩
theorem sc_name : FnScope N_name P_name (defScope s_name) := ⟨rfl, rfl, rfl, by decide +kernel, rfl, by decide +kernel, by decide +kernel⟩
abbrev s_state : Stmt := topS 15
abbrev N_state : List Str := ["_law_pool_here", "_law_forms", "_law_most", "_law_stems", "_law_first", "_law_words"]
abbrev P_state : List Str := ["_law_pool_here", "_law_forms", "_law_most"]
abbrev G_state : List Str := ["_law_next", "range"]
theorem so_state : ScOk N_state G_state (defScope s_state) := ⟨by decide +kernel, by decide +kernel, by decide +kernel⟩
abbrev C_state : List Str := ["_law_k"]
theorem sc_state : FnScope (N_state ++ C_state) P_state (defScope s_state) := ⟨rfl, rfl, rfl, by decide +kernel, rfl, by decide +kernel, by decide +kernel⟩
theorem bk_state0 : BkOk (N_state ++ C_state) [(3, "_law_stems"), (4, "_law_first"), (6, "_law_k")] ["int"] 6 "_law_k" (defScope s_state) (lcSc (valE ((defBody s_state).getD 2 (.Pass ⟨0, 0, 0, 0⟩)))) := ⟨by decide +kernel, by decide +kernel, by decide +kernel, by decide +kernel⟩
abbrev s_sentence : Stmt := topS 16
abbrev N_sentence : List Str := ["_law_state_here", "_law_depth", "_law_pool_here", "_law_pick", "_law_one", "_law_two"]
abbrev P_sentence : List Str := ["_law_state_here", "_law_depth"]
abbrev G_sentence : List Str := ["_law_next", "len", "_law_sentence"]
theorem so_sentence : ScOk N_sentence G_sentence (defScope s_sentence) := ⟨by decide +kernel, by decide +kernel, by decide +kernel⟩
theorem sc_sentence : FnScope N_sentence P_sentence (defScope s_sentence) := ⟨rfl, rfl, rfl, by decide +kernel, rfl, by decide +kernel, by decide +kernel⟩
abbrev s_is_number : Stmt := topS 17
abbrev N_is_number : List Str := ["_law_value"]
abbrev P_is_number : List Str := ["_law_value"]
abbrev G_is_number : List Str := ["isinstance", "int", "bool"]
theorem so_is_number : ScOk N_is_number G_is_number (defScope s_is_number) := ⟨by decide +kernel, by decide +kernel, by decide +kernel⟩
theorem sc_is_number : FnScope N_is_number P_is_number (defScope s_is_number) := ⟨rfl, rfl, rfl, by decide +kernel, rfl, by decide +kernel, by decide +kernel⟩
abbrev s_legs : Stmt := topS 18
abbrev N_legs : List Str := ["_law_sentence_here", "_law_price"]
abbrev P_legs : List Str := ["_law_sentence_here"]
abbrev G_legs : List Str := ["_law_legs"]
theorem so_legs : ScOk N_legs G_legs (defScope s_legs) := ⟨by decide +kernel, by decide +kernel, by decide +kernel⟩
abbrev C_legs : List Str := ["_law_row"]
theorem sc_legs : FnScope (N_legs ++ C_legs) P_legs (defScope s_legs) := ⟨rfl, rfl, rfl, by decide +kernel, rfl, by decide +kernel, by decide +kernel⟩
abbrev s_names : Stmt := topS 19
abbrev N_names : List Str := ["_law_sentence_here"]
abbrev P_names : List Str := ["_law_sentence_here"]
abbrev G_names : List Str := ["_law_names"]
theorem so_names : ScOk N_names G_names (defScope s_names) := ⟨by decide +kernel, by decide +kernel, by decide +kernel⟩
theorem sc_names : FnScope N_names P_names (defScope s_names) := ⟨rfl, rfl, rfl, by decide +kernel, rfl, by decide +kernel, by decide +kernel⟩
abbrev s_leg : Stmt := topS 20
abbrev N_leg : List Str := ["_law_row", "_law_name_here", "_law_low", "_law_high", "_law_price", "_law_taken"]
abbrev P_leg : List Str := ["_law_row", "_law_name_here"]
abbrev G_leg : List Str := ["int", "_law_gives"]
theorem so_leg : ScOk N_leg G_leg (defScope s_leg) := ⟨by decide +kernel, by decide +kernel, by decide +kernel⟩
theorem sc_leg : FnScope N_leg P_leg (defScope s_leg) := ⟨rfl, rfl, rfl, by decide +kernel, rfl, by decide +kernel, by decide +kernel⟩
abbrev s_gives : Stmt := topS 21
abbrev N_gives : List Str := ["_law_mode", "_law_sentence_here", "_law_name_here", "_law_found", "_law_low", "_law_high"]
abbrev P_gives : List Str := ["_law_mode", "_law_sentence_here", "_law_name_here"]
abbrev G_gives : List Str := ["_law_legs", "min", "max"]
theorem so_gives : ScOk N_gives G_gives (defScope s_gives) := ⟨by decide +kernel, by decide +kernel, by decide +kernel⟩
abbrev C_gives : List Str := ["_law_row", "_law_pair"]
theorem sc_gives : FnScope (N_gives ++ C_gives) P_gives (defScope s_gives) := ⟨rfl, rfl, rfl, by decide +kernel, rfl, by decide +kernel, by decide +kernel⟩
theorem bk_gives0 : BkOk (N_gives ++ C_gives) [(6, "_law_row"), (2, "_law_name_here")] ["_law_leg"] 6 "_law_row" (defScope s_gives) (lcSc (valE ((defBody s_gives).getD 0 (.Pass ⟨0, 0, 0, 0⟩)))) := ⟨by decide +kernel, by decide +kernel, by decide +kernel, by decide +kernel⟩
abbrev s_doubted : Stmt := topS 22
abbrev N_doubted : List Str := ["_law_claim_here", "_law_name_here", "_law_low", "_law_high", "_law_row", "_law_given", "_law_least", "_law_most", "_law_price"]
abbrev P_doubted : List Str := ["_law_claim_here", "_law_name_here"]
abbrev G_doubted : List Str := ["_law_gives", "_law_legs", "int"]
theorem so_doubted : ScOk N_doubted G_doubted (defScope s_doubted) := ⟨by decide +kernel, by decide +kernel, by decide +kernel⟩
theorem sc_doubted : FnScope N_doubted P_doubted (defScope s_doubted) := ⟨rfl, rfl, rfl, by decide +kernel, rfl, by decide +kernel, by decide +kernel⟩
abbrev s_claim : Stmt := topS 23
abbrev N_claim : List Str := ["_law_state_here", "_law_pool_here", "_law_holds", "_law_k", "_law_mode", "_law_goal"]
abbrev P_claim : List Str := ["_law_state_here"]
abbrev G_claim : List Str := ["range", "_law_next", "int", "_law_name", "_law_sentence", "len", "tuple"]
theorem so_claim : ScOk N_claim G_claim (defScope s_claim) := ⟨by decide +kernel, by decide +kernel, by decide +kernel⟩
theorem sc_claim : FnScope N_claim P_claim (defScope s_claim) := ⟨rfl, rfl, rfl, by decide +kernel, rfl, by decide +kernel, by decide +kernel⟩
abbrev s_is_pair : Stmt := topS 24
abbrev N_is_pair : List Str := ["_law_value"]
abbrev P_is_pair : List Str := ["_law_value"]
abbrev G_is_pair : List Str := ["isinstance", "tuple", "len", "_law_is_number"]
theorem so_is_pair : ScOk N_is_pair G_is_pair (defScope s_is_pair) := ⟨by decide +kernel, by decide +kernel, by decide +kernel⟩
theorem sc_is_pair : FnScope N_is_pair P_is_pair (defScope s_is_pair) := ⟨rfl, rfl, rfl, by decide +kernel, rfl, by decide +kernel, by decide +kernel⟩
abbrev s_is_texts : Stmt := topS 25
abbrev N_is_texts : List Str := ["_law_value"]
abbrev P_is_texts : List Str := ["_law_value"]
abbrev G_is_texts : List Str := ["isinstance", "list"]
theorem so_is_texts : ScOk N_is_texts G_is_texts (defScope s_is_texts) := ⟨by decide +kernel, by decide +kernel, by decide +kernel⟩
abbrev C_is_texts : List Str := ["_law_item"]
theorem sc_is_texts : FnScope (N_is_texts ++ C_is_texts) P_is_texts (defScope s_is_texts) := ⟨rfl, rfl, rfl, by decide +kernel, rfl, by decide +kernel, by decide +kernel⟩
abbrev s_law : Stmt := topS 26
abbrev N_law : List Str := ["_law_script", "_law_pool_here", "_law_state_here", "_law_sentence_here", "_law_names_here", "_law_name_here", "_law_told", "_law_claim_here", "_law_row", "_law_due", "_law_turned", "_law_again", "_law_last"]
abbrev P_law : List Str := ["_law_script"]
abbrev G_law : List Str := ["_law_pool", "_law_state", "_law_sentence", "_law_next", "_law_names", "span", "_law_is_pair", "_law_gives", "_law_claim", "sorted", "set", "doubts", "_law_is_texts", "tuple", "reversed"]
theorem so_law : ScOk N_law G_law (defScope s_law) := ⟨by decide +kernel, by decide +kernel, by decide +kernel⟩
theorem sc_law : FnScope N_law P_law (defScope s_law) := ⟨rfl, rfl, rfl, by decide +kernel, rfl, by decide +kernel, by decide +kernel⟩
theorem bk_law0 : BkOk N_law [(5, "_law_name_here"), (7, "_law_claim_here")] ["_law_doubted"] 5 "_law_name_here" (defScope s_law) (lcSc (valE ((defBody s_law).getD 8 (.Pass ⟨0, 0, 0, 0⟩)))) := ⟨by decide +kernel, by decide +kernel, by decide +kernel, by decide +kernel⟩
local macro_rules | `(tactic| walk_at "bl") => `(tactic| first
  | refine e_callB (x := "len") (by assumption) b_len ?_
  | refine e_callB (x := "isinstance") (by assumption) b_isi ?_
  | refine e_callB (x := "abs") (by assumption) b_abs ?_
  | refine e_callB (x := "max") (by assumption) b_max ?_
  | refine e_callB (x := "min") (by assumption) b_min ?_
  | refine e_callTy (x := "str") (by assumption) b_str ?_
  | refine e_callTy (x := "int") (by assumption) b_int ?_)
local macro_rules | `(tactic| walk_at "gl") => `(tactic| first
  | refine e_bltn (x := "int") (v := .ty "int") (by assumption) b_int rfl ?_
  | refine e_bltn (x := "bool") (v := .ty "bool") (by assumption) b_bool rfl ?_
  | refine e_bltn (x := "str") (v := .ty "str") (by assumption) b_str rfl ?_
  | refine e_bltn (x := "tuple") (v := .ty "tuple") (by assumption) b_tuple rfl ?_
  | refine e_bltn (x := "list") (v := .ty "list") (by assumption) b_list rfl ?_)
local macro_rules | `(tactic| walk_at "st") => `(tactic| first
  | refine l_cons ?_
  | refine s_ret ?_
  | refine s_if ?_
  | refine s_set ?_
  | refine s_sub ?_
  | refine e_var ?_
  | refine e_int ?_
  | refine e_ix ?_
  | refine a_cons ?_
  | refine a_nil ?_
  | refine t_cmp ?_
  | refine t_not ?_
  | refine t_w (w_and ?_)
  | refine t_w (w_or ?_)
  | refine w_and ?_
  | refine w_or ?_
  | refine w_and1 ?_
  | refine w_or1 ?_
  | refine t_val ?_
  | refine e_str ?_
  | refine e_bl ?_
  | refine e_non ?_
  | refine e_bin ?_
  | refine e_cmp ?_
  | refine e_and ?_
  | refine e_or ?_
  | refine e_not ?_
  | refine e_one ?_
  | refine l_nil ?_
  | refine s_expr ?_
  | refine e_tup ?_
  | refine e_lst ?_
  | refine ⟨_, rfl, ?_⟩
  | ((with_reducible refine ite_t ?hc ?_); (case hc => exact rfl))
  | ((with_reducible refine ite_f ?hc ?_); (case hc => exact rfl))
  | refine o_add ?_
  | refine o_sub ?_
  | refine o_lt ?_
  | refine o_le ?_
  | refine o_gt ?_
  | refine o_ge ?_
  | refine o_eqI ?_
  | refine o_neI ?_
  | refine o_eqS ?_
  | refine o_neB ?_
  | refine o_isN ?_
  | refine o_nisB ?_
  | refine o_isB ?_
  | refine e_neg ?_
  | refine o_eqB ?_
  | refine c_int ?_
  | refine c_abs ?_
  | refine c_max rfl ?_
  | refine c_min rfl ?_
  | refine a_cons (e_fld ?_)
  | walk_at "bl"
  | walk_at "gl")
local macro_rules | `(tactic| walk_at "sts") => `(tactic| repeat walk_at "st")
section
variable {P : Program} {w : World} {K : PySem.W.Frag} {mg : Str → Option Value} {base : Heap}
def PoolAt (H : Hp) (a : Addr) : Prop := ∃ x y z : Int, H a = some (.lst [.int x, .int y, .int z])
def spCell (K : PySem.W.Frag) : Sp := fun vs H Q _ => ∃ (a : Addr) (ns : List Int) (k : Nat), vs = [.ref a, .int k] ∧ SqL K H a (ns.map V.int) ∧ ∀ z : Int, 0 ≤ z → Q (.int z) H
theorem ok_cell (T : Top K mg "_law_cell" s_cell) (mLen : mg "len" = none) (mAbs : mg "abs" = none) : Fn P w K mg base 1 "_law_cell" (spCell K) := by
  refine fn_ok T sc_cell so_cell (fun vs H Q E h => ?_) (fun _ _ _ _ _ _ us hl => match us, hl with | [_, _], _ => rfl) fun f cdv A outer s H vs Q E hr h nd => ?_
  · obtain ⟨a, ns, k, rfl, _⟩ := h
    rfl
  · obtain ⟨a, ns, k, rfl, hS, q⟩ := h
    walk_at "sts"
    refine c_lenL (by exact hS) ?_
    walk_at "sts"
    refine if2 (fun h => ?_) (fun h => ?_)
    · rw [List.length_map] at h
      have hk : k < ns.length := by omega
      walk_at "sts"
      refine ix_l (by exact hS) (atI_nat (v := .int ns[k]) (by simp [hk])) ?_
      walk_at "sts"
      exact q _ (by split <;> omega)
    · walk_at "sts"
      exact q _ (Int.le_refl _)
def spPool (K : PySem.W.Frag) : Sp := fun vs H Q _ => ∃ (a : Addr) (ns : List Int) (k : Nat), vs = [.ref a, .int k] ∧ SqL K H a (ns.map V.int) ∧ ∀ p H', Same H H' → H p = none → PoolAt H' p → Q (.ref p) H'
theorem ok_pool (T : Top K mg "_law_pool" s_pool) (F : Fn P w K mg base 1 "_law_cell" (spCell K)) (mInt : mg "int" = none) : Fn P w K mg base 2 "_law_pool" (spPool K) := by
  refine fn_ok T sc_pool so_pool (fun vs H Q E h => ?_) (fun _ _ _ _ _ _ us hl => match us, hl with | [_, _], _ => rfl) fun f cdv A outer s H vs Q E hr h nd => ?_
  · obtain ⟨a, ns, k, rfl, _⟩ := h
    rfl
  · obtain ⟨a, ns, k, rfl, hS, q⟩ := h
    walk_at "sts"
    refine e_call (by exact F) (by exact hr) (by decide) ?_
    walk_at "sts"
    refine ⟨a, ns, k, rfl, hS, fun z hz => ?_⟩
    walk_at "sts"
    refine o_pow ⟨by decide, by decide, by decide⟩ ?_
    walk_at "sts"
    refine if2 (fun h => ?_) (fun h => ?_)
    · walk_at "sts"
      refine o_mod (by decide) ?_
      walk_at "sts"
      refine ⟨by show 3 ≤ sizeLine; decide, fun p H2 e np hp => ?_⟩
      exact q p H2 e np ⟨_, _, _, hp⟩
    · walk_at "sts"
      refine ⟨by show 3 ≤ sizeLine; decide, fun p H2 e np hp => ?_⟩
      exact q p H2 e np ⟨_, _, _, hp⟩
def spNext : Sp := fun vs H Q _ => ∃ (a : Addr) (m : Int), vs = [.ref a, .int m] ∧ 0 < m ∧ m < 1073741824 ∧ PoolAt H a ∧ ∀ d H', 0 ≤ d → d < m → But a H H' → PoolAt H' a → Q (.int d) H'
theorem ok_next (T : Top K mg "_law_next" s_next) (mInt : mg "int" = none) : Fn P w K mg base 1 "_law_next" spNext := by
  refine fn_ok T sc_next so_next (fun vs H Q E h => ?_) (fun _ _ _ _ _ _ us hl => match us, hl with | [_, _], _ => rfl) fun f cdv A outer s H vs Q E hr h nd => ?_
  · obtain ⟨a, m, rfl, _⟩ := h
    rfl
  · obtain ⟨a, m, rfl, m0, m1, ⟨x, y, z, hp⟩, q⟩ := h
    walk_at "sts"
    refine ix_l (by exact SqL.of hp) rfl ?_
    walk_at "sts"
    refine if2 (fun h => ?_) (fun h => ?_)
    · walk_at "sts"
      refine ix_l (by exact SqL.of hp) rfl ?_
      walk_at "sts"
      refine o_mod m0 ?_
      walk_at "sts"
      refine ix_l (by exact SqL.of hp) rfl ?_
      walk_at "sts"
      refine o_fdiv ⟨m0, m1⟩ ?_
      walk_at "sts"
      refine set_l hp rfl ?_
      walk_at "sts"
      exact q _ _ (Int.emod_nonneg _ (by omega)) (Int.emod_lt_of_pos _ m0) (But.refl.upd) ⟨_, _, _, upd_same⟩
    · walk_at "sts"
      refine ix_l (by exact SqL.of hp) rfl ?_
      walk_at "sts"
      refine set_l hp rfl ?_
      walk_at "sts"
      refine ix_l (by exact SqL.of upd_same) rfl ?_
      walk_at "sts"
      refine ix_l (by exact SqL.of upd_same) rfl ?_
      walk_at "sts"
      refine o_mul (.inl (by decide)) ?_
      walk_at "sts"
      refine o_mod (by decide) ?_
      walk_at "sts"
      have b1 := Int.emod_nonneg (z + 7919 * (y + 1) + 13) (show (2147483647 : Int) ≠ 0 by decide)
      have b2 := Int.emod_lt_of_pos (z + 7919 * (y + 1) + 13) (show (0 : Int) < 2147483647 by decide)
      refine o_mul (.inl ⟨by omega, by omega⟩) ?_
      walk_at "sts"
      refine o_mod (by decide) ?_
      walk_at "sts"
      generalize (z + 7919 * (y + 1) + 13) % 2147483647 = u at *
      have c1 := Int.emod_nonneg (u * (u + 48271)) (show (2147483629 : Int) ≠ 0 by decide)
      have c2 := Int.emod_lt_of_pos (u * (u + 48271)) (show (0 : Int) < 2147483629 by decide)
      refine o_mul (.inl ⟨by omega, by omega⟩) ?_
      walk_at "sts"
      refine ix_l (by exact SqL.of upd_same) rfl ?_
      walk_at "sts"
      refine o_mul (.inl (by decide)) ?_
      walk_at "sts"
      refine o_mod (by decide) ?_
      walk_at "sts"
      refine o_fdiv (by decide) ?_
      walk_at "sts"
      refine o_mod m0 ?_
      walk_at "sts"
      exact q _ _ (Int.emod_nonneg _ (by omega)) (Int.emod_lt_of_pos _ m0) (But.refl.upd) ⟨_, _, _, upd_same⟩
end
/-- a kind as a value: once, or a pair -/
def ModeV (H : Hp) (m : V) : Option (Int × Int) → Prop
  | none => m = .str "once"
  | some (u, v) => ∃ t, m = .ref t ∧ H t = some (.tup [.int u, .int v])
theorem ModeV.up {H H' : Hp} {m : V} {k : Option (Int × Int)} (e : Same H H') (h : ModeV H m k) : ModeV H' m k := by
  cases k with
  | none => exact h
  | some uv =>
    obtain ⟨t, h1, h2⟩ := h
    exact ⟨t, h1, e _ _ h2⟩
theorem none_of {H H' : Hp} {p : Addr} (s : Same H H') (n : H' p = none) : H p = none := by
  cases hz : H p with
  | none => rfl
  | some o => exact absurd (s p o hz) (by rw [n]; intro z; cases z)
section
variable {P : Program} {w : World} {K : PySem.W.Frag} {mg : Str → Option Value} {base : Heap}
/-! ### sentences -/
inductive Sn where
  | word (z : Str)
  | menu (l r : Sn)
  | trade (k : Option (Int × Int)) (p g : Sn)
/-- all tuples stay -/
def TS (H H' : Hp) : Prop := ∀ t xs, H t = some (.tup xs) → H' t = some (.tup xs)
theorem Same.ts {H H' : Hp} (s : Same H H') : TS H H' := fun t xs h => s t _ h
theorem But.ts {a : Addr} {H H' : Hp} {l : List V} (b : But a H H') (ha : H a = some (.lst l)) : TS H H' := fun t xs h => b.tup ha h
theorem PoolAt.ts {a : Addr} {H H' : Hp} (h : PoolAt H a) (b : But a H H') : TS H H' := let ⟨_, _, _, e⟩ := h; But.ts b e
theorem TS.upd {a : Addr} {H : Hp} {l : List V} {o : HO} (ha : H a = some (.lst l)) : TS H (L2.upd H a o) := fun t xs h => by
  rw [upd_ne (ne_of h ha (by intro z; cases z))]
  exact h
theorem TS.trans {H H1 H2 : Hp} (a : TS H H1) (b : TS H1 H2) : TS H H2 := fun t xs h => b t xs (a t xs h)
theorem ModeV.ts {H H' : Hp} {m : V} {k : Option (Int × Int)} (e : TS H H') (h : ModeV H m k) : ModeV H' m k := by
  cases k with
  | none => exact h
  | some uv =>
    obtain ⟨t, h1, h2⟩ := h
    exact ⟨t, h1, e _ _ h2⟩
def SnV (H : Hp) : V → Sn → Prop
  | v, .word z => ∃ t, v = .ref t ∧ H t = some (.tup [.str "word", .str z])
  | v, .menu l r => ∃ t a b, v = .ref t ∧ H t = some (.tup [.str "menu", a, b]) ∧ SnV H a l ∧ SnV H b r
  | v, .trade k p g => ∃ t m a b, v = .ref t ∧ H t = some (.tup [.str "trade", m, a, b]) ∧ ModeV H m k ∧ SnV H a p ∧ SnV H b g
theorem SnV.ts {H H' : Hp} (e : TS H H') : ∀ {s : Sn} {v : V}, SnV H v s → SnV H' v s
  | .word z, v, ⟨t, h1, h2⟩ => ⟨t, h1, e _ _ h2⟩
  | .menu l r, v, ⟨t, a, b, h1, h2, h3, h4⟩ => ⟨t, a, b, h1, e _ _ h2, h3.ts e, h4.ts e⟩
  | .trade k p g, v, ⟨t, m, a, b, h1, h2, h5, h3, h4⟩ => ⟨t, m, a, b, h1, e _ _ h2, h5.ts e, h3.ts e, h4.ts e⟩
/-- the words, one after another -/
def nms : Sn → List Str
  | .word z => [z]
  | .menu l r => nms l ++ nms r
  | .trade _ p g => nms p ++ nms g
/-- rows -/
def rws : Sn → Nat
  | .word _ => 1
  | .menu l r => rws l + rws r + 1
  | .trade _ p g => rws p + rws g + 1
theorem nms_rws : ∀ s, (nms s).length ≤ rws s
  | .word _ => Nat.le_refl _
  | .menu l r => by have := nms_rws l; have := nms_rws r; simp only [nms, rws, List.length_append]; omega
  | .trade _ p g => by have := nms_rws p; have := nms_rws g; simp only [nms, rws, List.length_append]; omega
/-- a stack of sentences, the top at the end -/
def StV (H : Hp) : List V → List Sn → Prop
  | [], [] => True
  | v :: vs, s :: ss => SnV H v s ∧ StV H vs ss
  | _, _ => False
theorem StV.ts {H H' : Hp} (e : TS H H') : ∀ {xs : List V} {ss : List Sn}, StV H xs ss → StV H' xs ss
  | [], [], _ => trivial
  | _ :: _, _ :: _, ⟨a, r⟩ => ⟨a.ts e, r.ts e⟩
theorem StV.len {H : Hp} : ∀ {xs : List V} {ss : List Sn}, StV H xs ss → xs.length = ss.length
  | [], [], _ => rfl
  | _ :: _, _ :: _, ⟨_, r⟩ => by simp [r.len]
theorem StV.app {H : Hp} {v : V} {s : Sn} (h : SnV H v s) : ∀ {xs : List V} {ss : List Sn}, StV H xs ss → StV H (xs ++ [v]) (ss ++ [s])
  | [], [], _ => ⟨h, trivial⟩
  | _ :: _, _ :: _, ⟨a, r⟩ => ⟨a, r.app h⟩
theorem StV.last {H : Hp} : ∀ {xs : List V} {ss : List Sn} {s : Sn}, StV H xs (ss ++ [s]) → ∃ ys v, xs = ys ++ [v] ∧ StV H ys ss ∧ SnV H v s
  | [], [], s, h => h.elim
  | [], _ :: _, s, h => h.elim
  | [v], [], s, ⟨a, _⟩ => ⟨[], v, rfl, trivial, a⟩
  | v :: w :: vs, [], s, ⟨_, h⟩ => h.elim
  | v :: vs, t :: ss, s, ⟨a, r⟩ => by
    obtain ⟨ys, u, e, h1, h2⟩ := StV.last (ss := ss) r
    exact ⟨v :: ys, u, by rw [e]; rfl, ⟨a, h1⟩, h2⟩
def stN (ss : List Sn) : List Str := (ss.reverse.map nms).flatten
def stR (ss : List Sn) : Nat := (ss.map rws).sum
theorem stN_app (ss : List Sn) (s : Sn) : stN (ss ++ [s]) = nms s ++ stN ss := by simp [stN]
theorem stR_app (ss : List Sn) (s : Sn) : stR (ss ++ [s]) = stR ss + rws s := by simp [stR]
theorem rws_pos : ∀ s, 0 < rws s
  | .word _ => Nat.one_pos
  | .menu _ _ => Nat.succ_pos _
  | .trade _ _ _ => Nat.succ_pos _
theorem len_stR : ∀ ss : List Sn, ss.length ≤ stR ss
  | [] => Nat.le_refl _
  | s :: ss => by have := len_stR ss; have := rws_pos s; simp only [stR, List.map_cons, List.sum_cons, List.length_cons] at *; omega
theorem snoc_or {α : Type} : ∀ l : List α, l = [] ∨ ∃ a b, l = a ++ [b]
  | [] => .inl rfl
  | x :: xs => by
    rcases snoc_or xs with rfl | ⟨a, b, rfl⟩
    · exact .inr ⟨[], x, rfl⟩
    · exact .inr ⟨x :: a, b, rfl⟩
def sVs (l : List Str) : List V := l.map V.str
theorem updS {H H1 : Hp} {f : Addr} {o : HO} (s : Same H H1) (n : H f = none) : Same H (upd H1 f o) := fun x u h => by
  rw [upd_ne (ne_of_none h n)]
  exact s x u h
theorem ix_neg {X : Cx} {H : Hp} {Q : VK} {a : Addr} {xs : List V} {v : V} {j : Int} (h : H a = some (.tup xs)) (e : atI xs j = some v) (q : Q v H) : wIx X (.ref a) (.int j) H Q := ix_t (SqT.of h) e q
theorem mw : ¬ (("menu" : Str) = "word") := by decide +kernel
theorem tw : ¬ (("trade" : Str) = "word") := by decide +kernel
theorem tm : ¬ (("trade" : Str) = "menu") := by decide +kernel
def spNames : Sp := fun vs H Q _ => ∃ v s, vs = [v] ∧ SnV H v s ∧ rws s ≤ 100000 ∧ ∀ l H', Same H H' → H l = none → H' l = some (.lst (sVs (nms s))) → Q (.ref l) H'
theorem ok_names_within (T : Top K mg "names_within" s_names_within) : Fn P w K mg base 1 "names_within" spNames := by
  refine fn_ok T sc_names_within so_names_within (fun vs H Q E h => by obtain ⟨v, s, rfl, _⟩ := h; rfl) (fun _ _ _ _ _ _ us hl => match us, hl with | [_], _ => rfl) fun f cdv A outer s H vs Q E hr h nd => ?_
  obtain ⟨v, s, rfl, hv, hz, q⟩ := h
  walk_at "sts"
  refine ⟨by show 0 ≤ sizeLine; decide, fun f H1 e1 nf hf => ?_⟩
  walk_at "sts"
  refine ⟨by show 1 ≤ sizeLine; decide, fun g H2 e2 ng hg => ?_⟩
  have fg : f ≠ g := fun e => by subst e; rw [hf] at ng; cases ng
  have ng0 : H g = none := by
    cases hz : H g with
    | none => rfl
    | some o => exact absurd (e1 g o hz) (by rw [ng]; intro z; cases z)
  walk_at "sts"
  refine s_whileN (fun n σ H' => ∃ y xs ss ns, σ = [some v, some (.ref f), some (.ref g), y] ∧ Same H H' ∧ H' f = some (.lst (sVs ns)) ∧ H' g = some (.lst xs) ∧ StV H' xs ss ∧ ns ++ stN ss = nms s ∧ n = stR ss ∧ ns.length + stR ss ≤ rws s)
    (rws s) ⟨_, [v], [s], [], rfl, e1.trans e2, e2 _ _ hf, hg, ⟨hv.ts (Same.ts (e1.trans e2)), trivial⟩, by simp [stN], by simp [stR], by simp [stR]⟩ fun n σ H3 hW => ?_
  obtain ⟨y, xs, ss, ns, rfl, e3, hf3, hg3, hst, hn, rfl, hle⟩ := hW
  refine t_tru ?_
  walk_at "sts"
  refine ⟨_, tru_l hg3, ?_⟩
  rcases snoc_or ss with rfl | ⟨ss, s1, rfl⟩
  · have hx : xs = [] := by
      match xs, hst with
      | [], _ => rfl
    subst hx
    refine iteF ?_
    rw [show stN [] = [] from rfl, List.append_nil] at hn
    rw [hn] at hf3
    walk_at "sts"
    exact q f H3 e3 nf hf3
  · obtain ⟨xs, v1, rfl, hs2, hv1⟩ := hst.last
    clear hst
    rw [stN_app] at hn
    rw [stR_app] at hle
    rw [stR_app]
    refine ite_t (by simp) ?_
    refine l_cons (s_set (e_pop ?_))
    walk_at "sts"
    refine ⟨g, xs, v1, rfl, hg3, ?_⟩
    have ts4 := TS.upd (o := .lst xs) hg3
    replace hv1 := hv1.ts ts4
    replace hs2 := hs2.ts ts4
    have hf4 : (upd H3 g (.lst xs)) f = some (.lst (sVs ns)) := by rw [upd_ne fg]; exact hf3
    have e4 : Same H (upd H3 g (.lst xs)) := updS e3 ng0
    have hg4 : (upd H3 g (.lst xs)) g = some (.lst xs) := upd_same
    generalize upd H3 g (.lst xs) = H4 at *
    have hll := len_stR ss
    have hlx := hs2.len
    cases s1 with
    | word z =>
      obtain ⟨t, rfl, ht⟩ := hv1
      simp only [nms, rws] at hn hle ⊢
      walk_at "sts"
      refine ix_t (by exact SqT.of (ht)) rfl ?_
      walk_at "sts"
      refine e_app ?_
      walk_at "sts"
      refine ⟨f, _, rfl, SqL.of hf4, ?_⟩
      walk_at "sts"
      refine ix_t (by exact SqT.of (ht)) rfl ?_
      walk_at "sts"
      refine ⟨_, hf4, by simp only [sVs, List.length_map]; show ns.length < 2 ^ 24; omega, ?_⟩
      have ts5 := TS.upd (o := .lst (sVs ns ++ [.str z])) hf4
      refine l_nil (l_nil ⟨stR ss, by omega, _, xs, ss, ns ++ [z], rfl, updS e4 nf, by rw [upd_same]; simp [sVs], by rw [upd_ne fg.symm]; exact hg4, hs2.ts ts5, by rw [List.append_assoc]; exact hn, rfl, by simp only [List.length_append, List.length_cons, List.length_nil]; omega⟩)
    | menu l r =>
      obtain ⟨t, a, b, rfl, ht, ha, hb⟩ := hv1
      simp only [nms, rws] at hn hle ⊢
      walk_at "sts"
      refine ix_t (by exact SqT.of (ht)) rfl ?_
      walk_at "sts"
      refine e_app ?_
      walk_at "sts"
      refine ⟨g, _, rfl, SqL.of hg4, ?_⟩
      walk_at "sts"
      refine ix_neg (by exact ht) rfl ?_
      refine ⟨_, hg4, by rw [hlx]; show ss.length < 2 ^ 24; omega, ?_⟩
      have ts5 := TS.upd (o := .lst (xs ++ [b])) hg4
      refine l_cons (s_expr (e_app ?_))
      walk_at "sts"
      refine ⟨g, _, rfl, SqL.of upd_same, ?_⟩
      walk_at "sts"
      refine ix_neg (by exact ts5 _ _ ht) rfl ?_
      refine ⟨_, upd_same, by rw [List.length_append, hlx]; show ss.length + 1 < 2 ^ 24; omega, ?_⟩
      have ts6 := ts5.trans (TS.upd (o := .lst (xs ++ [b] ++ [a])) upd_same)
      refine l_nil (l_nil ⟨stR ss + rws r + rws l, by omega, _, xs ++ [b] ++ [a], ss ++ [r] ++ [l], ns, rfl, updS (updS e4 ng0) ng0, by rw [upd_ne fg, upd_ne fg]; exact hf4, upd_same, ((hs2.ts ts6).app (hb.ts ts6)).app (ha.ts ts6), by rw [stN_app, stN_app]; simpa [List.append_assoc] using hn, by rw [stR_app, stR_app], by rw [stR_app, stR_app]; omega⟩)
    | trade k l r =>
      obtain ⟨t, m, a, b, rfl, ht, hm, ha, hb⟩ := hv1
      simp only [nms, rws] at hn hle ⊢
      walk_at "sts"
      refine ix_t (by exact SqT.of (ht)) rfl ?_
      walk_at "sts"
      refine e_app ?_
      walk_at "sts"
      refine ⟨g, _, rfl, SqL.of hg4, ?_⟩
      walk_at "sts"
      refine ix_neg (by exact ht) rfl ?_
      refine ⟨_, hg4, by rw [hlx]; show ss.length < 2 ^ 24; omega, ?_⟩
      have ts5 := TS.upd (o := .lst (xs ++ [b])) hg4
      refine l_cons (s_expr (e_app ?_))
      walk_at "sts"
      refine ⟨g, _, rfl, SqL.of upd_same, ?_⟩
      walk_at "sts"
      refine ix_neg (by exact ts5 _ _ ht) rfl ?_
      refine ⟨_, upd_same, by rw [List.length_append, hlx]; show ss.length + 1 < 2 ^ 24; omega, ?_⟩
      have ts6 := ts5.trans (TS.upd (o := .lst (xs ++ [b] ++ [a])) upd_same)
      refine l_nil (l_nil ⟨stR ss + rws r + rws l, by omega, _, xs ++ [b] ++ [a], ss ++ [r] ++ [l], ns, rfl, updS (updS e4 ng0) ng0, by rw [upd_ne fg, upd_ne fg]; exact hf4, upd_same, ((hs2.ts ts6).app (hb.ts ts6)).app (ha.ts ts6), by rw [stN_app, stN_app]; simpa [List.append_assoc] using hn, by rw [stR_app, stR_app], by rw [stR_app, stR_app]; omega⟩)
abbrev Pk := Option (Int × Int)
abbrev Leg := List (Pk × Sn) × Str
def legsL : Sn → List Leg
  | .word z => [([], z)]
  | .menu l r => legsL l ++ legsL r
  | .trade k p g => (legsL g).map fun x => ((k, p) :: x.1, x.2)
def dep : Sn → Nat
  | .word _ => 0
  | .menu l r => max (dep l) (dep r) + 1
  | .trade _ p g => max (dep p) (dep g) + 1
/-! ### the different words -/
def addU (l : List Str) (z : Str) : List Str := if z ∈ l then l else l ++ [z]
def uniq (ns : List Str) : List Str := ns.foldl addU []
theorem uniq_take {ns : List Str} {k : Nat} {z : Str} (h : ns[k]? = some z) : uniq (ns.take (k + 1)) = addU (uniq (ns.take k)) z := by
  rw [List.take_add_one, h]
  simp [uniq]
theorem addU_len (l : List Str) (z : Str) : (addU l z).length ≤ l.length + 1 := by
  unfold addU
  split <;> simp
theorem uniq_len : ∀ (ns : List Str) (l : List Str), (ns.foldl addU l).length ≤ l.length + ns.length
  | [], l => Nat.le_refl _
  | z :: ns, l => by
    have := uniq_len ns (addU l z)
    have := addU_len l z
    simp only [List.foldl_cons, List.length_cons]
    omega
def dKs (l : List Str) : List (Key × V) := l.map fun z => (Sum.inr z, .bl true)
theorem dKs_put (l : List Str) (z : Str) : putK (dKs l) (Sum.inr z) (.bl true) = dKs (addU l z) := by
  unfold putK addU
  have e : ((dKs l).any fun kv => decide (kv.1 = Sum.inr z)) = decide (z ∈ l) := by
    rw [Bool.eq_iff_iff, List.any_eq_true, decide_eq_true_iff]
    constructor
    · rintro ⟨kv, h, hz⟩
      simp only [dKs, List.mem_map] at h
      obtain ⟨y, hy, rfl⟩ := h
      have e2 : y = z := by simpa using hz
      exact e2 ▸ hy
    · intro h
      exact ⟨(Sum.inr z, .bl true), by simp only [dKs, List.mem_map]; exact ⟨z, h, rfl⟩, by simp⟩
  rw [e]
  by_cases h : z ∈ l
  · rw [if_pos (by simpa using h), if_pos h]
    unfold dKs
    rw [List.map_map]
    apply List.map_congr_left
    intro x _
    show (if (Sum.inr x : Key) = Sum.inr z then ((Sum.inr x : Key), V.bl true) else (Sum.inr x, .bl true)) = _
    split <;> rfl
  · rw [if_neg (by simpa using h), if_neg h]
    simp [dKs]
theorem sVs_get {l : List Str} {k : Nat} {v : V} (h : (sVs l)[k]? = some v) : ∃ z, l[k]? = some z ∧ v = .str z := by
  simp only [sVs, List.getElem?_map] at h
  cases hz : l[k]? with
  | none => rw [hz] at h; cases h
  | some z => rw [hz] at h; cases h; exact ⟨z, rfl, rfl⟩
theorem ok_words_in (T : Top K mg "words_in" s_words_in) (mL : mg "list" = none) (F : Fn P w K mg base 1 "names_within" spNames) : Fn P w K mg base 2 "words_in" (fun vs H Q _ => ∃ v s, vs = [v] ∧ SnV H v s ∧ rws s ≤ 100000 ∧ ∀ l H', Same H H' → H l = none → H' l = some (.lst (sVs (uniq (nms s)))) → Q (.ref l) H') := by
  refine fn_ok T sc_words_in so_words_in (fun vs H Q E h => by obtain ⟨v, s, rfl, _⟩ := h; rfl) (fun _ _ _ _ _ _ us hl => match us, hl with | [_], _ => rfl) fun f cdv A outer s H vs Q E hr h nd => ?_
  obtain ⟨v, s, rfl, hv, hz, q⟩ := h
  have hn := nms_rws s
  walk_at "sts"
  refine e_dict fun d H1 e1 nd1 hd => ?_
  walk_at "sts"
  refine s_forL ?_
  refine e_call (by exact F) (by exact hr) (by decide) ?_
  walk_at "sts"
  refine ⟨v, s, rfl, hv.ts (Same.ts e1), hz, fun l H2 e2 n2 h2 => ?_⟩
  have hd2 := e2 _ _ hd
  have dl : d ≠ l := fun e => by subst e; rw [hd] at n2; cases n2
  refine ⟨l, _, rfl, SqL.of h2, fun k σ H' => ∃ y, σ = [some v, some (.ref d), y] ∧ Same H H' ∧ H' d = some (.dK (dKs (uniq ((nms s).take k)))) ∧ H' l = some (.lst (sVs (nms s))), ⟨_, rfl, e1.trans e2, hd2, h2⟩, fun k σ H' _ hW => ?_, fun k x σ H3 hk hW => ?_, fun σ H3 hW => ?_⟩
  · obtain ⟨y, rfl, _, _, h⟩ := hW
    exact SqL.of h
  · obtain ⟨y, rfl, e3, hd3, hl3⟩ := hW
    obtain ⟨z, hz2, rfl⟩ := sVs_get hk
    refine l_cons (s_dput (show (A.deeper (envOfC _ _ _ f cdv)).units + 1 < cLine from by have := hr.un; omega) ?_)
    walk_at "sts"
    have hlen : (dKs (uniq ((nms s).take k))).length < sizeLine := by
      have h1 := uniq_len ((nms s).take k) []
      simp only [dKs, List.length_map]
      show (uniq _).length < 2 ^ 24
      have h2 : ((nms s).take k).length ≤ (nms s).length := by simp [List.length_take]; omega
      unfold uniq
      simp only [List.length_nil] at h1
      omega
    refine ⟨d, _, rfl, DPut.k (k := Sum.inr z) hd3 hlen, ?_⟩
    refine l_nil ⟨_, rfl, updS e3 nd1, by rw [upd_same, dKs_put, uniq_take hz2], by rw [upd_ne dl.symm]; exact hl3⟩
  · obtain ⟨y, rfl, e3, hd3, hl3⟩ := hW
    rw [show (sVs (nms s)).length = (nms s).length by simp [sVs], List.take_length] at hd3
    walk_at "sts"
    refine e_callTy (x := "list") (by exact mL) b_list ?_
    walk_at "sts"
    refine c_of (call_list_dK rfl) ⟨d, _, rfl, hd3, fun r nr => ?_⟩
    refine q r _ (fun c u eo => ?_) (none_of e3 nr) ?_
    · rw [upd_ne (ne_of_none (e3 _ _ eo) nr)]
      exact e3 _ _ eo
    · rw [upd_same]
      simp only [dKs, sVs, List.map_map]
      rfl
theorem str_dp {K : PySem.W.Frag} {H : Hp} : ∀ l : List Str, DpAll K H (sVs l) (l.map PyData.str)
  | [] => .nil
  | z :: l => .cons (.str z) (str_dp l)
theorem str_lay : ∀ l : List Str, (∀ z ∈ l, PyData.strOk z = true) → PyData.canLayAll0 (l.map PyData.str) = true
  | [], _ => by simp [PyData.canLayAll0]
  | z :: l, h => by simp [PyData.canLayAll0, PyData.canLay0, h z List.mem_cons_self, str_lay l fun y hy => h y (List.mem_cons_of_mem _ hy)]
theorem str_depth : ∀ l : List Str, PyData.depthAll (l.map PyData.str) ≤ 1
  | [] => by simp [PyData.depthAll]
  | z :: l => by
    have := str_depth l
    simp only [List.map_cons, PyData.depthAll, PyData.depth]
    omega
theorem str_sh {z : Str} (h : PyData.strOk z = true) : SeqAt.shaped (.str z) = true := by simp [SeqAt.shaped, PyData.canLay0, PyData.depth, h]
theorem strs_sh {l : List Str} (h : ∀ z ∈ l, PyData.strOk z = true) : SeqAt.shaped (.list (l.map PyData.str)) = true := by
  have h1 := str_depth l
  have h2 : PyData.depth (.list (l.map PyData.str)) ≤ 64 := by
    simp only [PyData.depth]
    omega
  show (PyData.canLay0 (.list (l.map PyData.str)) && decide (PyData.depth (.list (l.map PyData.str)) ≤ 64)) = true
  rw [Bool.and_eq_true]
  exact ⟨by simp only [PyData.canLay0]; exact str_lay l h, decide_eq_true h2⟩
theorem o_cat2 {X : Cx} {H : Hp} {Q : VK} {l b : Addr} {xs zs : List V} (h1 : H l = some (.lst xs)) (h2 : H b = some (.lst zs)) (hz : xs.length + zs.length ≤ 200000) (q : ∀ p H2, Same H H2 → H p = none → H2 p = some (.lst (xs ++ zs)) → Q (.ref p) H2) : wB X .Add (.ref l) (.ref b) H Q :=
  b_of op_cat ⟨l, b, xs, zs, rfl, rfl, h1, h2, by show _ ≤ 2 ^ 24; omega, fun p np => q p _ (fun c u eo => by rw [upd_ne (ne_of_none eo np)]; exact eo) np upd_same⟩
end


/-! ### drawing -/
section
variable {P : Program} {w : World} {K : PySem.W.Frag} {mg : Str → Option Value} {base : Heap}
/-- all but two stay -/
def Bu (p t : Addr) (H H' : Hp) : Prop := ∀ b o, b ≠ p → b ≠ t → H b = some o → H' b = some o
theorem Bu.of {p t : Addr} {H H' : Hp} (b : But p H H') : Bu p t H H' := fun x o n _ h => b x o n h
theorem Bu.s {p t : Addr} {H H' : Hp} (b : Same H H') : Bu p t H H' := fun x o _ _ h => b x o h
theorem Bu.trans {p t : Addr} {H H1 H2 : Hp} (a : Bu p t H H1) (b : Bu p t H1 H2) : Bu p t H H2 := fun x o n m h => b x o n m (a x o n m h)
theorem PoolAt.up {H H' : Hp} {a : Addr} (e : Same H H') (h : PoolAt H a) : PoolAt H' a := let ⟨x, y, z, p⟩ := h; ⟨x, y, z, e _ _ p⟩
theorem PoolAt.ne {H : Hp} {a b : Addr} (h : PoolAt H a) (n : H b = none) : b ≠ a := fun e => by subst e; obtain ⟨_, _, _, q⟩ := h; rw [q] at n; cases n
abbrev stems : List Str := ["a", "b", "c", "door", "key2", "x", "menu", "long12345678"]
abbrev hstems : List Str := ["h", "note", "q", "own", "left", "once", "b2", "zz", "from", "cut", "k7x", "pay"]
def OkW (z : Str) : Prop := z ∈ stems
def okK : Pk → Prop
  | none => True
  | some (u, v) => 1 ≤ u ∧ u ≤ 100 ∧ 0 ≤ v
def okS : Sn → Prop
  | .word z => OkW z
  | .menu l r => okS l ∧ okS r
  | .trade k p g => okK k ∧ okS p ∧ okS g
theorem sVs_at {ns : List Str} {d : Int} (h0 : 0 ≤ d) (h1 : d < ns.length) : ∃ z, z ∈ ns ∧ atI (sVs ns) d = some (.str z) := by
  obtain ⟨j, rfl⟩ := Int.eq_ofNat_of_zero_le h0
  have hj : j < ns.length := by omega
  refine ⟨ns[j], List.getElem_mem hj, atI_nat ?_⟩
  simp [sVs, hj]
theorem sVs_flat (l : List Str) : (sVs l).all flatV = true := by
  rw [List.all_eq_true]
  intro v hv
  simp only [sVs, List.mem_map] at hv
  obtain ⟨z, _, rfl⟩ := hv
  rfl
theorem hst_len : ∀ z ∈ hstems, z.length ≤ 4 := by decide +kernel
theorem small_str {d : Int} (h0 : 0 ≤ d) (h1 : d < 100) : (toString d : Str).length ≤ 2 := by
  obtain ⟨j, rfl⟩ := Int.eq_ofNat_of_zero_le h0
  have hj : j < 100 := by omega
  have all : ((List.range 100).all fun j => decide ((toString ((j : Nat) : Int) : Str).length ≤ 2)) = true := by decide +kernel
  rw [List.all_eq_true] at all
  exact of_decide_eq_true (all j (List.mem_range.mpr hj))
theorem log_small {d : Int} (h0 : 0 ≤ d) (h1 : d < 100) : d.natAbs.log2 < 1920 := by
  have h : d.natAbs < 2 ^ 7 := by omega
  rcases Nat.eq_zero_or_pos d.natAbs with z | z
  · rw [z]; decide
  · have := (Nat.log2_lt (by omega)).mpr h
    omega
theorem o_addS {X : Cx} {H : Hp} {Q : VK} {x y : Str} (hz : x.length + y.length ≤ 1000) (q : Q (.str (x ++ y)) H) : wB X .Add (.str x) (.str y) H Q := b_of op_add_str ⟨x, y, rfl, rfl, by show _ ≤ 2 ^ 24; omega, q⟩
theorem app_len (x y : Str) : (x ++ y).length = x.length + y.length := by
  show ((x ++ y).cps).size = x.cps.size + y.cps.size
  exact Array.size_append ..
def spName : Sp := fun vs H Q _ => ∃ p t ts, vs = [.ref p, .ref t] ∧ PoolAt H p ∧ t ≠ p ∧ H t = some (.lst (sVs ts)) ∧ ts.length ≤ 50 ∧ ∀ z H', Bu p t H H' → PoolAt H' p → H' t = some (.lst (sVs (ts ++ [z]))) → Q (.str z) H'
theorem ok_name (T : Top K mg "_law_name" s_name) (mLen : mg "len" = none) (mStr : mg "str" = none) (mR : mg "range" = none) (F : Fn P w K mg base 1 "_law_next" spNext) : Fn P w K mg base 2 "_law_name" spName := by
  refine fn_ok T sc_name so_name (fun vs H Q E h => by obtain ⟨p, t, ts, rfl, _⟩ := h; rfl) (fun _ _ _ _ _ _ us hl => match us, hl with | [_, _], _ => rfl) fun f cdv A outer s H vs Q E hr h nd => ?_
  obtain ⟨p, t, ts, rfl, hp, htp, ht, hl, q⟩ := h
  walk_at "sts"
  refine ⟨by show 12 ≤ sizeLine; decide, fun l H1 e1 nl hl1 => ?_⟩
  have hlp := hp.ne nl
  have hlt : l ≠ t := fun e => by subst e; rw [ht] at nl; cases nl
  walk_at "sts"
  refine e_call (by exact F) (by exact hr) (by decide) ?_
  walk_at "sts"
  refine ⟨p, 12, rfl, by decide, by decide, hp.up e1, fun d H2 d0 d1 b2 p2 => ?_⟩
  obtain ⟨z0, hz0, hat0⟩ := sVs_at (ns := hstems) d0 d1
  refine ix_l (by exact SqL.of (b2 l _ hlp hl1)) hat0 ?_
  have ht2 := b2 t _ htp (e1 t _ ht)
  have hl2 := b2 l _ hlp hl1
  -- behind the test
  have fin2 : ∀ z y H', Bu p t H H' → PoolAt H' p → H' t = some (.lst (sVs ts)) → wL (cxOf CX0 P w K mg base N_name (Str.ofString "_law_name") (defScope s_name) f cdv A outer s H E).nox ((defBody s_name).drop 4) { nx := fun _ H' => Q .non H', rt := Q } [some (V.ref p), some (.ref t), some (.ref l), some (.str z), y] H' := by
    intro z y H' b' p' t'
    show wL _ (_ :: _) _ _ _
    walk_at "sts"
    refine e_app ?_
    walk_at "sts"
    refine ⟨t, _, rfl, SqL.of t', ?_⟩
    walk_at "sts"
    refine ⟨_, t', by simp only [sVs, List.length_map]; show ts.length < 2 ^ 24; omega, ?_⟩
    walk_at "sts"
    refine q z _ (fun x o n m h => ?_) ?_ ?_
    · rw [upd_ne m]
      exact b' x o n m h
    · obtain ⟨a1, a2, a3, h⟩ := p'
      exact ⟨a1, a2, a3, by rw [upd_ne htp.symm]; exact h⟩
    · rw [upd_same]
      simp [sVs]
  have fin1 : ∀ z y H', Bu p t H H' → PoolAt H' p → H' t = some (.lst (sVs ts)) → wL (cxOf CX0 P w K mg base N_name (Str.ofString "_law_name") (defScope s_name) f cdv A outer s H E).nox ((defBody s_name).drop 3) { nx := fun _ H' => Q .non H', rt := Q } [some (V.ref p), some (.ref t), some (.ref l), some (.str z), y] H' := by
    intro z y H' b' p' t'
    show wL _ (_ :: _) _ _ _
    walk_at "sts"
    refine o_in (by exact SqL.of t') rfl (sVs_flat ts) ?_
    refine ⟨_, rfl, ?_⟩
    cases inV (.str z) (sVs ts) with
    | true =>
      refine iteT ?_
      refine l_cons (s_set (e_bin (e_str ?_)))
      refine e_callTy (x := "str") (by assumption) b_str ?_
      walk_at "sts"
      refine c_lenL (by exact SqL.of t') ?_
      rw [show (sVs ts).length = ts.length by simp [sVs]]
      walk_at "sts"
      refine c_strI (log_small (by omega) (by omega)) ?_
      have h2 := small_str (d := (ts.length : Int)) (by omega) (by omega)
      refine o_addS (Nat.le_trans (Nat.add_le_add (show Str.length (Str.ofString "spare") ≤ 5 by decide +kernel) h2) (by decide)) ?_
      refine l_nil ?_
      exact fin2 _ _ H' b' p' t'
    | false =>
      refine iteF (l_nil ?_)
      exact fin2 _ _ H' b' p' t'
  walk_at "sts"
  refine s_forR (by assumption) ?_
  walk_at "sts"
  refine ⟨by decide, fun k σ H' => ∃ z y, σ = [some (V.ref p), some (.ref t), some (.ref l), some (.str z), y] ∧ But p H2 H' ∧ PoolAt H' p, ⟨z0, none, rfl, .refl, p2⟩, fun k σ H3 hk hW => ?_, fun σ H3 hW => ?_⟩
  · obtain ⟨z, y, rfl, b3, p3⟩ := hW
    have ht3 := b3 t _ htp ht2
    have hl3 := b3 l _ hlp hl2
    have b03 : Bu p t H H3 := (Bu.s e1).trans ((Bu.of b2).trans (Bu.of b3))
    walk_at "sts"
    refine o_nin (by exact SqL.of ht3) rfl (sVs_flat ts) ?_
    refine ⟨_, rfl, ?_⟩
    cases inV (.str z) (sVs ts) with
    | false =>
      refine ite_t rfl (l_cons (s_brk ?_))
      exact fin1 _ _ H3 b03 p3 ht3
    | true =>
      refine ite_f rfl (l_nil ?_)
      refine l_cons (s_set (e_bin ?_))
      walk_at "sts"
      refine e_call (by exact F) (by exact hr) (by decide) ?_
      walk_at "sts"
      refine ⟨p, 12, rfl, by decide, by decide, p3, fun d4 H4 f0 f1 b4 p4 => ?_⟩
      obtain ⟨z4, hz4, hat4⟩ := sVs_at (ns := hstems) f0 f1
      refine ix_l (by exact SqL.of (b4 l _ hlp hl3)) hat4 ?_
      refine e_callTy (x := "str") (by assumption) b_str ?_
      walk_at "sts"
      refine e_call (by exact F) (by exact hr) (by decide) ?_
      walk_at "sts"
      refine ⟨p, 100, rfl, by decide, by decide, p4, fun d5 H5 g0 g1 b5 p5 => ?_⟩
      refine a_nil ?_
      refine c_strI (log_small g0 g1) ?_
      have h2 := small_str g0 g1
      have h3 := hst_len z4 hz4
      refine o_addS (by omega) ?_
      refine l_nil ⟨_, _, rfl, (b3.trans b4).trans b5, p5⟩
  · obtain ⟨z, y, rfl, b3, p3⟩ := hW
    exact fin1 _ _ H3 ((Bu.s e1).trans ((Bu.of b2).trans (Bu.of b3))) p3 (b3 t _ htp ht2)
end


section
variable {P : Program} {w : World} {K : PySem.W.Frag} {mg : Str → Option Value} {base : Heap}
/-- what is drawn from: the pool p, the words at wd, the taken names at tk, in the dict a -/
structure StAt (H : Hp) (a p wd tk : Addr) (ws ts : List Str) : Prop where
  d : ∃ kvs, H a = some (.dK kvs) ∧ valV kvs (Sum.inr "pool") = some (.ref p) ∧ valV kvs (Sum.inr "forms") = some (.str "ms") ∧ valV kvs (Sum.inr "words") = some (.ref wd) ∧ valV kvs (Sum.inr "taken") = some (.ref tk)
  pl : PoolAt H p
  wl : H wd = some (.lst (sVs ws))
  tl : H tk = some (.lst (sVs ts))
  wp : wd ≠ p
  tp : tk ≠ p
  wt : wd ≠ tk
  w0 : 0 < ws.length
  w4 : ws.length ≤ 4
  ok : ∀ z ∈ ws, OkW z
variable {a p wd tk : Addr} {ws ts : List Str}
theorem StAt.ap {H : Hp} (h : StAt H a p wd tk ws ts) : a ≠ p := fun e => by
  obtain ⟨kvs, h1, _⟩ := h.d
  obtain ⟨_, _, _, h2⟩ := h.pl
  rw [e, h2] at h1
  cases h1
theorem StAt.at' {H : Hp} (h : StAt H a p wd tk ws ts) : a ≠ tk := fun e => by
  obtain ⟨kvs, h1, _⟩ := h.d
  rw [e, h.tl] at h1
  cases h1
theorem StAt.but {H H' : Hp} (h : StAt H a p wd tk ws ts) (b : But p H H') (q : PoolAt H' p) : StAt H' a p wd tk ws ts :=
  ⟨let ⟨kvs, h1, h2⟩ := h.d; ⟨kvs, b a _ h.ap h1, h2⟩, q, b _ _ h.wp h.wl, b _ _ h.tp h.tl, h.wp, h.tp, h.wt, h.w0, h.w4, h.ok⟩
theorem StAt.bu {H H' : Hp} {us : List Str} (h : StAt H a p wd tk ws ts) (b : Bu p tk H H') (q : PoolAt H' p) (t' : H' tk = some (.lst (sVs us))) : StAt H' a p wd tk ws us :=
  ⟨let ⟨kvs, h1, h2⟩ := h.d; ⟨kvs, b a _ h.ap h.at' h1, h2⟩, q, b _ _ h.wp h.wt h.wl, t', h.wp, h.tp, h.wt, h.w0, h.w4, h.ok⟩
theorem sg_m : (Str.ofString "m") = sg 109 := by decide +kernel
theorem sg_s : (Str.ofString "s") = sg 115 := by decide +kernel
theorem m_in : decide (109 ∈ (Str.ofString "ms").cps.toList) = true := by decide +kernel
theorem s_in : decide (115 ∈ (Str.ofString "ms").cps.toList) = true := by decide +kernel
/-- the suite of a test -/
def ifA (b : List Stmt) (i : Nat) : List Stmt := match b.getD i (.Pass ⟨0, 0, 0, 0⟩) with
  | .If _ a _ _ => a
  | _ => []
def spSent (n : Nat) : Sp := fun vs H Q _ => ∃ a p wd tk ws ts, ∃ d : Nat, vs = [.ref a, .int d] ∧ StAt H a p wd tk ws ts ∧ d ≤ n ∧ ∀ v s H', But p H H' → PoolAt H' p → SnV H' v s → okS s → dep s ≤ d → rws s < 2 ^ (d + 1) → Q v H'
theorem ok_sentS (n : Nat) (T : Top K mg "_law_sentence" s_sentence) (mLen : mg "len" = none) (FX : Fn P w K mg base 1 "_law_next" spNext) (F : ∀ m, n = m + 1 → Fn P w K mg base (m + 2) "_law_sentence" (spSent m)) : Fn P w K mg base (n + 2) "_law_sentence" (spSent n) := by
  refine fn_ok T sc_sentence so_sentence (fun vs H Q E h => by obtain ⟨a, p, wd, tk, ws, ts, d, rfl, _⟩ := h; rfl) (fun _ _ _ _ _ _ us hl => match us, hl with | [_, _], _ => rfl) fun f cdv A outer s H vs Q E hr h nd => ?_
  obtain ⟨a, p, wd, tk, ws, ts, d, rfl, hs, hdn, q⟩ := h
  have G := fun {H' : Hp} (h : StAt H' a p wd tk ws ts) => h.d
  obtain ⟨kvs, k1, k2, k3, k4, k5⟩ := G hs
  walk_at "sts"
  refine ix_d (by exact hr) ⟨a, .ref p, rfl, dg_k k1 k2, ?_⟩
  walk_at "sts"
  refine e_call (by exact FX) (by exact hr) (by omega) ?_
  walk_at "sts"
  refine ⟨p, 8, rfl, by decide, by decide, hs.pl, fun d1 H1 d10 d11 b1 p1 => ?_⟩
  have hs1 := hs.but b1 p1
  have k11 := b1 a _ hs.ap k1
  have leaf : ∀ σ, σ = [some (V.ref a), some (.int d), some (.ref p), some (.int d1), none, none] → wL (cxOf CX0 P w K mg base N_sentence (Str.ofString "_law_sentence") (defScope s_sentence) f cdv A outer s H E).nox (ifA (defBody s_sentence) 2) { nx := fun σ' H' => wL (cxOf CX0 P w K mg base N_sentence (Str.ofString "_law_sentence") (defScope s_sentence) f cdv A outer s H E).nox ((defBody s_sentence).drop 3) { nx := fun _ H' => Q .non H', rt := Q } σ' H', rt := Q } σ H1 := by
    rintro σ rfl
    show wL _ (_ :: _) _ _ _
    refine l_cons (s_ret (e_tup ?_))
    walk_at "sts"
    refine ix_d (by exact hr) ⟨a, .ref wd, rfl, dg_k k11 k4, ?_⟩
    refine e_call (by exact FX) (by exact hr) (by omega) ?_
    walk_at "sts"
    refine ix_d (by exact hr) ⟨a, .ref wd, rfl, dg_k k11 k4, ?_⟩
    walk_at "sts"
    refine c_lenL (by exact SqL.of hs1.wl) ?_
    rw [show (sVs ws).length = ws.length by simp [sVs]]
    have h1 := hs1.w0
    have h2 := hs1.w4
    walk_at "sts"
    refine ⟨p, _, rfl, by omega, by omega, p1, fun d2 H2 e0 e1 b2 p2 => ?_⟩
    obtain ⟨z, hz, hat⟩ := sVs_at e0 e1
    refine ix_l (by exact SqL.of (b2 wd _ hs1.wp hs1.wl)) hat ?_
    walk_at "sts"
    refine ⟨by show 2 ≤ sizeLine; decide, fun t H3 e3 _ ht => ?_⟩
    exact q _ (.word z) H3 ((b1.trans b2).trans (But.of e3)) (p2.up e3) ⟨t, rfl, ht⟩ (hs1.ok z hz) (Nat.zero_le _) (by show 1 < 2 ^ (d + 1); rw [Nat.pow_succ]; have := Nat.one_le_two_pow (n := d); omega)
  walk_at "sts"
  refine if2 (fun h0 => leaf _ rfl) (fun h0 => ?_)
  refine w_or1 (t_cmp ?_)
  walk_at "sts"
  refine if2 (fun h1 => leaf _ rfl) (fun h1 => l_nil ?_)
  obtain ⟨m, rfl⟩ : ∃ m, n = m + 1 := ⟨n - 1, by omega⟩
  obtain ⟨i, rfl⟩ : ∃ i, d = i + 1 := ⟨d - 1, by omega⟩
  have F0 := F m rfl
  have ei : ((i + 1 : Nat) : Int) - 1 = (i : Int) := by omega
  walk_at "sts"
  refine e_call (by exact F0) (by exact hr) (by omega) ?_
  walk_at "sts"
  rw [ei]
  refine ⟨a, p, wd, tk, ws, ts, i, rfl, hs1, by omega, fun v1 s1 H2 b2 p2 g1 o1 dd1 r1 => ?_⟩
  have hs2 := hs1.but b2 p2
  walk_at "sts"
  refine e_call (by exact F0) (by exact hr) (by omega) ?_
  walk_at "sts"
  rw [ei]
  refine ⟨a, p, wd, tk, ws, ts, i, rfl, hs2, by omega, fun v2 s2 H3 b3 p3 g2 o2 dd2 r2 => ?_⟩
  replace g1 := g1.ts (p2.ts b3)
  have hs3 := hs2.but b3 p3
  have b13 := (b1.trans b2).trans b3
  have k13 := b13 a _ hs.ap k1
  have hpow : rws s1 + rws s2 + 1 < 2 ^ (i + 1 + 1) := by rw [Nat.pow_succ]; omega
  have once : ∀ σ, σ = [some (V.ref a), some (.int ((i + 1 : Nat) : Int)), some (.ref p), some (.int d1), some v1, some v2] → wL (cxOf CX0 P w K mg base N_sentence (Str.ofString "_law_sentence") (defScope s_sentence) f cdv A outer s H E).nox ((defBody s_sentence).drop 7) { nx := fun _ H' => Q .non H', rt := Q } σ H3 := by
    rintro σ rfl
    show wL _ (_ :: _) _ _ _
    walk_at "sts"
    refine ⟨by show 4 ≤ sizeLine; decide, fun t H5 e5 _ ht => ?_⟩
    exact q _ (.trade none s1 s2) H5 (b13.trans (But.of e5)) (p3.up e5) ⟨t, _, v1, v2, rfl, ht, rfl, g1.ts (Same.ts e5), g2.ts (Same.ts e5)⟩ ⟨trivial, o1, o2⟩ (by show max (dep s1) (dep s2) + 1 ≤ _; omega) hpow
  have many : ∀ σ, σ = [some (V.ref a), some (.int ((i + 1 : Nat) : Int)), some (.ref p), some (.int d1), some v1, some v2] → wL (cxOf CX0 P w K mg base N_sentence (Str.ofString "_law_sentence") (defScope s_sentence) f cdv A outer s H E).nox ((defBody s_sentence).drop 6) { nx := fun _ H' => Q .non H', rt := Q } σ H3 := by
    rintro σ rfl
    show wL _ (_ :: _) _ _ _
    refine l_cons (s_if (t_w (w_and (t_cmp ?_))))
    walk_at "sts"
    refine if2 (fun h4 => ?_) (fun h4 => l_nil (once _ rfl))
    refine w_and1 (t_cmp ?_)
    walk_at "sts"
    refine ix_d (by exact hr) ⟨a, _, rfl, dg_k k13 k3, ?_⟩
    rw [sg_s]
    refine o_inS ?_
    rw [s_in]
    refine ⟨_, rfl, iteT ?_⟩
    refine l_cons (s_ret (e_tup (a_cons (e_str (a_cons (e_tup (a_cons (e_bin (e_int ?_)))))))))
    refine e_call (by exact FX) (by exact hr) (by omega) ?_
    walk_at "sts"
    refine ⟨p, 3, rfl, by decide, by decide, p3, fun d3 H4 f0 f1 b4 p4 => ?_⟩
    walk_at "sts"
    refine e_call (by exact FX) (by exact hr) (by omega) ?_
    walk_at "sts"
    refine ⟨p, 3, rfl, by decide, by decide, p4, fun d4 H5 g0 g11 b5 p5 => ?_⟩
    walk_at "sts"
    refine ⟨by show 2 ≤ sizeLine; decide, fun t6 H6 e6 _ ht6 => ?_⟩
    walk_at "sts"
    refine ⟨by show 4 ≤ sizeLine; decide, fun t H7 e7 _ ht => ?_⟩
    have ts7 : TS H3 H7 := (((p3.ts b4).trans (p4.ts b5)).trans (Same.ts e6)).trans (Same.ts e7)
    exact q _ (.trade (some (1 + d3, d4)) s1 s2) H7 ((((b13.trans b4).trans b5).trans (But.of e6)).trans (But.of e7)) ((p5.up e6).up e7) ⟨t, _, v1, v2, rfl, ht, ⟨t6, rfl, e7 _ _ ht6⟩, g1.ts ts7, g2.ts ts7⟩ ⟨⟨by omega, by omega, g0⟩, o1, o2⟩ (by show max (dep s1) (dep s2) + 1 ≤ _; omega) hpow
  refine l_cons (s_if (t_w (w_and (t_cmp ?_))))
  walk_at "sts"
  refine if2 (fun h4 => ?_) (fun h4 => l_nil (many _ rfl))
  refine w_and1 (t_cmp ?_)
  walk_at "sts"
  refine ix_d (by exact hr) ⟨a, _, rfl, dg_k k13 k3, ?_⟩
  rw [sg_m]
  refine o_inS ?_
  rw [m_in]
  refine ⟨_, rfl, iteT ?_⟩
  walk_at "sts"
  refine ⟨by show 3 ≤ sizeLine; decide, fun t H4 e4 _ ht => ?_⟩
  exact q _ (.menu s1 s2) H4 (b13.trans (But.of e4)) (p3.up e4) ⟨t, v1, v2, rfl, ht, g1.ts (Same.ts e4), g2.ts (Same.ts e4)⟩ ⟨o1, o2⟩ (by show max (dep s1) (dep s2) + 1 ≤ _; omega) hpow
theorem ok_sent (T : Top K mg "_law_sentence" s_sentence) (mLen : mg "len" = none) (FX : Fn P w K mg base 1 "_law_next" spNext) : ∀ n, Fn P w K mg base (n + 2) "_law_sentence" (spSent n)
  | 0 => ok_sentS 0 T mLen FX fun m h => by cases h
  | n + 1 => ok_sentS (n + 1) T mLen FX fun m h => by cases h; exact ok_sent T mLen FX n
end


section
variable {P : Program} {w : World} {K : PySem.W.Frag} {mg : Str → Option Value} {base : Heap}
def spState : Sp := fun vs H Q _ => ∃ p m, vs = [.ref p, .str "ms", .int m] ∧ PoolAt H p ∧ 0 < m ∧ m < 1000000 ∧ ∀ a wd tk ws H', But p H H' → StAt H' a p wd tk ws [] → Q (.ref a) H'
theorem ok_state (T : Top K mg "_law_state" s_state) (mInt : mg "int" = none) (mR : mg "range" = none) (F : Fn P w K mg base 1 "_law_next" spNext) : Fn P w K mg base 2 "_law_state" spState := by
  refine fn_okC T sc_state so_state (fun vs H Q E h => by obtain ⟨p, m, rfl, _⟩ := h; rfl) (fun _ _ _ _ _ _ us hl => match us, hl with | [_, _, _], _ => rfl) fun f cdv A outer s H vs Q E hr h nd => ?_
  obtain ⟨p, m, rfl, hp, hm0, hm1, q⟩ := h
  walk_at "sts"
  refine ⟨by show 8 ≤ sizeLine; decide, fun l H1 e1 nl hl => ?_⟩
  have hlp := hp.ne nl
  walk_at "sts"
  refine e_call (by exact F) (by exact hr) (by decide) ?_
  walk_at "sts"
  refine ⟨p, 8, rfl, by decide, by decide, hp.up e1, fun d H2 d0 d1 b2 p2 => ?_⟩
  have hl2 := b2 l _ hlp hl
  refine l_cons (s_lcR (by exact bk_state0) (by assumption) ?_)
  walk_at "sts"
  refine e_call (by exact F) (by exact hr) (by decide) ?_
  walk_at "sts"
  refine ⟨p, 4, rfl, by decide, by decide, p2, fun d3 H3 e0 e1' b3 p3 => ?_⟩
  obtain ⟨n, rfl⟩ := Int.eq_ofNat_of_zero_le e0
  have hl3 := b3 l _ hlp hl2
  walk_at "sts"
  refine ⟨Nat.lt_of_lt_of_le (show 1 + n < 5 by omega) (by decide), fun D nD => ?_⟩
  have hDp := p3.ne nD
  have hDl : D ≠ l := fun e => by subst e; rw [hl3] at nD; cases nD
  refine ⟨fun k H' => ∃ ws : List Str, ws.length = k ∧ (∀ z ∈ ws, OkW z) ∧ H' D = some (.lst (sVs ws)) ∧ ∀ b o, b ≠ D → H3 b = some o → H' b = some o, ⟨[], rfl, fun z hz => by simp at hz, upd_same, fun b o nb e => by rw [upd_ne nb]; exact e⟩, fun k H' hk hW s0 H0 C cl fp IB => ?_, fun H' hW => ?_⟩
  · obtain ⟨ws, rfl, hws, hD, hk'⟩ := hW
    have hk5 : ws.length < 5 := by have h1 : ws.length < 1 + n := hk; omega
    refine e_ix (b_var (e_bin (b_callTy (x := "int") (by assumption) b_int (a_cons (e_bin (b_var (e_bin (e_int (b_var ?_)))))))))
    refine o_mul (.inl (by decide)) (o_add (a_nil (c_int (e_int (o_mod (by decide) ?_)))))
    obtain ⟨z, hz, hat⟩ := sVs_at (ns := stems) (Int.emod_nonneg (d + 3 * (ws.length : Int)) (show (8 : Int) ≠ 0 by decide)) (Int.emod_lt_of_pos (d + 3 * (ws.length : Int)) (by decide))
    refine ix_l (by exact SqL.of (hk' l _ hDl.symm hl3)) hat ⟨_, hD, by simp only [sVs, List.length_map]; exact Nat.lt_of_lt_of_le hk5 (by decide), ws ++ [z], by simp, fun y hy => ?_, by rw [upd_same]; simp [sVs], fun b o nb e => by rw [upd_ne nb]; exact hk' b o nb e⟩
    rcases List.mem_append.mp hy with hy | hy
    · exact hws y hy
    · rw [List.mem_singleton] at hy
      subst hy
      exact hz
  · obtain ⟨ws, hlen, hws, hD, hk'⟩ := hW
    have p4 : PoolAt H' p := let ⟨x, y, z, e⟩ := p3; ⟨x, y, z, hk' p _ hDp.symm e⟩
    have b4 : But p H H' := fun b o nb e => hk' b o (fun z => by subst z; rw [b3 b o nb (b2 b o nb (e1 b o e))] at nD; cases nD) (b3 b o nb (b2 b o nb (e1 b o e)))
    refine l_cons (s_ret (e_of (pe_disp (pps_cons pe pe (pps_cons pe pe (pps_cons pe pe (pps_cons pe pe (pps_cons pe pe (pps_cons pe pe (pps_cons pe pe (pps_cons pe pe (pps_cons pe pe pps_nil))))))))) (by rfl) (by rfl) (fun z => by cases z) (by decide)) ?_))
    simp only [tDisp, tPairs]
    intro a na
    have haD : a ≠ D := fun e => by subst e; rw [hD] at na; cases na
    have hap := p4.ne na
    have b5 : But p H (upd H' a (.dK [])) := fun b o nb e => by rw [upd_ne (ne_of_none (b4 b o nb e) na)]; exact b4 b o nb e
    have p5 : PoolAt (upd H' a (.dK [])) p := let ⟨x, y, z, e⟩ := p4; ⟨x, y, z, by rw [upd_ne hap.symm]; exact e⟩
    have hD5 : (upd H' a (.dK [])) D = some (.lst (sVs ws)) := by rw [upd_ne haD.symm]; exact hD
    have ha5 : (upd H' a (.dK [])) a = some (.dK []) := upd_same
    generalize upd H' a (.dK []) = H5 at *
    refine e_str (e_var (e_str (e_var (e_str (e_var (e_str (e_dnew fun r1 n1 => ?_)))))))
    have s1 : Same H5 (upd H5 r1 (.dK [])) := updS (Same.refl H5) n1
    generalize upd H5 r1 (.dK []) = H6 at *
    refine e_str (e_dnew fun r2 n2 => ?_)
    have s2 : Same H5 (upd H6 r2 (.dK [])) := s1.trans (updS (Same.refl H6) n2)
    generalize upd H6 r2 (.dK []) = H7 at *
    refine e_str (e_dnew fun r3 n3 => ?_)
    have s3 : Same H5 (upd H7 r3 (.dK [])) := s2.trans (updS (Same.refl H7) n3)
    generalize upd H7 r3 (.dK []) = H8 at *
    refine e_str (e_lst (a_nil ⟨by show 0 ≤ sizeLine; decide, fun r4 H9 e9 n4 h4 => ?_⟩))
    refine e_str (e_lst (a_nil ⟨by show 0 ≤ sizeLine; decide, fun tk H10 e10 n5 h5 => ?_⟩))
    have s10 : Same H5 H10 := (s3.trans e9).trans e10
    refine e_str (e_bin (e_int ?_))
    refine e_call (by exact F) (by exact hr) (by decide) ?_
    walk_at "sts"
    refine ⟨p, m, rfl, hm0, by omega, p5.up s10, fun d6 H11 g0 g1 b11 p11 => ?_⟩
    refine o_add ⟨b11 a _ hap (s10 a _ ha5), [(Sum.inr "pool", .ref p), (Sum.inr "forms", .str "ms"), (Sum.inr "words", .ref D), (Sum.inr "rules", .ref r1), (Sum.inr "entries", .ref r2), (Sum.inr "meets", .ref r3), (Sum.inr "holds", .ref r4), (Sum.inr "taken", .ref tk), (Sum.inr "budget", .int (2 + d6))], rfl, by show 9 ≤ 15; decide, ?_⟩
    have n10 : H5 tk = none := none_of (s3.trans e9) n5
    have htD : tk ≠ D := fun e => by subst e; rw [hD5] at n10; cases n10
    have htp : tk ≠ p := p5.ne n10
    have hta : tk ≠ a := fun e => by subst e; rw [ha5] at n10; cases n10
    have b12 : ∀ b o, b ≠ p → b ≠ a → H5 b = some o → (upd H11 a (.dK (mergeK [] [(Sum.inr "pool", .ref p), (Sum.inr "forms", .str "ms"), (Sum.inr "words", .ref D), (Sum.inr "rules", .ref r1), (Sum.inr "entries", .ref r2), (Sum.inr "meets", .ref r3), (Sum.inr "holds", .ref r4), (Sum.inr "taken", .ref tk), (Sum.inr "budget", .int (2 + d6))]))) b = some o := fun b o nb nb2 e => by
      rw [upd_ne nb2]
      exact b11 b o nb (s10 b o e)
    refine q a D tk ws _ (fun b o nb e => ?_) ⟨⟨_, upd_same, ?_, ?_, ?_, ?_⟩, ?_, b12 D _ hDp haD.symm hD5, ?_, hDp, htp, htD.symm, ?_, ?_, hws⟩
    · have nba : b ≠ a := fun z => by subst z; exact absurd (b4 b o nb e) (by rw [na]; intro z; cases z)
      exact b12 b o nb nba (b5 b o nb e)
    · simp only [mergeK, List.foldl_cons, List.foldl_nil, valV_put]
      repeat (first | rw [if_pos trivial] | rw [if_neg (by decide +kernel)])
    · simp only [mergeK, List.foldl_cons, List.foldl_nil, valV_put]
      repeat (first | rw [if_pos trivial] | rw [if_neg (by decide +kernel)])
    · simp only [mergeK, List.foldl_cons, List.foldl_nil, valV_put]
      repeat (first | rw [if_pos trivial] | rw [if_neg (by decide +kernel)])
    · simp only [mergeK, List.foldl_cons, List.foldl_nil, valV_put]
      repeat (first | rw [if_pos trivial] | rw [if_neg (by decide +kernel)])
    · obtain ⟨x, y, z, e⟩ := p11
      exact ⟨x, y, z, by rw [upd_ne hap.symm]; exact e⟩
    · rw [upd_ne hta]
      exact b11 tk _ htp h5
    · have h1 : ws.length = 1 + n := hlen
      omega
    · have h1 : ws.length = 1 + n := hlen
      omega
end


section
variable {P : Program} {w : World} {K : PySem.W.Frag} {mg : Str → Option Value} {base : Heap}
theorem Bu.ts {p t : Addr} {H H' : Hp} {l : List V} (b : Bu p t H H') (hp : PoolAt H p) (ht : H t = some (.lst l)) : TS H H' := fun u xs h => b u _ (fun e => by subst e; obtain ⟨_, _, _, q⟩ := hp; rw [q] at h; cases h) (fun e => by subst e; rw [ht] at h; cases h) h
/-- a hold: its kind and its sentence -/
def HdV (H : Hp) (v : V) (x : Pk × Sn) : Prop := ∃ t nm m a, v = .ref t ∧ H t = some (.tup [nm, m, a]) ∧ ModeV H m x.1 ∧ SnV H a x.2
theorem HdV.ts {H H' : Hp} {v : V} {x : Pk × Sn} (e : TS H H') : HdV H v x → HdV H' v x := fun ⟨t, nm, m, a, h1, h2, h3, h4⟩ => ⟨t, nm, m, a, h1, e _ _ h2, h3.ts e, h4.ts e⟩
def HdsV (H : Hp) : List V → List (Pk × Sn) → Prop
  | [], [] => True
  | v :: vs, x :: xs => HdV H v x ∧ HdsV H vs xs
  | _, _ => False
theorem HdsV.ts {H H' : Hp} (e : TS H H') : ∀ {vs : List V} {xs : List (Pk × Sn)}, HdsV H vs xs → HdsV H' vs xs
  | [], [], _ => trivial
  | _ :: _, _ :: _, ⟨a, r⟩ => ⟨a.ts e, r.ts e⟩
theorem HdsV.len {H : Hp} : ∀ {vs : List V} {xs : List (Pk × Sn)}, HdsV H vs xs → vs.length = xs.length
  | [], [], _ => rfl
  | _ :: _, _ :: _, ⟨_, r⟩ => by simp [r.len]
theorem HdsV.app {H : Hp} {v : V} {x : Pk × Sn} (h : HdV H v x) : ∀ {vs : List V} {xs : List (Pk × Sn)}, HdsV H vs xs → HdsV H (vs ++ [v]) (xs ++ [x])
  | [], [], _ => ⟨h, trivial⟩
  | _ :: _, _ :: _, ⟨a, r⟩ => ⟨a, r.app h⟩
theorem HdsV.get {H : Hp} : ∀ {vs : List V} {xs : List (Pk × Sn)} {k : Nat} {v : V}, HdsV H vs xs → vs[k]? = some v → ∃ x, xs[k]? = some x ∧ HdV H v x
  | _ :: _, x :: _, 0, v, ⟨a, _⟩, e => by
    cases (Option.some.inj e)
    exact ⟨x, rfl, a⟩
  | _ :: _, _ :: _, k + 1, v, ⟨_, r⟩, e => by
    obtain ⟨x, h1, h2⟩ := r.get (show (_ : List V)[k]? = some v from e)
    exact ⟨x, h1, h2⟩
theorem HdsV.rev {H : Hp} : ∀ {vs : List V} {xs : List (Pk × Sn)}, HdsV H vs xs → HdsV H vs.reverse xs.reverse
  | [], [], _ => trivial
  | v :: vs, x :: xs, ⟨a, r⟩ => by
    rw [List.reverse_cons, List.reverse_cons]
    exact r.rev.app a
def okH (x : Pk × Sn) : Prop := okK x.1 ∧ okS x.2 ∧ dep x.2 ≤ 2 ∧ rws x.2 < 8
/-- a claim -/
structure ClAt (H : Hp) (c : Addr) (hl : List (Pk × Sn)) (g : Sn) : Prop where
  ex : ∃ t hvs gv, H c = some (.tup [.ref t, gv]) ∧ H t = some (.tup hvs) ∧ HdsV H hvs hl ∧ SnV H gv g
theorem ClAt.ts {H H' : Hp} {c : Addr} {hl : List (Pk × Sn)} {g : Sn} (e : TS H H') (h : ClAt H c hl g) : ClAt H' c hl g :=
  let ⟨t, hvs, gv, h1, h2, h3, h4⟩ := h.ex
  ⟨⟨t, hvs, gv, e _ _ h1, e _ _ h2, h3.ts e, h4.ts e⟩⟩
structure ClOk (hl : List (Pk × Sn)) (g : Sn) : Prop where
  len : hl.length ≤ 5
  all : ∀ x ∈ hl, okH x
  gk : okS g
  dp : dep g ≤ 3
  rw : rws g < 16
def spClaim : Sp := fun vs H Q _ => ∃ a p wd tk ws, vs = [.ref a] ∧ StAt H a p wd tk ws [] ∧ ∀ c hl g H', ClAt H' c hl g → ClOk hl g → Q (.ref c) H'
theorem ok_claim (T : Top K mg "_law_claim" s_claim) (mLen : mg "len" = none) (mInt : mg "int" = none) (mTup : mg "tuple" = none) (mR : mg "range" = none) (F : Fn P w K mg base 1 "_law_next" spNext) (FN : Fn P w K mg base 2 "_law_name" spName) (FS : Fn P w K mg base 6 "_law_sentence" (spSent 4)) : Fn P w K mg base 7 "_law_claim" spClaim := by
  refine fn_ok T sc_claim so_claim (fun vs H Q E h => by obtain ⟨a, p, wd, tk, ws, rfl, _⟩ := h; rfl) (fun _ _ _ _ _ _ us hl => match us, hl with | [_], _ => rfl) fun f cdv A outer s H vs Q E hr h nd => ?_
  obtain ⟨a, p, wd, tk, ws, rfl, hs, q⟩ := h
  obtain ⟨kvs, k1, k2, k3, k4, k5⟩ := id hs.d
  walk_at "sts"
  refine ix_d (by exact hr) ⟨a, .ref p, rfl, dg_k k1 k2, ?_⟩
  walk_at "sts"
  refine ⟨by show 0 ≤ sizeLine; decide, fun hd H1 e1 nh hh => ?_⟩
  have hhp := hs.pl.ne nh
  have hht : hd ≠ tk := fun e => by subst e; rw [hs.tl] at nh; cases nh
  have hha : hd ≠ a := fun e => by subst e; rw [k1] at nh; cases nh
  have hs1 : StAt H1 a p wd tk ws [] := hs.bu (Bu.s e1) (hs.pl.up e1) (e1 _ _ hs.tl)
  have ka1 : H1 a = some (.dK kvs) := e1 _ _ k1
  refine l_cons (s_forR (by assumption) ?_)
  refine e_call (by exact F) (by exact hr) (by decide) ?_
  walk_at "sts"
  refine ⟨p, 6, rfl, by decide, by decide, hs1.pl, fun d0 H2 d00 d01 b2 p2 => ?_⟩
  obtain ⟨n, rfl⟩ := Int.eq_ofNat_of_zero_le d00
  refine ⟨n, rfl, Nat.lt_of_lt_of_le (show n < 6 by omega) (by decide), fun k σ H' => ∃ hvs hl ts y3 y4 y5, σ = [some (V.ref a), some (.ref p), some (.ref hd), y3, y4, y5] ∧ StAt H' a p wd tk ws ts ∧ H' a = some (.dK kvs) ∧ ts.length = k ∧ H' hd = some (.lst hvs) ∧ HdsV H' hvs hl ∧ hl.length = k ∧ ∀ x ∈ hl, okH x,
    ⟨[], [], [], _, _, _, rfl, hs1.but b2 p2, b2 _ _ hs1.ap ka1, rfl, b2 _ _ hhp hh, trivial, rfl, fun x hx => by cases hx⟩, fun k σ H3 hk hW => ?_, fun σ H3 hW => ?_⟩
  · obtain ⟨hvs, hl, ts, y3, y4, y5, rfl, hs3, ka3, hts, hd3, hv3, hl3, hok⟩ := hW
    have hk6 : k < 6 := by omega
    walk_at "sts"
    refine e_call (by exact F) (by exact hr) (by decide) ?_
    walk_at "sts"
    refine ⟨p, 50, rfl, by decide, by decide, hs3.pl, fun d4 H4 f0 f1 b4 p4 => ?_⟩
    walk_at "sts"
    refine e_call (by exact F) (by exact hr) (by decide) ?_
    walk_at "sts"
    refine ⟨p, 3, rfl, by decide, by decide, p4, fun d5 H5 g0 g1 b5 p5 => ?_⟩
    walk_at "sts"
    refine ⟨by show 2 ≤ sizeLine; decide, fun t6 H6 e6 n6 h6 => ?_⟩
    walk_at "sts"
    refine ⟨by show 2 ≤ sizeLine; decide, fun l7 H7 e7 n7 h7 => ?_⟩
    have p7 := (p5.up e6).up e7
    have b37 : But p H3 H7 := ((b4.trans b5).trans (But.of e6)).trans (But.of e7)
    have l7p : l7 ≠ p := (p5.up e6).ne n7
    refine e_callTy (x := "int") (by assumption) b_int (a_cons (e_cmp ?_))
    refine e_call (by exact F) (by exact hr) (by decide) ?_
    walk_at "sts"
    refine ⟨p, 3, rfl, by decide, by decide, p7, fun d8 H8 i0 i1 b8 p8 => ?_⟩
    have b38 := b37.trans b8
    have m8 : H8 t6 = some (.tup [.int (1 + d4), .int d5]) := p7.ts b8 _ _ (e7 _ _ h6)
    refine e_int (o_eqI (a_nil (c_intB ?_)))
    obtain ⟨md, kk, hat, hmd, hkk⟩ : ∃ md kk, atI [V.str "once", .ref t6] (if (decide (d8 = 0)) = true then 1 else 0) = some md ∧ ModeV H8 md kk ∧ okK kk := by
      by_cases z : d8 = 0
      · refine ⟨_, some (1 + d4, d5), by rw [if_pos (decide_eq_true z)]; rfl, ⟨t6, rfl, m8⟩, by omega, by omega, g0⟩
      · exact ⟨_, none, by rw [if_neg (by rw [decide_eq_false z]; decide)]; rfl, rfl, trivial⟩
    refine ix_l (by exact SqL.of (b8 l7 _ l7p h7)) hat ?_
    have hs8 := hs3.but b38 p8
    have ka8 : H8 a = some (.dK kvs) := b38 _ _ hs3.ap ka3
    have ts38 : TS H3 H8 := hs3.pl.ts b38
    refine l_cons (s_expr (e_app (e_var ⟨hd, hvs, rfl, SqL.of (b38 _ _ hhp hd3), e_tup ?_⟩)))
    refine a_cons ?_
    refine e_call (by exact FN) (by exact hr) (by decide) ?_
    walk_at "sts"
    refine ix_d (by exact hr) ⟨a, .ref tk, rfl, dg_k ka8 k5, ?_⟩
    refine a_nil ⟨p, tk, ts, rfl, p8, hs8.tp, hs8.tl, by omega, fun z H9 b9 p9 t9 => ?_⟩
    have hs9 := hs8.bu b9 p9 t9
    have ka9 : H9 a = some (.dK kvs) := b9 _ _ hs8.ap hs8.at' ka8
    have ts9 := b9.ts p8 hs8.tl
    walk_at "sts"
    refine e_call (by exact FS) (by exact hr) (by decide) ?_
    walk_at "sts"
    refine e_call (by exact F) (by exact hr) (by decide) ?_
    walk_at "sts"
    refine ⟨p, 3, rfl, by decide, by decide, p9, fun d10 H10 j0 j1 b10 p10 => ?_⟩
    obtain ⟨dd, rfl⟩ := Int.eq_ofNat_of_zero_le j0
    walk_at "sts"
    refine ⟨a, p, wd, tk, ws, _, dd, rfl, hs9.but b10 p10, by omega, fun sv sn H11 b11 p11 hsv oks dps rws1 => ?_⟩
    have hs11 := (hs9.but b10 p10).but b11 p11
    have ka11 : H11 a = some (.dK kvs) := b11 _ _ hs9.ap (b10 _ _ hs9.ap ka9)
    have ts911 : TS H9 H11 := (p9.ts b10).trans (p10.ts b11)
    walk_at "sts"
    refine ⟨by show 3 ≤ sizeLine; decide, fun t12 H12 e12 n12 h12 => ?_⟩
    have hd12 : H12 hd = some (.lst hvs) := e12 _ _ (b11 _ _ hhp (b10 _ _ hhp (b9 _ _ hhp hht (b38 _ _ hhp hd3))))
    refine ⟨_, hd12, by rw [hv3.len, hl3]; exact Nat.lt_of_lt_of_le hk6 (by decide), ?_⟩
    have ts13 : TS H12 (upd H12 hd (.lst (hvs ++ [.ref t12]))) := TS.upd hd12
    have tsA : TS H8 (upd H12 hd (.lst (hvs ++ [.ref t12]))) := ((ts9.trans ts911).trans (Same.ts e12)).trans ts13
    have hr4 : 2 ^ (dd + 1) ≤ 8 := Nat.pow_le_pow_right (n := 2) (j := 3) (by decide) (by omega)
    have hs12 : StAt (upd H12 hd (.lst (hvs ++ [.ref t12]))) a p wd tk ws (ts ++ [z]) := by
      have h := hs11.bu (Bu.s e12) (p11.up e12) (e12 _ _ hs11.tl)
      refine ⟨⟨kvs, by rw [upd_ne hha.symm]; exact e12 _ _ ka11, k2, k3, k4, k5⟩, ?_, ?_, by rw [upd_ne hht.symm]; exact h.tl, h.wp, h.tp, h.wt, h.w0, h.w4, h.ok⟩
      · obtain ⟨x, y, u, e⟩ := h.pl
        exact ⟨x, y, u, by rw [upd_ne hhp.symm]; exact e⟩
      · have hwd : wd ≠ hd := fun e => by
          subst e
          have := hs.wl
          rw [nh] at this
          cases this
        rw [upd_ne hwd]
        exact h.wl
    refine l_nil ⟨hvs ++ [.ref t12], hl ++ [(kk, sn)], ts ++ [z], _, _, _, rfl, hs12, by rw [upd_ne hha.symm]; exact e12 _ _ ka11, by simp [hts], upd_same, (hv3.ts (ts38.trans tsA)).app ⟨t12, _, md, sv, rfl, ts13 _ _ h12, hmd.ts tsA, hsv.ts ((Same.ts e12).trans ts13)⟩, by simp [hl3], fun x hx => ?_⟩
    rcases List.mem_append.mp hx with hx | hx
    · exact hok x hx
    · rw [List.mem_singleton] at hx
      subst hx
      exact ⟨hkk, oks, by show dep sn ≤ 2; omega, by show rws sn < 8; omega⟩
  · obtain ⟨hvs, hl, ts, y3, y4, y5, rfl, hs3, ka3, hts, hd3, hv3, hl3, hok⟩ := hW
    walk_at "sts"
    refine e_call (by exact FS) (by exact hr) (by decide) ?_
    walk_at "sts"
    refine e_call (by exact F) (by exact hr) (by decide) ?_
    walk_at "sts"
    refine ⟨p, 4, rfl, by decide, by decide, hs3.pl, fun d4 H4 f0 f1 b4 p4 => ?_⟩
    obtain ⟨dd, rfl⟩ := Int.eq_ofNat_of_zero_le f0
    walk_at "sts"
    refine ⟨a, p, wd, tk, ws, _, dd, rfl, hs3.but b4 p4, by omega, fun gv g H5 b5 p5 hg okg dpg rwg => ?_⟩
    have b35 := b4.trans b5
    have ts35 : TS H3 H5 := hs3.pl.ts b35
    have hd5 : H5 hd = some (.lst hvs) := b35 _ _ hhp hd3
    have hr4 : 2 ^ (dd + 1) ≤ 16 := Nat.pow_le_pow_right (n := 2) (j := 4) (by decide) (by omega)
    have hv5 := hv3.ts ts35
    -- the last row
    have fin : ∀ gv g H', PoolAt H' p → H' hd = some (.lst hvs) → HdsV H' hvs hl → SnV H' gv g → okS g → dep g ≤ 3 → rws g < 16 → wL (cxOf CX0 P w K mg base N_claim (Str.ofString "_law_claim") (defScope s_claim) f cdv A outer s H E).nox ((defBody s_claim).drop 5) { nx := fun _ H' => Q .non H', rt := Q } [some (V.ref a), some (.ref p), some (.ref hd), y3, y4, some gv] H' := by
      intro gv g H' p' hd' hv' hg' o1 o2 o3
      show wL _ (_ :: _) _ _ _
      refine l_cons (s_ret (e_tup (a_cons ?_)))
      refine e_callTy (x := "tuple") (by assumption) b_tuple ?_
      walk_at "sts"
      refine c_tupL (by exact SqL.of hd') fun t6 H6 e6 n6 h6 => ?_
      walk_at "sts"
      refine ⟨by show 2 ≤ sizeLine; decide, fun c7 H7 e7 n7 h7 => ?_⟩
      have ts7 : TS H' H7 := (Same.ts e6).trans (Same.ts e7)
      exact q c7 hl g H7 ⟨⟨t6, hvs, gv, h7, e7 _ _ h6, hv'.ts ts7, hg'.ts ts7⟩⟩ ⟨by omega, hok, o1, o2, o3⟩
    refine l_cons (s_if (t_w (w_and (t_tru (e_var ⟨_, tru_l hd5, ?_⟩)))))
    cases hvs with
    | nil =>
      refine iteF (l_nil ?_)
      exact fin gv g H5 p5 hd5 hv5 hg okg (by omega) (by omega)
    | cons u us =>
      refine iteT (w_and1 (t_cmp ?_))
      refine e_call (by exact F) (by exact hr) (by decide) ?_
      walk_at "sts"
      refine ⟨p, 3, rfl, by decide, by decide, p5, fun d6 H6 g0 g1 b6 p6 => ?_⟩
      have hd6 := b6 _ _ hhp hd5
      have ts6 : TS H5 H6 := p5.ts b6
      walk_at "sts"
      refine if2 (fun h0 => ?_) (fun h0 => l_nil ?_)
      · walk_at "sts"
        refine e_call (by exact F) (by exact hr) (by decide) ?_
        walk_at "sts"
        refine c_lenL (by exact SqL.of hd6) ?_
        have hlen := hv3.len
        walk_at "sts"
        refine ⟨p, _, rfl, by simp only [List.length_cons]; omega, by simp only [List.length_cons] at hlen ⊢; omega, p6, fun d7 H7 i0 i1 b7 p7 => ?_⟩
        obtain ⟨j, rfl⟩ := Int.eq_ofNat_of_zero_le i0
        have hj : j < (u :: us).length := by omega
        have hd7 := b7 _ _ hhp hd6
        have ts7 : TS H5 H7 := ts6.trans (p6.ts b7)
        have ev : (u :: us)[j]? = some (u :: us)[j] := List.getElem?_eq_getElem hj
        obtain ⟨x, hx, ht⟩ := (hv5.ts ts7).get ev
        obtain ⟨t8, nm, m8, a8, e8, h8, h9, h10⟩ := ht
        refine ix_l (by exact SqL.of hd7) (atI_nat ev) ?_
        rw [e8]
        walk_at "sts"
        refine ix_t (by exact SqT.of h8) rfl ?_
        obtain ⟨ok1, ok2, ok3, ok4⟩ := hok x (List.mem_of_getElem? hx)
        refine l_nil ?_
        exact fin a8 x.2 H7 p7 hd7 (hv5.ts ts7) h10 ok2 (by omega) (by omega)
      · exact fin gv g H6 p6 hd6 (hv5.ts ts6) (hg.ts ts6) okg (by omega) (by omega)
end


/-! ### spans -/
def inK : Pk → Int × Int → Int × Int
  | none, x => x
  | some (n, _), x => (min 0 (n * x.1), max 0 (n * x.2))
def wordP (z w : Str) : Int × Int := if z = w then (1, 1) else (0, 0)
def spanP : Sn → Str → Int × Int
  | .word z, w => wordP z w
  | .menu l r, w => (min (spanP l w).1 (spanP r w).1, max (spanP l w).2 (spanP r w).2)
  | .trade k p g, w => ((spanP g w).1 - (inK k (spanP p w)).2, (spanP g w).2 - (inK k (spanP p w)).1)
def addP (x y : Int × Int) : Int × Int := (x.1 + y.1, x.2 + y.2)
def bal : Sn → Str → Int × Int → Bool
  | .word z, w, x => decide (x.1 ≤ (wordP z w).1) && decide ((wordP z w).1 ≤ x.2)
  | .menu l r, w, x => bal l w x && bal r w x
  | .trade k p g, w, x => bal g w (addP x (inK k (spanP p w)))
theorem minI (i j : Int) : (if j < i then j else i) = min i j := by rw [Int.min_def]; split <;> split <;> omega
theorem maxI (i j : Int) : (if j > i then j else i) = max i j := by rw [Int.max_def]; split <;> split <;> omega
def Pr (H : Hp) (v : V) (x : Int × Int) : Prop := ∃ t, v = .ref t ∧ H t = some (.tup [.int x.1, .int x.2])
theorem Pr.ts {H H' : Hp} {v : V} {x : Int × Int} (e : TS H H') : Pr H v x → Pr H' v x := fun ⟨t, h1, h2⟩ => ⟨t, h1, e _ _ h2⟩
theorem once_shaped : SeqAt.shaped (.str "once") = true := by decide +kernel
section
variable {P : Program} {w : World} {K : PySem.W.Frag} {mg : Str → Option Value} {base : Heap}
def spWordOf : Sp := fun vs H Q _ => ∃ z y, vs = [.str z, .str y] ∧ ∀ v H', Same H H' → Pr H' v (wordP z y) → Q v H'
theorem ok_wordof (T : Top K mg "span_of_word" s_span_of_word) : Fn P w K mg base 1 "span_of_word" spWordOf := by
  refine fn_ok T sc_span_of_word so_span_of_word (fun vs H Q E h => by obtain ⟨z, y, rfl, _⟩ := h; rfl) (fun _ _ _ _ _ _ us hl => match us, hl with | [_, _], _ => rfl) fun f cdv A outer s H vs Q E hr h nd => ?_
  obtain ⟨z, y, rfl, q⟩ := h
  refine l_cons (s_ret (e_ifExp (t_cmp ?_)))
  walk_at "sts"
  by_cases e : z = y
  · refine ifT e ?_
    walk_at "sts"
    refine ⟨by show 2 ≤ sizeLine; decide, fun t H1 e1 _ ht => q _ H1 e1 ⟨t, rfl, ?_⟩⟩
    rw [wordP, if_pos e]
    exact ht
  · refine ifF e ?_
    walk_at "sts"
    refine ⟨by show 2 ≤ sizeLine; decide, fun t H1 e1 _ ht => q _ H1 e1 ⟨t, rfl, ?_⟩⟩
    rw [wordP, if_neg e]
    exact ht
def spSpanIn : Sp := fun vs H Q _ => ∃ v m x k, vs = [v, m] ∧ Pr H v x ∧ ModeV H m k ∧ okK k ∧ ∀ r H', Same H H' → Pr H' r (inK k x) → Q r H'
theorem ok_spanin (T : Top K mg "span_in" s_span_in) (mMin : mg "min" = none) (mMax : mg "max" = none) : Fn P w K mg base 1 "span_in" spSpanIn := by
  refine fn_ok T sc_span_in so_span_in (fun vs H Q E h => by obtain ⟨v, m, x, k, rfl, _⟩ := h; rfl) (fun _ _ _ _ _ _ us hl => match us, hl with | [_, _], _ => rfl) fun f cdv A outer s H vs Q E hr h nd => ?_
  obtain ⟨v, m, x, k, rfl, ⟨t, rfl, ht⟩, hm, hk, q⟩ := h
  cases k with
  | none =>
    cases (show m = .str "once" from hm)
    walk_at "sts"
    exact q _ H (Same.refl H) ⟨t, rfl, ht⟩
  | some uv =>
    obtain ⟨u, d⟩ := uv
    obtain ⟨t2, rfl, ht2⟩ := hm
    obtain ⟨u1, u2, _⟩ := hk
    refine l_cons (s_if (t_cmp (e_var (e_str (o_eqPS (by exact hr) (by exact ht2) once_shaped ⟨_, rfl, iteF (l_nil ?_)⟩)))))
    refine l_cons (s_ret (e_tup (a_cons ?_)))
    refine e_callB (x := "min") (by assumption) b_min (a_cons (e_int (a_cons (e_bin ?_))))
    walk_at "sts"
    refine ix_t (by exact SqT.of ht2) rfl ?_
    walk_at "sts"
    refine ix_t (by exact SqT.of ht) rfl ?_
    refine o_mul (.inl ⟨by omega, by omega⟩) (a_nil (c_min rfl ?_))
    rw [minI]
    refine a_cons ?_
    refine e_callB (x := "max") (by assumption) b_max (a_cons (e_int (a_cons (e_bin ?_))))
    walk_at "sts"
    refine ix_t (by exact SqT.of ht2) rfl ?_
    walk_at "sts"
    refine ix_t (by exact SqT.of ht) rfl ?_
    refine o_mul (.inl ⟨by omega, by omega⟩) (a_nil (c_max rfl ?_))
    rw [maxI]
    refine a_nil ⟨by show 2 ≤ sizeLine; decide, fun t3 H1 e1 _ h3 => q _ H1 e1 ⟨t3, rfl, h3⟩⟩
def spJoined : Sp := fun vs H Q _ => ∃ v u x y, vs = [v, u] ∧ Pr H v x ∧ Pr H u y ∧ ∀ r H', Same H H' → Pr H' r (addP x y) → Q r H'
theorem ok_joined (T : Top K mg "joined" s_joined) : Fn P w K mg base 1 "joined" spJoined := by
  refine fn_ok T sc_joined so_joined (fun vs H Q E h => by obtain ⟨v, u, x, y, rfl, _⟩ := h; rfl) (fun _ _ _ _ _ _ us hl => match us, hl with | [_, _], _ => rfl) fun f cdv A outer s H vs Q E hr h nd => ?_
  obtain ⟨v, u, x, y, rfl, ⟨t, rfl, ht⟩, ⟨t2, rfl, ht2⟩, q⟩ := h
  walk_at "sts"
  refine ix_t (by exact SqT.of ht) rfl ?_
  walk_at "sts"
  refine ix_t (by exact SqT.of ht2) rfl ?_
  walk_at "sts"
  refine ix_t (by exact SqT.of ht) rfl ?_
  walk_at "sts"
  refine ix_t (by exact SqT.of ht2) rfl ?_
  walk_at "sts"
  exact ⟨by show 2 ≤ sizeLine; decide, fun t3 H1 e1 _ h3 => q _ H1 e1 ⟨t3, rfl, h3⟩⟩
def spSpan (n : Nat) : Sp := fun vs H Q _ => ∃ v s y, vs = [v, .str y] ∧ SnV H v s ∧ okS s ∧ dep s ≤ n ∧ ∀ r H', Same H H' → Pr H' r (spanP s y) → Q r H'
theorem ok_spanS (n : Nat) (T : Top K mg "span" s_span) (mMin : mg "min" = none) (mMax : mg "max" = none) (FW : Fn P w K mg base 1 "span_of_word" spWordOf) (FI : Fn P w K mg base 1 "span_in" spSpanIn) (F : ∀ m, n = m + 1 → Fn P w K mg base (m + 2) "span" (spSpan m)) : Fn P w K mg base (n + 2) "span" (spSpan n) := by
  refine fn_ok T sc_span so_span (fun vs H Q E h => by obtain ⟨v, s, y, rfl, _⟩ := h; rfl) (fun _ _ _ _ _ _ us hl => match us, hl with | [_, _], _ => rfl) fun f cdv A outer s H vs Q E hr h nd => ?_
  obtain ⟨v, s, y, rfl, hv, ho, hd, q⟩ := h
  cases s with
  | word z =>
    obtain ⟨t, rfl, ht⟩ := hv
    walk_at "sts"
    refine ix_t (by exact SqT.of ht) rfl ?_
    walk_at "sts"
    refine e_call (by exact FW) (by exact hr) (by omega) ?_
    walk_at "sts"
    refine ix_t (by exact SqT.of ht) rfl ?_
    walk_at "sts"
    exact ⟨z, y, rfl, q⟩
  | menu l r =>
    obtain ⟨t, a, b, rfl, ht, ha, hb⟩ := hv
    obtain ⟨m, rfl⟩ : ∃ m, n = m + 1 := ⟨n - 1, by simp only [dep] at hd; omega⟩
    simp only [dep] at hd
    have F0 := F m rfl
    walk_at "sts"
    refine ix_t (by exact SqT.of ht) rfl ?_
    walk_at "sts"
    refine e_call (by exact F0) (by exact hr) (by omega) ?_
    walk_at "sts"
    refine ix_neg (by exact ht) rfl ?_
    walk_at "sts"
    refine ⟨a, l, y, rfl, ha, ho.1, by omega, fun r1 H1 e1 p1 => ?_⟩
    walk_at "sts"
    refine e_call (by exact F0) (by exact hr) (by omega) ?_
    walk_at "sts"
    refine ix_neg (by exact e1 _ _ ht) rfl ?_
    walk_at "sts"
    refine ⟨b, r, y, rfl, hb.ts (Same.ts e1), ho.2, by omega, fun r2 H2 e2 p2 => ?_⟩
    obtain ⟨t1, rfl, h1⟩ := p1.ts (Same.ts e2)
    obtain ⟨t2, rfl, h2⟩ := p2
    have ht2 := e2 _ _ (e1 _ _ ht)
    walk_at "sts"
    refine ix_t (by exact SqT.of ht2) rfl ?_
    walk_at "sts"
    refine ix_t (by exact SqT.of h1) rfl ?_
    walk_at "sts"
    refine ix_t (by exact SqT.of h2) rfl ?_
    refine a_nil (c_min rfl ?_)
    rw [minI]
    walk_at "sts"
    refine ix_t (by exact SqT.of h1) rfl ?_
    walk_at "sts"
    refine ix_t (by exact SqT.of h2) rfl ?_
    refine a_nil (c_max rfl ?_)
    rw [maxI]
    walk_at "sts"
    exact ⟨by show 2 ≤ sizeLine; decide, fun t3 H3 e3 _ h3 => q _ H3 ((e1.trans e2).trans e3) ⟨t3, rfl, h3⟩⟩
  | trade k p g =>
    obtain ⟨t, m0, a, b, rfl, ht, hm, ha, hb⟩ := hv
    obtain ⟨m, rfl⟩ : ∃ m, n = m + 1 := ⟨n - 1, by simp only [dep] at hd; omega⟩
    simp only [dep] at hd
    have F0 := F m rfl
    walk_at "sts"
    refine ix_t (by exact SqT.of ht) rfl ?_
    walk_at "sts"
    refine e_call (by exact F0) (by exact hr) (by omega) ?_
    walk_at "sts"
    refine ix_neg (by exact ht) rfl ?_
    walk_at "sts"
    refine ⟨a, p, y, rfl, ha, ho.2.1, by omega, fun r1 H1 e1 p1 => ?_⟩
    walk_at "sts"
    refine e_call (by exact F0) (by exact hr) (by omega) ?_
    walk_at "sts"
    refine ix_neg (by exact e1 _ _ ht) rfl ?_
    walk_at "sts"
    refine ⟨b, g, y, rfl, hb.ts (Same.ts e1), ho.2.2, by omega, fun r2 H2 e2 p2 => ?_⟩
    have ht2 := e2 _ _ (e1 _ _ ht)
    walk_at "sts"
    refine ix_t (by exact SqT.of ht2) rfl ?_
    walk_at "sts"
    refine s_tup2 ?_
    refine e_call (by exact FI) (by exact hr) (by omega) ?_
    walk_at "sts"
    refine ix_t (by exact SqT.of ht2) rfl ?_
    walk_at "sts"
    refine ⟨r1, m0, _, k, rfl, p1.ts (Same.ts e2), hm.ts (Same.ts (e1.trans e2)), ho.1, fun r3 H3 e3 p3 => ?_⟩
    obtain ⟨t3, rfl, h3⟩ := p3
    obtain ⟨t2, rfl, h2⟩ := p2.ts (Same.ts e3)
    refine ⟨t3, _, _, rfl, SqT.of h3, ?_⟩
    walk_at "sts"
    refine ix_t (by exact SqT.of h2) rfl ?_
    walk_at "sts"
    refine ix_t (by exact SqT.of h2) rfl ?_
    walk_at "sts"
    exact ⟨by show 2 ≤ sizeLine; decide, fun t4 H4 e4 _ h4 => q _ H4 (((e1.trans e2).trans e3).trans e4) ⟨t4, rfl, h4⟩⟩
theorem ok_span (T : Top K mg "span" s_span) (mMin : mg "min" = none) (mMax : mg "max" = none) (FW : Fn P w K mg base 1 "span_of_word" spWordOf) (FI : Fn P w K mg base 1 "span_in" spSpanIn) : ∀ n, Fn P w K mg base (n + 2) "span" (spSpan n)
  | 0 => ok_spanS 0 T mMin mMax FW FI fun m h => by cases h
  | n + 1 => ok_spanS (n + 1) T mMin mMax FW FI fun m h => by cases h; exact ok_span T mMin mMax FW FI n
end


section
variable {P : Program} {w : World} {K : PySem.W.Frag} {mg : Str → Option Value} {base : Heap}
def spBal (n : Nat) : Sp := fun vs H Q _ => ∃ v s y u x, vs = [v, .str y, u] ∧ SnV H v s ∧ okS s ∧ dep s ≤ n ∧ Pr H u x ∧ ∀ H', Same H H' → Q (.bl (bal s y x)) H'
theorem and_val {X : Cx} {e : Expr} {σ : L2.St} {H : Hp} {Q : VK} {x y : Bool} (h : Q (.bl (x && y)) H) (hb : Q (.bl y) H → wE X e σ H Q) : if x = true then wE X e σ H Q else Q (.bl false) H := by
  cases x with
  | true => exact iteT (hb h)
  | false => exact iteF h
theorem ok_balS (n : Nat) (T : Top K mg "is_balanced" s_is_balanced) (FW : Fn P w K mg base 1 "span_of_word" spWordOf) (FI : Fn P w K mg base 1 "span_in" spSpanIn) (FJ : Fn P w K mg base 1 "joined" spJoined) (FS : Fn P w K mg base (n + 2) "span" (spSpan n)) (F : ∀ m, n = m + 1 → Fn P w K mg base (m + 3) "is_balanced" (spBal m)) : Fn P w K mg base (n + 3) "is_balanced" (spBal n) := by
  refine fn_ok T sc_is_balanced so_is_balanced (fun vs H Q E h => by obtain ⟨v, s, y, u, x, rfl, _⟩ := h; rfl) (fun _ _ _ _ _ _ us hl => match us, hl with | [_, _, _], _ => rfl) fun f cdv A outer s H vs Q E hr h nd => ?_
  obtain ⟨v, s, y, u, x, rfl, hv, ho, hd, hu, q⟩ := h
  cases s with
  | word z =>
    obtain ⟨t, rfl, ht⟩ := hv
    obtain ⟨t2, rfl, ht2⟩ := hu
    walk_at "sts"
    refine ix_t (by exact SqT.of ht) rfl ?_
    walk_at "sts"
    refine s_tup2 ?_
    refine e_call (by exact FW) (by exact hr) (by omega) ?_
    walk_at "sts"
    refine ix_t (by exact SqT.of ht) rfl ?_
    walk_at "sts"
    refine ⟨z, y, rfl, fun r H1 e1 p1 => ?_⟩
    obtain ⟨t3, rfl, h3⟩ := p1
    refine ⟨t3, _, _, rfl, SqT.of h3, ?_⟩
    refine l_cons (s_ret (e_chain ?_))
    walk_at "sts"
    refine ix_t (by exact SqT.of (e1 _ _ ht2)) rfl ?_
    walk_at "sts"
    have qq := q H1 e1
    simp only [bal] at qq
    generalize hb1 : decide (x.1 ≤ (wordP z y).1) = b1 at qq ⊢
    cases b1 with
    | false => exact iteF qq
    | true =>
      refine iteT ?_
      walk_at "sts"
      refine ix_t (by exact SqT.of (e1 _ _ ht2)) rfl ?_
      exact o_le qq
  | menu l r =>
    obtain ⟨t, a, b, rfl, ht, ha, hb⟩ := hv
    obtain ⟨m, rfl⟩ : ∃ m, n = m + 1 := ⟨n - 1, by simp only [dep] at hd; omega⟩
    simp only [dep] at hd
    have F0 := F m rfl
    walk_at "sts"
    refine ix_t (by exact SqT.of ht) rfl ?_
    walk_at "sts"
    refine ix_t (by exact SqT.of ht) rfl ?_
    walk_at "sts"
    refine e_call (by exact F0) (by exact hr) (by omega) ?_
    walk_at "sts"
    refine ix_t (by exact SqT.of ht) rfl ?_
    walk_at "sts"
    refine ⟨a, l, y, u, x, rfl, ha, ho.1, by omega, hu, fun H1 e1 => ⟨_, rfl, ?_⟩⟩
    have last : ∀ H2, Same H H2 → ∀ (Q2 : VK), (∀ H3, Same H2 H3 → Q2 (.bl (bal r y x)) H3) → True := fun _ _ _ _ => trivial
    cases hb1 : bal l y x with
    | false =>
      refine iteF ?_
      have qq := q H1 e1
      simp only [bal, hb1, Bool.false_and] at qq
      exact qq
    | true =>
      refine iteT (e_one ?_)
      refine e_call (by exact F0) (by exact hr) (by omega) ?_
      walk_at "sts"
      refine ix_t (by exact SqT.of (e1 _ _ ht)) rfl ?_
      walk_at "sts"
      refine ⟨b, r, y, u, x, rfl, hb.ts (Same.ts e1), ho.2, by omega, hu.ts (Same.ts e1), fun H2 e2 => ?_⟩
      have qq := q H2 (e1.trans e2)
      simp only [bal, hb1, Bool.true_and] at qq
      exact qq
  | trade k p g =>
    obtain ⟨t, m0, a, b, rfl, ht, hm, ha, hb⟩ := hv
    obtain ⟨m, rfl⟩ : ∃ m, n = m + 1 := ⟨n - 1, by simp only [dep] at hd; omega⟩
    simp only [dep] at hd
    have F0 := F m rfl
    walk_at "sts"
    refine ix_t (by exact SqT.of ht) rfl ?_
    walk_at "sts"
    refine ix_t (by exact SqT.of ht) rfl ?_
    walk_at "sts"
    refine e_call (by exact F0) (by exact hr) (by omega) ?_
    walk_at "sts"
    refine ix_t (by exact SqT.of ht) rfl ?_
    walk_at "sts"
    refine e_call (by exact FJ) (by exact hr) (by omega) ?_
    walk_at "sts"
    refine e_call (by exact FI) (by exact hr) (by omega) ?_
    refine a_cons ?_
    refine e_call (by exact FS) (by exact hr) (by omega) ?_
    walk_at "sts"
    refine ix_t (by exact SqT.of ht) rfl ?_
    walk_at "sts"
    refine ⟨a, p, y, rfl, ha, ho.2.1, by omega, fun r1 H1 e1 p1 => ?_⟩
    walk_at "sts"
    refine ix_t (by exact SqT.of (e1 _ _ ht)) rfl ?_
    walk_at "sts"
    refine ⟨r1, m0, _, k, rfl, p1, hm.ts (Same.ts e1), ho.1, fun r2 H2 e2 p2 => ?_⟩
    walk_at "sts"
    refine ⟨u, r2, _, _, rfl, hu.ts (Same.ts (e1.trans e2)), p2, fun r3 H3 e3 p3 => ?_⟩
    have e13 := (e1.trans e2).trans e3
    walk_at "sts"
    exact ⟨b, g, y, r3, _, rfl, hb.ts (Same.ts e13), ho.2.2, by omega, p3, fun H4 e4 => q H4 (e13.trans e4)⟩
theorem ok_bal (T : Top K mg "is_balanced" s_is_balanced) (FW : Fn P w K mg base 1 "span_of_word" spWordOf) (FI : Fn P w K mg base 1 "span_in" spSpanIn) (FJ : Fn P w K mg base 1 "joined" spJoined) (FS : ∀ n, Fn P w K mg base (n + 2) "span" (spSpan n)) : ∀ n, Fn P w K mg base (n + 3) "is_balanced" (spBal n)
  | 0 => ok_balS 0 T FW FI FJ (FS 0) fun m h => by cases h
  | n + 1 => ok_balS (n + 1) T FW FI FJ (FS (n + 1)) fun m h => by cases h; exact ok_bal T FW FI FJ FS n
end


/-! ### a dict of pairs of numbers -/
theorem any_key (kvs : List (Key × V)) (k : Key) : (kvs.any fun kv => decide (kv.1 = k)) = true ↔ k ∈ kvs.map (·.1) := by
  rw [List.any_eq_true, List.mem_map]
  exact ⟨fun ⟨x, h1, h2⟩ => ⟨x, h1, of_decide_eq_true h2⟩, fun ⟨x, h1, h2⟩ => ⟨x, h1, decide_eq_true h2⟩⟩
theorem keys_old {kvs : List (Key × V)} {k : Key} (v : V) (h : k ∈ kvs.map (·.1)) : (putK kvs k v).map (·.1) = kvs.map (·.1) := by
  unfold putK
  rw [if_pos ((any_key kvs k).mpr h), List.map_map]
  apply List.map_congr_left
  intro x _
  show (if x.1 = k then (x.1, v) else x).1 = x.1
  split <;> rfl
theorem keys_new {kvs : List (Key × V)} {k : Key} (v : V) (h : k ∉ kvs.map (·.1)) : (putK kvs k v).map (·.1) = kvs.map (·.1) ++ [k] := by
  unfold putK
  rw [if_neg (fun q => h ((any_key kvs k).mp q))]
  simp
def kN (l : List Str) : List Key := l.map Sum.inr
theorem kN_mem {l : List Str} {z : Str} : (Sum.inr z : Key) ∈ kN l ↔ z ∈ l := by
  simp [kN]
theorem keys_put {kvs : List (Key × V)} {l : List Str} (z : Str) (v : V) (h : kvs.map (·.1) = kN l) : (putK kvs (Sum.inr z) v).map (·.1) = kN (addU l z) := by
  unfold addU
  by_cases m : z ∈ l
  · rw [if_pos m, keys_old v (by rw [h]; exact kN_mem.mpr m), h]
  · rw [if_neg m, keys_new v (by rw [h]; exact fun q => m (kN_mem.mp q)), h]
    simp [kN]
theorem val_none {kvs : List (Key × V)} {k : Key} (h : k ∉ kvs.map (·.1)) : valV kvs k = none := by
  have e := valV_any k kvs
  cases q : valV kvs k with
  | none => rfl
  | some v =>
    rw [q] at e
    obtain ⟨x, h1, h2⟩ := List.any_eq_true.mp e
    exact absurd (List.mem_map.mpr ⟨x, h1, of_decide_eq_true h2⟩) h
theorem val_some {kvs : List (Key × V)} {k : Key} (h : k ∈ kvs.map (·.1)) : ∃ v, valV kvs k = some v := by
  have e := valV_any k kvs
  cases q : valV kvs k with
  | some v => exact ⟨v, rfl⟩
  | none =>
    rw [q] at e
    obtain ⟨x, h1, h2⟩ := List.mem_map.mp h
    have : (kvs.any fun kv => decide (kv.1 = k)) = true := List.any_eq_true.mpr ⟨x, h1, decide_eq_true h2⟩
    rw [this] at e
    cases e
/-- the dict kvs has just the names dom, and under each the pair f tells; beside them f tells nothing -/
structure DcOk (H : Hp) (kvs : List (Key × V)) (dom : List Str) (f : Str → Int × Int) : Prop where
  ks : kvs.map (·.1) = kN dom
  nd : dom.Nodup
  v : ∀ z ∈ dom, ∃ u, valV kvs (Sum.inr z) = some u ∧ Pr H u (f z)
  z : ∀ z, z ∉ dom → f z = (0, 0)
theorem DcOk.ts {H H' : Hp} {kvs : List (Key × V)} {dom : List Str} {f : Str → Int × Int} (e : TS H H') (h : DcOk H kvs dom f) : DcOk H' kvs dom f :=
  ⟨h.ks, h.nd, fun z hz => let ⟨u, h1, h2⟩ := h.v z hz; ⟨u, h1, h2.ts e⟩, h.z⟩
theorem nodup_addU {l : List Str} {z : Str} (h : l.Nodup) : (addU l z).Nodup := by
  unfold addU
  by_cases m : z ∈ l
  · rw [if_pos m]; exact h
  · rw [if_neg m]
    exact List.nodup_append.mpr ⟨h, by simp, fun x hx y hy e => by rw [List.mem_singleton] at hy; subst hy; subst e; exact m hx⟩
theorem mem_addU {l : List Str} {z y : Str} : y ∈ addU l z ↔ y ∈ l ∨ y = z := by
  unfold addU
  by_cases m : z ∈ l
  · rw [if_pos m]
    exact ⟨.inl, fun q => q.elim id fun e => e ▸ m⟩
  · rw [if_neg m, List.mem_append, List.mem_singleton]
theorem DcOk.put {H : Hp} {kvs : List (Key × V)} {dom : List Str} {f : Str → Int × Int} {z : Str} {u : V} {x : Int × Int} (h : DcOk H kvs dom f) (hu : Pr H u x) : DcOk H (putK kvs (Sum.inr z) u) (addU dom z) (fun y => if y = z then x else f y) := by
  refine ⟨keys_put z u h.ks, nodup_addU h.nd, fun y hy => ?_, fun y hy => ?_⟩
  · rw [valV_put]
    by_cases e : y = z
    · rw [if_pos (by rw [e]), if_pos e]
      exact ⟨u, rfl, hu⟩
    · rw [if_neg (by intro q; exact e (Sum.inr.inj q)), if_neg e]
      rcases mem_addU.mp hy with hy | hy
      · exact h.v y hy
      · exact absurd hy e
  · have n : y ∉ dom ∧ y ≠ z := ⟨fun q => hy (mem_addU.mpr (.inl q)), fun q => hy (mem_addU.mpr (.inr q))⟩
    show (if y = z then x else f y) = (0, 0)
    rw [if_neg n.2]
    exact h.z y n.1
theorem DcOk.congr {H : Hp} {kvs : List (Key × V)} {dom : List Str} {f f' : Str → Int × Int} (h : DcOk H kvs dom f) (e : ∀ z, f' z = f z) : DcOk H kvs dom f' := by
  rw [show f' = f from funext e]
  exact h
theorem DcOk.len {H : Hp} {kvs : List (Key × V)} {dom : List Str} {f : Str → Int × Int} (h : DcOk H kvs dom f) : kvs.length = dom.length := by
  have := congrArg List.length h.ks
  simpa [kN] using this
theorem fold_mem : ∀ (ns l : List Str) (y : Str), y ∈ ns.foldl addU l ↔ y ∈ l ∨ y ∈ ns
  | [], l, y => by simp
  | z :: ns, l, y => by
    rw [List.foldl_cons, fold_mem ns (addU l z) y, mem_addU, List.mem_cons]
    constructor
    · rintro ((h | h) | h)
      · exact .inl h
      · exact .inr (.inl h)
      · exact .inr (.inr h)
    · rintro (h | h | h)
      · exact .inl (.inl h)
      · exact .inl (.inr h)
      · exact .inr h
theorem fold_nd : ∀ (ns l : List Str), l.Nodup → (ns.foldl addU l).Nodup
  | [], l, h => h
  | z :: ns, l, h => by rw [List.foldl_cons]; exact fold_nd ns _ (nodup_addU h)
theorem uniq_mem (ns : List Str) (y : Str) : y ∈ uniq ns ↔ y ∈ ns := by
  unfold uniq
  rw [fold_mem]
  simp
theorem uniq_nd (ns : List Str) : (uniq ns).Nodup := fold_nd ns [] List.nodup_nil
theorem uniq_le (ns : List Str) : (uniq ns).length ≤ ns.length := by
  have := uniq_len ns []
  simpa [uniq] using this
/-! ### what is given -/
def gv (x : Pk × Sn) (y : Str) : Int × Int := inK x.1 (spanP x.2 y)
theorem inK_0 (k : Pk) : inK k (0, 0) = (0, 0) := by
  cases k with
  | none => rfl
  | some u => simp [inK]
theorem span_0 {y : Str} : ∀ {s : Sn}, y ∉ nms s → spanP s y = (0, 0)
  | .word z, h => by
    have n : z ≠ y := fun e => h (by simp [nms, e])
    simp [spanP, wordP, n]
  | .menu l r, h => by
    simp only [nms, List.mem_append, not_or] at h
    simp [spanP, span_0 h.1, span_0 h.2]
  | .trade k p g, h => by
    simp only [nms, List.mem_append, not_or] at h
    simp [spanP, span_0 h.1, span_0 h.2, inK_0]
theorem gv_0 {x : Pk × Sn} {y : Str} (h : y ∉ nms x.2) : gv x y = (0, 0) := by unfold gv; rw [span_0 h, inK_0]
def totL (hl : List (Pk × Sn)) (y : Str) : Int × Int := hl.foldl (fun acc x => addP acc (gv x y)) (0, 0)
theorem totL_snoc (hl : List (Pk × Sn)) (x : Pk × Sn) (y : Str) : totL (hl ++ [x]) y = addP (totL hl y) (gv x y) := by
  unfold totL
  rw [List.foldl_append]
  rfl
theorem addP_0 (x : Int × Int) : addP x (0, 0) = x := by simp [addP]
/-- the words of a claim -/
def nmsC (g : Sn) (hl : List (Pk × Sn)) : List Str := nms g ++ (hl.map fun x => nms x.2).flatten
theorem nmsC_snoc (g : Sn) (hl : List (Pk × Sn)) (x : Pk × Sn) : nmsC g (hl ++ [x]) = nmsC g hl ++ nms x.2 := by simp [nmsC]
theorem take_snoc {α : Type} {l : List α} {k : Nat} {x : α} (h : l[k]? = some x) : l.take (k + 1) = l.take k ++ [x] := by rw [List.take_add_one, h]; rfl
def dcSc : Expr → Scope
  | .DictComp _ _ _ sc _ => sc
  | _ => { kind := .function, names := [], isGenerator := false, isCoroutine := false }
def argE : Expr → Expr
  | .Call _ (a :: _) _ _ => a
  | _ => .Name "" ⟨0, 0, 0, 0⟩
theorem bk_doubts1 : BkOk N_doubts [(3, "name")] [] 3 "name" (defScope s_doubts) (dcSc (valE ((defBody s_doubts).getD 1 (.Pass ⟨0, 0, 0, 0⟩)))) := ⟨by decide +kernel, by decide +kernel, by decide +kernel, by decide +kernel⟩
theorem bk_doubts3 : BkOk N_doubts [(2, "goal"), (3, "name"), (4, "given")] ["is_balanced"] 3 "name" (defScope s_doubts) (lcSc (argE (valE ((defBody s_doubts).getD 3 (.Pass ⟨0, 0, 0, 0⟩))))) := ⟨by decide +kernel, by decide +kernel, by decide +kernel, by decide +kernel⟩
section
variable {P : Program} {w : World} {K : PySem.W.Frag} {mg : Str → Option Value} {base : Heap}
def spWordsIn : Sp := fun vs H Q _ => ∃ v s, vs = [v] ∧ SnV H v s ∧ rws s ≤ 100000 ∧ ∀ l H', Same H H' → H l = none → H' l = some (.lst (sVs (uniq (nms s)))) → Q (.ref l) H'
def spDoubts : Sp := fun vs H Q _ => ∃ c hl g, vs = [.ref c] ∧ ClAt H c hl g ∧ ClOk hl g ∧ ∀ l ys H', Same H H' → H l = none → H' l = some (.lst (sVs ys)) → sortedS ys = true → ys.Nodup → (∀ z, z ∈ ys ↔ z ∈ nmsC g hl ∧ bal g z (totL hl z) = false) → Q (.ref l) H'
theorem ok_doubts (T : Top K mg "doubts" s_doubts) (mSo : mg "sorted" = none) (FWI : Fn P w K mg base 2 "words_in" spWordsIn) (FI : Fn P w K mg base 1 "span_in" spSpanIn) (FJ : Fn P w K mg base 1 "joined" spJoined) (FS : Fn P w K mg base 5 "span" (spSpan 3)) (FB : Fn P w K mg base 6 "is_balanced" (spBal 3)) : Fn P w K mg base 7 "doubts" spDoubts := by
  refine fn_ok T sc_doubts so_doubts (fun vs H Q E h => by obtain ⟨c, hl, g, rfl, _⟩ := h; rfl) (fun _ _ _ _ _ _ us hl => match us, hl with | [_], _ => rfl) fun f cdv A outer s H vs Q E hr h nd => ?_
  obtain ⟨c, hl, g, rfl, hc, hk, q⟩ := h
  obtain ⟨t, hvs, gv', h1, h2, h3, h4⟩ := hc.ex
  refine l_cons (s_tup2 (e_var ⟨c, _, _, rfl, SqT.of h1, ?_⟩))
  refine l_cons (s_set (e_dcL (by exact bk_doubts1) ?_))
  refine e_call (by exact FWI) (by exact hr) (by decide) ?_
  walk_at "sts"
  have hrg := hk.rw
  refine ⟨gv', g, rfl, h4, by omega, fun l1 H1 e1 n1 hl1 => ?_⟩
  refine ⟨l1, _, rfl, SqL.of hl1, fun d nd1 => ?_⟩
  have hdl : d ≠ l1 := fun e => by subst e; rw [hl1] at nd1; cases nd1
  have nd0 : H d = none := none_of e1 nd1
  refine ⟨fun k H' => ∃ kvs, H' d = some (.dK kvs) ∧ (∀ b o, b ≠ d → H1 b = some o → H' b = some o) ∧ DcOk H' kvs ((uniq (nms g)).take k) (fun _ => (0, 0)), ⟨[], upd_same, fun b o nb e => by rw [upd_ne nb]; exact e, ⟨rfl, by simp, fun z hz => by simp at hz, fun _ _ => rfl⟩⟩, fun k H' _ hW => ?_, fun k x H' hkx hW s0 H0 C cl fp IB => ?_, fun H2 hW => ?_⟩
  · obtain ⟨kvs, h5, h6, h7⟩ := hW
    exact SqL.of (h6 l1 _ hdl.symm hl1)
  · obtain ⟨kvs, h5, h6, h7⟩ := hW
    obtain ⟨z, hz, rfl⟩ := sVs_get hkx
    refine b_var fun s0 H0 C cl fp IB => ?_
    walk_at "sts"
    refine ⟨by show 2 ≤ sizeLine; decide, fun t2 H3 e3 n3 h8 => ?_⟩
    have hlen := h7.len
    have hle := uniq_le (nms g)
    have hnr := nms_rws g
    rw [List.length_take] at hlen
    refine ⟨kvs, Sum.inr z, rfl, e3 _ _ h5, Nat.lt_of_lt_of_le (show kvs.length < 20 by omega) (by decide), _, upd_same, fun b o nb e => by rw [upd_ne nb]; exact e3 _ _ (h6 b o nb e), ?_⟩
    have tsx : TS H3 (upd H3 d (.dK (putK kvs (Sum.inr z) (.ref t2)))) := fun a xs e => by rw [upd_ne (fun y => by subst y; rw [e3 _ _ h5] at e; cases e)]; exact e
    have hp := ((h7.ts (Same.ts e3)).put (z := z) (u := .ref t2) (x := (0, 0)) ⟨t2, rfl, h8⟩).ts tsx
    rw [take_snoc hz]
    have nz : z ∉ (uniq (nms g)).take k := by
      have nd := uniq_nd (nms g)
      rw [← List.take_append_drop (k + 1) (uniq (nms g)), take_snoc hz] at nd
      have nd2 := (List.nodup_append.mp nd).1
      obtain ⟨_, _, h9⟩ := List.nodup_append.mp nd2
      exact fun m => h9 z m z (by simp) rfl
    rw [show addU ((uniq (nms g)).take k) z = (uniq (nms g)).take k ++ [z] from if_neg nz] at hp
    exact hp.congr fun y => by split <;> rfl
  obtain ⟨kvs0, hd2, hk2, hD2⟩ := hW
  rw [show (sVs (uniq (nms g))).length = (uniq (nms g)).length by simp [sVs], List.take_length] at hD2
  have b02 : ∀ b o, H b = some o → H2 b = some o := fun b o e => hk2 b o (fun z => by subst z; rw [nd0] at e; cases e) (e1 b o e)
  have hs0 : Same H H2 := b02
  refine l_cons (s_forT3 ?_)
  refine e_var ⟨t, hvs, rfl, SqT.of (hs0 _ _ h2), fun j σ H' => ∃ y3 y5 y6 y7 kvs dom, σ = [some (V.ref c), some (.ref t), some gv', y3, some (.ref d), y5, y6, y7] ∧ H' d = some (.dK kvs) ∧ Same H H' ∧ DcOk H' kvs dom (totL (hl.take j)) ∧ (∀ z, z ∈ dom ↔ z ∈ nmsC g (hl.take j)) ∧ dom.length ≤ 16 + 8 * j,
    ⟨_, _, _, _, kvs0, _, rfl, hd2, hs0, hD2, fun z => by rw [uniq_mem]; simp [nmsC], by have := uniq_le (nms g); have := nms_rws g; omega⟩, fun j σ H' _ hW => ?_, fun j u σ H' hu hW => ?_, fun σ H' hW => ?_⟩
  · obtain ⟨y3, y5, y6, y7, kvs, dom, rfl, _, h6, _⟩ := hW
    exact SqT.of (h6 _ _ h2)
  · obtain ⟨y3, y5, y6, y7, kvs, dom, rfl, h5, h6, h7, h8, h9⟩ := hW
    obtain ⟨x, hx, t3, nm, m, av, rfl, g1, g2, g3⟩ := h3.get hu
    obtain ⟨ok1, ok2, ok3, ok4⟩ := hk.all x (List.mem_of_getElem? hx)
    have hj : j < hl.length := (List.getElem?_eq_some_iff.mp hx).1
    have hj5 := hk.len
    refine ⟨t3, nm, m, av, rfl, SqT.of (h6 _ _ g1), ?_⟩
    refine l_cons (s_forL ?_)
    refine e_call (by exact FWI) (by exact hr) (by decide) ?_
    walk_at "sts"
    refine ⟨av, x.2, rfl, g3.ts (Same.ts h6), by omega, fun l3 H4 e4 n4 hl4 => ?_⟩
    have hd4 := e4 _ _ h5
    have dl3 : d ≠ l3 := fun e => by subst e; rw [h5] at n4; cases n4
    refine ⟨l3, _, rfl, SqL.of hl4, fun i σ H5 => ∃ y3 kvs dom2, σ = [some (V.ref c), some (.ref t), some gv', y3, some (.ref d), some nm, some m, some av] ∧ H5 d = some (.dK kvs) ∧ Same H H5 ∧ H5 l3 = some (.lst (sVs (uniq (nms x.2)))) ∧ DcOk H5 kvs dom2 (fun y => if y ∈ (uniq (nms x.2)).take i then addP (totL (hl.take j) y) (gv x y) else totL (hl.take j) y) ∧ (∀ z, z ∈ dom2 ↔ z ∈ dom ∨ z ∈ (uniq (nms x.2)).take i) ∧ dom2.length ≤ dom.length + i,
      ⟨_, kvs, dom, rfl, hd4, h6.trans e4, hl4, (h7.ts (Same.ts e4)).congr fun y => by simp, fun z => by simp, by omega⟩, fun i σ H5 _ hW => ?_, fun i v σ H5 hv hW => ?_, fun σ H5 hW => ?_⟩
    · obtain ⟨y3, kvs, dom2, rfl, _, _, k3, _⟩ := hW
      exact SqL.of k3
    · obtain ⟨y3, kvs5, dom2, rfl, k1, k2, k3, k4, k5, k6⟩ := hW
      obtain ⟨z, hz, rfl⟩ := sVs_get hv
      have hi : i < (uniq (nms x.2)).length := (List.getElem?_eq_some_iff.mp hz).1
      have hle := uniq_le (nms x.2)
      have hnr := nms_rws x.2
      have nz : z ∉ (uniq (nms x.2)).take i := by
        have nd := uniq_nd (nms x.2)
        rw [← List.take_append_drop (i + 1) (uniq (nms x.2)), take_snoc hz] at nd
        have nd2 := (List.nodup_append.mp nd).1
        obtain ⟨_, _, q9⟩ := List.nodup_append.mp nd2
        exact fun mm => q9 z mm z (by simp) rfl
      refine l_cons (s_dput (show (A.deeper (envOfC _ _ _ f cdv)).units + 1 < cLine from by have := hr.un; omega) ?_)
      refine e_call (by exact FJ) (by exact hr) (by decide) (a_cons (e_dget2 (by exact hr) (e_var ⟨d, rfl, .inl ⟨kvs5, .inl k1⟩, e_var (e_tup ?_)⟩)))
      walk_at "sts"
      refine ⟨by show 2 ≤ sizeLine; decide, fun t6 H6 e6 n6 h66 => ⟨_, DGet.k (k := (Sum.inr z : Key)) (e6 _ _ k1), ?_⟩⟩
      have hold : Pr H6 ((valV kvs5 (Sum.inr z)).getD (.ref t6)) (totL (hl.take j) z) := by
        by_cases m2 : z ∈ dom2
        · obtain ⟨v2, w1, w2⟩ := k4.v z m2
          simp only [if_neg nz] at w2
          rw [w1]
          exact w2.ts (Same.ts e6)
        · have w1 := val_none (kvs := kvs5) (k := Sum.inr z) (by rw [k4.ks]; exact fun mm => m2 (kN_mem.mp mm))
          have w2 := k4.z z m2
          simp only [if_neg nz] at w2
          rw [w1, w2]
          exact ⟨t6, rfl, h66⟩
      refine a_cons (e_call (by exact FI) (by exact hr) (by decide) (a_cons ?_))
      refine e_call (by exact FS) (by exact hr) (by decide) ?_
      walk_at "sts"
      refine ⟨av, x.2, z, rfl, g3.ts (Same.ts (k2.trans e6)), ok2, by omega, fun r7 H7 e7 p7 => ?_⟩
      walk_at "sts"
      refine ⟨r7, m, _, x.1, rfl, p7, g2.ts (Same.ts ((k2.trans e6).trans e7)), ok1, fun r8 H8 e8 p8 => ?_⟩
      walk_at "sts"
      refine ⟨_, r8, _, _, rfl, hold.ts (Same.ts (e7.trans e8)), p8, fun r9 H9 e9 p9 => ?_⟩
      have e59 : Same H5 H9 := ((e6.trans e7).trans e8).trans e9
      have hd9 := e59 _ _ k1
      walk_at "sts"
      refine ⟨d, _, rfl, DPut.k (k := (Sum.inr z : Key)) hd9 (by rw [k4.len]; exact Nat.lt_of_lt_of_le (show dom2.length < 100 by omega) (by decide)), ?_⟩
      have tsx : TS H9 (upd H9 d (.dK (putK kvs5 (Sum.inr z) r9))) := fun a xs e => by rw [upd_ne (fun y => by subst y; rw [hd9] at e; cases e)]; exact e
      have hp := ((k4.ts (Same.ts e59)).put (z := z) p9).ts tsx
      refine l_nil ⟨_, _, addU dom2 z, rfl, upd_same, updS (k2.trans e59) nd0, by rw [upd_ne dl3.symm]; exact e59 _ _ k3, hp.congr fun y => ?_, fun y => ?_, by have := addU_len dom2 z; omega⟩
      · rw [take_snoc hz]
        by_cases ey : y = z
        · rw [if_pos (by rw [ey]; simp), if_pos ey, ey]
          rfl
        · rw [if_neg ey]
          by_cases my : y ∈ (uniq (nms x.2)).take i
          · rw [if_pos (List.mem_append.mpr (.inl my)), if_pos my]
          · rw [if_neg (fun mm => by rcases List.mem_append.mp mm with mm | mm; exact my mm; exact ey (List.mem_singleton.mp mm)), if_neg my]
      · rw [mem_addU, k5, take_snoc hz, List.mem_append, List.mem_singleton, or_assoc]
    · obtain ⟨y3, kvs5, dom2, rfl, k1, k2, k3, k4, k5, k6⟩ := hW
      rw [show (sVs (uniq (nms x.2))).length = (uniq (nms x.2)).length by simp [sVs]] at k4 k5 k6
      rw [List.take_length] at k4 k5
      have hle := uniq_le (nms x.2)
      have hnr := nms_rws x.2
      refine l_nil ⟨_, _, _, _, kvs5, dom2, rfl, k1, k2, k4.congr fun y => ?_, fun z => ?_, by omega⟩
      · rw [take_snoc hx, totL_snoc]
        by_cases my : y ∈ uniq (nms x.2)
        · rw [if_pos my]
        · rw [if_neg my, gv_0 (fun mm => my ((uniq_mem _ _).mpr mm)), addP_0]
      · rw [k5, h8, take_snoc hx, nmsC_snoc, List.mem_append, uniq_mem]
  · obtain ⟨y3, y5, y6, y7, kvs, dom, rfl, h5, h6, h7, h8, h9⟩ := hW
    rw [h3.len] at h7 h8 h9
    rw [List.take_length] at h7 h8
    have hj5 := hk.len
    have tsf : ∀ o, TS H' (upd H' d (.frz o (.dK kvs))) := fun o a xs e => by rw [upd_ne (fun y => by subst y; rw [h5] at e; cases e)]; exact e
    refine l_cons (s_ret (e_callB (x := "sorted") (by assumption) b_sorted (a_cons (e_lcDf (ad := d) (kvs := kvs) (by exact bk_doubts3) h5 fun o => ?_))))
    refine e_var ⟨rfl, upd_same, fun D nD => ?_⟩
    have hfd : (upd H' d (.frz o (.dK kvs))) d = some (.frz o (.dK kvs)) := upd_same
    have hdD : d ≠ D := fun e => by subst e; rw [hfd] at nD; cases nD
    have s6 : ∀ b u, H b = some u → (upd H' d (.frz o (.dK kvs))) b = some u := fun b u e => by rw [upd_ne (fun y => by subst y; rw [nd0] at e; cases e)]; exact h6 b u e
    have h7f := h7.ts (tsf o)
    generalize hHf : upd H' d (.frz o (.dK kvs)) = Hf at nD hfd s6 h7f ⊢
    refine ⟨fun i H2 => H2 d = some (.frz o (.dK kvs)) ∧ (∀ b u, b ≠ D → Hf b = some u → H2 b = some u) ∧ H2 D = some (.lst (sVs ((dom.take i).filter fun z => !bal g z (totL hl z)))), ⟨by rw [upd_ne hdD]; exact hfd, fun b u nb e => by rw [upd_ne nb]; exact e, by rw [upd_same]; rfl⟩, fun i H2 _ hW => hW.1, fun i y v H2 hiv hW => ?_, fun H2 hW => ?_⟩
    · obtain ⟨k1, k2, k3⟩ := hW
      have hky : (kvs.map (·.1))[i]? = some y := by rw [List.getElem?_map, hiv]; rfl
      rw [h7.ks] at hky
      obtain ⟨z, hz, rfl⟩ : ∃ z, dom[i]? = some z ∧ y = Sum.inr z := by
        simp only [kN, List.getElem?_map] at hky
        cases hz : dom[i]? with
        | none => rw [hz] at hky; cases hky
        | some z => rw [hz] at hky; cases hky; exact ⟨z, rfl, rfl⟩
      have ts2 : TS Hf H2 := fun a xs e => k2 a _ (fun y => by subst y; rw [nD] at e; cases e) e
      obtain ⟨u, w1, w2⟩ := h7f.v z (List.mem_of_getElem? hz)
      have hg2 : SnV H2 gv' g := h4.ts fun a xs e => k2 a _ (fun y => by subst y; have := s6 _ _ e; rw [nD] at this; cases this) (s6 _ _ e)
      intro s0 H0 C cl fp IB
      refine t_not (t_val (b_call (by exact FB) (by exact hr) (by decide) ?_))
      refine a_cons (b_var (a_cons (b_var (a_cons (e_dg (by exact hr) ?_)))))
      refine b_var (b_var ⟨d, u, rfl, dg_f k1 w1, a_nil ?_⟩)
      refine ⟨gv', g, z, u, totL hl z, rfl, hg2, hk.gk, hk.dp, w2.ts ts2, fun H3 e3 => ⟨_, rfl, ?_⟩⟩
      have hlen : ((dom.take i).filter fun z => !bal g z (totL hl z)).length ≤ dom.length := Nat.le_trans (List.length_filter_le _ _) (by rw [List.length_take]; exact Nat.min_le_right _ _)
      cases hb : bal g z (totL hl z) with
      | false =>
        refine iteT ?_
        intro s0 H0 C cl fp IB
        refine b_var ⟨_, e3 _ _ k3, by simp only [sVs, List.length_map]; exact Nat.lt_of_lt_of_le (show _ < 100 by omega) (by decide), by rw [upd_ne hdD]; exact e3 _ _ k1, fun b u nb e => by rw [upd_ne nb]; exact e3 _ _ (k2 b u nb e), ?_⟩
        rw [upd_same, take_snoc hz, List.filter_append]
        simp [sVs, hb, kV]
      | true =>
        refine iteF ⟨e3 _ _ k1, fun b u nb e => e3 _ _ (k2 b u nb e), ?_⟩
        rw [take_snoc hz, List.filter_append]
        simp only [List.filter_cons, hb, List.filter_nil, Bool.not_true, Bool.false_eq_true, if_false, List.append_nil]
        exact e3 _ _ k3
    · obtain ⟨k1, k2, k3⟩ := hW
      rw [h7.len, List.take_length] at k3
      have s8 : Same H (upd H2 d (.dK kvs)) := fun b u e => by
        rw [upd_ne (fun y => by subst y; rw [nd0] at e; cases e)]
        exact k2 b u (fun y => by subst y; have := s6 _ _ e; rw [nD] at this; cases this) (s6 _ _ e)
      have k4 : (upd H2 d (.dK kvs)) D = some (.lst (sVs (dom.filter fun z => !bal g z (totL hl z)))) := by rw [upd_ne hdD.symm]; exact k3
      have hlen : (dom.filter fun z => !bal g z (totL hl z)).length ≤ dom.length := List.length_filter_le _ _
      refine ⟨k1, a_nil (c_sortedL (by exact SqL.of k4) (by omega) fun ys l5 H5 pm hs e5 n5 hl5 => ?_)⟩
      refine q l5 ys H5 (s8.trans e5) (none_of s8 n5) hl5 hs (pm.nodup_iff.mpr (h7.nd.filter _)) fun z => ?_
      rw [pm.mem_iff, List.mem_filter, h8]
      simp
end


/-! ### the law's legs and words -/
def PrV (H : Hp) (v : V) (x : Pk × Sn) : Prop := ∃ t m a, v = .ref t ∧ H t = some (.tup [m, a]) ∧ ModeV H m x.1 ∧ SnV H a x.2
theorem PrV.ts {H H' : Hp} {v : V} {x : Pk × Sn} (e : TS H H') : PrV H v x → PrV H' v x := fun ⟨t, m, a, h1, h2, h3, h4⟩ => ⟨t, m, a, h1, e _ _ h2, h3.ts e, h4.ts e⟩
def PrsV (H : Hp) : List V → List (Pk × Sn) → Prop
  | [], [] => True
  | v :: vs, x :: xs => PrV H v x ∧ PrsV H vs xs
  | _, _ => False
theorem PrsV.ts {H H' : Hp} (e : TS H H') : ∀ {vs : List V} {xs : List (Pk × Sn)}, PrsV H vs xs → PrsV H' vs xs
  | [], [], _ => trivial
  | _ :: _, _ :: _, ⟨a, r⟩ => ⟨a.ts e, r.ts e⟩
theorem PrsV.len {H : Hp} : ∀ {vs : List V} {xs : List (Pk × Sn)}, PrsV H vs xs → vs.length = xs.length
  | [], [], _ => rfl
  | _ :: _, _ :: _, ⟨_, r⟩ => by simp [r.len]
theorem PrsV.cat {H : Hp} : ∀ {vs : List V} {xs : List (Pk × Sn)} {us : List V} {ys : List (Pk × Sn)}, PrsV H vs xs → PrsV H us ys → PrsV H (vs ++ us) (xs ++ ys)
  | [], [], _, _, _, h => h
  | _ :: _, _ :: _, _, _, ⟨a, r⟩, h => ⟨a, r.cat h⟩
/-- a leg, its prices in a list other than D -/
def LgA (H : Hp) (D : Addr) (v : V) (x : Leg) : Prop := ∃ t p xs, v = .ref t ∧ H t = some (.tup [.ref p, .str x.2]) ∧ H p = some (.lst xs) ∧ PrsV H xs x.1 ∧ p ≠ D
def LgV (H : Hp) (v : V) (x : Leg) : Prop := ∃ t p xs, v = .ref t ∧ H t = some (.tup [.ref p, .str x.2]) ∧ H p = some (.lst xs) ∧ PrsV H xs x.1
theorem LgV.up {H H' : Hp} {v : V} {x : Leg} (s : Same H H') : LgV H v x → LgV H' v x := fun ⟨t, p, xs, h1, h2, h3, h4⟩ => ⟨t, p, xs, h1, s _ _ h2, s _ _ h3, h4.ts (Same.ts s)⟩
theorem LgA.v {H : Hp} {D : Addr} {v : V} {x : Leg} : LgA H D v x → LgV H v x := fun ⟨t, p, xs, h1, h2, h3, h4, _⟩ => ⟨t, p, xs, h1, h2, h3, h4⟩
theorem LgA.upd {H H' : Hp} {D : Addr} {v : V} {x : Leg} {l : List V} {o : HO} (s : Same H H') (hD : H' D = some (.lst l)) : LgA H D v x → LgA (L2.upd H' D o) D v x := fun ⟨t, p, xs, h1, h2, h3, h4, h5⟩ =>
  ⟨t, p, xs, h1, TS.upd hD _ _ (s _ _ h2), by rw [upd_ne h5]; exact s _ _ h3, h4.ts ((Same.ts s).trans (TS.upd hD)), h5⟩
def AllR {α : Type} (R : V → α → Prop) : List V → List α → Prop
  | [], [] => True
  | v :: vs, x :: xs => R v x ∧ AllR R vs xs
  | _, _ => False
theorem AllR.mono {α : Type} {R R' : V → α → Prop} (h : ∀ v x, R v x → R' v x) : ∀ {vs : List V} {xs : List α}, AllR R vs xs → AllR R' vs xs
  | [], [], _ => trivial
  | _ :: _, _ :: _, ⟨a, r⟩ => ⟨h _ _ a, r.mono h⟩
theorem AllR.len {α : Type} {R : V → α → Prop} : ∀ {vs : List V} {xs : List α}, AllR R vs xs → vs.length = xs.length
  | [], [], _ => rfl
  | _ :: _, _ :: _, ⟨_, r⟩ => by simp [r.len]
theorem AllR.cat {α : Type} {R : V → α → Prop} : ∀ {vs : List V} {xs : List α} {us : List V} {ys : List α}, AllR R vs xs → AllR R us ys → AllR R (vs ++ us) (xs ++ ys)
  | [], [], _, _, _, h => h
  | _ :: _, _ :: _, _, _, ⟨a, r⟩, h => ⟨a, r.cat h⟩
theorem AllR.get {α : Type} {R : V → α → Prop} : ∀ {vs : List V} {xs : List α} {k : Nat} {v : V}, AllR R vs xs → vs[k]? = some v → ∃ x, xs[k]? = some x ∧ R v x
  | _ :: _, x :: _, 0, v, ⟨a, _⟩, e => by
    cases (Option.some.inj e)
    exact ⟨x, rfl, a⟩
  | _ :: _, _ :: _, k + 1, v, ⟨_, r⟩, e => by
    obtain ⟨x, h1, h2⟩ := r.get (show (_ : List V)[k]? = some v from e)
    exact ⟨x, h1, h2⟩
abbrev LgsV (H : Hp) := AllR (LgV H)
theorem PrsV.get {H : Hp} : ∀ {vs : List V} {xs : List (Pk × Sn)} {k : Nat} {v : V}, PrsV H vs xs → vs[k]? = some v → ∃ x, xs[k]? = some x ∧ PrV H v x
  | _ :: _, x :: _, 0, v, ⟨a, _⟩, e => by
    cases (Option.some.inj e)
    exact ⟨x, rfl, a⟩
  | _ :: _, _ :: _, k + 1, v, ⟨_, r⟩, e => by
    obtain ⟨x, h1, h2⟩ := r.get (show (_ : List V)[k]? = some v from e)
    exact ⟨x, h1, h2⟩
theorem legs_n : ∀ s, (legsL s).length ≤ rws s
  | .word _ => Nat.le_refl _
  | .menu l r => by have := legs_n l; have := legs_n r; simp only [legsL, rws, List.length_append]; omega
  | .trade _ p g => by have := legs_n g; simp only [legsL, rws, List.length_map]; omega
theorem legs_p : ∀ s, ∀ x ∈ legsL s, x.1.length < rws s
  | .word _, x, h => by
    simp only [legsL, List.mem_singleton] at h
    subst h
    exact Nat.one_pos
  | .menu l r, x, h => by
    simp only [legsL, List.mem_append] at h
    simp only [rws]
    rcases h with h | h
    · have := legs_p l x h; omega
    · have := legs_p r x h; omega
  | .trade k p g, x, h => by
    simp only [legsL, List.mem_map] at h
    obtain ⟨y, hy, rfl⟩ := h
    have := legs_p g y hy
    simp only [rws, List.length_cons]
    omega
/-- what the prices of a leg keep to -/
theorem legs_d : ∀ s, okS s → ∀ x ∈ legsL s, ∀ p ∈ x.1, okK p.1 ∧ okS p.2 ∧ dep p.2 < dep s ∧ rws p.2 ≤ rws s
  | .word _, _, x, h => by
    simp only [legsL, List.mem_singleton] at h
    subst h
    intro p hp
    cases hp
  | .menu l r, ho, x, h => by
    simp only [legsL, List.mem_append] at h
    intro p hp
    simp only [dep, rws]
    rcases h with h | h
    · obtain ⟨h1, h2, h3, h4⟩ := legs_d l ho.1 x h p hp
      exact ⟨h1, h2, by omega, by omega⟩
    · obtain ⟨h1, h2, h3, h4⟩ := legs_d r ho.2 x h p hp
      exact ⟨h1, h2, by omega, by omega⟩
  | .trade k q g, ho, x, h => by
    simp only [legsL, List.mem_map] at h
    obtain ⟨y, hy, rfl⟩ := h
    intro p hp
    simp only [dep, rws]
    rcases List.mem_cons.mp hp with rfl | hp
    · exact ⟨ho.1, ho.2.1, by show dep q < _; omega, by show rws q ≤ _; omega⟩
    · obtain ⟨h1, h2, h3, h4⟩ := legs_d g ho.2.2 y hy p hp
      exact ⟨h1, h2, by omega, by omega⟩
theorem bk_legsT : BkOk (N_legs ++ C_legs) [(1, "_law_price"), (2, "_law_row")] [] 2 "_law_row" (defScope s_legs) (lcSc (valE ((ifA (defBody s_legs) 1).getD 1 (.Pass ⟨0, 0, 0, 0⟩)))) := ⟨by decide +kernel, by decide +kernel, by decide +kernel, by decide +kernel⟩
section
variable {P : Program} {w : World} {K : PySem.W.Frag} {mg : Str → Option Value} {base : Heap}
def spLegs (n : Nat) : Sp := fun vs H Q _ => ∃ v s, vs = [v] ∧ SnV H v s ∧ dep s ≤ n ∧ rws s ≤ 1000 ∧ ∀ l vs H', Same H H' → H l = none → H' l = some (.lst vs) → LgsV H' vs (legsL s) → Q (.ref l) H'
theorem ok_legsS (n : Nat) (T : Top K mg "_law_legs" s_legs) (F : ∀ m, n = m + 1 → Fn P w K mg base (m + 1) "_law_legs" (spLegs m)) : Fn P w K mg base (n + 1) "_law_legs" (spLegs n) := by
  refine fn_okC T sc_legs so_legs (fun vs H Q E h => by obtain ⟨v, s, rfl, _⟩ := h; rfl) (fun _ _ _ _ _ _ us hl => match us, hl with | [_], _ => rfl) fun f cdv A outer s H vs Q E hr h nd => ?_
  obtain ⟨v, s, rfl, hv, hd, hz, q⟩ := h
  cases s with
  | word z =>
    obtain ⟨t, rfl, ht⟩ := hv
    walk_at "sts"
    refine ix_t (by exact SqT.of ht) rfl ?_
    walk_at "sts"
    refine ix_t (by exact SqT.of ht) rfl ?_
    walk_at "sts"
    refine ⟨by show 0 ≤ sizeLine; decide, fun p1 H1 e1 n1 h1 => ?_⟩
    walk_at "sts"
    refine ix_t (by exact SqT.of (e1 _ _ ht)) rfl ?_
    walk_at "sts"
    refine ⟨by show 2 ≤ sizeLine; decide, fun t2 H2 e2 n2 h2 => ?_⟩
    walk_at "sts"
    exact ⟨by show 1 ≤ sizeLine; decide, fun l H3 e3 n3 h3 => q l [.ref t2] H3 ((e1.trans e2).trans e3) (none_of (e1.trans e2) n3) h3 ⟨⟨t2, p1, [], rfl, e3 _ _ h2, e3 _ _ (e2 _ _ h1), trivial⟩, trivial⟩⟩
  | menu l r =>
    obtain ⟨t, a, b, rfl, ht, ha, hb⟩ := hv
    obtain ⟨m, rfl⟩ : ∃ m, n = m + 1 := ⟨n - 1, by simp only [dep] at hd; omega⟩
    simp only [dep] at hd
    simp only [rws] at hz
    have F0 := F m rfl
    walk_at "sts"
    refine ix_t (by exact SqT.of ht) rfl ?_
    walk_at "sts"
    refine e_call (by exact F0) (by exact hr) (by omega) ?_
    walk_at "sts"
    refine ix_t (by exact SqT.of ht) rfl ?_
    walk_at "sts"
    refine ⟨a, l, rfl, ha, by omega, by omega, fun l1 vs1 H1 e1 n1 h1 g1 => ?_⟩
    refine e_call (by exact F0) (by exact hr) (by omega) ?_
    walk_at "sts"
    refine ix_t (by exact SqT.of (e1 _ _ ht)) rfl ?_
    walk_at "sts"
    refine ⟨b, r, rfl, hb.ts (Same.ts e1), by omega, by omega, fun l2 vs2 H2 e2 n2 h2 g2 => ?_⟩
    have len1 := g1.len
    have len2 := g2.len
    have ln1 := legs_n l
    have ln2 := legs_n r
    refine o_cat2 (e2 _ _ h1) h2 (by omega) fun p H3 e3 n3 h3 => ?_
    exact q p _ H3 ((e1.trans e2).trans e3) (none_of (e1.trans e2) n3) h3 ((g1.mono fun v x h => LgV.up (e2.trans e3) h).cat (g2.mono fun v x h => LgV.up e3 h))
  | trade k p g =>
    obtain ⟨t, m0, a, b, rfl, ht, hm, ha, hb⟩ := hv
    obtain ⟨m, rfl⟩ : ∃ m, n = m + 1 := ⟨n - 1, by simp only [dep] at hd; omega⟩
    simp only [dep] at hd
    simp only [rws] at hz
    have F0 := F m rfl
    walk_at "sts"
    refine ix_t (by exact SqT.of ht) rfl ?_
    walk_at "sts"
    refine ix_t (by exact SqT.of ht) rfl ?_
    walk_at "sts"
    refine ix_t (by exact SqT.of ht) rfl ?_
    walk_at "sts"
    refine ix_t (by exact SqT.of ht) rfl ?_
    walk_at "sts"
    refine ⟨by show 2 ≤ sizeLine; decide, fun tp H1 e1 n1 h1 => ?_⟩
    refine l_cons (s_ret (e_lcL (by exact bk_legsT) ?_))
    refine e_call (by exact F0) (by exact hr) (by omega) ?_
    walk_at "sts"
    refine ix_t (by exact SqT.of (e1 _ _ ht)) rfl ?_
    walk_at "sts"
    refine ⟨b, g, rfl, hb.ts (Same.ts e1), by omega, by omega, fun l1 vs1 H2 e2 n2 h2 g2 => ⟨l1, vs1, rfl, SqL.of h2, fun D nD => ?_⟩⟩
    have dl : D ≠ l1 := fun e => by subst e; rw [h2] at nD; cases nD
    have len2 := g2.len
    have ln2 := legs_n g
    have hpr : PrV H2 (.ref tp) (k, p) := ⟨tp, m0, a, rfl, e2 _ _ h1, hm.ts (Same.ts (e1.trans e2)), ha.ts (Same.ts (e1.trans e2))⟩
    refine ⟨fun i H' => ∃ acc, H' D = some (.lst acc) ∧ (∀ b o, b ≠ D → H2 b = some o → H' b = some o) ∧ AllR (LgA H' D) acc (((legsL g).take i).map fun x => ((k, p) :: x.1, x.2)), ⟨[], upd_same, fun b o nb e => by rw [upd_ne nb]; exact e, trivial⟩, fun i H' _ hW => ?_, fun i u H' hu hW s0 H0 C cl fp IB => ?_, fun H' hW => ?_⟩
    · obtain ⟨acc, _, k2, _⟩ := hW
      exact SqL.of (k2 l1 _ dl.symm h2)
    · obtain ⟨acc, k1, k2, k3⟩ := hW
      obtain ⟨x, hx, t3, p3, xs, rfl, w1, w2, w3⟩ := g2.get hu
      have hi : i < (legsL g).length := (List.getElem?_eq_some_iff.mp hx).1
      have lp := legs_p g x (List.mem_of_getElem? hx)
      have p3D : p3 ≠ D := fun e => by subst e; rw [w2] at nD; cases nD
      have ts2 : TS H2 H' := fun a xs e => k2 a _ (fun y => by subst y; rw [nD] at e; cases e) e
      refine e_tup (a_cons (e_bin (e_lst (a_cons (b_var (a_nil ⟨by show 1 ≤ sizeLine; decide, fun q1 H3 e3 n3 h3 => ?_⟩))))))
      refine e_ix (b_var (e_int (ix_t (by exact SqT.of (e3 _ _ (ts2 _ _ w1))) rfl ?_)))
      have hlx := w3.len
      refine o_cat2 h3 (e3 _ _ (k2 p3 _ p3D w2)) (by simp only [List.length_cons, List.length_nil]; omega) fun q2 H4 e4 n4 h4 => ?_
      refine a_cons (e_ix (b_var (e_int (ix_t (by exact SqT.of (e4 _ _ (e3 _ _ (ts2 _ _ w1)))) rfl ?_))))
      refine a_nil ⟨by show 2 ≤ sizeLine; decide, fun t5 H5 e5 n5 h5 => ?_⟩
      have e35 : Same H' H5 := (e3.trans e4).trans e5
      have hD5 := e35 _ _ k1
      have q2D : q2 ≠ D := fun e => by subst e; rw [e3 _ _ k1] at n4; cases n4
      have hal := k3.len
      rw [List.length_map, List.length_take] at hal
      refine ⟨acc, hD5, Nat.lt_of_lt_of_le (show acc.length < 2000 by omega) (by decide), _, upd_same, fun b o nb e => by rw [upd_ne nb]; exact e35 _ _ (k2 b o nb e), ?_⟩
      rw [take_snoc hx, List.map_append]
      have tsD : TS H5 (upd H5 D (.lst (acc ++ [.ref t5]))) := TS.upd hD5
      refine (k3.mono fun v x h => LgA.upd e35 hD5 h).cat ⟨⟨t5, q2, _, rfl, tsD _ _ h5, by rw [upd_ne q2D]; exact e5 _ _ h4, ?_, q2D⟩, trivial⟩
      have ts25 : TS H2 (upd H5 D (.lst (acc ++ [.ref t5]))) := (ts2.trans (Same.ts e35)).trans tsD
      exact ⟨hpr.ts ts25, w3.ts ts25⟩
    · obtain ⟨acc, k1, k2, k3⟩ := hW
      rw [len2, List.take_length] at k3
      refine q D acc H' (fun b o e => ?_) (none_of (e1.trans e2) nD) k1 (k3.mono fun v x h => h.v)
      exact k2 b o (fun y => by subst y; have := e2 _ _ (e1 _ _ e); rw [nD] at this; cases this) (e2 _ _ (e1 _ _ e))
theorem ok_legs (T : Top K mg "_law_legs" s_legs) : ∀ n, Fn P w K mg base (n + 1) "_law_legs" (spLegs n)
  | 0 => ok_legsS 0 T fun m h => by cases h
  | n + 1 => ok_legsS (n + 1) T fun m h => by cases h; exact ok_legs T n
def spNamesL (n : Nat) : Sp := fun vs H Q _ => ∃ v s, vs = [v] ∧ SnV H v s ∧ dep s ≤ n ∧ rws s ≤ 1000 ∧ ∀ l H', Same H H' → H l = none → H' l = some (.lst (sVs (nms s))) → Q (.ref l) H'
theorem ok_namesS (n : Nat) (T : Top K mg "_law_names" s_names) (F : ∀ m, n = m + 1 → Fn P w K mg base (m + 1) "_law_names" (spNamesL m)) : Fn P w K mg base (n + 1) "_law_names" (spNamesL n) := by
  refine fn_ok T sc_names so_names (fun vs H Q E h => by obtain ⟨v, s, rfl, _⟩ := h; rfl) (fun _ _ _ _ _ _ us hl => match us, hl with | [_], _ => rfl) fun f cdv A outer s H vs Q E hr h nd => ?_
  obtain ⟨v, sn, rfl, hv, hd, hz, q⟩ := h
  have two : ∀ t (xs : List V) a b l r, SnV H a l → SnV H b r → dep l + 1 ≤ n → dep r + 1 ≤ n → rws l + rws r ≤ 1000 → H t = some (.tup xs) → atI xs (-2) = some a → atI xs (-1) = some b → (∀ l' H', Same H H' → H l' = none → H' l' = some (.lst (sVs (nms l ++ nms r))) → Q (.ref l') H') →
      wL (cxOf CX0 P w K mg base N_names (Str.ofString "_law_names") (defScope s_names) f cdv A outer s H E).nox ((defBody s_names).drop 1) { nx := fun _ H' => Q .non H', rt := Q } (L2.start N_names [.ref t]) H := by
    intro t xs a b l r ha hb hl hr2 hzz ht e1' e2' q
    obtain ⟨m, rfl⟩ : ∃ m, n = m + 1 := ⟨n - 1, by omega⟩
    have F0 := F m rfl
    show wL _ (_ :: _) _ _ _
    walk_at "sts"
    refine e_call (by exact F0) (by exact hr) (by omega) ?_
    walk_at "sts"
    refine ix_neg (by exact ht) e1' ?_
    walk_at "sts"
    refine ⟨a, l, rfl, ha, by omega, by omega, fun l1 H1 e1 n1 h1 => ?_⟩
    refine e_call (by exact F0) (by exact hr) (by omega) ?_
    walk_at "sts"
    refine ix_neg (by exact e1 _ _ ht) e2' ?_
    walk_at "sts"
    refine ⟨b, r, rfl, hb.ts (Same.ts e1), by omega, by omega, fun l2 H2 e2 n2 h2 => ?_⟩
    have := nms_rws l
    have := nms_rws r
    refine o_cat2 (e2 _ _ h1) h2 (by simp only [sVs, List.length_map]; omega) fun p H3 e3 n3 h3 => ?_
    exact q p H3 ((e1.trans e2).trans e3) (none_of (e1.trans e2) n3) (by rw [h3]; simp [sVs])
  cases sn with
  | word z =>
    obtain ⟨t, rfl, ht⟩ := hv
    walk_at "sts"
    refine ix_t (by exact SqT.of ht) rfl ?_
    walk_at "sts"
    refine ix_t (by exact SqT.of ht) rfl ?_
    walk_at "sts"
    exact ⟨by show 1 ≤ sizeLine; decide, fun l H3 e3 n3 h3 => q l H3 e3 n3 h3⟩
  | menu l r =>
    obtain ⟨t, a, b, rfl, ht, ha, hb⟩ := hv
    simp only [dep] at hd
    simp only [rws] at hz
    refine l_cons (s_if (t_cmp (e_ix (e_var (e_int (ix_t (by exact SqT.of ht) rfl (e_str (o_eqS ⟨_, rfl, ifF mw (l_nil ?_)⟩))))))))
    exact two t _ a b l r ha hb (by omega) (by omega) (by omega) ht rfl rfl q
  | trade k l r =>
    obtain ⟨t, m, a, b, rfl, ht, hm, ha, hb⟩ := hv
    simp only [dep] at hd
    simp only [rws] at hz
    refine l_cons (s_if (t_cmp (e_ix (e_var (e_int (ix_t (by exact SqT.of ht) rfl (e_str (o_eqS ⟨_, rfl, ifF tw (l_nil ?_)⟩))))))))
    exact two t _ a b l r ha hb (by omega) (by omega) (by omega) ht rfl rfl q
theorem ok_names (T : Top K mg "_law_names" s_names) : ∀ n, Fn P w K mg base (n + 1) "_law_names" (spNamesL n)
  | 0 => ok_namesS 0 T fun m h => by cases h
  | n + 1 => ok_namesS (n + 1) T fun m h => by cases h; exact ok_names T n
end


/-! ### what legs and sentences give, as the law reckons it -/
def bN (z y : Str) : Int := if z = y then 1 else 0
def subL : List (Pk × Sn) → Str → Int × Int → Int × Int
  | [], _, x => x
  | p :: ps, y, x => subL ps y (x.1 - (gv p y).2, x.2 - (gv p y).1)
def addsL : List (Pk × Sn) → Str → Int × Int → Int × Int
  | [], _, x => x
  | p :: ps, y, x => addsL ps y (addP x (gv p y))
def legP (x : Leg) (y : Str) : Int × Int := subL x.1 y (bN x.2 y, bN x.2 y)
theorem subL_sh : ∀ (ps : List (Pk × Sn)) (y : Str) (a b c d : Int), subL ps y (a - c, b - d) = ((subL ps y (a, b)).1 - c, (subL ps y (a, b)).2 - d)
  | [], _, _, _, _, _ => rfl
  | p :: ps, y, a, b, c, d => by
    simp only [subL]
    rw [show a - c - (gv p y).2 = a - (gv p y).2 - c by omega, show b - d - (gv p y).1 = b - (gv p y).1 - d by omega]
    exact subL_sh ps y _ _ c d
theorem legP_cons (p : Pk × Sn) (ps : List (Pk × Sn)) (z y : Str) : legP (p :: ps, z) y = ((legP (ps, z) y).1 - (gv p y).2, (legP (ps, z) y).2 - (gv p y).1) := by
  unfold legP
  simp only [subL]
  exact subL_sh ps y _ _ _ _
theorem wordP_b (z y : Str) : wordP z y = (bN z y, bN z y) := by unfold wordP bN; split <;> rfl
/-- the span is the least and the greatest of the legs' -/
structure Ext (s : Sn) (y : Str) : Prop where
  lo : ∀ x ∈ legsL s, (spanP s y).1 ≤ (legP x y).1
  hi : ∀ x ∈ legsL s, (legP x y).2 ≤ (spanP s y).2
  lo' : ∃ x ∈ legsL s, (legP x y).1 = (spanP s y).1
  hi' : ∃ x ∈ legsL s, (legP x y).2 = (spanP s y).2
theorem ext (y : Str) : ∀ s, Ext s y
  | .word z => by
    have e : legP ([], z) y = wordP z y := by rw [wordP_b]; rfl
    refine ⟨fun x hx => ?_, fun x hx => ?_, ⟨([], z), by simp [legsL], by rw [e]; rfl⟩, ⟨([], z), by simp [legsL], by rw [e]; rfl⟩⟩
    · simp only [legsL, List.mem_singleton] at hx
      subst hx
      rw [e]
      exact Int.le_refl _
    · simp only [legsL, List.mem_singleton] at hx
      subst hx
      rw [e]
      exact Int.le_refl _
  | .menu l r => by
    have a := ext y l
    have b := ext y r
    refine ⟨fun x hx => ?_, fun x hx => ?_, ?_, ?_⟩
    · simp only [legsL, List.mem_append] at hx
      simp only [spanP]
      rcases hx with hx | hx
      · have := a.lo x hx; omega
      · have := b.lo x hx; omega
    · simp only [legsL, List.mem_append] at hx
      simp only [spanP]
      rcases hx with hx | hx
      · have := a.hi x hx; omega
      · have := b.hi x hx; omega
    · obtain ⟨x, h1, h2⟩ := a.lo'
      obtain ⟨z, h3, h4⟩ := b.lo'
      simp only [spanP, legsL]
      by_cases h : (spanP l y).1 ≤ (spanP r y).1
      · exact ⟨x, List.mem_append.mpr (.inl h1), by omega⟩
      · exact ⟨z, List.mem_append.mpr (.inr h3), by omega⟩
    · obtain ⟨x, h1, h2⟩ := a.hi'
      obtain ⟨z, h3, h4⟩ := b.hi'
      simp only [spanP, legsL]
      by_cases h : (spanP r y).2 ≤ (spanP l y).2
      · exact ⟨x, List.mem_append.mpr (.inl h1), by omega⟩
      · exact ⟨z, List.mem_append.mpr (.inr h3), by omega⟩
  | .trade k p g => by
    have a := ext y g
    have sp : ∀ x : Leg, (legP ((k, p) :: x.1, x.2) y).1 = (legP x y).1 - (inK k (spanP p y)).2 := fun x => by rw [legP_cons]; rfl
    have sp2 : ∀ x : Leg, (legP ((k, p) :: x.1, x.2) y).2 = (legP x y).2 - (inK k (spanP p y)).1 := fun x => by rw [legP_cons]; rfl
    refine ⟨fun x hx => ?_, fun x hx => ?_, ?_, ?_⟩
    · simp only [legsL, List.mem_map] at hx
      obtain ⟨z, hz, rfl⟩ := hx
      have := a.lo z hz
      rw [sp]
      simp only [spanP]
      omega
    · simp only [legsL, List.mem_map] at hx
      obtain ⟨z, hz, rfl⟩ := hx
      have := a.hi z hz
      rw [sp2]
      simp only [spanP]
      omega
    · obtain ⟨x, h1, h2⟩ := a.lo'
      refine ⟨((k, p) :: x.1, x.2), by simp only [legsL, List.mem_map]; exact ⟨x, h1, rfl⟩, ?_⟩
      rw [sp]
      simp only [spanP]
      omega
    · obtain ⟨x, h1, h2⟩ := a.hi'
      refine ⟨((k, p) :: x.1, x.2), by simp only [legsL, List.mem_map]; exact ⟨x, h1, rfl⟩, ?_⟩
      rw [sp2]
      simp only [spanP]
      omega
def legOk (y : Str) (x : Int × Int) (lg : Leg) : Bool := decide ((addsL lg.1 y x).1 ≤ bN lg.2 y) && decide (bN lg.2 y ≤ (addsL lg.1 y x).2)
theorem bal_legs (y : Str) : ∀ (g : Sn) (x : Int × Int), bal g y x = (legsL g).all (legOk y x)
  | .word z, x => by
    rw [show (legsL (.word z)).all (legOk y x) = (legOk y x ([], z) && true) from rfl, Bool.and_true]
    unfold bal legOk
    rw [wordP_b]
    rfl
  | .menu l r, x => by simp only [bal, legsL, List.all_append, bal_legs y l x, bal_legs y r x]
  | .trade k p g, x => by
    simp only [bal, legsL, List.all_map, bal_legs y g]
    rfl
section
variable {P : Program} {w : World} {K : PySem.W.Frag} {mg : Str → Option Value} {base : Heap}
def spLeg (n : Nat) : Sp := fun vs H Q _ => ∃ v x y, vs = [v, .str y] ∧ LgV H v x ∧ x.1.length ≤ 1000 ∧ (∀ p ∈ x.1, okK p.1 ∧ okS p.2 ∧ dep p.2 < n ∧ rws p.2 ≤ 1000) ∧ ∀ r H', Same H H' → Pr H' r (legP x y) → Q r H'
def spGives (n : Nat) : Sp := fun vs H Q _ => ∃ m v y k s, vs = [m, v, .str y] ∧ ModeV H m k ∧ okK k ∧ SnV H v s ∧ okS s ∧ dep s ≤ n ∧ rws s ≤ 1000 ∧ ∀ r H', Same H H' → Pr H' r (gv (k, s) y) → Q r H'
theorem subL_snoc (ps : List (Pk × Sn)) (p : Pk × Sn) (y : Str) : ∀ x, subL (ps ++ [p]) y x = ((subL ps y x).1 - (gv p y).2, (subL ps y x).2 - (gv p y).1) := by
  induction ps with
  | nil => intro x; rfl
  | cons q ps ih => intro x; simp only [List.cons_append, subL]; exact ih _
theorem addsL_snoc (ps : List (Pk × Sn)) (p : Pk × Sn) (y : Str) : ∀ x, addsL (ps ++ [p]) y x = addP (addsL ps y x) (gv p y) := by
  induction ps with
  | nil => intro x; rfl
  | cons q ps ih => intro x; simp only [List.cons_append, addsL]; exact ih _
theorem bN_int (z y : Str) : (if decide (z = y) = true then (1 : Int) else 0) = bN z y := by
  unfold bN
  by_cases e : z = y
  · rw [if_pos (decide_eq_true e), if_pos e]
  · rw [if_neg (by rw [decide_eq_false e]; decide), if_neg e]
theorem ok_leg (n : Nat) (T : Top K mg "_law_leg" s_leg) (mInt : mg "int" = none) (F : ∀ m, n = m + 1 → Fn P w K mg base (2 * m + 2) "_law_gives" (spGives m)) : Fn P w K mg base (2 * n + 1) "_law_leg" (spLeg n) := by
  refine fn_ok T sc_leg so_leg (fun vs H Q E h => by obtain ⟨v, x, y, rfl, _⟩ := h; rfl) (fun _ _ _ _ _ _ us hl => match us, hl with | [_, _], _ => rfl) fun f cdv A outer s H vs Q E hr h nd => ?_
  obtain ⟨v, x, y, rfl, ⟨t, p, xs, rfl, h1, h2, h3⟩, hn, hok, q⟩ := h
  refine l_cons (s_set (e_callTy (x := "int") (by assumption) b_int (a_cons (e_cmp (e_ix (e_var (e_int (ix_t (by exact SqT.of h1) rfl (e_var (o_eqS (a_nil (c_intB ?_))))))))))))
  rw [bN_int]
  refine l_cons (s_set (e_var ?_))
  refine l_cons (s_forL (e_ix (e_var (e_int (ix_t (by exact SqT.of h1) rfl ⟨p, xs, rfl, SqL.of h2, fun i σ H' => ∃ y4 y5, σ = [some (V.ref t), some (.str y), some (.int (subL (x.1.take i) y (bN x.2 y, bN x.2 y)).1), some (.int (subL (x.1.take i) y (bN x.2 y, bN x.2 y)).2), y4, y5] ∧ Same H H', ⟨_, _, rfl, Same.refl H⟩, fun i σ H' _ hW => ?_, fun i u σ H' hu hW => ?_, fun σ H' hW => ?_⟩)))))
  · obtain ⟨y4, y5, rfl, s1⟩ := hW
    exact SqL.of (s1 _ _ h2)
  · obtain ⟨y4, y5, rfl, s1⟩ := hW
    obtain ⟨pr, hp, t3, m, a, rfl, g1, g2, g3⟩ := h3.get hu
    obtain ⟨ok1, ok2, ok3, ok4⟩ := hok pr (List.mem_of_getElem? hp)
    obtain ⟨m0, rfl⟩ : ∃ m, n = m + 1 := ⟨n - 1, by omega⟩
    have F0 := F m0 rfl
    refine l_cons (s_set ?_)
    refine e_call (by exact F0) (by exact hr) (by omega) ?_
    walk_at "sts"
    refine ix_t (by exact SqT.of (s1 _ _ g1)) rfl ?_
    walk_at "sts"
    refine ix_t (by exact SqT.of (s1 _ _ g1)) rfl ?_
    walk_at "sts"
    refine ⟨m, a, y, pr.1, pr.2, rfl, g2.ts (Same.ts s1), ok1, g3.ts (Same.ts s1), ok2, by omega, ok4, fun r H2 e2 p2 => ?_⟩
    obtain ⟨t4, rfl, h4⟩ := p2
    walk_at "sts"
    refine ix_t (by exact SqT.of h4) rfl ?_
    walk_at "sts"
    refine ix_t (by exact SqT.of h4) rfl ?_
    walk_at "sts"
    refine ⟨some (.ref t3), some (.ref t4), ?_, s1.trans e2⟩
    rw [take_snoc hp, subL_snoc]
    rfl
  · obtain ⟨y4, y5, rfl, s1⟩ := hW
    rw [h3.len, List.take_length]
    walk_at "sts"
    exact ⟨by show 2 ≤ sizeLine; decide, fun t4 H2 e2 _ h4 => q _ H2 (s1.trans e2) ⟨t4, rfl, h4⟩⟩
theorem bk_gives1 : BkOk (N_gives ++ C_gives) [(7, "_law_pair")] [] 7 "_law_pair" (defScope s_gives) (lcSc (argE (valE ((defBody s_gives).getD 1 (.Pass ⟨0, 0, 0, 0⟩))))) := ⟨by decide +kernel, by decide +kernel, by decide +kernel, by decide +kernel⟩
theorem bk_gives2 : BkOk (N_gives ++ C_gives) [(7, "_law_pair")] [] 7 "_law_pair" (defScope s_gives) (lcSc (argE (valE ((defBody s_gives).getD 2 (.Pass ⟨0, 0, 0, 0⟩))))) := ⟨by decide +kernel, by decide +kernel, by decide +kernel, by decide +kernel⟩
def PrA (H : Hp) (v : V) (x : Int × Int) : Prop := Pr H v x
theorem ok_gives (n : Nat) (T : Top K mg "_law_gives" s_gives) (mMin : mg "min" = none) (mMax : mg "max" = none) (FL : Fn P w K mg base (n + 1) "_law_legs" (spLegs n)) (FG : Fn P w K mg base (2 * n + 1) "_law_leg" (spLeg n)) : Fn P w K mg base (2 * n + 2) "_law_gives" (spGives n) := by
  refine fn_okC T sc_gives so_gives (fun vs H Q E h => by obtain ⟨m, v, y, k, s, rfl, _⟩ := h; rfl) (fun _ _ _ _ _ _ us hl => match us, hl with | [_, _, _], _ => rfl) fun f cdv A outer s H vs Q E hr h nd => ?_
  obtain ⟨m, v, y, k, s, rfl, hm, hk, hv, ho, hd, hz, q⟩ := h
  refine l_cons (s_lcL (by exact bk_gives0) ?_)
  refine e_call (by exact FL) (by exact hr) (by omega) ?_
  walk_at "sts"
  refine ⟨v, s, rfl, hv, hd, hz, fun l1 vs1 H1 e1 n1 h1 g1 => ⟨l1, vs1, rfl, SqL.of h1, fun D nD => ?_⟩⟩
  have dl : D ≠ l1 := fun e => by subst e; rw [h1] at nD; cases nD
  have len1 := g1.len
  have ln1 := legs_n s
  have E1 := ext y s
  refine ⟨fun i H' => ∃ acc, H' D = some (.lst acc) ∧ (∀ b o, b ≠ D → H1 b = some o → H' b = some o) ∧ AllR (Pr H') acc (((legsL s).take i).map fun x => legP x y), ⟨[], upd_same, fun b o nb e => by rw [upd_ne nb]; exact e, trivial⟩, fun i H' _ hW => ?_, fun i u H' hu hW s0 H0 C cl fp IB => ?_, fun H2 hW => ?_⟩
  · obtain ⟨acc, _, k2, _⟩ := hW
    exact SqL.of (k2 l1 _ dl.symm h1)
  · obtain ⟨acc, k1, k2, k3⟩ := hW
    obtain ⟨x, hx, t3, p3, xs, rfl, w1, w2, w3⟩ := g1.get hu
    have hmem := List.mem_of_getElem? hx
    have lp := legs_p s x hmem
    have p3D : p3 ≠ D := fun e => by subst e; rw [w2] at nD; cases nD
    have ts2 : TS H1 H' := fun a xs e => k2 a _ (fun y => by subst y; rw [nD] at e; cases e) e
    refine b_call (by exact FG) (by exact hr) (by omega) ?_
    refine a_cons (b_var (a_cons (b_var ?_)))
    refine a_nil ⟨.ref t3, x, y, rfl, ⟨t3, p3, xs, rfl, ts2 _ _ w1, k2 p3 _ p3D w2, w3.ts ts2⟩, by omega, fun p hp => ?_, fun r H3 e3 p4 => ?_⟩
    · obtain ⟨a1, a2, a3, a4⟩ := legs_d s ho x hmem p hp
      exact ⟨a1, a2, by omega, by omega⟩
    · have hal := k3.len
      rw [List.length_map, List.length_take] at hal
      have hD3 := e3 _ _ k1
      refine ⟨acc, hD3, Nat.lt_of_lt_of_le (show acc.length < 2000 by omega) (by decide), _, upd_same, fun b o nb e => by rw [upd_ne nb]; exact e3 _ _ (k2 b o nb e), ?_⟩
      rw [take_snoc hx, List.map_append]
      have tsD : TS H3 (upd H3 D (.lst (acc ++ [r]))) := TS.upd hD3
      exact (k3.mono fun v x h => h.ts ((Same.ts e3).trans tsD)).cat ⟨p4.ts tsD, trivial⟩
  obtain ⟨acc, hD2, k2, k3⟩ := hW
  rw [len1, List.take_length] at k3
  have s02 : Same H H2 := fun b o e => k2 b o (fun y => by subst y; have := e1 _ _ e; rw [nD] at this; cases this) (e1 _ _ e)
  have accl := k3.len
  rw [List.length_map] at accl
  -- the least and the greatest of one side
  have side : ∀ (pj : Int × Int → Int) (j : Nat), (∀ x : Int × Int, atI ([.int x.1, .int x.2] : List V) j = some (.int (pj x))) → True := fun _ _ _ => trivial
  refine l_cons (s_set (e_callB (x := "min") (by assumption) b_min (a_cons (e_lcL (by exact bk_gives1) (e_var ⟨D, acc, rfl, SqL.of hD2, fun D2 nD2 => ?_⟩)))))
  have d2D : D2 ≠ D := fun e => by subst e; rw [hD2] at nD2; cases nD2
  refine ⟨fun i H' => H' D2 = some (.lst (((((legsL s).take i).map fun x => (legP x y).1)).map V.int)) ∧ (∀ b o, b ≠ D2 → H2 b = some o → H' b = some o), ⟨upd_same, fun b o nb e => by rw [upd_ne nb]; exact e⟩, fun i H' _ hW => SqL.of (hW.2 D _ d2D.symm hD2), fun i u H' hu hW s0 H0 C cl fp IB => ?_, fun H3 hW => ?_⟩
  · obtain ⟨w1, w2⟩ := hW
    obtain ⟨pv, hp, t3, rfl, h3⟩ := k3.get hu
    rw [List.getElem?_map] at hp
    cases hx : (legsL s)[i]? with
    | none => rw [hx] at hp; cases hp
    | some x =>
      rw [hx] at hp
      cases hp
      have t3D : t3 ≠ D2 := fun e => by subst e; rw [h3] at nD2; cases nD2
      refine e_ix (b_var (e_int (ix_t (by exact SqT.of (w2 _ _ t3D h3)) rfl ⟨_, w1, ?_, ?_, fun b o nb e => by rw [upd_ne nb]; exact w2 b o nb e⟩)))
      · rw [List.length_map, List.length_map, List.length_take]
        exact Nat.lt_of_lt_of_le (show _ < 2000 by omega) (by decide)
      · rw [upd_same, take_snoc hx]
        simp
  obtain ⟨w1, w2⟩ := hW
  rw [accl, List.take_length] at w1
  have s03 : Same H H3 := fun b o e => w2 b o (fun y => by subst y; have := s02 _ _ e; rw [nD2] at this; cases this) (s02 _ _ e)
  have hD3 := w2 D _ d2D.symm hD2
  have k33 : AllR (Pr H3) acc ((legsL s).map fun x => legP x y) := k3.mono fun v x h => h.ts fun a xs e => w2 a _ (fun y => by subst y; rw [nD2] at e; cases e) e
  have lpos : 0 < (legsL s).length := by obtain ⟨x, hx, _⟩ := E1.lo'; exact List.length_pos_of_mem hx
  refine a_nil (c_minL rfl (by exact SqL.of w1) (by rw [List.length_map]; exact lpos) (m0 := (spanP s y).1) (by obtain ⟨x, hx, e⟩ := E1.lo'; exact List.mem_map.mpr ⟨x, hx, e⟩) (fun z hz => by obtain ⟨x, hx, rfl⟩ := List.mem_map.mp hz; exact E1.lo x hx) ?_)
  refine l_cons (s_set (e_callB (x := "max") (by assumption) b_max (a_cons (e_lcL (by exact bk_gives2) (e_var ⟨D, acc, rfl, SqL.of hD3, fun D4 nD4 => ?_⟩)))))
  have d4D : D4 ≠ D := fun e => by subst e; rw [hD3] at nD4; cases nD4
  refine ⟨fun i H' => H' D4 = some (.lst (((((legsL s).take i).map fun x => (legP x y).2)).map V.int)) ∧ (∀ b o, b ≠ D4 → H3 b = some o → H' b = some o), ⟨upd_same, fun b o nb e => by rw [upd_ne nb]; exact e⟩, fun i H' _ hW => SqL.of (hW.2 D _ d4D.symm hD3), fun i u H' hu hW s0 H0 C cl fp IB => ?_, fun H4 hW => ?_⟩
  · obtain ⟨w1, w2⟩ := hW
    obtain ⟨pv, hp, t3, rfl, h3⟩ := k33.get hu
    rw [List.getElem?_map] at hp
    cases hx : (legsL s)[i]? with
    | none => rw [hx] at hp; cases hp
    | some x =>
      rw [hx] at hp
      cases hp
      have t3D : t3 ≠ D4 := fun e => by subst e; rw [h3] at nD4; cases nD4
      refine e_ix (b_var (e_int (ix_t (by exact SqT.of (w2 _ _ t3D h3)) rfl ⟨_, w1, ?_, ?_, fun b o nb e => by rw [upd_ne nb]; exact w2 b o nb e⟩)))
      · rw [List.length_map, List.length_map, List.length_take]
        exact Nat.lt_of_lt_of_le (show _ < 2000 by omega) (by decide)
      · rw [upd_same, take_snoc hx]
        simp
  obtain ⟨w3, w4⟩ := hW
  rw [accl, List.take_length] at w3
  have s04 : Same H H4 := fun b o e => w4 b o (fun y => by subst y; have := s03 _ _ e; rw [nD4] at this; cases this) (s03 _ _ e)
  refine a_nil (c_maxL rfl (by exact SqL.of w3) (by rw [List.length_map]; exact lpos) (m0 := (spanP s y).2) (by obtain ⟨x, hx, e⟩ := E1.hi'; exact List.mem_map.mpr ⟨x, hx, e⟩) (fun z hz => by obtain ⟨x, hx, rfl⟩ := List.mem_map.mp hz; exact E1.hi x hx) ?_)
  cases k with
  | none =>
    cases (show m = .str "once" from hm)
    walk_at "sts"
    exact ⟨by show 2 ≤ sizeLine; decide, fun t5 H5 e5 _ h5 => q _ H5 (s04.trans e5) ⟨t5, rfl, h5⟩⟩
  | some uv =>
    obtain ⟨u, dd⟩ := uv
    obtain ⟨t2, rfl, ht2⟩ := hm
    obtain ⟨u1, u2, _⟩ := hk
    have ht4 := s04 _ _ ht2
    refine l_cons (s_if (t_cmp (e_var (e_str (o_eqPS (by exact hr) (by exact ht4) once_shaped ⟨_, rfl, iteF (l_nil ?_)⟩)))))
    refine l_cons (s_ret (e_tup (a_cons ?_)))
    refine e_callB (x := "min") (by assumption) b_min (a_cons (e_int (a_cons (e_bin ?_))))
    walk_at "sts"
    refine ix_t (by exact SqT.of ht4) rfl (e_var ?_)
    refine o_mul (.inl ⟨by omega, by omega⟩) (a_nil (c_min rfl ?_))
    rw [minI]
    refine a_cons ?_
    refine e_callB (x := "max") (by assumption) b_max (a_cons (e_int (a_cons (e_bin ?_))))
    walk_at "sts"
    refine ix_t (by exact SqT.of ht4) rfl (e_var ?_)
    refine o_mul (.inl ⟨by omega, by omega⟩) (a_nil (c_max rfl ?_))
    rw [maxI]
    refine a_nil ⟨by show 2 ≤ sizeLine; decide, fun t3 H5 e5 _ h3 => q _ H5 (s04.trans e5) ⟨t3, rfl, h3⟩⟩
end


theorem e_notT {X : Cx} {a : Expr} {σ : L2.St} {H : Hp} {Q : VK} {pos : Pos} (q : wE X a σ H fun x H1 => ∃ k, TruV X.K x H1 k ∧ Q (.bl (!k)) H1) : wE X (.UnaryOp .Not a pos) σ H Q := e_of (pe_notT pe) q
def behindAnd : Expr → Expr
  | .BoolOp _ [_, .UnaryOp _ c _] _ => c
  | _ => .Name "" ⟨0, 0, 0, 0⟩
theorem bk_texts : BkOk (N_is_texts ++ C_is_texts) [(1, "_law_item")] ["isinstance", "str"] 1 "_law_item" (defScope s_is_texts) (lcSc (behindAnd (valE ((defBody s_is_texts).getD 0 (.Pass ⟨0, 0, 0, 0⟩))))) := ⟨by decide +kernel, by decide +kernel, by decide +kernel, by decide +kernel⟩
section
variable {P : Program} {w : World} {K : PySem.W.Frag} {mg : Str → Option Value} {base : Heap}
def spDoubted : Sp := fun vs H Q _ => ∃ c y hl g, vs = [.ref c, .str y] ∧ ClAt H c hl g ∧ ClOk hl g ∧ ∀ H', Same H H' → Q (.bl (!bal g y (totL hl y))) H'
theorem ok_doubted (T : Top K mg "_law_doubted" s_doubted) (mInt : mg "int" = none) (FL : Fn P w K mg base 4 "_law_legs" (spLegs 3)) (FG : Fn P w K mg base 8 "_law_gives" (spGives 3)) : Fn P w K mg base 9 "_law_doubted" spDoubted := by
  refine fn_ok T sc_doubted so_doubted (fun vs H Q E h => by obtain ⟨c, y, hl, g, rfl, _⟩ := h; rfl) (fun _ _ _ _ _ _ us hl => match us, hl with | [_, _], _ => rfl) fun f cdv A outer s H vs Q E hr h nd => ?_
  obtain ⟨c, y, hl, g, rfl, hc, hk, q⟩ := h
  obtain ⟨t, hvs, gvv, h1, h2, h3, h4⟩ := hc.ex
  walk_at "sts"
  refine s_forT ?_
  walk_at "sts"
  refine ix_t (by exact SqT.of h1) rfl ?_
  refine ⟨t, hvs, rfl, SqT.of h2, fun i σ H' => ∃ y4 y5, σ = [some (V.ref c), some (.str y), some (.int (totL (hl.take i) y).1), some (.int (totL (hl.take i) y).2), y4, y5, none, none, none] ∧ Same H H', ⟨_, _, rfl, Same.refl H⟩, fun i σ H' _ hW => ?_, fun i u σ H' hu hW => ?_, fun σ H' hW => ?_⟩
  · obtain ⟨y4, y5, rfl, s1⟩ := hW
    exact SqT.of (s1 _ _ h2)
  · obtain ⟨y4, y5, rfl, s1⟩ := hW
    obtain ⟨x, hx, t3, nm, m, a, rfl, g1, g2, g3⟩ := h3.get hu
    obtain ⟨ok1, ok2, ok3, ok4⟩ := hk.all x (List.mem_of_getElem? hx)
    refine l_cons (s_set ?_)
    refine e_call (by exact FG) (by exact hr) (by decide) ?_
    walk_at "sts"
    refine ix_t (by exact SqT.of (s1 _ _ g1)) rfl ?_
    walk_at "sts"
    refine ix_t (by exact SqT.of (s1 _ _ g1)) rfl ?_
    walk_at "sts"
    refine ⟨m, a, y, x.1, x.2, rfl, g2.ts (Same.ts s1), ok1, g3.ts (Same.ts s1), ok2, by omega, by omega, fun r H2 e2 p2 => ?_⟩
    obtain ⟨t4, rfl, h4'⟩ := p2
    walk_at "sts"
    refine ix_t (by exact SqT.of h4') rfl ?_
    walk_at "sts"
    refine ix_t (by exact SqT.of h4') rfl ?_
    walk_at "sts"
    refine ⟨some (.ref t3), some (.ref t4), ?_, s1.trans e2⟩
    rw [take_snoc hx, totL_snoc]
    rfl
  obtain ⟨y4, y5, rfl, s1⟩ := hW
  rw [h3.len, List.take_length]
  refine l_cons (s_forL ?_)
  refine e_call (by exact FL) (by exact hr) (by decide) ?_
  walk_at "sts"
  refine ix_t (by exact SqT.of (s1 _ _ h1)) rfl ?_
  walk_at "sts"
  have hrw := hk.rw
  refine ⟨gvv, g, rfl, h4.ts (Same.ts s1), hk.dp, by omega, fun l1 vs1 H1 e1 n1 hl1 g1 => ?_⟩
  refine ⟨l1, vs1, rfl, SqL.of hl1, fun i σ H' => ∃ y4 y5 y6 y7 y8, σ = [some (V.ref c), some (.str y), some (.int (totL hl y).1), some (.int (totL hl y).2), y4, y5, y6, y7, y8] ∧ Same H1 H' ∧ ((legsL g).take i).all (legOk y (totL hl y)) = true, ⟨_, _, _, _, _, rfl, Same.refl H1, rfl⟩, fun i σ H' _ hW => ?_, fun i u σ H' hu hW => ?_, fun σ H' hW => ?_⟩
  · obtain ⟨_, _, _, _, _, rfl, s2, _⟩ := hW
    exact SqL.of (s2 _ _ hl1)
  · obtain ⟨y4, y5, y6, y7, y8, rfl, s2, all2⟩ := hW
    obtain ⟨x, hx, t3, p3, xs, rfl, w1, w2, w3⟩ := g1.get hu
    have hmem := List.mem_of_getElem? hx
    walk_at "sts"
    refine s_forL ?_
    walk_at "sts"
    refine ix_t (by exact SqT.of (s2 _ _ w1)) rfl ?_
    refine ⟨p3, xs, rfl, SqL.of (s2 _ _ w2), fun j σ H3 => ∃ y5 y8, σ = [some (V.ref c), some (.str y), some (.int (totL hl y).1), some (.int (totL hl y).2), some (.ref t3), y5, some (.int (addsL (x.1.take j) y (totL hl y)).1), some (.int (addsL (x.1.take j) y (totL hl y)).2), y8] ∧ Same H1 H3, ⟨_, _, rfl, s2⟩, fun j σ H3 _ hW => ?_, fun j v σ H3 hv hW => ?_, fun σ H3 hW => ?_⟩
    · obtain ⟨_, _, rfl, s3⟩ := hW
      exact SqL.of (s3 _ _ w2)
    · obtain ⟨y5, y8, rfl, s3⟩ := hW
      obtain ⟨pr, hp, t5, m, a, rfl, z1, z2, z3⟩ := w3.get hv
      obtain ⟨ok1, ok2, ok3, ok4⟩ := legs_d g hk.gk x hmem pr (List.mem_of_getElem? hp)
      have hdp := hk.dp
      refine l_cons (s_set ?_)
      refine e_call (by exact FG) (by exact hr) (by decide) ?_
      walk_at "sts"
      refine ix_t (by exact SqT.of (s3 _ _ z1)) rfl ?_
      walk_at "sts"
      refine ix_t (by exact SqT.of (s3 _ _ z1)) rfl ?_
      walk_at "sts"
      refine ⟨m, a, y, pr.1, pr.2, rfl, z2.ts (Same.ts s3), ok1, z3.ts (Same.ts s3), ok2, by omega, by omega, fun r H2 e2 p2 => ?_⟩
      obtain ⟨t4, rfl, h4'⟩ := p2
      walk_at "sts"
      refine ix_t (by exact SqT.of h4') rfl ?_
      walk_at "sts"
      refine ix_t (by exact SqT.of h4') rfl ?_
      walk_at "sts"
      refine ⟨some (.ref t4), some (.ref t5), ?_, s3.trans e2⟩
      rw [take_snoc hp, addsL_snoc]
      rfl
    · obtain ⟨y5, y8, rfl, s3⟩ := hW
      rw [w3.len, List.take_length]
      refine l_cons (s_if (t_not (t_chain (e_var (e_callTy (x := "int") (by assumption) b_int (a_cons (e_cmp (e_ix (e_var (e_int (ix_t (by exact SqT.of (s3 _ _ w1)) rfl (e_var (o_eqS (a_nil (c_intB ?_)))))))))))))))
      rw [bN_int]
      refine o_le ⟨_, rfl, ?_⟩
      have hS : Same H H3 := (s1.trans e1).trans s3
      cases hb1 : decide ((addsL x.1 y (totL hl y)).1 ≤ bN x.2 y) with
      | false =>
        refine iteF ⟨_, rfl, iteT (l_cons (s_ret (e_bl ?_)))⟩
        have hb : bal g y (totL hl y) = false := by
          rw [bal_legs, List.all_eq_false]
          exact ⟨x, hmem, by simp [legOk, hb1]⟩
        have qq := q H3 hS
        rw [hb] at qq
        exact qq
      | true =>
        refine iteT (e_var (o_le ⟨_, rfl, ?_⟩))
        cases hb2 : decide (bN x.2 y ≤ (addsL x.1 y (totL hl y)).2) with
        | false =>
          refine iteT (l_cons (s_ret (e_bl ?_)))
          have hb : bal g y (totL hl y) = false := by
            rw [bal_legs, List.all_eq_false]
            exact ⟨x, hmem, by simp [legOk, hb2]⟩
          have qq := q H3 hS
          rw [hb] at qq
          exact qq
        | true =>
          refine iteF (l_nil (l_nil ⟨_, _, _, _, _, rfl, s3, ?_⟩))
          rw [take_snoc hx, List.all_append, all2]
          simp [legOk, hb1, hb2]
  · obtain ⟨y4, y5, y6, y7, y8, rfl, s2, all2⟩ := hW
    rw [g1.len, List.take_length] at all2
    refine l_cons (s_ret (e_bl ?_))
    have hb : bal g y (totL hl y) = true := by rw [bal_legs]; exact all2
    have qq := q H' ((s1.trans e1).trans s2)
    rw [hb] at qq
    exact qq
def spNum : Sp := fun vs H Q _ => ∃ i : Int, vs = [.int i] ∧ Q (.bl true) H
theorem ok_num (T : Top K mg "_law_is_number" s_is_number) (mIs : mg "isinstance" = none) (mInt : mg "int" = none) (mBool : mg "bool" = none) : Fn P w K mg base 1 "_law_is_number" spNum := by
  refine fn_ok T sc_is_number so_is_number (fun vs H Q E h => by obtain ⟨i, rfl, _⟩ := h; rfl) (fun _ _ _ _ _ _ us hl => match us, hl with | [_], _ => rfl) fun f cdv A outer s H vs Q E hr h nd => ?_
  obtain ⟨i, rfl, q⟩ := h
  walk_at "sts"
  refine c_isi ty_int (.ty _) (kit_ty kb_int_int) ⟨_, rfl, ?_⟩
  walk_at "sts"
  refine c_isi ty_int (.ty _) (kit_ty kb_int_bool) ⟨_, rfl, ?_⟩
  exact q
def spIsPair : Sp := fun vs H Q _ => ∃ v x, vs = [v] ∧ Pr H v x ∧ Q (.bl true) H
theorem ok_ispair (T : Top K mg "_law_is_pair" s_is_pair) (mIs : mg "isinstance" = none) (mTup : mg "tuple" = none) (mLen : mg "len" = none) (FN : Fn P w K mg base 1 "_law_is_number" spNum) : Fn P w K mg base 2 "_law_is_pair" spIsPair := by
  refine fn_ok T sc_is_pair so_is_pair (fun vs H Q E h => by obtain ⟨v, x, rfl, _⟩ := h; rfl) (fun _ _ _ _ _ _ us hl => match us, hl with | [_], _ => rfl) fun f cdv A outer s H vs Q E hr h nd => ?_
  obtain ⟨v, x, rfl, ⟨t, rfl, ht⟩, q⟩ := h
  walk_at "sts"
  refine c_isi (by exact ty_tup ht) (.ty _) (kit_ty kb_tuple_tuple) ⟨_, rfl, ?_⟩
  walk_at "sts"
  refine c_lenT (by exact SqT.of ht) ?_
  walk_at "sts"
  refine e_call (by exact FN) (by exact hr) (by decide) ?_
  walk_at "sts"
  refine ix_t (by exact SqT.of ht) rfl ?_
  walk_at "sts"
  refine e_call (by exact FN) (by exact hr) (by decide) ?_
  walk_at "sts"
  refine ix_t (by exact SqT.of ht) rfl ?_
  walk_at "sts"
  exact q
def spIsTexts : Sp := fun vs H Q _ => ∃ l zs, vs = [.ref l] ∧ H l = some (.lst (sVs zs)) ∧ ∀ H', Same H H' → Q (.bl true) H'
theorem ok_istexts (T : Top K mg "_law_is_texts" s_is_texts) (mIs : mg "isinstance" = none) (mList : mg "list" = none) (mStr : mg "str" = none) : Fn P w K mg base 1 "_law_is_texts" spIsTexts := by
  refine fn_okC T sc_is_texts so_is_texts (fun vs H Q E h => by obtain ⟨l, zs, rfl, _⟩ := h; rfl) (fun _ _ _ _ _ _ us hl => match us, hl with | [_], _ => rfl) fun f cdv A outer s H vs Q E hr h nd => ?_
  obtain ⟨l, zs, rfl, hl, q⟩ := h
  walk_at "sts"
  refine c_isi (by exact ty_lst hl) (.ty _) (kit_ty kb_list_list) ⟨_, rfl, ?_⟩
  refine iteT (e_one (e_notT (e_lcLf (by exact bk_texts) (e_var ⟨l, _, rfl, SqL.of hl, fun D nD => ?_⟩))))
  have dl : D ≠ l := fun e => by subst e; rw [hl] at nD; cases nD
  refine ⟨fun i H' => H' D = some (.lst []) ∧ ∀ b o, b ≠ D → H b = some o → H' b = some o, ⟨upd_same, fun b o nb e => by rw [upd_ne nb]; exact e⟩, fun i H' _ hW => SqL.of (hW.2 l _ dl.symm hl), fun i u H' hu hW => ?_, fun H' hW => ?_⟩
  · obtain ⟨z, hz, rfl⟩ := sVs_get hu
    intro s0 H0 C cl fp IB
    refine t_not (t_val (b_callB (x := "isinstance") (by assumption) b_isi (a_cons (b_var ?_))))
    refine a_cons (b_bltn (x := "str") (v := .ty "str") (by assumption) b_str rfl (a_nil ?_))
    exact c_isi ty_str (.ty _) (kit_ty kb_str_str) ⟨_, rfl, iteF hW⟩
  · obtain ⟨w1, w2⟩ := hW
    refine ⟨false, .inl ⟨[], SqL.of w1, rfl⟩, ?_⟩
    exact q H' fun b o e => w2 b o (fun y => by subst y; rw [nD] at e; cases e) e
end


/-! ### sorted texts -/
def leS (x y : Str) : Prop := x.cps.toList ≤ y.cps.toList
theorem ceq {x y : Str} (h : x.cps.toList = y.cps.toList) : x = y := by
  cases x; cases y
  simp only at h
  rw [Array.toList_inj.mp h]
theorem ris_pw : ∀ (l : List Str) (p : Str), risingS p l = true → (p :: l).Pairwise leS
  | [], p, _ => List.pairwise_singleton ..
  | x :: r, p, h => by
    simp only [risingS, Bool.and_eq_true, Bool.not_eq_true'] at h
    obtain ⟨h1, h2⟩ := h
    have pw := ris_pw r x h2
    rw [ltCps_eq, decide_eq_false_iff_not] at h1
    have hp : leS p x := List.not_lt.mp h1
    refine List.pairwise_cons.mpr ⟨fun y hy => ?_, pw⟩
    rcases List.mem_cons.mp hy with rfl | hy
    · exact hp
    · exact List.le_trans hp ((List.pairwise_cons.mp pw).1 y hy)
theorem sorted_pw {l : List Str} (h : sortedS l = true) : l.Pairwise leS := by
  cases l with
  | nil => exact List.Pairwise.nil
  | cons x r => exact ris_pw r x h
theorem pw_uniq : ∀ {l1 l2 : List Str}, l1.Pairwise leS → l2.Pairwise leS → l1.Nodup → l2.Nodup → (∀ z, z ∈ l1 ↔ z ∈ l2) → l1 = l2
  | [], [], _, _, _, _, _ => rfl
  | [], b :: t, _, _, _, _, h => absurd ((h b).mpr List.mem_cons_self) (by simp)
  | a :: t, [], _, _, _, _, h => absurd ((h a).mp List.mem_cons_self) (by simp)
  | a :: t1, b :: t2, p1, p2, n1, n2, h => by
    obtain ⟨q1, q1'⟩ := List.pairwise_cons.mp p1
    obtain ⟨q2, q2'⟩ := List.pairwise_cons.mp p2
    obtain ⟨m1, m1'⟩ := List.nodup_cons.mp n1
    obtain ⟨m2, m2'⟩ := List.nodup_cons.mp n2
    have e : a = b := by
      rcases List.mem_cons.mp ((h a).mp List.mem_cons_self) with e | ha
      · exact e
      rcases List.mem_cons.mp ((h b).mpr List.mem_cons_self) with e | hb
      · exact e.symm
      exact ceq (List.le_antisymm (q1 b hb) (q2 a ha))
    subst e
    have ht : ∀ z, z ∈ t1 ↔ z ∈ t2 := fun z => by
      constructor
      · intro hz
        rcases List.mem_cons.mp ((h z).mp (List.mem_cons_of_mem _ hz)) with e | hz2
        · subst e; exact absurd hz m1
        · exact hz2
      · intro hz
        rcases List.mem_cons.mp ((h z).mpr (List.mem_cons_of_mem _ hz)) with e | hz2
        · subst e; exact absurd hz m2
        · exact hz2
    rw [pw_uniq q1' q2' m1' m2' ht]
theorem addL_mem {l : List Str} {z y : Str} : y ∈ addL l z ↔ y ∈ l ∨ y = z := mem_addU
theorem uniqL_mem (ns : List Str) (y : Str) : y ∈ uniqL ns ↔ y ∈ ns := uniq_mem ns y
theorem uniqL_nd (ns : List Str) : (uniqL ns).Nodup := uniq_nd ns
theorem addP_comm (x y : Int × Int) : addP x y = addP y x := by simp [addP, Int.add_comm]
theorem addP_assoc (x y z : Int × Int) : addP (addP x y) z = addP x (addP y z) := by simp [addP, Int.add_assoc]
theorem foldP (y : Str) : ∀ (hl : List (Pk × Sn)) (a : Int × Int), hl.foldl (fun acc x => addP acc (gv x y)) a = addP a (totL hl y)
  | [], a => by show a = addP a (0, 0); rw [addP_0]
  | x :: xs, a => by
    rw [List.foldl_cons, foldP y xs, addP_assoc]
    congr 1
    show _ = List.foldl _ (0, 0) (x :: xs)
    rw [List.foldl_cons, foldP y xs]
    congr 1
    simp [addP]
theorem totL_cons (x : Pk × Sn) (xs : List (Pk × Sn)) (y : Str) : totL (x :: xs) y = addP (gv x y) (totL xs y) := by
  show List.foldl _ (0, 0) (x :: xs) = _
  rw [List.foldl_cons, foldP y xs]
  congr 1
  simp [addP]
theorem totL_rev (y : Str) : ∀ hl : List (Pk × Sn), totL hl.reverse y = totL hl y
  | [] => rfl
  | x :: xs => by rw [List.reverse_cons, totL_snoc, totL_rev y xs, totL_cons, addP_comm]
theorem nmsC_rev (g : Sn) (hl : List (Pk × Sn)) (z : Str) : z ∈ nmsC g hl.reverse ↔ z ∈ nmsC g hl := by
  simp [nmsC, List.mem_append, List.mem_flatten]
theorem ClOk.rev {hl : List (Pk × Sn)} {g : Sn} (h : ClOk hl g) : ClOk hl.reverse g := ⟨by rw [List.length_reverse]; exact h.len, fun x hx => h.all x (List.mem_reverse.mp hx), h.gk, h.dp, h.rw⟩
theorem okS_nms : ∀ s, okS s → ∀ z ∈ nms s, OkW z
  | .word z, h, y, hy => by
    simp only [nms, List.mem_singleton] at hy
    subst hy
    exact h
  | .menu l r, h, y, hy => by
    simp only [nms, List.mem_append] at hy
    rcases hy with hy | hy
    · exact okS_nms l h.1 y hy
    · exact okS_nms r h.2 y hy
  | .trade k p g, h, y, hy => by
    simp only [nms, List.mem_append] at hy
    rcases hy with hy | hy
    · exact okS_nms p h.2.1 y hy
    · exact okS_nms g h.2.2 y hy
theorem nmsC_ok {hl : List (Pk × Sn)} {g : Sn} (h : ClOk hl g) : ∀ z ∈ nmsC g hl, OkW z := by
  intro z hz
  simp only [nmsC, List.mem_append, List.mem_flatten, List.mem_map] at hz
  rcases hz with hz | ⟨l, ⟨x, hx, rfl⟩, hz⟩
  · exact okS_nms g h.gk z hz
  · exact okS_nms x.2 (h.all x hx).2.1 z hz
theorem stems_ok : ∀ z ∈ stems, PyData.strOk z = true := by decide +kernel
theorem nmsC_len {hl : List (Pk × Sn)} {g : Sn} (h : ClOk hl g) : ∀ j, (nmsC g (hl.take j)).length ≤ 16 + 8 * j
  | 0 => by
    have h1 := nms_rws g
    have h2 := h.rw
    simp [nmsC]
    omega
  | j + 1 => by
    have ih := nmsC_len h j
    cases hx : hl[j]? with
    | none =>
      have : hl.length ≤ j := List.getElem?_eq_none_iff.mp hx
      rw [List.take_of_length_le (by omega)] at ih ⊢
      omega
    | some x =>
      have h1 := nms_rws x.2
      have h2 := (h.all x (List.mem_of_getElem? hx)).2.2.2
      rw [take_snoc hx, nmsC_snoc, List.length_append]
      omega
section
variable {P : Program} {w : World} {K : PySem.W.Frag} {mg : Str → Option Value} {base : Heap}
def spLaw (K : PySem.W.Frag) : Sp := fun vs H Q _ => ∃ (a : Addr) (ns : List Int), vs = [.ref a] ∧ SqL K H a (ns.map V.int) ∧ ns.length ≤ 63 ∧ ∀ H', Q (.bl true) H'
theorem ok_law {f : Addr} {fd : FuncData} (F : Fun K "law" "law" s_law f fd) (mSo : mg "sorted" = none) (mSe : mg "set" = none) (mTup : mg "tuple" = none) (mRev : mg "reversed" = none)
    (FPo : Fn P w K mg base 2 "_law_pool" (spPool K)) (FX : Fn P w K mg base 1 "_law_next" spNext) (FSt : Fn P w K mg base 2 "_law_state" spState) (FSe : Fn P w K mg base 6 "_law_sentence" (spSent 4)) (FNm : Fn P w K mg base 5 "_law_names" (spNamesL 4))
    (FSp : Fn P w K mg base 6 "span" (spSpan 4)) (FIP : Fn P w K mg base 2 "_law_is_pair" spIsPair) (FG : Fn P w K mg base 10 "_law_gives" (spGives 4)) (FC : Fn P w K mg base 7 "_law_claim" spClaim) (FD : Fn P w K mg base 9 "_law_doubted" spDoubted) (FDo : Fn P w K mg base 7 "doubts" spDoubts) (FT : Fn P w K mg base 1 "_law_is_texts" spIsTexts) : FnOk P w K mg base CX0 11 f fd ["_law_script"] (spLaw K) := by
  refine run_ok (ps := P_law) F sc_law so_law (fun vs H Q E h => by obtain ⟨a, ns, rfl, _⟩ := h; rfl) fun ff cdv A outer s H vs Q E hr h nd => ?_
  obtain ⟨sa, zs0, rfl, hS, hlen, q⟩ := h
  walk_at "sts"
  refine e_call (by exact FPo) (by exact hr) (by decide) ?_
  walk_at "sts"
  refine ⟨sa, zs0, 0, rfl, hS, fun p H1 e1 n1 hp => ?_⟩
  walk_at "sts"
  refine e_call (by exact FSt) (by exact hr) (by decide) ?_
  walk_at "sts"
  refine ⟨p, 6, rfl, hp, by decide, by decide, fun a wd tk ws H2 b2 hs2 => ?_⟩
  walk_at "sts"
  refine e_call (by exact FSe) (by exact hr) (by decide) ?_
  walk_at "sts"
  refine e_call (by exact FX) (by exact hr) (by decide) ?_
  walk_at "sts"
  refine ⟨p, 4, rfl, by decide, by decide, hs2.pl, fun d3 H3 d30 d31 b3 p3 => ?_⟩
  obtain ⟨d, rfl⟩ := Int.eq_ofNat_of_zero_le d30
  have hs3 := hs2.but b3 p3
  walk_at "sts"
  refine ⟨a, p, wd, tk, ws, [], 1 + d, by rw [show ((1 + d : Nat) : Int) = 1 + (d : Int) by omega], hs3, by omega, fun sv sn H4 b4 p4 hsv oks dps rwsn => ?_⟩
  have hs4 := hs3.but b4 p4
  have hr4 : 2 ^ (1 + d + 1) ≤ 32 := Nat.pow_le_pow_right (n := 2) (j := 5) (by decide) (by omega)
  walk_at "sts"
  refine e_call (by exact FNm) (by exact hr) (by decide) ?_
  walk_at "sts"
  refine ⟨sv, sn, rfl, hsv, by omega, by omega, fun l5 H5 e5 n5 h5 => ?_⟩
  walk_at "sts"
  refine ⟨by show 1 ≤ sizeLine; decide, fun l6 H6 e6 n6 h6 => ?_⟩
  have hnr := nms_rws sn
  refine o_cat2 (e6 _ _ h5) h6 (by simp only [sVs, List.length_map, List.length_cons, List.length_nil]; omega) fun l7 H7 e7 n7 h7 => ?_
  have e47 : Same H4 H7 := (e5.trans e6).trans e7
  have h7' : H7 l7 = some (.lst (sVs (nms sn ++ [("absent" : Str)]))) := by rw [h7]; simp [sVs]
  refine l_cons (s_forL (e_var ⟨l7, _, rfl, SqL.of h7', fun i σ H' => ∃ y5 y6, σ = [some (V.ref sa), some (.ref p), some (.ref a), some sv, some (.ref l7), y5, y6, none, none, none, none, none, none] ∧ Same H7 H', ⟨_, _, rfl, Same.refl H7⟩, fun i σ H' _ hW => ?_, fun i u σ H' hu hW => ?_, fun σ H' hW => ?_⟩))
  · obtain ⟨_, _, rfl, s8⟩ := hW
    exact SqL.of (s8 _ _ h7')
  · obtain ⟨y5, y6, rfl, s8⟩ := hW
    obtain ⟨z, hz, rfl⟩ := sVs_get hu
    have tsv := hsv.ts (Same.ts (e47.trans s8))
    walk_at "sts"
    refine e_call (by exact FSp) (by exact hr) (by decide) ?_
    walk_at "sts"
    refine ⟨sv, sn, z, rfl, tsv, oks, by omega, fun r H9 e9 p9 => ?_⟩
    obtain ⟨t9, rfl, h9⟩ := p9
    walk_at "sts"
    refine e_call (by exact FIP) (by exact hr) (by decide) ?_
    walk_at "sts"
    refine ⟨.ref t9, spanP sn z, rfl, ⟨t9, rfl, h9⟩, ⟨_, rfl, ?_⟩⟩
    refine iteF (w_or1 (t_cmp (e_var ?_)))
    refine e_call (by exact FG) (by exact hr) (by decide) ?_
    walk_at "sts"
    refine ⟨_, sv, z, none, sn, rfl, rfl, trivial, tsv.ts (Same.ts e9), oks, by omega, by omega, fun r2 H10 e10 p10 => ?_⟩
    obtain ⟨t10, rfl, h10⟩ := p10
    refine o_neD (by exact hr) (.tup (SqT.of (e10 _ _ h9)) (.cons (.int _) (.cons (.int _) .nil))) (.tup (SqT.of h10) (.cons (.int _) (.cons (.int _) .nil))) rfl rfl ⟨_, rfl, ?_⟩
    rw [show gv (none, sn) z = spanP sn z from rfl, SeqAt.eqv_refl _ rfl]
    refine iteF (l_nil (l_nil ⟨_, _, rfl, (s8.trans e9).trans e10⟩))
  obtain ⟨y5, y6, rfl, s8⟩ := hW
  have s48 := e47.trans s8
  have hs8 : StAt H' a p wd tk ws [] := hs4.bu (Bu.s s48) (hs4.pl.up s48) (s48 _ _ hs4.tl)
  walk_at "sts"
  refine e_call (by exact FC) (by exact hr) (by decide) ?_
  walk_at "sts"
  refine ⟨a, p, wd, tk, ws, rfl, hs8, fun c hl g H9 hc hk => ?_⟩
  obtain ⟨t, hvs, gvv, h1, h2, h3, h4⟩ := id hc.ex
  have hkr := hk.rw
  have hkd := hk.dp
  have hkl := hk.len
  walk_at "sts"
  refine e_call (by exact FNm) (by exact hr) (by decide) ?_
  walk_at "sts"
  refine ix_t (by exact SqT.of h1) rfl ?_
  walk_at "sts"
  refine ⟨gvv, g, rfl, h4, by omega, by omega, fun l10 H10 e10 n10 h10 => ?_⟩
  refine l_cons (s_forT ?_)
  walk_at "sts"
  refine ix_t (by exact SqT.of (e10 _ _ h1)) rfl ?_
  refine ⟨t, hvs, rfl, SqT.of (e10 _ _ h2), fun j σ H' => ∃ ln y8, σ = [some (V.ref sa), some (.ref p), some (.ref a), some sv, some (.ref ln), y5, y6, some (.ref c), y8, none, none, none, none] ∧ Same H9 H' ∧ H' ln = some (.lst (sVs (nmsC g (hl.take j)))), ⟨l10, _, rfl, e10, by rw [h10]; simp [nmsC]⟩, fun j σ H' _ hW => ?_, fun j u σ H' hu hW => ?_, fun σ H' hW => ?_⟩
  · obtain ⟨_, _, rfl, s11, _⟩ := hW
    exact SqT.of (s11 _ _ h2)
  · obtain ⟨ln, y8, rfl, s11, hln⟩ := hW
    obtain ⟨x, hx, t3, nm, m, av, rfl, g1, g2, g3⟩ := h3.get hu
    obtain ⟨ok1, ok2, ok3, ok4⟩ := hk.all x (List.mem_of_getElem? hx)
    have hj : j < hl.length := (List.getElem?_eq_some_iff.mp hx).1
    have hnl := nmsC_len hk j
    have hnx := nms_rws x.2
    walk_at "sts"
    refine e_call (by exact FNm) (by exact hr) (by decide) ?_
    walk_at "sts"
    refine ix_t (by exact SqT.of (s11 _ _ g1)) rfl ?_
    walk_at "sts"
    refine ⟨av, x.2, rfl, g3.ts (Same.ts s11), by omega, by omega, fun l12 H12 e12 n12 h12 => ?_⟩
    refine o_cat2 (e12 _ _ hln) h12 (by simp only [sVs, List.length_map]; omega) fun l13 H13 e13 n13 h13 => ?_
    refine l_nil ⟨l13, some (.ref t3), rfl, (s11.trans e12).trans e13, ?_⟩
    rw [h13, take_snoc hx, nmsC_snoc]
    simp [sVs]
  obtain ⟨ln, y8, rfl, s11, hln⟩ := hW
  have hnl := nmsC_len hk hvs.length
  rw [h3.len] at hln hnl
  rw [List.take_length] at hln hnl
  have hc11 := hc.ts (Same.ts s11)
  have hlen40 : hl.length ≤ 5 := hk.len
  refine l_cons (s_lcLf (by exact bk_law0) ?_)
  refine e_callB (x := "sorted") (by assumption) b_sorted (a_cons (e_callTy (x := "set") (by assumption) b_set (a_cons (e_var (a_nil ?_)))))
  refine c_setTx rfl (by exact SqL.of hln) (Nat.lt_of_le_of_lt (show (nmsC g hl).length + 1 ≤ 100 by omega) (by decide)) fun p1 np1 => ?_
  have hul := uniqL_len (nmsC g hl)
  refine a_nil (c_sortedTx rfl upd_same (by omega) fun ys l14 H14 pm hso e14 n14 h14 => ?_)
  have s14 : Same H9 H14 := s11.trans ((updS (Same.refl _) np1).trans e14)
  have hc14 := hc.ts (Same.ts s14)
  have yl : ys.length ≤ 60 := by rw [pm.length_eq]; omega
  refine ⟨l14, _, rfl, SqL.of h14, fun D nD => ?_⟩
  have hDl : D ≠ l14 := fun e => by subst e; rw [h14] at nD; cases nD
  refine ⟨fun i H2 => H2 D = some (.lst (sVs ((ys.take i).filter fun z => !bal g z (totL hl z)))) ∧ ∀ b o, b ≠ D → H14 b = some o → H2 b = some o, ⟨upd_same, fun b o nb e => by rw [upd_ne nb]; exact e⟩, fun i H2 _ hW => SqL.of (hW.2 l14 _ hDl.symm h14), fun i u H2 hu hW => ?_, fun H15 hW => ?_⟩
  · obtain ⟨k1, k2⟩ := hW
    obtain ⟨z, hz, rfl⟩ := sVs_get hu
    have ts2 : TS H14 H2 := fun a xs e => k2 a _ (fun y => by subst y; rw [nD] at e; cases e) e
    have hfl : ((ys.take i).filter fun z => !bal g z (totL hl z)).length ≤ ys.length := Nat.le_trans (List.length_filter_le _ _) (by rw [List.length_take]; exact Nat.min_le_right _ _)
    intro s0 H0 C cl fp IB
    refine t_val (b_call (by exact FD) (by exact hr) (by decide) ?_)
    refine a_cons (b_var (a_cons (b_var (a_nil ?_))))
    refine ⟨c, z, hl, g, rfl, hc14.ts ts2, hk, fun H3 e3 => ⟨_, rfl, ?_⟩⟩
    cases hb : bal g z (totL hl z) with
    | false =>
      refine iteT ?_
      intro s0 H0 C cl fp IB
      refine b_var ⟨_, e3 _ _ k1, by simp only [sVs, List.length_map]; exact Nat.lt_of_lt_of_le (show _ < 100 by omega) (by decide), ?_, fun b o nb e => by rw [upd_ne nb]; exact e3 _ _ (k2 b o nb e)⟩
      rw [upd_same, take_snoc hz, List.filter_append]
      simp [sVs, hb]
    | true =>
      refine iteF ⟨?_, fun b o nb e => e3 _ _ (k2 b o nb e)⟩
      rw [take_snoc hz, List.filter_append]
      simp only [List.filter_cons, hb, List.filter_nil, Bool.not_true, Bool.false_eq_true, if_false, List.append_nil]
      exact e3 _ _ k1
  obtain ⟨k1, k2⟩ := hW
  rw [List.length_map, List.take_length] at k1
  generalize hdue : (ys.filter fun z => !bal g z (totL hl z)) = due at k1
  have s15 : Same H9 H15 := fun b o e => k2 b o (fun y => by subst y; have := s14 _ _ e; rw [nD] at this; cases this) (s14 _ _ e)
  have hc15 := hc.ts (Same.ts s15)
  have dpw : due.Pairwise leS := by rw [← hdue]; exact (sorted_pw hso).filter _
  have dnd : due.Nodup := by rw [← hdue]; exact (pm.nodup_iff.mpr (uniqL_nd _)).filter _
  have dmem : ∀ z, z ∈ due ↔ z ∈ nmsC g hl ∧ bal g z (totL hl z) = false := fun z => by
    rw [← hdue, List.mem_filter, pm.mem_iff, uniqL_mem]
    simp
  have dok : ∀ z ∈ due, PyData.strOk z = true := fun z hz => stems_ok z (nmsC_ok hk z ((dmem z).mp hz).1)
  have dsh := strs_sh dok
  have dlay : (PyData.list (due.map PyData.str)).canLay0 = true := by simp only [PyData.canLay0]; exact str_lay due dok
  have dl : due.length ≤ 60 := by rw [← hdue]; exact Nat.le_trans (List.length_filter_le _ _) yl
  clear hdue
  -- told once
  walk_at "sts"
  refine e_call (by exact FDo) (by exact hr) (by decide) ?_
  walk_at "sts"
  refine ⟨c, hl, g, rfl, hc15, hk, fun l16 ys2 H16 e16 n16 h16 so2 nd2 mem2 => ?_⟩
  have ey2 : ys2 = due := pw_uniq (sorted_pw so2) dpw nd2 dnd fun z => (mem2 z).trans (dmem z).symm
  subst ey2
  walk_at "sts"
  refine e_call (by exact FT) (by exact hr) (by decide) ?_
  walk_at "sts"
  refine ⟨l16, _, rfl, h16, fun H17 e17 => ⟨_, rfl, ?_⟩⟩
  refine iteF (w_or1 (t_cmp (e_var (e_var ?_))))
  have h16' := e17 _ _ h16
  have hD17 : H17 D = some (.lst (sVs ys2)) := e17 _ _ (e16 _ _ k1)
  refine o_neD (by exact hr) (.lst (SqL.of h16') (str_dp ys2)) (.lst (SqL.of hD17) (str_dp ys2)) dsh dsh ⟨_, rfl, ?_⟩
  rw [SeqAt.eqv_refl _ dlay]
  refine iteF (l_nil ?_)
  have l16D : l16 ≠ D := fun e => by subst e; rw [k1] at n16; cases n16
  refine l_cons (s_expr (e_app (e_var ⟨l16, _, rfl, SqL.of h16', e_str ⟨_, h16', ?_, ?_⟩⟩)))
  · simp only [sVs, List.length_map]
    exact Nat.lt_of_lt_of_le (show ys2.length < 100 by omega) (by decide)
  have tsA : TS H17 (upd H17 l16 (.lst (sVs ys2 ++ [.str "spoilt"]))) := TS.upd h16'
  have hDA : (upd H17 l16 (.lst (sVs ys2 ++ [.str "spoilt"]))) D = some (.lst (sVs ys2)) := by rw [upd_ne l16D.symm]; exact hD17
  have hcA : ClAt (upd H17 l16 (.lst (sVs ys2 ++ [.str "spoilt"]))) c hl g := hc15.ts (((Same.ts e16).trans (Same.ts e17)).trans tsA)
  generalize upd H17 l16 (.lst (sVs ys2 ++ [.str "spoilt"])) = HA at *
  obtain ⟨tA, hvA, gA, a1, a2, a3, a4⟩ := id hcA.ex
  -- turned round
  refine l_cons (s_set (e_tup (a_cons (e_tupRev (by assumption) (by assumption) ?_))))
  walk_at "sts"
  refine ix_t (by exact SqT.of a1) rfl ⟨tA, hvA, rfl, SqT.of a2, fun t18 H18 e18 n18 h18 => ?_⟩
  walk_at "sts"
  refine ix_t (by exact SqT.of (e18 _ _ a1)) rfl ?_
  walk_at "sts"
  refine ⟨by show 2 ≤ sizeLine; decide, fun c19 H19 e19 n19 h19 => ?_⟩
  have eA19 := e18.trans e19
  have hc19 : ClAt H19 c19 hl.reverse g := ⟨⟨t18, hvA.reverse, gA, h19, e19 _ _ h18, (a3.ts (Same.ts eA19)).rev, a4.ts (Same.ts eA19)⟩⟩
  walk_at "sts"
  refine e_call (by exact FDo) (by exact hr) (by decide) ?_
  walk_at "sts"
  refine ⟨c19, hl.reverse, g, rfl, hc19, hk.rev, fun l20 ys3 H20 e20 n20 h20 so3 nd3 mem3 => ?_⟩
  have ey3 : ys3 = ys2 := pw_uniq (sorted_pw so3) dpw nd3 dnd fun z => by rw [mem3, totL_rev, nmsC_rev, dmem]
  subst ey3
  walk_at "sts"
  refine e_call (by exact FT) (by exact hr) (by decide) ?_
  walk_at "sts"
  refine ⟨l20, _, rfl, h20, fun H21 e21 => ⟨_, rfl, ?_⟩⟩
  refine iteF (w_or1 (t_cmp (e_var (e_var ?_))))
  have h20' := e21 _ _ h20
  have eA21 := (eA19.trans e20).trans e21
  have hD21 : H21 D = some (.lst (sVs ys3)) := eA21 _ _ hDA
  refine o_neD (by exact hr) (.lst (SqL.of h20') (str_dp ys3)) (.lst (SqL.of hD21) (str_dp ys3)) dsh dsh ⟨_, rfl, ?_⟩
  rw [SeqAt.eqv_refl _ dlay]
  refine iteF (l_nil ?_)
  have l20D : l20 ≠ D := fun e => by subst e; rw [eA19 _ _ hDA] at n20; cases n20
  refine l_cons (s_expr (e_clear (e_var ⟨l20, _, rfl, h20', ?_⟩)))
  have tsC : TS H21 (upd H21 l20 (.lst [])) := TS.upd h20'
  have hDC : (upd H21 l20 (.lst [])) D = some (.lst (sVs ys3)) := by rw [upd_ne l20D.symm]; exact hD21
  have hcC : ClAt (upd H21 l20 (.lst [])) c hl g := (hcA.ts (Same.ts eA21)).ts tsC
  generalize upd H21 l20 (.lst []) = HC at *
  -- the last time
  walk_at "sts"
  refine e_call (by exact FDo) (by exact hr) (by decide) ?_
  walk_at "sts"
  refine ⟨c, hl, g, rfl, hcC, hk, fun l22 ys4 H22 e22 n22 h22 so4 nd4 mem4 => ?_⟩
  have ey4 : ys4 = ys3 := pw_uniq (sorted_pw so4) dpw nd4 dnd fun z => (mem4 z).trans (dmem z).symm
  subst ey4
  walk_at "sts"
  refine e_call (by exact FT) (by exact hr) (by decide) ?_
  walk_at "sts"
  refine ⟨l22, _, rfl, h22, fun H23 e23 => ⟨_, rfl, ?_⟩⟩
  refine iteT (e_one (e_cmp (e_var (e_var ?_))))
  refine o_eqD (by exact hr) (.lst (SqL.of (e23 _ _ h22)) (str_dp ys4)) (.lst (SqL.of (e23 _ _ (e22 _ _ hDC))) (str_dp ys4)) dsh dsh ?_
  rw [SeqAt.eqv_refl _ dlay]
  exact q H23
end

section
theorem all_mk {l : PySem.W.OpenLaw} {w : World} {K : PySem.W.Frag} {h : Heap} {mg : Str → Option Value} {fa : Addr} (X : K.In h) (G : h.Ns mainGlobals mg) (hfa : mg "law" = some (.ref fa))
    {f0 : Addr} {od0 an0 : Option Addr} {sl0 : Array (Option Value)} {oc0 kV0 dc0 pm0 cd0 ct0 : Value}
    {f1 : Addr} {od1 an1 : Option Addr} {sl1 : Array (Option Value)} {oc1 kV1 dc1 pm1 cd1 ct1 : Value}
    {f2 : Addr} {od2 an2 : Option Addr} {sl2 : Array (Option Value)} {oc2 kV2 dc2 pm2 cd2 ct2 : Value}
    {f3 : Addr} {od3 an3 : Option Addr} {sl3 : Array (Option Value)} {oc3 kV3 dc3 pm3 cd3 ct3 : Value}
    {f4 : Addr} {od4 an4 : Option Addr} {sl4 : Array (Option Value)} {oc4 kV4 dc4 pm4 cd4 ct4 : Value}
    {f5 : Addr} {od5 an5 : Option Addr} {sl5 : Array (Option Value)} {oc5 kV5 dc5 pm5 cd5 ct5 : Value}
    {f6 : Addr} {od6 an6 : Option Addr} {sl6 : Array (Option Value)} {oc6 kV6 dc6 pm6 cd6 ct6 : Value}
    {f7 : Addr} {od7 an7 : Option Addr} {sl7 : Array (Option Value)} {oc7 kV7 dc7 pm7 cd7 ct7 : Value}
    {f8 : Addr} {od8 an8 : Option Addr} {sl8 : Array (Option Value)} {oc8 kV8 dc8 pm8 cd8 ct8 : Value}
    {f9 : Addr} {od9 an9 : Option Addr} {sl9 : Array (Option Value)} {oc9 kV9 dc9 pm9 cd9 ct9 : Value}
    {f10 : Addr} {od10 an10 : Option Addr} {sl10 : Array (Option Value)} {oc10 kV10 dc10 pm10 cd10 ct10 : Value}
    {f11 : Addr} {od11 an11 : Option Addr} {sl11 : Array (Option Value)} {oc11 kV11 dc11 pm11 cd11 ct11 : Value}
    {f12 : Addr} {od12 an12 : Option Addr} {sl12 : Array (Option Value)} {oc12 kV12 dc12 pm12 cd12 ct12 : Value}
    {f13 : Addr} {od13 an13 : Option Addr} {sl13 : Array (Option Value)} {oc13 kV13 dc13 pm13 cd13 ct13 : Value}
    {f14 : Addr} {od14 an14 : Option Addr} {sl14 : Array (Option Value)} {oc14 kV14 dc14 pm14 cd14 ct14 : Value}
    {f15 : Addr} {od15 an15 : Option Addr} {sl15 : Array (Option Value)} {oc15 kV15 dc15 pm15 cd15 ct15 : Value}
    {f16 : Addr} {od16 an16 : Option Addr} {sl16 : Array (Option Value)} {oc16 kV16 dc16 pm16 cd16 ct16 : Value}
    {f17 : Addr} {od17 an17 : Option Addr} {sl17 : Array (Option Value)} {oc17 kV17 dc17 pm17 cd17 ct17 : Value}
    {f18 : Addr} {od18 an18 : Option Addr} {sl18 : Array (Option Value)} {oc18 kV18 dc18 pm18 cd18 ct18 : Value}
    {f19 : Addr} {od19 an19 : Option Addr} {sl19 : Array (Option Value)} {oc19 kV19 dc19 pm19 cd19 ct19 : Value}
    {f20 : Addr} {od20 an20 : Option Addr} {sl20 : Array (Option Value)} {oc20 kV20 dc20 pm20 cd20 ct20 : Value}
    {f21 : Addr} {od21 an21 : Option Addr} {sl21 : Array (Option Value)} {oc21 kV21 dc21 pm21 cd21 ct21 : Value}
    {f22 : Addr} {od22 an22 : Option Addr} {sl22 : Array (Option Value)} {oc22 kV22 dc22 pm22 cd22 ct22 : Value}
    {f23 : Addr} {od23 an23 : Option Addr} {sl23 : Array (Option Value)} {oc23 kV23 dc23 pm23 cd23 ct23 : Value}
    (a0 : PySem.W.nsIn K mainGlobals "names_within" = some (some (.ref f0)))
    (l0 : K.lookup f0 = some ⟨oc0, od0, .func (PySem.W.fnOf "names_within" "names_within" (defArgs s_names_within) (defBody s_names_within) (defScope s_names_within) .none kV0 dc0 pm0 an0 cd0 ct0), sl0⟩)
    (c0 : PySem.W.codeIn K cd0 "names_within" = true)
    (k0 : PySem.W.keepIn K (.ref f0) = true)
    (a1 : PySem.W.nsIn K mainGlobals "words_in" = some (some (.ref f1)))
    (l1 : K.lookup f1 = some ⟨oc1, od1, .func (PySem.W.fnOf "words_in" "words_in" (defArgs s_words_in) (defBody s_words_in) (defScope s_words_in) .none kV1 dc1 pm1 an1 cd1 ct1), sl1⟩)
    (c1 : PySem.W.codeIn K cd1 "words_in" = true)
    (k1 : PySem.W.keepIn K (.ref f1) = true)
    (a2 : PySem.W.nsIn K mainGlobals "span" = some (some (.ref f2)))
    (l2 : K.lookup f2 = some ⟨oc2, od2, .func (PySem.W.fnOf "span" "span" (defArgs s_span) (defBody s_span) (defScope s_span) .none kV2 dc2 pm2 an2 cd2 ct2), sl2⟩)
    (c2 : PySem.W.codeIn K cd2 "span" = true)
    (k2 : PySem.W.keepIn K (.ref f2) = true)
    (a3 : PySem.W.nsIn K mainGlobals "span_of_word" = some (some (.ref f3)))
    (l3 : K.lookup f3 = some ⟨oc3, od3, .func (PySem.W.fnOf "span_of_word" "span_of_word" (defArgs s_span_of_word) (defBody s_span_of_word) (defScope s_span_of_word) .none kV3 dc3 pm3 an3 cd3 ct3), sl3⟩)
    (c3 : PySem.W.codeIn K cd3 "span_of_word" = true)
    (k3 : PySem.W.keepIn K (.ref f3) = true)
    (a4 : PySem.W.nsIn K mainGlobals "span_in" = some (some (.ref f4)))
    (l4 : K.lookup f4 = some ⟨oc4, od4, .func (PySem.W.fnOf "span_in" "span_in" (defArgs s_span_in) (defBody s_span_in) (defScope s_span_in) .none kV4 dc4 pm4 an4 cd4 ct4), sl4⟩)
    (c4 : PySem.W.codeIn K cd4 "span_in" = true)
    (k4 : PySem.W.keepIn K (.ref f4) = true)
    (a5 : PySem.W.nsIn K mainGlobals "joined" = some (some (.ref f5)))
    (l5 : K.lookup f5 = some ⟨oc5, od5, .func (PySem.W.fnOf "joined" "joined" (defArgs s_joined) (defBody s_joined) (defScope s_joined) .none kV5 dc5 pm5 an5 cd5 ct5), sl5⟩)
    (c5 : PySem.W.codeIn K cd5 "joined" = true)
    (k5 : PySem.W.keepIn K (.ref f5) = true)
    (a6 : PySem.W.nsIn K mainGlobals "doubts" = some (some (.ref f6)))
    (l6 : K.lookup f6 = some ⟨oc6, od6, .func (PySem.W.fnOf "doubts" "doubts" (defArgs s_doubts) (defBody s_doubts) (defScope s_doubts) .none kV6 dc6 pm6 an6 cd6 ct6), sl6⟩)
    (c6 : PySem.W.codeIn K cd6 "doubts" = true)
    (k6 : PySem.W.keepIn K (.ref f6) = true)
    (a7 : PySem.W.nsIn K mainGlobals "is_balanced" = some (some (.ref f7)))
    (l7 : K.lookup f7 = some ⟨oc7, od7, .func (PySem.W.fnOf "is_balanced" "is_balanced" (defArgs s_is_balanced) (defBody s_is_balanced) (defScope s_is_balanced) .none kV7 dc7 pm7 an7 cd7 ct7), sl7⟩)
    (c7 : PySem.W.codeIn K cd7 "is_balanced" = true)
    (k7 : PySem.W.keepIn K (.ref f7) = true)
    (a8 : PySem.W.nsIn K mainGlobals "_law_cell" = some (some (.ref f8)))
    (l8 : K.lookup f8 = some ⟨oc8, od8, .func (PySem.W.fnOf "_law_cell" "_law_cell" (defArgs s_cell) (defBody s_cell) (defScope s_cell) .none kV8 dc8 pm8 an8 cd8 ct8), sl8⟩)
    (c8 : PySem.W.codeIn K cd8 "_law_cell" = true)
    (k8 : PySem.W.keepIn K (.ref f8) = true)
    (a9 : PySem.W.nsIn K mainGlobals "_law_pool" = some (some (.ref f9)))
    (l9 : K.lookup f9 = some ⟨oc9, od9, .func (PySem.W.fnOf "_law_pool" "_law_pool" (defArgs s_pool) (defBody s_pool) (defScope s_pool) .none kV9 dc9 pm9 an9 cd9 ct9), sl9⟩)
    (c9 : PySem.W.codeIn K cd9 "_law_pool" = true)
    (k9 : PySem.W.keepIn K (.ref f9) = true)
    (a10 : PySem.W.nsIn K mainGlobals "_law_next" = some (some (.ref f10)))
    (l10 : K.lookup f10 = some ⟨oc10, od10, .func (PySem.W.fnOf "_law_next" "_law_next" (defArgs s_next) (defBody s_next) (defScope s_next) .none kV10 dc10 pm10 an10 cd10 ct10), sl10⟩)
    (c10 : PySem.W.codeIn K cd10 "_law_next" = true)
    (k10 : PySem.W.keepIn K (.ref f10) = true)
    (a11 : PySem.W.nsIn K mainGlobals "_law_name" = some (some (.ref f11)))
    (l11 : K.lookup f11 = some ⟨oc11, od11, .func (PySem.W.fnOf "_law_name" "_law_name" (defArgs s_name) (defBody s_name) (defScope s_name) .none kV11 dc11 pm11 an11 cd11 ct11), sl11⟩)
    (c11 : PySem.W.codeIn K cd11 "_law_name" = true)
    (k11 : PySem.W.keepIn K (.ref f11) = true)
    (a12 : PySem.W.nsIn K mainGlobals "_law_state" = some (some (.ref f12)))
    (l12 : K.lookup f12 = some ⟨oc12, od12, .func (PySem.W.fnOf "_law_state" "_law_state" (defArgs s_state) (defBody s_state) (defScope s_state) .none kV12 dc12 pm12 an12 cd12 ct12), sl12⟩)
    (c12 : PySem.W.codeIn K cd12 "_law_state" = true)
    (k12 : PySem.W.keepIn K (.ref f12) = true)
    (a13 : PySem.W.nsIn K mainGlobals "_law_sentence" = some (some (.ref f13)))
    (l13 : K.lookup f13 = some ⟨oc13, od13, .func (PySem.W.fnOf "_law_sentence" "_law_sentence" (defArgs s_sentence) (defBody s_sentence) (defScope s_sentence) .none kV13 dc13 pm13 an13 cd13 ct13), sl13⟩)
    (c13 : PySem.W.codeIn K cd13 "_law_sentence" = true)
    (k13 : PySem.W.keepIn K (.ref f13) = true)
    (a14 : PySem.W.nsIn K mainGlobals "_law_is_number" = some (some (.ref f14)))
    (l14 : K.lookup f14 = some ⟨oc14, od14, .func (PySem.W.fnOf "_law_is_number" "_law_is_number" (defArgs s_is_number) (defBody s_is_number) (defScope s_is_number) .none kV14 dc14 pm14 an14 cd14 ct14), sl14⟩)
    (c14 : PySem.W.codeIn K cd14 "_law_is_number" = true)
    (k14 : PySem.W.keepIn K (.ref f14) = true)
    (a15 : PySem.W.nsIn K mainGlobals "_law_legs" = some (some (.ref f15)))
    (l15 : K.lookup f15 = some ⟨oc15, od15, .func (PySem.W.fnOf "_law_legs" "_law_legs" (defArgs s_legs) (defBody s_legs) (defScope s_legs) .none kV15 dc15 pm15 an15 cd15 ct15), sl15⟩)
    (c15 : PySem.W.codeIn K cd15 "_law_legs" = true)
    (k15 : PySem.W.keepIn K (.ref f15) = true)
    (a16 : PySem.W.nsIn K mainGlobals "_law_names" = some (some (.ref f16)))
    (l16 : K.lookup f16 = some ⟨oc16, od16, .func (PySem.W.fnOf "_law_names" "_law_names" (defArgs s_names) (defBody s_names) (defScope s_names) .none kV16 dc16 pm16 an16 cd16 ct16), sl16⟩)
    (c16 : PySem.W.codeIn K cd16 "_law_names" = true)
    (k16 : PySem.W.keepIn K (.ref f16) = true)
    (a17 : PySem.W.nsIn K mainGlobals "_law_leg" = some (some (.ref f17)))
    (l17 : K.lookup f17 = some ⟨oc17, od17, .func (PySem.W.fnOf "_law_leg" "_law_leg" (defArgs s_leg) (defBody s_leg) (defScope s_leg) .none kV17 dc17 pm17 an17 cd17 ct17), sl17⟩)
    (c17 : PySem.W.codeIn K cd17 "_law_leg" = true)
    (k17 : PySem.W.keepIn K (.ref f17) = true)
    (a18 : PySem.W.nsIn K mainGlobals "_law_gives" = some (some (.ref f18)))
    (l18 : K.lookup f18 = some ⟨oc18, od18, .func (PySem.W.fnOf "_law_gives" "_law_gives" (defArgs s_gives) (defBody s_gives) (defScope s_gives) .none kV18 dc18 pm18 an18 cd18 ct18), sl18⟩)
    (c18 : PySem.W.codeIn K cd18 "_law_gives" = true)
    (k18 : PySem.W.keepIn K (.ref f18) = true)
    (a19 : PySem.W.nsIn K mainGlobals "_law_doubted" = some (some (.ref f19)))
    (l19 : K.lookup f19 = some ⟨oc19, od19, .func (PySem.W.fnOf "_law_doubted" "_law_doubted" (defArgs s_doubted) (defBody s_doubted) (defScope s_doubted) .none kV19 dc19 pm19 an19 cd19 ct19), sl19⟩)
    (c19 : PySem.W.codeIn K cd19 "_law_doubted" = true)
    (k19 : PySem.W.keepIn K (.ref f19) = true)
    (a20 : PySem.W.nsIn K mainGlobals "_law_claim" = some (some (.ref f20)))
    (l20 : K.lookup f20 = some ⟨oc20, od20, .func (PySem.W.fnOf "_law_claim" "_law_claim" (defArgs s_claim) (defBody s_claim) (defScope s_claim) .none kV20 dc20 pm20 an20 cd20 ct20), sl20⟩)
    (c20 : PySem.W.codeIn K cd20 "_law_claim" = true)
    (k20 : PySem.W.keepIn K (.ref f20) = true)
    (a21 : PySem.W.nsIn K mainGlobals "_law_is_pair" = some (some (.ref f21)))
    (l21 : K.lookup f21 = some ⟨oc21, od21, .func (PySem.W.fnOf "_law_is_pair" "_law_is_pair" (defArgs s_is_pair) (defBody s_is_pair) (defScope s_is_pair) .none kV21 dc21 pm21 an21 cd21 ct21), sl21⟩)
    (c21 : PySem.W.codeIn K cd21 "_law_is_pair" = true)
    (k21 : PySem.W.keepIn K (.ref f21) = true)
    (a22 : PySem.W.nsIn K mainGlobals "_law_is_texts" = some (some (.ref f22)))
    (l22 : K.lookup f22 = some ⟨oc22, od22, .func (PySem.W.fnOf "_law_is_texts" "_law_is_texts" (defArgs s_is_texts) (defBody s_is_texts) (defScope s_is_texts) .none kV22 dc22 pm22 an22 cd22 ct22), sl22⟩)
    (c22 : PySem.W.codeIn K cd22 "_law_is_texts" = true)
    (k22 : PySem.W.keepIn K (.ref f22) = true)
    (a23 : PySem.W.nsIn K mainGlobals "law" = some (some (.ref f23)))
    (l23 : K.lookup f23 = some ⟨oc23, od23, .func (PySem.W.fnOf "law" "law" (defArgs s_law) (defBody s_law) (defScope s_law) .none kV23 dc23 pm23 an23 cd23 ct23), sl23⟩)
    (c23 : PySem.W.codeIn K cd23 "law" = true)
    (k23 : PySem.W.keepIn K (.ref f23) = true)
    (z_isinstance : PySem.W.nsIn K mainGlobals "isinstance" = some none)
    (z_int : PySem.W.nsIn K mainGlobals "int" = some none)
    (z_bool : PySem.W.nsIn K mainGlobals "bool" = some none)
    (z_str : PySem.W.nsIn K mainGlobals "str" = some none)
    (z_tuple : PySem.W.nsIn K mainGlobals "tuple" = some none)
    (z_list : PySem.W.nsIn K mainGlobals "list" = some none)
    (z_len : PySem.W.nsIn K mainGlobals "len" = some none)
    (z_range : PySem.W.nsIn K mainGlobals "range" = some none)
    (z_abs : PySem.W.nsIn K mainGlobals "abs" = some none)
    (z_max : PySem.W.nsIn K mainGlobals "max" = some none)
    (z_min : PySem.W.nsIn K mainGlobals "min" = some none)
    (z_sorted : PySem.W.nsIn K mainGlobals "sorted" = some none)
    (z_set : PySem.W.nsIn K mainGlobals "set" = some none)
    (z_reversed : PySem.W.nsIn K mainGlobals "reversed" = some none) :
    ∃ fd : FuncData, (∀ (s : Shared) (v : Value), BindsTo s fd ⟨[v], []⟩ [("_law_script", v)]) ∧ ∀ base : Heap, K.In base → base.Ns mainGlobals mg → FnOk l.prog w K mg base CX0 11 fa fd ["_law_script"] (spLaw K) := by
  have e := hfa.symm.trans (PySem.W.mg_of X G a23)
  cases e
  have mIs := (PySem.W.mg_none_of X G z_isinstance)
  have mInt := (PySem.W.mg_none_of X G z_int)
  have mBool := (PySem.W.mg_none_of X G z_bool)
  have mStr := (PySem.W.mg_none_of X G z_str)
  have mTup := (PySem.W.mg_none_of X G z_tuple)
  have mList := (PySem.W.mg_none_of X G z_list)
  have mLen := (PySem.W.mg_none_of X G z_len)
  have mR := (PySem.W.mg_none_of X G z_range)
  have mAbs := (PySem.W.mg_none_of X G z_abs)
  have mMax := (PySem.W.mg_none_of X G z_max)
  have mMin := (PySem.W.mg_none_of X G z_min)
  have FL := fun_mk (st := s_law) l23 c23 k23
  refine ⟨PySem.W.fnOf "law" "law" (defArgs s_law) (defBody s_law) (defScope s_law) .none kV23 dc23 pm23 an23 cd23 ct23, fun s v => .of_eq rfl, fun base _ _ => ?_⟩
  have Fcell : Fn l.prog w K mg base 1 "_law_cell" (spCell K) := ok_cell (top_mk X G a8 l8 c8 k8) mLen mAbs
  have Fpool := ok_pool (top_mk X G a9 l9 c9 k9) Fcell mInt
  have Fnext : Fn l.prog w K mg base 1 "_law_next" spNext := ok_next (top_mk X G a10 l10 c10 k10) mInt
  have Fname := ok_name (top_mk X G a11 l11 c11 k11) mLen mStr mR Fnext
  have Fstate := ok_state (top_mk X G a12 l12 c12 k12) mInt mR Fnext
  have Fsent := ok_sent (top_mk X G a13 l13 c13 k13) mLen Fnext 4
  have Fclaim := ok_claim (top_mk X G a20 l20 c20 k20) mLen mInt mTup mR Fnext Fname Fsent
  have Fnw : Fn l.prog w K mg base 1 "names_within" spNames := ok_names_within (top_mk X G a0 l0 c0 k0)
  have Fwin := ok_words_in (top_mk X G a1 l1 c1 k1) mList Fnw
  have FW : Fn l.prog w K mg base 1 "span_of_word" spWordOf := ok_wordof (top_mk X G a3 l3 c3 k3)
  have FI : Fn l.prog w K mg base 1 "span_in" spSpanIn := ok_spanin (top_mk X G a4 l4 c4 k4) mMin mMax
  have FJ : Fn l.prog w K mg base 1 "joined" spJoined := ok_joined (top_mk X G a5 l5 c5 k5)
  have FS := ok_span (top_mk X G a2 l2 c2 k2) mMin mMax FW FI
  have FB := ok_bal (top_mk X G a7 l7 c7 k7) FW FI FJ FS
  have Fdo := ok_doubts (top_mk X G a6 l6 c6 k6) (PySem.W.mg_none_of X G z_sorted) Fwin FI FJ (FS 3) (FB 3)
  have FLg : ∀ n, Fn l.prog w K mg base (n + 1) "_law_legs" (spLegs n) := ok_legs (top_mk X G a15 l15 c15 k15)
  have FNm : Fn l.prog w K mg base 5 "_law_names" (spNamesL 4) := ok_names (top_mk X G a16 l16 c16 k16) 4
  have TG := (top_mk X G a18 l18 c18 k18)
  have TL := (top_mk X G a17 l17 c17 k17)
  have G0 := ok_gives 0 TG mMin mMax (FLg 0) (ok_leg 0 TL mInt fun m h => by cases h)
  have G1 := ok_gives 1 TG mMin mMax (FLg 1) (ok_leg 1 TL mInt fun m h => by cases h; exact G0)
  have G2 := ok_gives 2 TG mMin mMax (FLg 2) (ok_leg 2 TL mInt fun m h => by cases h; exact G1)
  have G3 := ok_gives 3 TG mMin mMax (FLg 3) (ok_leg 3 TL mInt fun m h => by cases h; exact G2)
  have G4 := ok_gives 4 TG mMin mMax (FLg 4) (ok_leg 4 TL mInt fun m h => by cases h; exact G3)
  have Fdd := ok_doubted (top_mk X G a19 l19 c19 k19) mInt (FLg 3) G3
  have Fnum : Fn l.prog w K mg base 1 "_law_is_number" spNum := ok_num (top_mk X G a14 l14 c14 k14) mIs mInt mBool
  have Fip := ok_ispair (top_mk X G a21 l21 c21 k21) mIs mTup mLen Fnum
  have Fit : Fn l.prog w K mg base 1 "_law_is_texts" spIsTexts := ok_istexts (top_mk X G a22 l22 c22 k22) mIs mList mStr
  exact ok_law FL (PySem.W.mg_none_of X G z_sorted) (PySem.W.mg_none_of X G z_set) mTup (PySem.W.mg_none_of X G z_reversed) Fpool Fnext Fstate Fsent FNm (FS 4) Fip G4 Fclaim Fdd Fdo Fit
theorem walk {l : PySem.W.OpenLaw} {q : Program} {loose : List Str} {XP : (Str → Option Value) → Heap → Prop} {YP : World → Heap → Prop} {d : DefRec} {K : Params → PySem.W.Frag} (hn : l.most = some 63) (hdf : d.params.defaults = [])
    (hY : ∀ (w : World) (h : Heap), YP w h → (K w.params).In h)
    (F : ∀ (w : World) (mg : Str → Option Value) (fa : Addr) (h : Heap), (K w.params).In h → h.Ns mainGlobals mg → mg d.name = some (.ref fa) →
      ∃ fd : FuncData, (∀ (s : Shared) (u : Value), BindsTo s fd ⟨[u], []⟩ [("_law_script", u)]) ∧ ∀ base : Heap, (K w.params).In base → base.Ns mainGlobals mg → FnOk l.prog w (K w.params) mg base CX0 11 fa fd ["_law_script"] (spLaw (K w.params))) :
    PySem.W.WalkO q loose XP YP l.row.toRowW d [] (fun f vs => PySem.call f vs) :=
  L2.walk_of (n := 63) (k := 11) (x := "_law_script") (CX := fun _ => CX0) (sp := fun w => spLaw (K w.params)) hn (by decide) hdf ⟨rfl, by decide, by decide⟩ hY F (fun _ _ a ns hl _ hS => ⟨a, ns, rfl, hS, hl, fun _ => rfl⟩) fun _ _ _ _ _ z => z
end
end K20
open PySem PySem.W PyProof.Rows
set_option maxRecDepth 100000 in
set_option maxHeartbeats 0 in
theorem PySem.Challenge.cw_heldproofs_k20_spans_and_doubts_holds : PySem.Challenge.rw_heldproofs_k20_spans_and_doubts.Holds := by
  w_on; o_law; k_head; (case hw => w_witness2)
  k_fill
  refine K20.walk (l := PySem.Challenge.rw_heldproofs_k20_spans_and_doubts) rfl rfl (fun w h Y => PySem.W.kIn_of Y) ?F
  case F =>
    intro w mg fa h KX G hmg
    refine' K20.all_mk KX G hmg ?a0 ?l0 ?c0 ?k0 ?a1 ?l1 ?c1 ?k1 ?a2 ?l2 ?c2 ?k2 ?a3 ?l3 ?c3 ?k3 ?a4 ?l4 ?c4 ?k4 ?a5 ?l5 ?c5 ?k5 ?a6 ?l6 ?c6 ?k6 ?a7 ?l7 ?c7 ?k7 ?a8 ?l8 ?c8 ?k8 ?a9 ?l9 ?c9 ?k9 ?a10 ?l10 ?c10 ?k10 ?a11 ?l11 ?c11 ?k11 ?a12 ?l12 ?c12 ?k12 ?a13 ?l13 ?c13 ?k13 ?a14 ?l14 ?c14 ?k14 ?a15 ?l15 ?c15 ?k15 ?a16 ?l16 ?c16 ?k16 ?a17 ?l17 ?c17 ?k17 ?a18 ?l18 ?c18 ?k18 ?a19 ?l19 ?c19 ?k19 ?a20 ?l20 ?c20 ?k20 ?a21 ?l21 ?c21 ?k21 ?a22 ?l22 ?c22 ?k22 ?a23 ?l23 ?c23 ?k23 ?z_isinstance ?z_int ?z_bool ?z_str ?z_tuple ?z_list ?z_len ?z_range ?z_abs ?z_max ?z_min ?z_sorted ?z_set ?z_reversed
    (case a0 => k_is)
    (case l0 => k_is)
    (case c0 => k_is)
    (case k0 => k_is)
    (case a1 => k_is)
    (case l1 => k_is)
    (case c1 => k_is)
    (case k1 => k_is)
    (case a2 => k_is)
    (case l2 => k_is)
    (case c2 => k_is)
    (case k2 => k_is)
    (case a3 => k_is)
    (case l3 => k_is)
    (case c3 => k_is)
    (case k3 => k_is)
    (case a4 => k_is)
    (case l4 => k_is)
    (case c4 => k_is)
    (case k4 => k_is)
    (case a5 => k_is)
    (case l5 => k_is)
    (case c5 => k_is)
    (case k5 => k_is)
    (case a6 => k_is)
    (case l6 => k_is)
    (case c6 => k_is)
    (case k6 => k_is)
    (case a7 => k_is)
    (case l7 => k_is)
    (case c7 => k_is)
    (case k7 => k_is)
    (case a8 => k_is)
    (case l8 => k_is)
    (case c8 => k_is)
    (case k8 => k_is)
    (case a9 => k_is)
    (case l9 => k_is)
    (case c9 => k_is)
    (case k9 => k_is)
    (case a10 => k_is)
    (case l10 => k_is)
    (case c10 => k_is)
    (case k10 => k_is)
    (case a11 => k_is)
    (case l11 => k_is)
    (case c11 => k_is)
    (case k11 => k_is)
    (case a12 => k_is)
    (case l12 => k_is)
    (case c12 => k_is)
    (case k12 => k_is)
    (case a13 => k_is)
    (case l13 => k_is)
    (case c13 => k_is)
    (case k13 => k_is)
    (case a14 => k_is)
    (case l14 => k_is)
    (case c14 => k_is)
    (case k14 => k_is)
    (case a15 => k_is)
    (case l15 => k_is)
    (case c15 => k_is)
    (case k15 => k_is)
    (case a16 => k_is)
    (case l16 => k_is)
    (case c16 => k_is)
    (case k16 => k_is)
    (case a17 => k_is)
    (case l17 => k_is)
    (case c17 => k_is)
    (case k17 => k_is)
    (case a18 => k_is)
    (case l18 => k_is)
    (case c18 => k_is)
    (case k18 => k_is)
    (case a19 => k_is)
    (case l19 => k_is)
    (case c19 => k_is)
    (case k19 => k_is)
    (case a20 => k_is)
    (case l20 => k_is)
    (case c20 => k_is)
    (case k20 => k_is)
    (case a21 => k_is)
    (case l21 => k_is)
    (case c21 => k_is)
    (case k21 => k_is)
    (case a22 => k_is)
    (case l22 => k_is)
    (case c22 => k_is)
    (case k22 => k_is)
    (case a23 => k_is)
    (case l23 => k_is)
    (case c23 => k_is)
    (case k23 => k_is)
    (case z_isinstance => k_is)
    (case z_int => k_is)
    (case z_bool => k_is)
    (case z_str => k_is)
    (case z_tuple => k_is)
    (case z_list => k_is)
    (case z_len => k_is)
    (case z_range => k_is)
    (case z_abs => k_is)
    (case z_max => k_is)
    (case z_min => k_is)
    (case z_sorted => k_is)
    (case z_set => k_is)
    (case z_reversed => k_is)
