import PyProof.Rows.All
import Wide.All
import OpenK.AllK
import Wide.FinOn
import HandS.ForMost
import HandS.IsInst
import HandS.Codes
import HandS.ForExc
import HandS.ExcInit
import HandS.ExcField
import HandS.CallSlots
import HandS.TupLe
import KE.KExcIs
import HandS.Flt
import HandS.ExcCtx
import HandS.HotCalls
import HandS.ExcInitHot
import HandS.Text
import HandS.Iter
import HandS.Wide
import HandS.Defaults
import HandS.More
import HandS.Conv
import HandS.Deep
import HandS.ExcIs
import PySem.Challenge.RW_heldproofs_k02_sentences_and_legs
set_option Elab.async false
set_option linter.all false
set_option maxRecDepth 100000
/-! My own layer over the hand layer: the weakest reading of a piece of syntax, and a rule a construct, chosen where the values are known. -/
namespace Wk
open PySem PySem.Spec PyProof.Rows L2
section
variable (X : Cx)
@[irreducible] def wE (e : Expr) : TE := fun σ H Q => ∀ (pins : List (Addr × Obj)) (s : Shared), Inv X pins σ H s → wpAny (model X.prog X.w) X.A (eval e X.env) (EP X pins σ Q) X.xe s
@[irreducible] def wT (e : Expr) : TT := fun σ H Q => ∀ (pins : List (Addr × Obj)) (s : Shared), Inv X pins σ H s → wpAny (model X.prog X.w) X.A (isTrue e X.env (eval e X.env)) (TP X pins σ Q) X.xe s
@[irreducible] def wW (e : Expr) : TT := fun σ H Q => ∀ (whole : Sem Value) (pins : List (Addr × Obj)) (s : Shared), Inv X pins σ H s → wpAny (model X.prog X.w) X.A (isTrue e X.env whole) (TP X pins σ Q) X.xe s
@[irreducible] def wA (es : List Expr) : TA := fun σ H Q => ∀ (pos : Pos) (pins : List (Addr × Obj)) (s : Shared), Inv X pins σ H s → wpAny (model X.prog X.w) X.A (spliced (backTo pos (starEach es X.env))) (AP X pins σ Q) X.xe s
@[irreducible] def wS (st : Stmt) : TS := fun D σ H => ∀ (pins : List (Addr × Obj)) (s : Shared), Inv X pins σ H s → wpAny (model X.prog X.w) X.A (exec st X.env) (SP X pins D) X.xe s
@[irreducible] def wL (st : List Stmt) : TS := fun D σ H => ∀ (pins : List (Addr × Obj)) (s : Shared), Inv X pins σ H s → wpAny (model X.prog X.w) X.A (execs st X.env) (SP X pins D) X.xe s
@[irreducible] def wO (f : Value → Value → Sem Value) : R2 := fun x y H Q => ∀ (pins : List (Addr × Obj)) (s : Shared) (σ : L2.St) (v u : Value), Inv X pins σ H s → RelV x v → RelV y u → wpAny (model X.prog X.w) X.A (f v u) (EP X pins σ Q) X.xe s
@[irreducible] def wB (op : Operator) : R2 := fun x y H Q => wO X (binaryOp op) x y H Q
@[irreducible] def wK (op : CmpOp) : R2 := fun x y H Q => wO X (compareOp op) x y H Q
@[irreducible] def wIx : R2 := fun x y H Q => ∀ (value slice : Expr) (pins : List (Addr × Obj)) (s : Shared) (σ : L2.St) (v u : Value), Inv X pins σ H s → RelV x v → RelV y u → subscripted slice false v u = operate [v, u] (getItem v u) → wpAny (model X.prog X.w) X.A (subscriptTail value slice v u) (EP X pins σ Q) X.xe s
@[irreducible] def wC (f : Value) : List V → Hp → VK → Prop := fun xs H Q => ∀ (pins : List (Addr × Obj)) (s : Shared) (σ : L2.St) (us : List Value), Inv X pins σ H s → Vals xs us → wpAny (model X.prog X.w) X.A (call f us) (EP X pins σ Q) X.xe s
@[irreducible] def wSet : V → V → V → Hp → (Hp → Prop) → Prop := fun o i v H Q => ∀ (pins : List (Addr × Obj)) (s : Shared) (σ : L2.St) (ov iv u : Value), Inv X pins σ H s → RelV o ov → RelV i iv → RelV v u → wpAny (model X.prog X.w) X.A (setItem ov iv u) (fun _ s' => ∃ H', Inv X pins σ H' s' ∧ Q H') X.xe s
end
section
variable {X : Cx} {e a b c : Expr} {es rest : List Expr} {st : Stmt} {sts : List Stmt} {σ : L2.St} {H : Hp} {Q : VK} {D : Ends} {pos p0 : Pos} {QT : Bool → Hp → Prop}
theorem pe : PE X e (wE X e) := ⟨fun pins s _ _ _ I h => by unfold wE at h; exact h pins s I⟩
theorem pt : PT X e (wT X e) := ⟨fun pins s _ _ _ I h => by unfold wT at h; exact h pins s I⟩
theorem pw : PW X e (wW X e) := ⟨fun wh pins s _ _ _ I h => by unfold wW at h; exact h wh pins s I⟩
theorem pa : PA X es (wA X es) := ⟨fun p pins s _ _ _ I h => by unfold wA at h; exact h p pins s I⟩
theorem ps : PS X st (wS X st) := ⟨fun pins s _ _ _ I h => by unfold wS at h; exact h pins s I⟩
theorem pl : PSs X sts (wL X sts) := ⟨fun pins s _ _ _ I h => by unfold wL at h; exact h pins s I⟩
theorem opr {f : Value → Value → Sem Value} : OpR X f (wO X f) := fun pins s σ _ _ _ v u _ I rx ry h => by unfold wO at h; exact h pins s σ v u I rx ry
theorem opb {op : Operator} : OpR X (binaryOp op) (wB X op) := fun pins s σ _ _ _ v u _ I rx ry h => by unfold wB at h; exact opr pins s σ _ _ _ v u _ I rx ry h
theorem opk {op : CmpOp} : OpR X (compareOp op) (wK X op) := fun pins s σ _ _ _ v u _ I rx ry h => by unfold wK at h; exact opr pins s σ _ _ _ v u _ I rx ry h
theorem ixr : IxR X (wIx X) := fun va sl pins s σ _ _ _ v u _ I rx ry h hs => by unfold wIx at h; exact h va sl pins s σ v u I rx ry hs
theorem cr {f : Value} : CallR X f (wC X f) := fun pins s σ _ _ us _ I r h => by unfold wC at h; exact h pins s σ us I r
theorem pset : PSet X (wSet X) := fun pins s σ _ _ _ _ ov iv u _ I ro ri rv h => by unfold wSet at h; exact h pins s σ ov iv u I ro ri rv
theorem e_of {t : TE} (h : PE X e t) (q : t σ H Q) : wE X e σ H Q := by unfold wE; exact fun pins s I => h.run pins s σ H Q I q
theorem t_of {t : TT} (h : PT X e t) (q : t σ H QT) : wT X e σ H QT := by unfold wT; exact fun pins s I => h.run pins s σ H QT I q
theorem w_of {t : TT} (h : PW X e t) (q : t σ H QT) : wW X e σ H QT := by unfold wW; exact fun wh pins s I => h.run wh pins s σ H QT I q
theorem a_of {t : TA} {QA : List V → Hp → Prop} (h : PA X es t) (q : t σ H QA) : wA X es σ H QA := by unfold wA; exact fun p pins s I => h.run p pins s σ H QA I q
theorem s_of {t : TS} (h : PS X st t) (q : t D σ H) : wS X st D σ H := by unfold wS; exact fun pins s I => h.run pins s σ H D I q
theorem l_of {t : TS} (h : PSs X sts t) (q : t D σ H) : wL X sts D σ H := by unfold wL; exact fun pins s I => h.run pins s σ H D I q
theorem o_of {f : Value → Value → Sem Value} {r : R2} {x y : V} (h : OpR X f r) (q : r x y H Q) : wO X f x y H Q := by unfold wO; exact fun pins s σ v u I rx ry => h pins s σ H x y v u Q I rx ry q
theorem b_of {op : Operator} {r : R2} {x y : V} (h : OpR X (binaryOp op) r) (q : r x y H Q) : wB X op x y H Q := by unfold wB; exact o_of h q
theorem k_of {op : CmpOp} {r : R2} {x y : V} (h : OpR X (compareOp op) r) (q : r x y H Q) : wK X op x y H Q := by unfold wK; exact o_of h q
theorem ix_of {r : R2} {x y : V} (h : IxR X r) (q : r x y H Q) : wIx X x y H Q := by unfold wIx; exact fun va sl pins s σ v u I rx ry hs => h va sl pins s σ H x y v u Q I rx ry q hs
theorem c_of {f : Value} {r : List V → Hp → VK → Prop} {xs : List V} (h : CallR X f r) (q : r xs H Q) : wC X f xs H Q := by unfold wC; exact fun pins s σ us I r => h pins s σ H xs us Q I r q
theorem set_of {t : V → V → V → Hp → (Hp → Prop) → Prop} {o i v : V} {QH : Hp → Prop} (h : PSet X t) (q : t o i v H QH) : wSet X o i v H QH := by unfold wSet; exact fun pins s σ ov iv u I ro ri rv => h pins s σ H o i v ov iv u QH I ro ri rv q

theorem e_mono {Q' : VK} (q : wE X e σ H Q) (h : ∀ v H1, Q v H1 → Q' v H1) : wE X e σ H Q' := by
  unfold wE at q ⊢
  exact fun pins s I => wpAny_mono (q pins s I) (fun _ _ ⟨v, H1, I1, r, z⟩ => ⟨v, H1, I1, r, h v H1 z⟩) fun _ _ z => z
theorem a_mono {QA QA' : List V → Hp → Prop} (q : wA X es σ H QA) (h : ∀ v H1, QA v H1 → QA' v H1) : wA X es σ H QA' := by
  unfold wA at q ⊢
  exact fun pp pins s I => wpAny_mono (q pp pins s I) (fun _ _ ⟨v, H1, I1, r, z⟩ => ⟨v, H1, I1, r, h v H1 z⟩) fun _ _ z => z

end
/-- where a name stands in a list; found by its spelling -/
inductive At {α : Type} : List α → Nat → α → Prop where
  | z {x : α} {l : List α} : At (x :: l) 0 x
  | s {x y : α} {l : List α} {i : Nat} (h : At l i x) : At (y :: l) (i + 1) x
theorem At.get {α : Type} {l : List α} {i : Nat} {x : α} (h : At l i x) : l[i]? = some x := by
  induction h with
  | z => rfl
  | s _ ih => simpa using ih
theorem At.mem {α : Type} {l : List α} {i : Nat} {x : α} (h : At l i x) : x ∈ l := List.mem_of_getElem? h.get
instance locDec {sc : Scope} {x : Str} : Decidable (Loc sc x) := inferInstanceAs (Decidable (_ ∨ _))
/-- a def's names: its own, in their slots, and the global ones -/
structure ScOk (N G : List Str) (sc : Scope) : Prop where
  nd : N.Nodup
  lo : ∀ x ∈ N, Loc sc x ∧ (x == ("__debug__" : Str)) = false ∧ (x == ("__classdict__" : Str)) = false
  gl : ∀ x ∈ G, sc.names.lookup x = some .globalImplicit ∧ (x == ("__debug__" : Str)) = false ∧ x ≠ "__name__"
/-- the body that the proof stands in -/
structure In (X : Cx) (N G : List Str) (sc : Scope) : Prop where
  ok : ScOk N G sc
  n : ∃ C, X.N = N ++ C
  nd : X.N.Nodup
  sc : X.env.scope = sc
  fn : X.fn = fun _ => true
  nev : PassesOwn (model X.prog X.w) X.A X.env X.xe
section
variable {X : Cx} {e a b c : Expr} {es rest : List Expr} {st : Stmt} {sts : List Stmt} {σ : L2.St} {H : Hp} {Q : VK} {D : Ends} {pos p0 : Pos} {QT : Bool → Hp → Prop} {N G : List Str} {sc : Scope}
theorem In.loc (I : In X N G sc) {i : Nat} {x : Str} (h : At N i x) : Loc X.env.scope x := by rw [I.sc]; exact (I.ok.lo x h.mem).1
theorem In.vis (I : In X N G sc) {i : Nat} {x : Str} (h : At N i x) : Vis X.env.scope x := by
  rcases I.loc h with z | z
  · exact .inl z
  · exact .inr (.inl z)
theorem In.hi (I : In X N G sc) {i : Nat} {x : Str} (h : At N i x) : X.N[i]? = some x := by
  obtain ⟨C, e⟩ := I.n
  have hl : i < N.length := by
    have := h.get
    exact (List.getElem?_eq_some_iff.mp this).1
  rw [e, List.getElem?_append_left hl]
  exact h.get
theorem In.f (I : In X N G sc) {x : Str} : X.fn x = true ∨ X.env.scope.names.lookup x = some .local := .inl (by rw [I.fn])
theorem In.g (I : In X N G sc) {i : Nat} {x : Str} (h : At G i x) : Gl X x := by
  show X.env.scope.names.lookup x = _
  rw [I.sc]
  exact (I.ok.gl x h.mem).1
theorem In.gd (I : In X N G sc) {i : Nat} {x : Str} (h : At G i x) : (x == ("__debug__" : Str)) = false := (I.ok.gl x h.mem).2.1
theorem In.gn (I : In X N G sc) {i : Nat} {x : Str} (h : At G i x) : x ≠ "__name__" := (I.ok.gl x h.mem).2.2
theorem In.never (I : In X N G sc) : PassesOwn (model X.prog X.w) X.A X.env X.xe := I.nev

/-! ### statements -/
theorem l_nil {nx : L2.St → Hp → Prop} {rt : VK} {bk ct : L2.St → Hp → Prop} (q : nx σ H) : wL X [] ⟨nx, rt, bk, ct⟩ σ H := l_of pss_nil q
theorem l_cons {nx : L2.St → Hp → Prop} {rt : VK} {bk ct : L2.St → Hp → Prop} (q : wS X st ⟨fun σ' H' => wL X sts ⟨nx, rt, bk, ct⟩ σ' H', rt, bk, ct⟩ σ H) : wL X (st :: sts) ⟨nx, rt, bk, ct⟩ σ H := l_of (pss_cons ps pl) q
theorem s_set {nx : L2.St → Hp → Prop} {rt : VK} {bk ct : L2.St → Hp → Prop} {i : Nat} {x : Str} {pos' : Pos} (q : wE X e σ H fun v H' => nx (σ.set i (some v)) H') (I : In X N G sc := by assumption) (hA : At N i x := by repeat (first | with_reducible apply At.z | with_reducible apply At.s)) (hs : swapsWith e (some (.Name x pos')) pos.line X.env = pure false := by rfl) :
    wS X (.Assign [.Name x pos'] e pos) ⟨nx, rt, bk, ct⟩ σ H := s_of (ps_set I.nd (I.hi hA) (I.loc hA) pe hs I.f) q
theorem s_ret {nx : L2.St → Hp → Prop} {rt : VK} {bk ct : L2.St → Hp → Prop} (q : wE X e σ H rt) : wS X (.Return (some e) pos) ⟨nx, rt, bk, ct⟩ σ H := s_of (ps_ret pe) q
theorem s_retN {nx : L2.St → Hp → Prop} {rt : VK} {bk ct : L2.St → Hp → Prop} (q : rt .non H) : wS X (.Return none pos) ⟨nx, rt, bk, ct⟩ σ H := s_of ps_retN q
theorem s_pass {nx : L2.St → Hp → Prop} {rt : VK} {bk ct : L2.St → Hp → Prop} (q : nx σ H) : wS X (.Pass pos) ⟨nx, rt, bk, ct⟩ σ H := s_of ps_pass q
theorem s_brk {nx : L2.St → Hp → Prop} {rt : VK} {bk ct : L2.St → Hp → Prop} (q : bk σ H) : wS X (.Break pos) ⟨nx, rt, bk, ct⟩ σ H := s_of ps_break q
theorem s_cnt {nx : L2.St → Hp → Prop} {rt : VK} {bk ct : L2.St → Hp → Prop} (q : ct σ H) : wS X (.Continue pos) ⟨nx, rt, bk, ct⟩ σ H := s_of ps_continue q
theorem s_expr {nx : L2.St → Hp → Prop} {rt : VK} {bk ct : L2.St → Hp → Prop} (q : wE X e σ H fun _ H' => nx σ H') (hs : swapsWith e none pos.line X.env = pure false := by rfl) : wS X (.Expr e pos) ⟨nx, rt, bk, ct⟩ σ H := s_of (ps_expr pe hs) q
theorem s_if {nx : L2.St → Hp → Prop} {rt : VK} {bk ct : L2.St → Hp → Prop} {A B : List Stmt} (q : wT X c σ H fun k H1 => if k = true then wL X A ⟨nx, rt, bk, ct⟩ σ H1 else wL X B ⟨nx, rt, bk, ct⟩ σ H1) : wS X (.If c A B pos) ⟨nx, rt, bk, ct⟩ σ H := s_of (ps_if pt pl pl) q
theorem s_fld {nx : L2.St → Hp → Prop} {rt : VK} {bk ct : L2.St → Hp → Prop} {o value : Expr} {f : Str} {pos' : Pos} (q : wE X value σ H fun y H1 => wE X o σ H1 fun x H2 => ∃ a C dx fs, x = .ref a ∧ H2 a = some (.ins C dx fs) ∧ Cls X.K C ∧ NoAttr X.K C f ∧ fs.length < 1000 ∧ nx σ (upd H2 a (.ins C dx (putF f y fs))))
    (hs : swapsWith value (some (.Attribute o f pos')) pos.line X.env = pure false := by rfl) : wS X (.Assign [.Attribute o f pos'] value pos) ⟨nx, rt, bk, ct⟩ σ H := s_of (ps_fld pe pe hs) q
/-- o[i] = v -/
theorem s_sub {nx : L2.St → Hp → Prop} {rt : VK} {bk ct : L2.St → Hp → Prop} {o i value : Expr} {pos' : Pos} (q : wE X value σ H fun v H1 => wE X o σ H1 fun x H2 => wE X i σ H2 fun y H3 => wSet X x y v H3 fun H4 => nx σ H4)
    (hs : swapsWithSole [.Subscript o i pos'] value pos.line X.env = pure false := by rfl) (hw : swappedStores [.Subscript o i pos'] value X.env = pure none := by rfl) (h1 : (assignEach [.Subscript o i pos'] X.env).map (·.2) = [assign (.Subscript o i pos') X.env] := by rfl)
    (ha : ∀ v, assign (.Subscript o i pos') X.env v = (do let ov ← holding [v] (eval o X.env); let iv ← holding [v, ov] (eval i X.env); standAt pos'; holding [v, ov, iv] (setItem ov iv v); release [v, ov, iv] []) := by intro _; rfl) : wS X (.Assign [.Subscript o i pos'] value pos) ⟨nx, rt, bk, ct⟩ σ H := s_of (ps_asg pe (pg_sub pe pe pset ha) hs hw h1) q
/-- two names from a tuple -/
theorem s_tup2 {nx : L2.St → Hp → Prop} {rt : VK} {bk ct : L2.St → Hp → Prop} {i j : Nat} {x y : Str} {k : Nat} {px py pt : Pos} (q : wE X e σ H fun v H1 => ∃ a u w, v = .ref a ∧ SqT X.K H1 a [u, w] ∧ nx ((σ.set i (some u)).set j (some w)) H1)
    (I : In X N G sc := by assumption) (hc : X.calm = true := by rfl) (hA : At N i x := by repeat (first | with_reducible apply At.z | with_reducible apply At.s)) (hB : At N j y := by repeat (first | with_reducible apply At.z | with_reducible apply At.s))
    (hs : swapsWithSole [.Tuple [.Name x px, .Name y py] k pt] e pos.line X.env = pure false := by rfl) (hw : swappedStores [.Tuple [.Name x px, .Name y py] k pt] e X.env = pure none := by rfl) (h1 : (assignEach [.Tuple [.Name x px, .Name y py] k pt] X.env).map (·.2) = [assign (.Tuple [.Name x px, .Name y py] k pt) X.env] := by rfl) :
    wS X (.Assign [.Tuple [.Name x px, .Name y py] k pt] e pos) ⟨nx, rt, bk, ct⟩ σ H := by
  refine s_of (ps_asg pe (pg_tup hc (pgs_cons (pg_name I.nd (I.hi hA) (I.loc hA) I.f) (pgs_cons (pg_name I.nd (I.hi hB) (I.loc hB) I.f) pgs_nil))) hs hw h1) (e_mono q fun v H1 q1 => ?_)
  obtain ⟨ad, u, w, ev, hq, q2⟩ := q1
  exact ⟨ad, [u, w], ev, hq, rfl, u, [w], rfl, w, [], rfl, rfl, q2⟩
/-! ### expressions -/
theorem e_var {i : Nat} {x : Str} {v : V} (q : Q v H) (I : In X N G sc := by assumption) (hA : At N i x := by repeat (first | with_reducible apply At.z | with_reducible apply At.s)) (hσ : σ[i]? = some (some v) := by exact rfl) : wE X (.Name x pos) σ H Q :=
  e_of (pe_var (I.hi hA) (I.vis hA) (I.ok.lo x hA.mem).2.1 (I.ok.lo x hA.mem).2.2) ⟨v, hσ, q⟩
theorem e_int {i : Int} {j} (q : Q (.int i) H) : wE X (.Constant (.int i) j pos) σ H Q := e_of pe_int q
theorem e_bl {k : Bool} {j} (q : Q (.bl k) H) : wE X (.Constant (.bool k) j pos) σ H Q := e_of pe_bl q
theorem e_non {j} (q : Q .non H) : wE X (.Constant .none j pos) σ H Q := e_of pe_non q
theorem e_str {x : Str} {j} (q : Q (.str x) H) : wE X (.Constant (.str x) j pos) σ H Q := e_of pe_str q
theorem e_bin {op : Operator} (q : wE X a σ H fun x H1 => wE X b σ H1 fun y H2 => wB X op x y H2 Q) : wE X (.BinOp a op b pos) σ H Q := e_of (pe_op opb pe pe) q
theorem e_cmp {op : CmpOp} (q : wE X a σ H fun x H1 => wE X b σ H1 fun y H2 => wK X op x y H2 Q) (hm : behindInMarks op b = false := by first | exact nomark _ | rfl) : wE X (.Compare a [op] [b] pos) σ H Q := e_of (pe_cmpR opk pe pe hm) q
theorem t_cmp {op : CmpOp} (q : wE X a σ H fun x H1 => wE X b σ H1 fun y H2 => wK X op x y H2 fun z H3 => ∃ k, z = .bl k ∧ QT k H3) (hm : behindInMarks op b = false := by first | exact nomark _ | rfl) : wT X (.Compare a [op] [b] pos) σ H QT := t_of (pt_cmpR opk pe pe hm) q
theorem t_val (q : wE X e σ H fun z H3 => ∃ k, z = .bl k ∧ QT k H3) (he : ∀ whole, isTrue e X.env whole = (do let v ← whole; standAt e.pos; holding [v] (truthy v)) := by intro _; rfl) : wT X e σ H QT := t_of (pt_val pe he) q
theorem t_not (q : wT X a σ H fun k H1 => QT (!k) H1) : wT X (.UnaryOp .Not a pos) σ H QT := t_of (pt_not pt) q
theorem t_w (q : wW X e σ H QT) : wT X e σ H QT := t_of pw.pt q
theorem w_and1 (q : wT X a σ H QT) : wW X (.BoolOp .And [a] pos) σ H QT := w_of (pw_and1 pt) q
theorem w_or1 (q : wT X a σ H QT) : wW X (.BoolOp .Or [a] pos) σ H QT := w_of (pw_or1 pt) q
theorem w_and (q : wT X a σ H fun k H1 => if k = true then wW X (.BoolOp .And (b :: rest) pos) σ H1 QT else QT false H1) : wW X (.BoolOp .And (a :: b :: rest) pos) σ H QT := w_of (pw_and pt pw) q
theorem w_or (q : wT X a σ H fun k H1 => if k = true then QT true H1 else wW X (.BoolOp .Or (b :: rest) pos) σ H1 QT) : wW X (.BoolOp .Or (a :: b :: rest) pos) σ H QT := w_of (pw_or pt pw) q
theorem e_one {op} (q : wE X a σ H Q) : wE X (.BoolOp op [a] pos) σ H Q := e_of (pe_one pe) q
theorem e_and (q : wE X a σ H fun x H1 => ∃ k, x = .bl k ∧ if k = true then wE X (.BoolOp .And (b :: rest) pos) σ H1 Q else Q (.bl false) H1) : wE X (.BoolOp .And (a :: b :: rest) pos) σ H Q := e_of (pe_and pe pe) q
theorem e_or (q : wE X a σ H fun x H1 => ∃ k, x = .bl k ∧ if k = true then Q (.bl true) H1 else wE X (.BoolOp .Or (b :: rest) pos) σ H1 Q) : wE X (.BoolOp .Or (a :: b :: rest) pos) σ H Q := e_of (pe_or pe pe) q
theorem e_not (q : wE X a σ H fun x H1 => ∃ k, x = .bl k ∧ Q (.bl (!k)) H1) : wE X (.UnaryOp .Not a pos) σ H Q := e_of (pe_not pe) q
theorem e_ifExp (q : wT X c σ H fun k H1 => if k = true then wE X a σ H1 Q else wE X b σ H1 Q) : wE X (.IfExp c a b pos) σ H Q := e_of (pe_ifExp pt pe pe) q
theorem e_ix (q : wE X a σ H fun x H1 => wE X b σ H1 fun y H2 => wIx X x y H2 Q) (hs : PlainIx b := by intro _ _; rfl) : wE X (.Subscript a b pos) σ H Q := e_of (pe_ix ixr pe pe hs) q
theorem e_fld {f : Str} (q : wE X e σ H fun x H1 => ∃ a C dx fs v, x = .ref a ∧ H1 a = some (.ins C dx fs) ∧ Cls X.K C ∧ NoAttr X.K C f ∧ fs.lookup f = some v ∧ Q v H1) (hb : attributeBase e f X.env (eval e X.env) = eval e X.env := by rfl) : wE X (.Attribute e f pos) σ H Q := e_of (pe_fld pe hb) q
theorem a_nil {QA : List V → Hp → Prop} (q : QA [] H) : wA X [] σ H QA := a_of pa_nil q
theorem a_cons {QA : List V → Hp → Prop} (q : wE X e σ H fun x H1 => wA X es σ H1 fun xs H2 => QA (x :: xs) H2) (hs : starEach (e :: es) X.env = (false, eval e X.env) :: starEach es X.env := by rfl) : wA X (e :: es) σ H QA := a_of (pa_cons pe pa hs) q
theorem e_tup {k} (q : wA X es σ H fun xs H1 => xs.length ≤ sizeLine ∧ ∀ p H2, Same H1 H2 → H1 p = none → H2 p = some (.tup xs) → Q (.ref p) H2) : wE X (.Tuple es k pos) σ H Q :=
  e_of (pe_tup pa) (a_mono q fun xs H1 z => ⟨z.1, fun p np => z.2 p _ (fun b o eo => by rw [upd_ne (ne_of_none eo np)]; exact eo) np upd_same⟩)
theorem e_lst (q : wA X es σ H fun xs H1 => xs.length ≤ sizeLine ∧ ∀ p H2, Same H1 H2 → H1 p = none → H2 p = some (.lst xs) → Q (.ref p) H2) : wE X (.List es pos) σ H Q :=
  e_of (pe_lst pa) (a_mono q fun xs H1 z => ⟨z.1, fun p np => z.2 p _ (fun b o eo => by rw [upd_ne (ne_of_none eo np)]; exact eo) np upd_same⟩)
/-! ### calls -/
/-- a def of the module that no exception leaves -/
structure Fn (P : Program) (w : World) (K : PySem.W.Frag) (mg : Str → Option Value) (base : Heap) (k : Nat) (x : Str) (sp : Sp) : Prop where
  ex : ∃ (f : Addr) (fd : FuncData) (ps : List Str), FnOk P w K mg base CX0 k f fd ps sp ∧ mg x = some (.ref f) ∧ PySem.W.keepIn K (.ref f) = true ∧ Binds K fd ps []
theorem e_call {g : Nat} {k n : Nat} {x : Str} {sp : Sp} (F : Fn X.prog X.w X.K X.mg X.base k x sp) (hr : Room n X.A) (hk : k ≤ n) (q : wA X (e :: es) σ H fun vs H1 => sp vs H1 Q E0) (I : In X N G sc := by assumption) (hG : At G g x := by repeat (first | with_reducible apply At.z | with_reducible apply At.s))
    (he : starEach (e :: es) X.env = (false, eval e X.env) :: starEach es X.env := by rfl) (hpl : (backTo pos (starEach es X.env)).any (·.1) = false := by rfl) : wE X (.Call (.Name x p0) (e :: es) [] pos) σ H Q := by
  obtain ⟨f, fd, ps, F0, hm, hkp, hb⟩ := F.ex
  refine e_of (pe_call F0 (hr.mono hk) (I.g hG) hm hkp hb .nil pass0 pa (I.gd hG) he hpl) ?_
  show wA X (e :: es) σ H fun vs H1 => sp (vs ++ []) H1 Q E0
  simp only [List.append_nil]
  exact q
theorem e_call0 {g : Nat} {k n : Nat} {x : Str} {sp : Sp} (F : Fn X.prog X.w X.K X.mg X.base k x sp) (hr : Room n X.A) (hk : k ≤ n) (q : sp [] H Q E0) (I : In X N G sc := by assumption) (hG : At G g x := by repeat (first | with_reducible apply At.z | with_reducible apply At.s)) : wE X (.Call (.Name x p0) [] [] pos) σ H Q := by
  obtain ⟨f, fd, ps, F0, hm, hkp, hb⟩ := F.ex
  exact e_of (pe_call0 F0 (hr.mono hk) (I.g hG) hm hkp hb .nil pass0 (I.gd hG)) q
theorem e_callB {g : Nat} {x : Str} {id : String} (hm : X.mg x = none) (hv : bootBuiltins x = some (.builtin id)) (q : wA X (e :: es) σ H fun vs H1 => wC X (.builtin id) vs H1 Q) (I : In X N G sc := by assumption) (hG : At G g x := by repeat (first | with_reducible apply At.z | with_reducible apply At.s))
    (he : starEach (e :: es) X.env = (false, eval e X.env) :: starEach es X.env := by rfl) (hpl : (backTo pos (starEach es X.env)).any (·.1) = false := by rfl) : wE X (.Call (.Name x p0) (e :: es) [] pos) σ H Q := e_of (pe_callB cr (I.g hG) hm hv pa (I.gn hG) (I.gd hG) he hpl) q
theorem e_callTy {g : Nat} {x : Str} {T : String} (hm : X.mg x = none) (hv : bootBuiltins x = some (.type T)) (q : wA X (e :: es) σ H fun vs H1 => wC X (.type T) vs H1 Q) (I : In X N G sc := by assumption) (hG : At G g x := by repeat (first | with_reducible apply At.z | with_reducible apply At.s))
    (he : starEach (e :: es) X.env = (false, eval e X.env) :: starEach es X.env := by rfl) (hpl : (backTo pos (starEach es X.env)).any (·.1) = false := by rfl) : wE X (.Call (.Name x p0) (e :: es) [] pos) σ H Q := e_of (pe_callTy cr (I.g hG) hm hv pa (I.gn hG) (I.gd hG) he hpl) q
theorem e_glob {g : Nat} {x : Str} {v : V} {u : Value} (hm : X.mg x = some u) (r : RelV v u) (q : Q v H) (I : In X N G sc := by assumption) (hG : At G g x := by repeat (first | with_reducible apply At.z | with_reducible apply At.s)) : wE X (.Name x pos) σ H Q := e_of (pe_glob (I.g hG) hm r (I.gd hG)) q
theorem e_bltn {g : Nat} {x : Str} {v : V} {u : Value} (hm : X.mg x = none) (hv : bootBuiltins x = some u) (r : RelV v u) (q : Q v H) (I : In X N G sc := by assumption) (hG : At G g x := by repeat (first | with_reducible apply At.z | with_reducible apply At.s)) : wE X (.Name x pos) σ H Q := e_of (pe_bltn (I.g hG) hm hv r (I.gn hG) (I.gd hG)) q
/-- a method of a class that no exception leaves -/
structure Mt (P : Program) (w : World) (K : PySem.W.Frag) (mg : Str → Option Value) (base : Heap) (k : Nat) (C : Addr) (m : Str) (sp : Sp) : Prop where
  ex : ∃ (f : Addr) (fd : FuncData) (ps : List Str), FnOk P w K mg base CX0 k f fd ps sp ∧ Meth K C m f ∧ Binds K fd ps [] ∧ Cls K C
theorem e_meth {k n : Nat} {o : Expr} {m : Str} {C : Addr} {apos : Pos} {pl : Sem Bool} {sp : Sp} (F : Mt X.prog X.w X.K X.mg X.base k C m sp) (hr : Room n X.A) (hk : k ≤ n)
    (q : wE X o σ H fun x H1 => ∃ a dx fs, x = .ref a ∧ H1 a = some (.ins C dx fs) ∧ fs.lookup m = none ∧ wA X (e :: es) σ H1 fun vs H2 => sp (x :: vs) H2 Q E0)
    (hst : starEach (e :: es) X.env = (false, eval e X.env) :: starEach es X.env := by rfl) (hpl : (backTo pos (starEach es X.env)).any (·.1) = false := by rfl)
    (ht : eval (.Call (.Attribute o m apos) (e :: es) [] pos) X.env = (do let ov ← eval o X.env; standAt apos.atName; let (f, first) ← holding [ov] (getMethod ov m pl); callWith pos f first (backTo pos (starEach (e :: es) X.env)) (backToKw pos (keywordEach [] X.env))) := by rfl) :
    wE X (.Call (.Attribute o m apos) (e :: es) [] pos) σ H Q := by
  obtain ⟨f, fd, ps, F0, M, hb, c⟩ := F.ex
  refine e_of (pe_meth (pl := pl) pe c M F0 (hr.mono hk) hb .nil pass0 pa hst hpl ht) ?_
  show wE X o σ H fun x H1 => ∃ a dx fs, x = .ref a ∧ H1 a = some (.ins C dx fs) ∧ fs.lookup m = none ∧ wA X (e :: es) σ H1 fun vs H2 => sp (x :: (vs ++ [])) H2 Q E0
  simp only [List.append_nil]
  exact q
theorem e_meth0 {k n : Nat} {o : Expr} {m : Str} {C : Addr} {apos : Pos} {pl : Sem Bool} {sp : Sp} (F : Mt X.prog X.w X.K X.mg X.base k C m sp) (hr : Room n X.A) (hk : k ≤ n)
    (q : wE X o σ H fun x H1 => ∃ a dx fs, x = .ref a ∧ H1 a = some (.ins C dx fs) ∧ fs.lookup m = none ∧ sp [x] H1 Q E0)
    (ht : eval (.Call (.Attribute o m apos) [] [] pos) X.env = (do let ov ← eval o X.env; standAt apos.atName; let (f, first) ← holding [ov] (getMethod ov m pl); callWith pos f first (backTo pos (starEach [] X.env)) (backToKw pos (keywordEach [] X.env))) := by rfl) :
    wE X (.Call (.Attribute o m apos) [] [] pos) σ H Q := by
  obtain ⟨f, fd, ps, F0, M, hb, c⟩ := F.ex
  exact e_of (pe_meth0 (pl := pl) pe c M F0 (hr.mono hk) hb .nil pass0 ht) q
/-- an own class whose __init__ no exception leaves -/
structure Kl (P : Program) (w : World) (K : PySem.W.Frag) (mg : Str → Option Value) (base : Heap) (k : Nat) (x : Str) (C : Addr) (sp : Sp) : Prop where
  ex : ∃ (f : Addr) (fd : FuncData) (ps : List Str), FnOk P w K mg base CX0 k f fd ps sp ∧ mg x = some (.ref C) ∧ Mk K C f ∧ Binds K fd ps []
theorem e_make {g : Nat} {k n : Nat} {x : Str} {C : Addr} {sp : Sp} (F : Kl X.prog X.w X.K X.mg X.base k x C sp) (hr : Room n X.A) (hk : k + 1 ≤ n)
    (q : wA X (e :: es) σ H fun vs H1 => ∀ x dx, H1 x = none → H1 dx = none → dx ≠ x → sp (.ref x :: vs) (upd (upd H1 dx (.own x)) x (.ins C dx [])) (fun v H2 => v = .non ∧ Q (.ref x) H2) E0)
    (I : In X N G sc := by assumption) (hG : At G g x := by repeat (first | with_reducible apply At.z | with_reducible apply At.s)) (he : starEach (e :: es) X.env = (false, eval e X.env) :: starEach es X.env := by rfl) (hpl : (backTo pos (starEach es X.env)).any (·.1) = false := by rfl) : wE X (.Call (.Name x p0) (e :: es) [] pos) σ H Q := by
  obtain ⟨f, fd, ps, F0, hm, M, hb⟩ := F.ex
  refine e_of (pe_make M F0 (hr.mono hk) (I.g hG) hm hb .nil pass0 pa (I.gd hG) he hpl) ?_
  show wA X (e :: es) σ H fun vs H1 => ∀ x dx, H1 x = none → H1 dx = none → dx ≠ x → sp (.ref x :: (vs ++ [])) (upd (upd H1 dx (.own x)) x (.ins C dx [])) (fun v H2 => v = .non ∧ Q (.ref x) H2) E0
  simp only [List.append_nil]
  exact q
end
/-! ### values -/
section
variable {X : Cx} {H : Hp} {Q : VK} {i j : Int} {σ : L2.St} {D : Ends}
theorem o_add (q : Q (.int (i + j)) H) : wB X .Add (.int i) (.int j) H Q := b_of op_add ⟨i, j, rfl, rfl, q⟩
theorem o_sub (q : Q (.int (i - j)) H) : wB X .Sub (.int i) (.int j) H Q := b_of op_sub ⟨i, j, rfl, rfl, q⟩
theorem o_mul (c : CMul i j) (q : Q (.int (i * j)) H) : wB X .Mult (.int i) (.int j) H Q := b_of op_mul ⟨i, j, rfl, rfl, c, q⟩
theorem o_mod (c : 0 < j) (q : Q (.int (i % j)) H) : wB X .Mod (.int i) (.int j) H Q := b_of op_mod ⟨i, j, rfl, rfl, c, q⟩
theorem o_fdiv (c : 0 < j ∧ j < 1073741824) (q : Q (.int (i / j)) H) : wB X .FloorDiv (.int i) (.int j) H Q := b_of op_fdiv ⟨i, j, rfl, rfl, c, q⟩
theorem o_pow (c : CPow i j) (q : Q (.int (i ^ j.toNat)) H) : wB X .Pow (.int i) (.int j) H Q := b_of op_pow ⟨i, j, rfl, rfl, c, q⟩
theorem o_lt (q : Q (.bl (decide (i < j))) H) : wK X .Lt (.int i) (.int j) H Q := k_of op_lt ⟨i, j, rfl, rfl, q⟩
theorem o_le (q : Q (.bl (decide (i ≤ j))) H) : wK X .LtE (.int i) (.int j) H Q := k_of op_le ⟨i, j, rfl, rfl, q⟩
theorem o_gt (q : Q (.bl (decide (j < i))) H) : wK X .Gt (.int i) (.int j) H Q := k_of op_gt ⟨i, j, rfl, rfl, q⟩
theorem o_ge (q : Q (.bl (decide (j ≤ i))) H) : wK X .GtE (.int i) (.int j) H Q := k_of op_ge ⟨i, j, rfl, rfl, q⟩
theorem dint {i j : Int} : decide (V.int i = V.int j) = decide (i = j) := by simp
theorem dbl {i j : Bool} : decide (V.bl i = V.bl j) = decide (i = j) := by simp
theorem dstr {i j : Str} : decide (V.str i = V.str j) = decide (i = j) := by simp
theorem o_eqI (q : Q (.bl (decide (i = j))) H) : wK X .Eq (.int i) (.int j) H Q := k_of op_eq ⟨rfl, dint ▸ q⟩
theorem o_neI (q : Q (.bl (!decide (i = j))) H) : wK X .NotEq (.int i) (.int j) H Q := k_of op_ne ⟨rfl, dint ▸ q⟩
theorem o_eqB {i j : Bool} (q : Q (.bl (decide (i = j))) H) : wK X .Eq (.bl i) (.bl j) H Q := k_of op_eq ⟨rfl, dbl ▸ q⟩
theorem o_neB {i j : Bool} (q : Q (.bl (!decide (i = j))) H) : wK X .NotEq (.bl i) (.bl j) H Q := k_of op_ne ⟨rfl, dbl ▸ q⟩
theorem o_eqS {i j : Str} (q : Q (.bl (decide (i = j))) H) : wK X .Eq (.str i) (.str j) H Q := k_of op_eq ⟨rfl, dstr ▸ q⟩
theorem o_neS {i j : Str} (q : Q (.bl (!decide (i = j))) H) : wK X .NotEq (.str i) (.str j) H Q := k_of op_ne ⟨rfl, dstr ▸ q⟩
/-- a pair of ints beside a text -/
theorem o_eqPS {n : Nat} {a : Addr} {u v : Int} {z : Str} (hr : Room n X.A) (h : H a = some (.tup [.int u, .int v])) (hz : SeqAt.shaped (.str z) = true) (q : Q (.bl false) H) : wK X .Eq (.ref a) (.str z) H Q :=
  k_of (op_eqD hr.units) ⟨.tuple [.int u, .int v], .str z, .tup (SqT.of h) (.cons (.int u) (.cons (.int v) .nil)), .str z, rfl, hz, q⟩
theorem ix_l {a : Addr} {xs : List V} {v : V} (h : SqL X.K H a xs) (e : atI xs i = some v) (q : Q v H) : wIx X (.ref a) (.int i) H Q := ix_of ix_list ⟨a, xs, i, v, rfl, rfl, h, e, q⟩
theorem ix_t {a : Addr} {xs : List V} {v : V} (h : SqT X.K H a xs) (e : atI xs i = some v) (q : Q v H) : wIx X (.ref a) (.int i) H Q := ix_of ix_tup ⟨a, xs, i, v, rfl, rfl, h, e, q⟩
theorem set_l {a : Addr} {xs : List V} {v : V} {k : Nat} {QH : Hp → Prop} (h : H a = some (.lst xs)) (e : ixN xs.length i = some k) (q : QH (upd H a (.lst (xs.set k v)))) : wSet X (.ref a) (.int i) v H QH := set_of set_list ⟨a, xs, i, k, rfl, rfl, h, e, q⟩
theorem c_int (q : Q (.int i) H) : wC X (.type "int") [.int i] H Q := c_of call_int1 (.inl ⟨i, rfl, q⟩)
theorem c_abs (q : Q (.int (if i < 0 then -i else i)) H) : wC X (.builtin "abs") [.int i] H Q := c_of call_abs ⟨i, rfl, q⟩
theorem c_max (hc : X.calm = true) (q : Q (.int (if j > i then j else i)) H) : wC X (.builtin "max") [.int i, .int j] H Q := c_of (call_max2 hc) ⟨i, j, rfl, q⟩
theorem c_min (hc : X.calm = true) (q : Q (.int (if j < i then j else i)) H) : wC X (.builtin "min") [.int i, .int j] H Q := c_of (call_min2 hc) ⟨i, j, rfl, q⟩
theorem c_lenL {a : Addr} {xs : List V} (h : SqL X.K H a xs) (q : Q (.int xs.length) H) : wC X (.builtin "len") [.ref a] H Q := c_of call_len_seq ⟨a, xs, rfl, .inl h, q⟩
theorem c_lenT {a : Addr} {xs : List V} (h : SqT X.K H a xs) (q : Q (.int xs.length) H) : wC X (.builtin "len") [.ref a] H Q := c_of call_len_seq ⟨a, xs, rfl, .inr h, q⟩
theorem c_isi {x c : V} {t u : Value} {b : Bool} (ty : TyX X.K H x t) (k : ClsV c u) (e : PySem.W.kitOne X.K t u = some b) (q : Q (.bl b) H) : wC X (.builtin "isinstance") [x, c] H Q := c_of call_isi ⟨x, c, t, u, b, rfl, k, ty, e, q⟩
theorem c_isiT {x : V} {tp : Addr} {cs : List V} {t : Value} {us : List Value} {b : Bool} (ty : TyX X.K H x t) (h : H tp = some (.tup cs)) (k : Paired ClsV cs us) (e : PySem.W.kitAny X.K t us = some b) (q : Q (.bl b) H) : wC X (.builtin "isinstance") [x, .ref tp] H Q :=
  c_of call_isiT ⟨x, tp, cs, t, us, b, rfl, h, k, ty, e, q⟩
theorem ty_non : TyX X.K H .non (.type "NoneType") := .base .non
theorem ty_bl {b : Bool} : TyX X.K H (.bl b) (.type "bool") := .base (.bl b)
theorem ty_int : TyX X.K H (.int i) (.type "int") := .base (.int i)
theorem ty_str {z : Str} : TyX X.K H (.str z) (.type "str") := .base (.str z)
theorem ty_tup {a : Addr} {xs : List V} (h : H a = some (.tup xs)) : TyX X.K H (.ref a) (.type "tuple") := .base (.tup h)
theorem ty_lst {a : Addr} {xs : List V} (h : H a = some (.lst xs)) : TyX X.K H (.ref a) (.type "list") := .base (.lst h)
theorem two_ty {a b : String} : Paired ClsV [.ty a, .ty b] [.type a, .type b] := .cons (.ty a) (.cons (.ty b) .nil)
theorem kit2 {K : PySem.W.Frag} {t a b : String} {x y : Bool} (h1 : kitB t a = some x) (h2 : kitB t b = some y) : PySem.W.kitAny K (.type t) [.type a, .type b] = some (x || y) := by
  cases x with
  | true => exact kitAny_cons (kit_ty h1) (fun z => nomatch z) fun _ => rfl
  | false =>
    refine kitAny_cons (kit_ty h1) (fun _ => ?_) (fun z => nomatch z)
    cases y with
    | true => exact kitAny_cons (kit_ty h2) (fun z => nomatch z) fun _ => rfl
    | false => exact kitAny_cons (kit_ty h2) (fun _ => rfl) (fun z => nomatch z)
theorem kb_int_tuple : kitB "int" "tuple" = some false := by decide +kernel
theorem kb_int_list : kitB "int" "list" = some false := by decide +kernel
theorem kb_int_int : kitB "int" "int" = some true := by decide +kernel
theorem kb_int_bool : kitB "int" "bool" = some false := by decide +kernel
theorem kb_int_str : kitB "int" "str" = some false := by decide +kernel
theorem kb_tuple_tuple : kitB "tuple" "tuple" = some true := by decide +kernel
theorem kb_tuple_list : kitB "tuple" "list" = some false := by decide +kernel
theorem kb_tuple_str : kitB "tuple" "str" = some false := by decide +kernel
theorem kb_tuple_int : kitB "tuple" "int" = some false := by decide +kernel
theorem kb_tuple_bool : kitB "tuple" "bool" = some false := by decide +kernel
theorem kb_list_tuple : kitB "list" "tuple" = some false := by decide +kernel
theorem kb_list_list : kitB "list" "list" = some true := by decide +kernel
theorem kb_list_str : kitB "list" "str" = some false := by decide +kernel
theorem kb_list_int : kitB "list" "int" = some false := by decide +kernel
theorem kb_list_bool : kitB "list" "bool" = some false := by decide +kernel
theorem kb_bool_bool : kitB "bool" "bool" = some true := by decide +kernel
theorem kb_bool_int : kitB "bool" "int" = some true := by decide +kernel
theorem kb_bool_str : kitB "bool" "str" = some false := by decide +kernel
theorem kb_bool_tuple : kitB "bool" "tuple" = some false := by decide +kernel
theorem kb_bool_list : kitB "bool" "list" = some false := by decide +kernel
theorem kb_str_str : kitB "str" "str" = some true := by decide +kernel
theorem kb_str_bool : kitB "str" "bool" = some false := by decide +kernel
theorem kb_str_int : kitB "str" "int" = some false := by decide +kernel
theorem kb_str_tuple : kitB "str" "tuple" = some false := by decide +kernel
theorem kb_str_list : kitB "str" "list" = some false := by decide +kernel
theorem kb_non_bool : kitB "NoneType" "bool" = some false := by decide +kernel
theorem kb_non_int : kitB "NoneType" "int" = some false := by decide +kernel
theorem kb_non_str : kitB "NoneType" "str" = some false := by decide +kernel
theorem kb_non_tuple : kitB "NoneType" "tuple" = some false := by decide +kernel
theorem kb_non_list : kitB "NoneType" "list" = some false := by decide +kernel
theorem b_int : bootBuiltins "int" = some (.type "int") := by decide +kernel
theorem b_bool : bootBuiltins "bool" = some (.type "bool") := by decide +kernel
theorem b_str : bootBuiltins "str" = some (.type "str") := by decide +kernel
theorem b_tuple : bootBuiltins "tuple" = some (.type "tuple") := by decide +kernel
theorem b_list : bootBuiltins "list" = some (.type "list") := by decide +kernel
theorem b_isi : bootBuiltins "isinstance" = some (.builtin "isinstance") := by decide +kernel
theorem b_len : bootBuiltins "len" = some (.builtin "len") := by decide +kernel
theorem b_abs : bootBuiltins "abs" = some (.builtin "abs") := by decide +kernel
theorem b_max : bootBuiltins "max" = some (.builtin "max") := by decide +kernel
theorem b_min : bootBuiltins "min" = some (.builtin "min") := by decide +kernel
/-! ### loops -/
theorem s_forR {nx : L2.St → Hp → Prop} {rt : VK} {bk ct : L2.St → Hp → Prop} {g : Nat} {N G : List Str} {sc : Scope} {x : Str} {i : Nat} {a : Expr} {body : List Stmt} {px p cp pos : Pos} (hm : X.mg "range" = none)
    (q : wE X a σ H fun v H1 => ∃ n : Nat, v = .int n ∧ n < 2 ^ 62 ∧ ∃ Pv : Nat → L2.St → Hp → Prop, Pv 0 σ H1 ∧ (∀ k σ H, k < n → Pv k σ H → wL X body ⟨Pv (k + 1), rt, nx, Pv (k + 1)⟩ (σ.set i (some (.int (k : Int)))) H) ∧ ∀ σ H, Pv n σ H → nx σ H)
    (I : In X N G sc := by assumption) (hc : X.calm = true := by rfl) (hA : At N i x := by repeat (first | with_reducible apply At.z | with_reducible apply At.s))
    (hG : At G g ("range" : Str) := by repeat (first | with_reducible apply At.z | with_reducible apply At.s)) (hs : starEach [a] X.env = [(false, eval a X.env)] := by rfl) (hs2 : ∀ z, foldedSetIterable (.Call (.Name "range" p) [a] [] cp) X.env z = pure z := by intro _; rfl)
    (hs1 : starEach (a :: []) X.env = (false, eval a X.env) :: starEach [] X.env := by rfl) :
    wS X (.For (.Name x px) (.Call (.Name "range" p) [a] [] cp) body [] pos) ⟨nx, rt, bk, ct⟩ σ H := by
  refine s_of (ps_for I.never hc (pi_range1 (I.g hG) hm (pa_cons pe pa_nil hs1) hs) (pg_name I.nd (I.hi hA) (I.loc hA) I.f) pl hs2) (e_mono q fun v H1 q1 => ?_)
  obtain ⟨n, rfl, hn, Pv, h0, hb, hd⟩ := q1
  refine ⟨(n : Int), rfl, by omega, by omega, ?_⟩
  rw [Int.toNat_natCast]
  refine for_range (n := n) Pv h0 (fun k σ H hk p => ?_) hd
  rw [Int.zero_add]
  exact hb k σ H hk p
theorem s_forL {nx : L2.St → Hp → Prop} {rt : VK} {bk ct : L2.St → Hp → Prop} {N G : List Str} {sc : Scope} {x : Str} {i : Nat} {a : Expr} {body : List Stmt} {px pos : Pos}
    (q : wE X a σ H fun v H1 => ∃ ad xs, v = .ref ad ∧ SqL X.K H1 ad xs ∧ ∃ Pv : Nat → L2.St → Hp → Prop, Pv 0 σ H1 ∧ (∀ k σ H, k ≤ xs.length → Pv k σ H → SqL X.K H ad xs) ∧ (∀ k y σ H, xs[k]? = some y → Pv k σ H → wL X body ⟨Pv (k + 1), rt, nx, Pv (k + 1)⟩ (σ.set i (some y)) H) ∧ ∀ σ H, Pv xs.length σ H → nx σ H)
    (I : In X N G sc := by assumption) (hc : X.calm = true := by rfl) (hA : At N i x := by repeat (first | with_reducible apply At.z | with_reducible apply At.s))
    (hs2 : ∀ z, foldedSetIterable a X.env z = pure z := by intro _; rfl) :
    wS X (.For (.Name x px) a body [] pos) ⟨nx, rt, bk, ct⟩ σ H := by
  refine s_of (ps_for I.never hc (pi_list pe) (pg_name I.nd (I.hi hA) (I.loc hA) I.f) pl hs2) (e_mono q fun v H1 q1 => ?_)
  obtain ⟨ad, xs, rfl, hl, Pv, h0, hk, hb, hd⟩ := q1
  exact ⟨ad, rfl, ⟨xs, hl⟩, for_list Pv h0 hk hb hd⟩
theorem s_forT {nx : L2.St → Hp → Prop} {rt : VK} {bk ct : L2.St → Hp → Prop} {N G : List Str} {sc : Scope} {x : Str} {i : Nat} {a : Expr} {body : List Stmt} {px pos : Pos}
    (q : wE X a σ H fun v H1 => ∃ ad xs, v = .ref ad ∧ SqT X.K H1 ad xs ∧ ∃ Pv : Nat → L2.St → Hp → Prop, Pv 0 σ H1 ∧ (∀ k σ H, k ≤ xs.length → Pv k σ H → SqT X.K H ad xs) ∧ (∀ k y σ H, xs[k]? = some y → Pv k σ H → wL X body ⟨Pv (k + 1), rt, nx, Pv (k + 1)⟩ (σ.set i (some y)) H) ∧ ∀ σ H, Pv xs.length σ H → nx σ H)
    (I : In X N G sc := by assumption) (hc : X.calm = true := by rfl) (hA : At N i x := by repeat (first | with_reducible apply At.z | with_reducible apply At.s))
    (hs2 : ∀ z, foldedSetIterable a X.env z = pure z := by intro _; rfl) :
    wS X (.For (.Name x px) a body [] pos) ⟨nx, rt, bk, ct⟩ σ H := by
  refine s_of (ps_for I.never hc (pi_tup pe) (pg_name I.nd (I.hi hA) (I.loc hA) I.f) pl hs2) (e_mono q fun v H1 q1 => ?_)
  obtain ⟨ad, xs, rfl, hl, Pv, h0, hk, hb, hd⟩ := q1
  exact ⟨ad, rfl, ⟨xs, hl⟩, for_tup Pv h0 hk hb hd⟩
/-! ### an own operator of an own class -/
theorem op_own {op : Operator} {k n : Nat} {C f : Addr} {fd : FuncData} {pn : List Str} {sp : Sp} (F : FnOk X.prog X.w X.K X.mg X.base CX0 k f fd pn sp) (hs : PySem.W.findIn X.K (.ref C) (PySem.dunder op.info.2) = some (some (.ref f))) (hf : PySem.W.isFn X.K (.ref f) = true)
    (hc : PySem.W.selfFirst X.K C = true) (hb : Binds X.K fd pn []) (hr : Room n X.A) (hk : k ≤ n) :
    OpR X (binaryOp op) (fun x y H Q => ∃ a b dx dy fs gs, x = .ref a ∧ y = .ref b ∧ H a = some (.ins C dx fs) ∧ H b = some (.ins C dy gs) ∧ sp [x, y] H (fun v H' => (∃ p, v = .ref p) ∧ Q v H') E0) := by
  intro pins s σ H x y u v Q I rx ry h
  obtain ⟨a, b, dx, dy, fs, gs, rfl, rfl, ha, hb', hsp⟩ := h
  cases rx
  cases ry
  obtain ⟨mA, J, _⟩ := ins_get I.hok ha
  obtain ⟨mB, J', _⟩ := ins_get I.hok hb'
  obtain ⟨od, J, _⟩ := J.look
  obtain ⟨od', J', _⟩ := J'.look
  obtain ⟨m, hF⟩ := I.fr
  refine PySem.W.binop_K hF I.ok.mod.kin J J'.type hc hs hf ?_
  refine wpAny_mono (run_fn (E := E0) F (hr.mono hk) hb .nil pass0 I (show Vals [V.ref a, V.ref b] [Value.ref a, Value.ref b] from .cons rfl (.cons rfl .nil)) (by rw [List.append_nil]; exact hsp)) (fun w s' z => ?_) fun _ _ z => z
  obtain ⟨v', H', I', rz, ⟨p, rfl⟩, q⟩ := z
  cases rz
  exact ⟨.ref p, H', I', rfl, q⟩
structure Op2 (P : Program) (w : World) (K : PySem.W.Frag) (mg : Str → Option Value) (base : Heap) (k : Nat) (C : Addr) (op : Operator) (sp : Sp) : Prop where
  ex : ∃ (f : Addr) (fd : FuncData) (pn : List Str), FnOk P w K mg base CX0 k f fd pn sp ∧ PySem.W.findIn K (.ref C) (PySem.dunder op.info.2) = some (some (.ref f)) ∧ PySem.W.isFn K (.ref f) = true ∧ PySem.W.selfFirst K C = true ∧ Binds K fd pn []
theorem o_own {op : Operator} {k n : Nat} {C a b dx dy : Addr} {fs gs : List (Str × V)} {sp : Sp} (F : Op2 X.prog X.w X.K X.mg X.base k C op sp) (hr : Room n X.A) (hk : k ≤ n) (ha : H a = some (.ins C dx fs)) (hb : H b = some (.ins C dy gs))
    (q : sp [.ref a, .ref b] H (fun v H' => (∃ p, v = .ref p) ∧ Q v H') E0) : wB X op (.ref a) (.ref b) H Q := by
  obtain ⟨f, fd, pn, G, hs, hf, hc, hb'⟩ := F.ex
  exact b_of (op_own G hs hf hc hb' hr hk) ⟨a, b, dx, dy, fs, gs, rfl, rfl, ha, hb, q⟩
end
/-! ### heaps -/
/-- all but a stays -/
def But (a : Addr) (H H' : Hp) : Prop := ∀ b o, b ≠ a → H b = some o → H' b = some o
theorem But.refl {a : Addr} {H : Hp} : But a H H := fun _ _ _ h => h
theorem But.trans {a : Addr} {H H1 H2 : Hp} (x : But a H H1) (y : But a H1 H2) : But a H H2 := fun b o n h => y b o n (x b o n h)
theorem But.of {a : Addr} {H H1 : Hp} (x : Same H H1) : But a H H1 := fun b o _ h => x b o h
theorem But.upd {a : Addr} {H H1 : Hp} {o : HO} (x : But a H H1) : But a H (L2.upd H1 a o) := fun b u n h => by
  rw [upd_ne n]
  exact x b u n h
theorem But.tup {a p : Addr} {H H1 : Hp} {l xs : List V} (x : But a H H1) (ha : H a = some (.lst l)) (hp : H p = some (.tup xs)) : H1 p = some (.tup xs) := x p _ (ne_of hp ha (by intro z; cases z)) hp
theorem But.ins {a p C dx : Addr} {H H1 : Hp} {l : List V} {fs : List (Str × V)} (x : But a H H1) (ha : H a = some (.lst l)) (hp : H p = some (.ins C dx fs)) : H1 p = some (.ins C dx fs) := x p _ (ne_of hp ha (by intro z; cases z)) hp
theorem But.frz {a p : Addr} {H H1 : Hp} {l : List V} {o : Obj} {u : HO} (x : But a H H1) (ha : H a = some (.lst l)) (hp : H p = some (.frz o u)) : H1 p = some (.frz o u) := x p _ (ne_of hp ha (by intro z; cases z)) hp
section
variable {P : Program} {w : World} {K : PySem.W.Frag} {mg : Str → Option Value} {base : Heap}
/-- a def of the module where the top has left it -/
structure Top (K : PySem.W.Frag) (mg : Str → Option Value) (x : Str) (st : Stmt) : Prop where
  ex : ∃ (f : Addr) (fd : FuncData), Fun K x x st f fd ∧ mg x = some (.ref f)
theorem top_mk {h : Heap} {x : Str} {st : Stmt} {f : Addr} {oc : Value} {od an : Option Addr} {osl : Array (Option Value)} {kV doc pm cdv ct : Value} (X : K.In h) (G : h.Ns mainGlobals mg) (a : PySem.W.nsIn K mainGlobals x = some (some (.ref f)))
    (l : K.lookup f = some ⟨oc, od, .func (PySem.W.fnOf x x (defArgs st) (defBody st) (defScope st) .none kV doc pm an cdv ct), osl⟩) (c : PySem.W.codeIn K cdv x = true) (k : PySem.W.keepIn K (.ref f) = true) : Top K mg x st :=
  ⟨f, _, fun_mk l c k, PySem.W.mg_of X G a⟩
theorem fn_ok {x : Str} {st : Stmt} {N G ps : List Str} {k : Nat} {sp : Sp} (T : Top K mg x st) (S : FnScope N ps (defScope st)) (O : ScOk N G (defScope st)) (len : ∀ vs H Q E, sp vs H Q E → vs.length = ps.length)
    (hb : ∀ (kV doc pm : Value) (an : Option Addr) (cdv ct : Value) (us : List Value), us.length = ps.length → bindArgs (PySem.W.fnOf x x (defArgs st) (defBody st) (defScope st) .none kV doc pm an cdv ct) ⟨us, []⟩ = pure (ps.zip us))
    (hbody : ∀ (f : Addr) (cdv : Value) (A : Around) (outer : List Env) (s : Shared) (H : Hp) (vs : List V) (Q : VK) (E : XK), Room k (A.deeper (envOfC x (defScope st) s.heap.objs.size f cdv)) → sp vs H Q E → In (cxOf CX0 P w K mg base N x (defScope st) f cdv A outer s H E).nox N G (defScope st) →
      wL (cxOf CX0 P w K mg base N x (defScope st) f cdv A outer s H E).nox (defBody st) { nx := fun _ H' => Q .non H', rt := Q } (start N vs) H) : Fn P w K mg base (k + 1) x sp := by
  obtain ⟨f, fd, F, hm⟩ := T.ex
  exact ⟨f, fd, ps, F.ok S len (fun cdv A outer s H vs Q E hr h => ⟨_, pl, hbody f cdv A outer s H vs Q E hr h ⟨O, ⟨[], (List.append_nil _).symm⟩, S.nd, rfl, rfl, PassesOwn.never⟩⟩), hm, F.kp, F.binds hb⟩
/-- a method where the top has left it -/
structure TopM (K : PySem.W.Frag) (C : Addr) (x qual : Str) (st : Stmt) : Prop where
  ex : ∃ (f : Addr) (fd : FuncData), Fun K x qual st f fd ∧ PySem.W.findIn K (.ref C) x = some (some (.ref f)) ∧ PySem.W.isFn K (.ref f) = true
theorem topM_mk {x qual : Str} {st : Stmt} {C f : Addr} {oc : Value} {od an : Option Addr} {osl : Array (Option Value)} {kV doc pm cdv ct : Value} (a : PySem.W.findIn K (.ref C) x = some (some (.ref f))) (i : PySem.W.isFn K (.ref f) = true)
    (l : K.lookup f = some ⟨oc, od, .func (PySem.W.fnOf x qual (defArgs st) (defBody st) (defScope st) .none kV doc pm an cdv ct), osl⟩) (c : PySem.W.codeIn K cdv qual = true) (k : PySem.W.keepIn K (.ref f) = true) : TopM K C x qual st :=
  ⟨f, _, fun_mk l c k, a, i⟩
theorem me_ok {x qual : Str} {C : Addr} {st : Stmt} {N G ps : List Str} {k : Nat} {sp : Sp} (T : TopM K C x qual st) (S : FnScope N ps (defScope st)) (O : ScOk N G (defScope st)) (len : ∀ vs H Q E, sp vs H Q E → vs.length = ps.length)
    (hb : ∀ (kV doc pm : Value) (an : Option Addr) (cdv ct : Value) (us : List Value), us.length = ps.length → bindArgs (PySem.W.fnOf x qual (defArgs st) (defBody st) (defScope st) .none kV doc pm an cdv ct) ⟨us, []⟩ = pure (ps.zip us))
    (hbody : ∀ (f : Addr) (cdv : Value) (A : Around) (outer : List Env) (s : Shared) (H : Hp) (vs : List V) (Q : VK) (E : XK), Room k (A.deeper (envOfC qual (defScope st) s.heap.objs.size f cdv)) → sp vs H Q E → In (cxOf CX0 P w K mg base N qual (defScope st) f cdv A outer s H E).nox N G (defScope st) →
      wL (cxOf CX0 P w K mg base N qual (defScope st) f cdv A outer s H E).nox (defBody st) { nx := fun _ H' => Q .non H', rt := Q } (start N vs) H) :
    ∃ (f : Addr) (fd : FuncData), FnOk P w K mg base CX0 (k + 1) f fd ps sp ∧ Binds K fd ps [] ∧ PySem.W.findIn K (.ref C) x = some (some (.ref f)) ∧ PySem.W.isFn K (.ref f) = true ∧ PySem.W.keepIn K (.ref f) = true := by
  obtain ⟨f, fd, F, hf, hi⟩ := T.ex
  exact ⟨f, fd, F.ok S len (fun cdv A outer s H vs Q E hr h => ⟨_, pl, hbody f cdv A outer s H vs Q E hr h ⟨O, ⟨[], (List.append_nil _).symm⟩, S.nd, rfl, rfl, PassesOwn.never⟩⟩), F.binds hb, hf, hi, F.kp⟩
end
/-- a bool test that is decided by a fact -/
theorem ifT {c A B : Prop} [Decidable c] (hc : c) (h : A) : if decide c = true then A else B := by
  rw [decide_eq_true hc]
  exact iteT h
theorem ifF {c A B : Prop} [Decidable c] (hc : ¬ c) (h : B) : if decide c = true then A else B := by
  rw [decide_eq_false hc]
  exact iteF h
theorem if2 {c A B : Prop} [Decidable c] (h1 : c → A) (h2 : ¬ c → B) : if decide c = true then A else B := by
  by_cases h : c
  · exact ifT h (h1 h)
  · exact ifF h (h2 h)
theorem ite_t {c : Bool} {A B : Prop} (hc : c = true) (h : A) : if c = true then A else B := by
  rw [hc]
  exact iteT h
theorem ite_f {c : Bool} {A B : Prop} (hc : c = false) (h : B) : if c = true then A else B := by
  rw [hc]
  exact iteF h
section
variable {P : Program} {w : World} {K : PySem.W.Frag} {mg : Str → Option Value} {base : Heap}
theorem run_ok {x qual : Str} {st : Stmt} {N G ps : List Str} {k : Nat} {sp : Sp} {f : Addr} {fd : FuncData} (F : Fun K x qual st f fd) (S : FnScope N ps (defScope st)) (O : ScOk N G (defScope st)) (len : ∀ vs H Q E, sp vs H Q E → vs.length = ps.length)
    (hbody : ∀ (f : Addr) (cdv : Value) (A : Around) (outer : List Env) (s : Shared) (H : Hp) (vs : List V) (Q : VK) (E : XK), Room k (A.deeper (envOfC qual (defScope st) s.heap.objs.size f cdv)) → sp vs H Q E → In (cxOf CX0 P w K mg base N qual (defScope st) f cdv A outer s H E).nox N G (defScope st) →
      wL (cxOf CX0 P w K mg base N qual (defScope st) f cdv A outer s H E).nox (defBody st) { nx := fun _ H' => Q .non H', rt := Q } (start N vs) H) : FnOk P w K mg base CX0 (k + 1) f fd ps sp :=
  F.ok S len (fun cdv A outer s H vs Q E hr h => ⟨_, pl, hbody f cdv A outer s H vs Q E hr h ⟨O, ⟨[], (List.append_nil _).symm⟩, S.nd, rfl, rfl, PassesOwn.never⟩⟩)
end
end Wk

/-! My own layer, errors: an own class of errors with fields, raised, caught, asked. -/
namespace Wk
open PySem PySem.Spec PyProof.Rows L2
section
variable {X : Cx} {N G : List Str} {sc : Scope} {e o : Expr} {es : List Expr} {σ : L2.St} {H : Hp} {Q : VK} {pos p0 np : Pos}
theorem o_isN {x : V} (q : Q (.bl (decide (x = .non))) H) : wK X .Is x .non H Q := k_of op_isN ⟨rfl, q⟩
theorem o_nisB {a b : Bool} (q : Q (.bl (!decide (a = b))) H) : wK X .IsNot (.bl a) (.bl b) H Q := k_of op_isnot_bl ⟨a, b, rfl, rfl, q⟩
/-- a def of the module that may raise -/
structure FnX (P : Program) (w : World) (K : PySem.W.Frag) (mg : Str → Option Value) (base : Heap) (k : Nat) (x : Str) (sp : Sp) : Prop where
  ex : ∃ (f : Addr) (fd : FuncData) (ps : List Str), FnOk P w K mg base (L2.CX P w) k f fd ps sp ∧ mg x = some (.ref f) ∧ PySem.W.keepIn K (.ref f) = true ∧ Binds K fd ps []
theorem e_callX {g k n : Nat} {x : Str} {sp : Sp} {W : WX} (F : FnX X.prog X.w X.K X.mg X.base k x sp) (tk : Takes X W) (hr : Room n X.A) (hk : k ≤ n) (q : wA X (e :: es) σ H fun vs H1 => sp vs H1 Q (fun cls d H' => W cls d σ H'))
    (I : In X N G sc := by assumption) (hG : At G g x := by repeat (first | with_reducible apply At.z | with_reducible apply At.s)) (he : starEach (e :: es) X.env = (false, eval e X.env) :: starEach es X.env := by rfl) (hpl : (backTo pos (starEach es X.env)).any (·.1) = false := by rfl) :
    wE X (.Call (.Name x p0) (e :: es) [] pos) σ H Q := by
  obtain ⟨f, fd, ps, F0, hm, hkp, hb⟩ := F.ex
  refine e_of (pe_callSD (E := fun σ cls d H' => W cls d σ H') F0 (hr.mono hk) (I.g hG) hm hkp hb .nil (fun σ => passAt tk σ) pa (I.gd hG) he hpl) ?_
  show wA X (e :: es) σ H fun vs H1 => sp (vs ++ []) H1 Q (fun cls d H' => W cls d σ H')
  simp only [List.append_nil]
  exact q
/-- an own class of errors whose __init__ stores its one argument in the field f -/
def sp1 (C : Addr) (f : Str) : Sp := fun vs H Q _ => ∃ (a : Addr) (v : V), vs = [.ref a, v] ∧ H a = some (exo a C none) ∧ ∀ dx, H dx = none → dx ≠ a → Q .non (upd (upd H dx (exd dx [(f, v)])) a (exo a C (some dx)))
structure Er (P : Program) (w : World) (K : PySem.W.Frag) (mg : Str → Option Value) (base : Heap) (x : Str) (C : Addr) (f : Str) : Prop where
  o : OexC K C
  mgC : mg x = some (.ref C)
  ex : ∃ (fI : Addr) (fd : FuncData) (ps : List Str), FnOk P w K mg base CX0 1 fI fd ps (sp1 C f) ∧ PySem.W.findIn K (.ref C) "__init__" = some (some (.ref fI)) ∧ PySem.W.typeIn K (.ref fI) = some (.type "function") ∧ Binds K fd ps []
/-- self.f = e of an error that is being made -/
theorem s_ost {nx : L2.St → Hp → Prop} {rt : VK} {bk ct : L2.St → Hp → Prop} {f : Str} {value : Expr} {pos' : Pos} (q : wE X value σ H fun y H1 => wE X o σ H1 fun x H2 => ∃ a C : Addr, x = .ref a ∧ OexC X.K C ∧ PySem.W.findIn X.K (.ref C) f = some none ∧ H2 a = some (exo a C none) ∧ ∀ dx, H2 dx = none → dx ≠ a → nx σ (upd (upd H2 dx (exd dx [(f, y)])) a (exo a C (some dx))))
    (hs : swapsWith value (some (.Attribute o f pos')) pos.line X.env = pure false := by rfl) : wS X (.Assign [.Attribute o f pos'] value pos) ⟨nx, rt, bk, ct⟩ σ H :=
  s_of (ps_ost pe pe hs) (e_mono q fun y H1 z => e_mono z fun x H2 ⟨a, C, h1, h2, h3, h4, h5⟩ => ⟨a, C, h1, h2, h3, .inl ⟨h4, h5⟩⟩)
/-- raise C(e) -/
theorem s_raise1 {nx : L2.St → Hp → Prop} {rt : VK} {bk ct : L2.St → Hp → Prop} {g n : Nat} {x f : Str} {C : Addr} {W : WX} {pos' : Pos} (R : Er X.prog X.w X.K X.mg X.base x C f) (tk : Takes X W) (hr : Room n X.A) (hn : 2 ≤ n)
    (q : wE X e σ H fun v H1 => ∀ d H', Same H1 H' → H1 d = none → H' d = some (.xd [(f, v)]) → W (.ref C) (some d) σ H')
    (I : In X N G sc := by assumption) (hG : At G g x := by repeat (first | with_reducible apply At.z | with_reducible apply At.s)) (hc : X.calm = true := by rfl)
    (he : starEach (e :: []) X.env = (false, eval e X.env) :: starEach [] X.env := by rfl) (hpl : (backTo pos (starEach [] X.env)).any (·.1) = false := by rfl) :
    wS X (.Raise (some (.Call (.Name x p0) [e] [] pos)) none pos') ⟨nx, rt, bk, ct⟩ σ H := by
  obtain ⟨fI, fd, ps, F0, hi, ht, hb⟩ := R.ex
  refine s_of (ps_raise hc tk (pmk_oex R.o hi ht F0 (hr.mono hn) hb .nil pass0 (I.g hG) R.mgC pa (I.gd hG) he hpl)) ?_
  refine a_cons (e_mono q fun v H1 z => a_nil ⟨by show 1 ≤ 1000; decide, fun a na => ?_⟩) he
  refine ⟨a, v, rfl, upd_same, fun dx nd ne => ⟨rfl, dx, [(f, v)], upd_same, ?_, ?_, ?_⟩⟩
  · rw [upd_ne ne, upd_same]
  · rw [upd_ne ne] at nd
    exact nd
  · refine z dx _ (fun b u hb => ?_) (by rw [upd_ne ne] at nd; exact nd) upd_same
    have h1 : b ≠ a := ne_of_none hb na
    have h2 : b ≠ dx := ne_of_none hb (by rw [upd_ne ne] at nd; exact nd)
    rw [upd_ne h2, del_ne h1, upd_ne h1, upd_ne h2, upd_ne h1]
    exact hb
/-- the suite of an except clause -/
def tsS (X : Cx) (N G : List Str) (sc : Scope) (sts : List Stmt) : Addr → Value → Option Addr → TS := fun a cls d D σ H => ∀ (oe : Obj) (pn : List (Addr × Obj)), Zc cls d oe → (∃ vs, oe.data = .fields vs) → In (X.suite a ((a, oe) :: pn)) N G sc → wL (X.suite a ((a, oe) :: pn)) sts D σ H
theorem In.tr (I : In X N G sc) {pn : List (Addr × Obj)} {xe : Value → Shared → Prop} (h : PassesOwn (model X.prog X.w) X.A X.env xe) : In (X.tr pn xe) N G sc := ⟨I.ok, I.n, I.nd, I.sc, I.fn, h⟩
theorem In.suite (I : In X N G sc) {a : Addr} {pn : List (Addr × Obj)} : In (X.suite a pn) N G sc := ⟨I.ok, I.n, I.nd, I.sc, I.fn, PassesOwn.never⟩
/-- try: body, except x as n: suite -/
theorem s_tryAs {nx : L2.St → Hp → Prop} {rt : VK} {bk ct : L2.St → Hp → Prop} {i g : Nat} {x n : Str} {c : Value} {body suite : List Stmt} {b0 : Stmt} {pos' : Pos} {Wout : WX} (hm : X.mg x = some c) (tk : Takes X Wout)
    (q : ∀ (pn : List (Addr × Obj)) (xe : Value → Shared → Prop), Takes (X.tr pn xe) (wAs X.K c i (tsS X N G sc (b0 :: suite)) Wout ⟨nx, rt, bk, ct⟩) → In (X.tr pn xe) N G sc → wL (X.tr pn xe) body ⟨nx, rt, bk, ct⟩ σ H)
    (I : In X N G sc := by assumption) (hA : At N i n := by repeat (first | with_reducible apply At.z | with_reducible apply At.s)) (hG : At G g x := by repeat (first | with_reducible apply At.z | with_reducible apply At.s))
    (hln : X.env.kindOf n = some .local := by rfl) (hs : X.stack = X.env :: X.outer := by rfl) (hf : X.env.frame = some X.env.locals := by rfl) :
    wS X (.Try body [.ExceptHandler (some (.Name x np)) (some n) (b0 :: suite) pos'] [] [] pos) ⟨nx, rt, bk, ct⟩ σ H :=
  s_of (ps_try_as (tb := fun W D σ H => ∀ (pn : List (Addr × Obj)) (xe : Value → Shared → Prop), Takes (X.tr pn xe) W → In (X.tr pn xe) N G sc → wL (X.tr pn xe) body D σ H) hs hf I.nd (I.hi hA) hln ⟨I.g hG, I.gd hG, .inl hm⟩ tk
    (fun W pn xe tk' po => ⟨fun pins s σ H D Iv h => pl.run pins s σ H D Iv (h pn xe tk' (I.tr po))⟩)
    (fun a oe cls d pn hz hd => ⟨fun pins s σ H D Iv h => pl.run pins s σ H D Iv (h oe pn hz hd I.suite)⟩)) q
/-- what the class D must say, so that isinstance asks its errors rightly -/
structure EcC (K : PySem.W.Frag) (D : Addr) : Prop where
  cl : (PySem.W.clsIn K D).isSome = true
  hg : PySem.W.findIn K (.ref D) "__getattribute__" = some (some (.builtin "BaseException.__getattribute__"))
  hk : PySem.W.findIn K (.ref D) "__getattr__" = some none
  hs : PySem.W.subIn K (.ref D) (.type "BaseException") = some true
  ha : PySem.W.findIn K (.ref D) "__class__" = some (some (.builtin "object.__class__"))
  hn : PySem.W.specialIn K (.builtin "object.__class__") "__get__" = some (some (.builtin "getset_descriptor.__get__"))
  ht : PySem.W.takesIn K (.builtin "object.__class__") = some true
  hm : PySem.W.mroIn K D (.type "object") = some true
/-- the caught error at a stands as an instance -/
theorem inst_of {pins : List (Addr × Obj)} {s : Shared} {a D : Addr} {d : Option Addr} {oe : Obj} {pn : List (Addr × Obj)} {fs : List (Str × V)} (I : Inv (X.suite a ((a, oe) :: pn)) pins σ H s) (hz : Zc (.ref D) d oe) (hf : ∃ vs, oe.data = .fields vs)
    (hd : ∀ dd, d = some dd → H dd = some (.xd fs)) : ∃ od, PySem.W.InstAt s.heap a oe D od := by
  obtain ⟨hget, _⟩ := I.pin (a, oe) (List.mem_append.mpr (.inl List.mem_cons_self))
  obtain ⟨vs, hv⟩ := hf
  have nc : PySem.W.notCls oe := by unfold PySem.W.notCls; rw [hv] <;> trivial
  cases d with
  | none => exact ⟨none, hget, hz.1, nc, by rw [hz.2]; trivial⟩
  | some dd =>
    obtain ⟨mA, hns, _⟩ := (show ObjOk X.prog X.w H s.heap dd (.xd fs) from I.hok dd _ (hd dd rfl))
    obtain ⟨od, ho, _⟩ := lookIn_ns hns
    exact ⟨some od, hget, hz.1, nc, by rw [hz.2]; exact ho⟩
theorem c_isE {a D : Addr} {d : Option Addr} {oe : Obj} {pn : List (Addr × Obj)} {fs : List (Str × V)} {c : V} {cv : Value} {b : Bool} (C : EcC X.K D) (hz : Zc (.ref D) d oe) (hf : ∃ vs, oe.data = .fields vs) (hd : ∀ dd, d = some dd → H dd = some (.xd fs))
    (k : ClsV c cv) (e : PySem.W.kitOne X.K (.ref D) cv = some b) (q : Q (.bl b) H) : wC (X.suite a ((a, oe) :: pn)) (.builtin "isinstance") [.ref a, c] H Q := by
  unfold wC
  intro pins s σ us I r
  obtain ⟨u1, u2, rfl, r1, r2⟩ := vals2 r
  cases (show u1 = Value.ref a from r1)
  have ec := k.eq r2
  subst ec
  obtain ⟨od, J⟩ := inst_of I hz hf hd
  exact PySem.W.kia_one (PySem.W.kitx_exc (od := od) C.cl C.hg C.hk C.hs C.ha C.hn C.ht C.hm) I.kIn J e (fun z => nomatch z) fun tk => ⟨.bl b, H, I.tok tk, rfl, q⟩
theorem c_isET {a D tp : Addr} {d : Option Addr} {oe : Obj} {pn : List (Addr × Obj)} {fs : List (Str × V)} {cs : List V} {us' : List Value} {b : Bool} (C : EcC X.K D) (hz : Zc (.ref D) d oe) (hf : ∃ vs, oe.data = .fields vs) (hd : ∀ dd, d = some dd → H dd = some (.xd fs))
    (hT : H tp = some (.tup cs)) (k : Paired ClsV cs us') (e : PySem.W.kitAny X.K (.ref D) us' = some b) (q : Q (.bl b) H) : wC (X.suite a ((a, oe) :: pn)) (.builtin "isinstance") [.ref a, .ref tp] H Q := by
  unfold wC
  intro pins s σ us I r
  obtain ⟨u1, u2, rfl, r1, r2⟩ := vals2 r
  cases (show u1 = Value.ref a from r1)
  cases (show u2 = Value.ref tp from r2)
  obtain ⟨od, J⟩ := inst_of I hz hf hd
  obtain ⟨_, its, rv, o, h1, h2, n, h3⟩ := (show ObjOk X.prog X.w H s.heap tp (.tup cs) from I.hok tp _ hT)
  have e3 := ClsV.all k rv
  subst e3
  obtain ⟨oc, odd, dt, sl⟩ := o
  simp only at h2 h3
  subst h2 h3
  exact PySem.W.kia_tup (PySem.W.kitx_exc (od := od) C.cl C.hg C.hk C.hs C.ha C.hn C.ht C.hm) I.kIn J h1 e (fun z => nomatch z) fun tk => ⟨.bl b, H, I.tok tk, rfl, q⟩
/-- e.f of the caught error -/
theorem e_xf {a C : Addr} {oe : Obj} {d : Option Addr} {pn : List (Addr × Obj)} {f : Str} (T : XfC X.K C) (hno : PySem.W.findIn X.K (.ref C) f = some none) (hz : Zc (.ref C) d oe) (hf : ∃ vs, oe.data = .fields vs)
    (q : wE (X.suite a ((a, oe) :: pn)) e σ H fun x H1 => x = .ref a ∧ ∃ (dd : Addr) (fs : List (Str × V)) (v : V), d = some dd ∧ H1 dd = some (.xd fs) ∧ fs.lookup f = some v ∧ Q v H1) (hb : attributeBase e f X.env (eval e X.env) = eval e X.env := by rfl) :
    wE (X.suite a ((a, oe) :: pn)) (.Attribute e f pos) σ H Q := e_of (pe_xf T hno hz hf pe hb) (e_mono q fun x H1 z => ⟨z.1, rfl, z.2⟩)
end
section
variable {P : Program} {w : World} {K : PySem.W.Frag} {mg : Str → Option Value} {base : Heap}
theorem fn_okX {x : Str} {st : Stmt} {N G ps : List Str} {k : Nat} {sp : Sp} (T : Top K mg x st) (S : FnScope N ps (defScope st)) (O : ScOk N G (defScope st)) (len : ∀ vs H Q E, sp vs H Q E → vs.length = ps.length)
    (hb : ∀ (kV doc pm : Value) (an : Option Addr) (cdv ct : Value) (us : List Value), us.length = ps.length → bindArgs (PySem.W.fnOf x x (defArgs st) (defBody st) (defScope st) .none kV doc pm an cdv ct) ⟨us, []⟩ = pure (ps.zip us))
    (hbody : ∀ (f : Addr) (cdv : Value) (A : Around) (outer : List Env) (s : Shared) (H : Hp) (vs : List V) (Q : VK) (E : XK), Room k (A.deeper (envOfC x (defScope st) s.heap.objs.size f cdv)) → sp vs H Q E → In (cxOf (L2.CX P w) P w K mg base N x (defScope st) f cdv A outer s H E) N G (defScope st) →
      Takes (cxOf (L2.CX P w) P w K mg base N x (defScope st) f cdv A outer s H E) (fun cls d _ H => E cls d H) →
      wL (cxOf (L2.CX P w) P w K mg base N x (defScope st) f cdv A outer s H E) (defBody st) { nx := fun _ H' => Q .non H', rt := Q } (start N vs) H) : FnX P w K mg base (k + 1) x sp := by
  obtain ⟨f, fd, F, hm⟩ := T.ex
  exact ⟨f, fd, ps, F.okX S len (fun cdv A outer s H vs Q E hr h => ⟨_, pl, hbody f cdv A outer s H vs Q E hr h ⟨O, ⟨[], (List.append_nil _).symm⟩, S.nd, rfl, rfl, passes_of rfl⟩ (takes_of rfl rfl rfl rfl)⟩), hm, F.kp, F.binds hb⟩
end
end Wk

/-! My own layer, errors whose context is None: raised where nothing is handled, so that defs may be called in the suite that catches them. -/
namespace Wk
open PySem PySem.Spec PyProof.Rows L2
section
variable {X : Cx} {N G : List Str} {sc : Scope} {e o : Expr} {es : List Expr} {σ : L2.St} {H : Hp} {Q : VK} {pos p0 np : Pos}
/-- C(e) of a class whose __init__ stores one field: the made error's fields are known -/
theorem pmkN {n : Nat} {x f : Str} {C : Addr} (R : Er X.prog X.w X.K X.mg X.base x C f) (hr : Room n X.A) (hn : 2 ≤ n) (hg : Gl X x) (hdb : (x == ("__debug__" : Str)) = false)
    (he : starEach (e :: []) X.env = (false, eval e X.env) :: starEach [] X.env) (hpl : (backTo pos (starEach [] X.env)).any (·.1) = false) :
    L2N.PMk X (.Call (.Name x p0) [e] [] pos) (fun σ H Q => wE X e σ H fun v H1 => ∀ d H', Same H1 H' → H1 d = none → H' d = some (.xd [(f, v)]) → Q (.ref C) (some d) H') := by
  intro pins s σ H Q I h
  obtain ⟨fI, fd, ps, F0, hi, ht, hb⟩ := R.ex
  obtain ⟨_, _, _, _, bm, _, _, _, _, _, _, _, _, _, _, hC, hbm⟩ := R.o.cls
  refine wpAny_Call_Name_kw (ld_glob I hg R.mgC ?_ hdb)
  refine PySem.W.callWith_K (h₀ := X.base) I.ok.mod.kin R.o.kC (thn ((pa_cons pe pa_nil he).run pos pins s σ H (fun vs H1 => ∃ v, vs = [v] ∧ ∀ d H', Same H1 H' → H1 d = none → H' d = some (.xd [(f, v)]) → Q (.ref C) (some d) H') I (e_mono h fun v H1 z => ⟨v, rfl, z⟩)) fun us s1 ⟨vs, H1, I1, r1, v, ev, q1⟩ => ⟨I1.kIn, ?_⟩) he hpl
  subst ev
  show wpAny _ _ (call (.ref C) us) _ _ _
  obtain ⟨hp, g, dr, tk, os⟩ := s1
  have hget0 : ((hp.push (PySem.W.kdv_tup us)).push (PySem.HandSPX.excO C hp.objs.size)).get? (hp.objs.size + 1) = some (PySem.HandSPX.excO C hp.objs.size) := by heap_get
  let a := hp.objs.size + 1
  have na : H1 a = none := I1.hok.fresh (Nat.le_succ _)
  let hp2 := (hp.push (PySem.W.kdv_tup us)).push (PySem.HandSPX.excO C hp.objs.size)
  have kk : ∀ b o, hp.get? b = some o → hp2.get? b = some o := fun b o z => Heap.get?_push_of_some _ (Heap.get?_push_of_some _ z)
  have hget : hp2.get? a = some (PySem.HandSPX.excO C hp.objs.size) := hget0
  have I2 : Inv X pins σ (upd H1 a (exo a C none)) ⟨hp2, g, dr, tk, os⟩ := I1.laid (t' := tk) (h' := hp2) kk (Nat.le_succ _) (exo_ok hget)
  have r2 : Vals (V.ref a :: [v]) (Value.ref a :: us) := .cons rfl r1
  have lu : us.length = 1 := r1.length.symm
  -- what __init__ is asked for
  have hq : sp1 C f [.ref a, v] (upd H1 a (exo a C none)) (fun w H2 => w = .non ∧ ∃ d, H2 a = some (exo a C (some d)) ∧ H2 d = some (exd d [(f, v)]) ∧ H1 d = none ∧ Q (.ref C) (some d) (upd (del H2 a) d (.xd [(f, v)]))) (fun _ _ _ => False) := by
    refine ⟨a, v, rfl, upd_same, fun dx nd ne => ⟨rfl, dx, upd_same, by rw [upd_ne ne, upd_same], by rw [upd_ne ne] at nd; exact nd, ?_⟩⟩
    rw [upd_ne ne] at nd
    refine q1 dx _ (fun b u hb => ?_) nd upd_same
    have h1 : b ≠ a := ne_of_none hb na
    have h2 : b ≠ dx := ne_of_none hb nd
    rw [upd_ne h2, del_ne h1, upd_ne h1, upd_ne h2, upd_ne h1]
    exact hb
  have lp : (Value.ref a :: us).length = ps.length := by
    have z1 := r2.length
    rw [F0.len _ _ _ _ hq] at z1
    exact z1.symm
  have bind : BindsTo ⟨hp2, g, dr, tk, os⟩ fd ⟨Value.ref a :: us, []⟩ (ps.zip (Value.ref a :: us)) := by
    have z1 := hb ⟨hp2, g, dr, tk, os⟩ (Value.ref a :: us) I2.kIn (by rw [List.append_nil]; exact lp)
    rwa [List.append_nil] at z1
  have room : Room 1 (X.A.under (.builtin "type.__call__" ⟨.ref C :: us, []⟩)) := (hr.mono hn).make C us []
  have go := F0.run _ X.stack _ _ ⟨Value.ref a :: us, []⟩ (Value.ref a :: us) [V.ref a, v] _ (fun _ _ _ => False) room (I2.env0.make C us []) bind r2 hq
  refine wpAny_call (PySem.HandSPX.call_own F.excBase_ValueError (fun Y => PySem.HandSPX.refsVE_contains Y bm hbm) (I1.kIn _ _ hC) (PySem.W.looks_findIn I1.kIn hi) (fun self => PySem.W.bind_fn I1.kIn self ht) (by rw [lu, sizeLine_eq]; decide) (codeAny_mono go fun r s' back => ?_))
  cases r with
  | error er => exact False.elim back
  | ok fl =>
    cases fl with
    | ret u =>
      obtain ⟨w, H2, o2, b2, un2, ok2, rw2, ew, d, ea, ed, nd1, q2⟩ := back
      subst ew
      obtain ⟨h2, g2, d2, t2, os'⟩ := s'
      obtain ⟨t0, Gh, J, kG, ge, hoe, nH⟩ := mk_end0 (d2 := d2) (t2 := t2) I1 (Nat.le_succ _) kk un2 ok2 o2 b2 ea ed nd1
      refine ⟨rw2, a, _, #[.ref t0, .none, .none, .none, .bool false, .none], ⟨Gh, g2, d2, t2, os'⟩, _, .ref C, some d, rfl, J, kG, ge, hoe, ⟨rfl, rfl, ?_⟩, rfl, rfl, nH, rfl, b2, raises_own R.o.exC R.o.tyC, q2⟩
      intro vs z
      cases z
      rfl
    | next => exact False.elim back
    | brk => exact False.elim back
    | cont => exact False.elim back

theorem e_dict (q : ∀ p H2, Same H H2 → H p = none → H2 p = some (.dK []) → Q (.ref p) H2) : wE X (.Dict [] [] pos) σ H Q :=
  e_of pe_dnewK fun p np => q p _ (fun b u eo => by rw [upd_ne (ne_of_none eo np)]; exact eo) np upd_same
theorem e_neg {a : Expr} (q : wE X a σ H fun x H1 => ∃ i, x = .int i ∧ Q (.int (-i)) H1) : wE X (.UnaryOp .USub a pos) σ H Q := e_of (pe_un un_neg pe) q
theorem o_cat {l b : Addr} {xs zs : List V} (h1 : H l = some (.lst xs)) (h2 : H b = some (.lst zs)) (hz : xs.length + zs.length ≤ sizeLine) (q : ∀ p H2, Same H H2 → H2 p = some (.lst (xs ++ zs)) → Q (.ref p) H2) : wB X .Add (.ref l) (.ref b) H Q :=
  b_of op_cat ⟨l, b, xs, zs, rfl, rfl, h1, h2, hz, fun p np => q p _ (fun c u eo => by rw [upd_ne (ne_of_none eo np)]; exact eo) upd_same⟩
theorem c_str {i : Int} (hl : i.natAbs.log2 < 1920) (q : Q (.str (toString i)) H) : wC X (.type "str") [.int i] H Q := c_of call_str_int ⟨i, rfl, hl, q⟩
theorem o_isB {a b : Bool} (q : Q (.bl (decide (a = b))) H) : wK X .Is (.bl a) (.bl b) H Q := k_of op_is_bl ⟨a, b, rfl, rfl, q⟩
/-- raise C(e), where nothing is handled -/
theorem s_raiseN {nx : L2.St → Hp → Prop} {rt : VK} {bk ct : L2.St → Hp → Prop} {g n : Nat} {x f : Str} {C : Addr} {W : WX} {pos' : Pos} (R : Er X.prog X.w X.K X.mg X.base x C f) (tk : L2N.Takes X W) (hr : Room n X.A) (hn : 2 ≤ n)
    (q : wE X e σ H fun v H1 => ∀ d H', Same H1 H' → H1 d = none → H' d = some (.xd [(f, v)]) → W (.ref C) (some d) σ H')
    (I : In X N G sc := by assumption) (hG : At G g x := by repeat (first | with_reducible apply At.z | with_reducible apply At.s)) (hc : X.calm = true := by rfl)
    (he : starEach (e :: []) X.env = (false, eval e X.env) :: starEach [] X.env := by rfl) (hpl : (backTo pos (starEach [] X.env)).any (·.1) = false := by rfl) :
    wS X (.Raise (some (.Call (.Name x p0) [e] [] pos)) none pos') ⟨nx, rt, bk, ct⟩ σ H :=
  s_of (L2N.ps_raise hc tk (pmkN R hr hn (I.g hG) (I.gd hG) he hpl)) q
/-- a def of the module that may raise so -/
structure FnN (P : Program) (w : World) (K : PySem.W.Frag) (mg : Str → Option Value) (base : Heap) (k : Nat) (x : Str) (sp : Sp) : Prop where
  ex : ∃ (f : Addr) (fd : FuncData) (ps : List Str), FnOk P w K mg base (L2N.CX P w) k f fd ps sp ∧ mg x = some (.ref f) ∧ PySem.W.keepIn K (.ref f) = true ∧ Binds K fd ps []
theorem e_callN {g k n : Nat} {x : Str} {sp : Sp} {W : WX} (F : FnN X.prog X.w X.K X.mg X.base k x sp) (tk : L2N.Takes X W) (hr : Room n X.A) (hk : k ≤ n) (q : wA X (e :: es) σ H fun vs H1 => sp vs H1 Q (fun cls d H' => W cls d σ H'))
    (I : In X N G sc := by assumption) (hG : At G g x := by repeat (first | with_reducible apply At.z | with_reducible apply At.s)) (he : starEach (e :: es) X.env = (false, eval e X.env) :: starEach es X.env := by rfl) (hpl : (backTo pos (starEach es X.env)).any (·.1) = false := by rfl) :
    wE X (.Call (.Name x p0) (e :: es) [] pos) σ H Q := by
  obtain ⟨f, fd, ps, F0, hm, hkp, hb⟩ := F.ex
  refine e_of (pe_callSD (E := fun σ cls d H' => W cls d σ H') F0 (hr.mono hk) (I.g hG) hm hkp hb .nil (fun σ => L2N.passAt tk σ) pa (I.gd hG) he hpl) ?_
  show wA X (e :: es) σ H fun vs H1 => sp (vs ++ []) H1 Q (fun cls d H' => W cls d σ H')
  simp only [List.append_nil]
  exact q
/-- the suite of an except clause that catches such an error -/
def tsN (X : Cx) (N G : List Str) (sc : Scope) (sts : List Stmt) : Addr → Value → Option Addr → TS := fun a cls d D σ H => ∀ (oe : Obj) (pn : List (Addr × Obj)), Zc cls d oe → (∃ vs, oe.data = .fields vs) → In (X.suite a ((a, oe) :: pn)) N G sc → L2H.HotC (X.suite a ((a, oe) :: pn)) → wL (X.suite a ((a, oe) :: pn)) sts D σ H
theorem s_tryN {nx : L2.St → Hp → Prop} {rt : VK} {bk ct : L2.St → Hp → Prop} {i g : Nat} {x n : Str} {c : Value} {body suite : List Stmt} {b0 : Stmt} {pos' : Pos} {Wout : WX} (hm : X.mg x = some c) (tk : L2N.Takes X Wout)
    (q : ∀ (pn : List (Addr × Obj)) (xe : Value → Shared → Prop), L2N.Takes (X.tr pn xe) (wAs X.K c i (tsN X N G sc (b0 :: suite)) Wout ⟨nx, rt, bk, ct⟩) → In (X.tr pn xe) N G sc → wL (X.tr pn xe) body ⟨nx, rt, bk, ct⟩ σ H)
    (I : In X N G sc := by assumption) (hA : At N i n := by repeat (first | with_reducible apply At.z | with_reducible apply At.s)) (hG : At G g x := by repeat (first | with_reducible apply At.z | with_reducible apply At.s))
    (hln : X.env.kindOf n = some .local := by rfl) (hs : X.stack = X.env :: X.outer := by rfl) (hf : X.env.frame = some X.env.locals := by rfl) :
    wS X (.Try body [.ExceptHandler (some (.Name x np)) (some n) (b0 :: suite) pos'] [] [] pos) ⟨nx, rt, bk, ct⟩ σ H :=
  s_of (L2N.ps_try_as (tb := fun W D σ H => ∀ (pn : List (Addr × Obj)) (xe : Value → Shared → Prop), L2N.Takes (X.tr pn xe) W → In (X.tr pn xe) N G sc → wL (X.tr pn xe) body D σ H) hs hf I.nd (I.hi hA) hln ⟨I.g hG, I.gd hG, .inl hm⟩ tk
    (fun W pn xe tk' po => ⟨fun pins s σ H D Iv h => pl.run pins s σ H D Iv (h pn xe tk' (I.tr po))⟩)
    (fun a oe cls d pn hz hd => ⟨fun pins s σ H D Iv h => pl.run pins s σ H D Iv (h oe pn hz.zc hd I.suite (by
      obtain ⟨vs, hv⟩ := hd
      exact ⟨(a, oe), ⟨rfl, vs, hv, hz.2.2 vs hv⟩, List.mem_cons_self⟩))⟩)) q
theorem takesN0 : L2N.Takes X (fun _ _ _ _ => False) := fun _ _ x => by
  obtain ⟨_, _, _, _, _, _, _, _, _, _, _, _, _, _, _, _, z⟩ := x
  exact z.elim
/-- a def that is called where an error is handled -/
structure FnHt (P : Program) (w : World) (K : PySem.W.Frag) (mg : Str → Option Value) (base : Heap) (k : Nat) (x : Str) (sp : Sp) : Prop where
  ex : ∃ (f : Addr) (fd : FuncData) (ps : List Str), L2H.FnH P w K mg base CX0 k f fd ps sp ∧ mg x = some (.ref f) ∧ PySem.W.keepIn K (.ref f) = true ∧ Binds K fd ps []
theorem e_callH {g k n : Nat} {x : Str} {sp : Sp} (F : FnHt X.prog X.w X.K X.mg X.base k x sp) (hr : L2H.RoomH n X.A) (hk : k ≤ n) (hh : L2H.HotC X) (q : wA X (e :: es) σ H fun vs H1 => sp vs H1 Q E0)
    (I : In X N G sc := by assumption) (hG : At G g x := by repeat (first | with_reducible apply At.z | with_reducible apply At.s)) (he : starEach (e :: es) X.env = (false, eval e X.env) :: starEach es X.env := by rfl) (hpl : (backTo pos (starEach es X.env)).any (·.1) = false := by rfl) :
    wE X (.Call (.Name x p0) (e :: es) [] pos) σ H Q := by
  obtain ⟨f, fd, ps, F0, hm, hkp, hb⟩ := F.ex
  exact e_of (L2H.pe_callH (E := fun _ => E0) F0 (hr.mono hk) hh (I.g hG) hm hkp hb (fun σ pins H s e s' I z => z.elim) pa (I.gd hG) he hpl) q
end
section
variable {P : Program} {w : World} {K : PySem.W.Frag} {mg : Str → Option Value} {base : Heap}
theorem fn_okN {x : Str} {st : Stmt} {N G ps : List Str} {k : Nat} {sp : Sp} (T : Top K mg x st) (S : FnScope N ps (defScope st)) (O : ScOk N G (defScope st)) (len : ∀ vs H Q E, sp vs H Q E → vs.length = ps.length)
    (hb : ∀ (kV doc pm : Value) (an : Option Addr) (cdv ct : Value) (us : List Value), us.length = ps.length → bindArgs (PySem.W.fnOf x x (defArgs st) (defBody st) (defScope st) .none kV doc pm an cdv ct) ⟨us, []⟩ = pure (ps.zip us))
    (hbody : ∀ (f : Addr) (cdv : Value) (A : Around) (outer : List Env) (s : Shared) (H : Hp) (vs : List V) (Q : VK) (E : XK), Room k (A.deeper (envOfC x (defScope st) s.heap.objs.size f cdv)) → sp vs H Q E → In (cxOf (L2N.CX P w) P w K mg base N x (defScope st) f cdv A outer s H E) N G (defScope st) →
      L2N.Takes (cxOf (L2N.CX P w) P w K mg base N x (defScope st) f cdv A outer s H E) (fun cls d _ H => E cls d H) →
      wL (cxOf (L2N.CX P w) P w K mg base N x (defScope st) f cdv A outer s H E) (defBody st) { nx := fun _ H' => Q .non H', rt := Q } (start N vs) H) : FnN P w K mg base (k + 1) x sp := by
  obtain ⟨f, fd, F, hm⟩ := T.ex
  obtain ⟨oc, od, kV, doc, pm, an, cdv, ct, osl, rfl, lk, hcd⟩ := id F.ex
  exact ⟨f, _, ps, fn_of lk hcd S len (fun A outer s H vs Q E hr h => ⟨_, pl, hbody f cdv A outer s H vs Q E hr h ⟨O, ⟨[], (List.append_nil _).symm⟩, S.nd, rfl, rfl, passes_of rfl⟩ (L2N.takes_of rfl rfl rfl rfl)⟩), hm, F.kp, F.binds hb⟩
theorem fn_okH {x : Str} {st : Stmt} {N G ps : List Str} {k : Nat} {sp : Sp} (T : Top K mg x st) (S : FnScope N ps (defScope st)) (O : ScOk N G (defScope st)) (len : ∀ vs H Q E, sp vs H Q E → vs.length = ps.length)
    (hb : ∀ (kV doc pm : Value) (an : Option Addr) (cdv ct : Value) (us : List Value), us.length = ps.length → bindArgs (PySem.W.fnOf x x (defArgs st) (defBody st) (defScope st) .none kV doc pm an cdv ct) ⟨us, []⟩ = pure (ps.zip us))
    (hbody : ∀ (f : Addr) (cdv : Value) (A : Around) (outer : List Env) (s : Shared) (H : Hp) (vs : List V) (Q : VK) (E : XK) (p : Addr × Obj), L2H.RoomH k (A.deeper (envOfC x (defScope st) s.heap.objs.size f cdv)) → sp vs H Q E → In (L2H.cxH CX0 P w K mg base N x (defScope st) f cdv A outer s H E p).nox N G (defScope st) →
      wL (L2H.cxH CX0 P w K mg base N x (defScope st) f cdv A outer s H E p).nox (defBody st) { nx := fun _ H' => Q .non H', rt := Q } (start N vs) H) : FnHt P w K mg base (k + 1) x sp := by
  obtain ⟨f, fd, F, hm⟩ := T.ex
  obtain ⟨oc, od, kV, doc, pm, an, cdv, ct, osl, rfl, lk, hcd⟩ := id F.ex
  exact ⟨f, _, ps, L2H.fn_ofH lk hcd S len (fun A outer s H vs Q E p hot hr h => ⟨_, PSs.nox pl, hbody f cdv A outer s H vs Q E p hr h ⟨O, ⟨[], (List.append_nil _).symm⟩, S.nd, rfl, rfl, PassesOwn.never⟩⟩), hm, F.kp, F.binds hb⟩
end
end Wk

/-! My own layer, texts: chains of comparisons, order and length of texts, a sign of a text, a loop over a text. -/
namespace Wk
open PySem PySem.Spec PyProof.Rows L2
section
variable {X : Cx} {N G : List Str} {sc : Scope} {a b c e : Expr} {es : List Expr} {σ : L2.St} {H : Hp} {Q : VK} {pos : Pos} {QT : Bool → Hp → Prop}
theorem e_chain {op op' : CmpOp} (q : wE X a σ H fun x H1 => wE X b σ H1 fun y H2 => wK X op x y H2 fun z H3 => ∃ k, z = .bl k ∧ (if k = true then wE X c σ H3 fun w H4 => wK X op' y w H4 Q else Q (.bl false) H3)) (hm : lastMarks [op, op'] [b, c] = false := by with_unfolding_all rfl) :
    wE X (.Compare a [op, op'] [b, c] pos) σ H Q := e_of (pe_chain opk opk pe pe pe hm) q
theorem t_chain {op op' : CmpOp} (q : wE X a σ H fun x H1 => wE X b σ H1 fun y H2 => wK X op x y H2 fun z H3 => ∃ k, z = .bl k ∧ (if k = true then wE X c σ H3 fun w H4 => wK X op' y w H4 fun z H5 => ∃ k, z = .bl k ∧ QT k H5 else ∃ k, V.bl false = .bl k ∧ QT k H3)) (hm : lastMarks [op, op'] [b, c] = false := by with_unfolding_all rfl) :
    wT X (.Compare a [op, op'] [b, c] pos) σ H QT := t_of (pt_chain opk opk pe pe pe hm) q
/-- one sign -/
abbrev sg (c : Nat) : Str := ⟨#[c]⟩
theorem lt1 (c d : Nat) : (([c] : List Nat) < [d]) ↔ c < d := by
  constructor
  · intro h
    cases h with
    | rel h => exact h
    | cons h => cases h
  · exact fun h => .rel h
theorem o_le1 {c d : Nat} (q : Q (.bl (decide (c ≤ d))) H) : wK X .LtE (.str (sg c)) (.str (sg d)) H Q := by
  refine k_of op_le_str ⟨sg c, sg d, rfl, rfl, ?_⟩
  have e1 : (!decide (([d] : List Nat) < [c])) = decide (c ≤ d) := by
    by_cases h : c ≤ d
    · have h2 : ¬ (([d] : List Nat) < [c]) := fun z => absurd ((lt1 d c).mp z) (by omega)
      rw [decide_eq_true h, decide_eq_false h2]
      rfl
    · have h2 : ([d] : List Nat) < [c] := (lt1 d c).mpr (by omega)
      rw [decide_eq_false h, decide_eq_true h2]
      rfl
  show Q (.bl (!decide (([d] : List Nat) < [c]))) H
  rw [e1]
  exact q
theorem c_lenS {z : Str} (h : z.length ≤ sizeLine) (q : Q (.int (z.length : Int)) H) : wC X (.builtin "len") [.str z] H Q := c_of call_len ⟨.str z, z.length, rfl, ⟨h, rfl⟩, q⟩
theorem ix_s {z : Str} {i : Int} {c : Nat} (h : z.length ≤ sizeLine) (e : atI z.cps.toList i = some c) (q : Q (.str (sg c)) H) : wIx X (.str z) (.int i) H Q := ix_of ix_str ⟨z, i, c, rfl, rfl, h, e, q⟩
theorem s_forS {nx : L2.St → Hp → Prop} {rt : VK} {bk ct : L2.St → Hp → Prop} {x : Str} {i : Nat} {body : List Stmt} {px : Pos}
    (q : wE X a σ H fun v H1 => ∃ z : Str, v = .str z ∧ ∃ Pv : Nat → L2.St → Hp → Prop, Pv 0 σ H1 ∧ (∀ k c σ H, z.cps[k]? = some c → Pv k σ H → wL X body ⟨Pv (k + 1), rt, nx, Pv (k + 1)⟩ (σ.set i (some (.str (sg c)))) H) ∧ ∀ σ H, Pv z.cps.size σ H → nx σ H)
    (I : In X N G sc := by assumption) (hc : X.calm = true := by rfl) (hA : At N i x := by repeat (first | with_reducible apply At.z | with_reducible apply At.s)) (hs2 : ∀ z, foldedSetIterable a X.env z = pure z := by intro _; rfl) :
    wS X (.For (.Name x px) a body [] pos) ⟨nx, rt, bk, ct⟩ σ H := by
  refine s_of (ps_for I.never hc (pi_str pe) (pg_name I.nd (I.hi hA) (I.loc hA) I.f) pl hs2) (e_mono q fun v H1 q1 => ?_)
  obtain ⟨z, rfl, Pv, h0, hb, hd⟩ := q1
  refine ⟨z, rfl, fun k m σ H => m = z.cps.size - k ∧ k ≤ z.cps.size ∧ Pv k σ H, ⟨z.cps.size, by simp, Nat.zero_le _, h0⟩, ?_⟩
  rintro k m σ H ⟨rfl, hk, p⟩
  by_cases hlt : k < z.cps.size
  · refine .inr ⟨hlt, Pv (k + 1), fun σ' H' p' => ⟨z.cps.size - (k + 1), by omega, rfl, hlt, p'⟩, fun y H' hy => ?_⟩
    obtain ⟨rfl, c, hc', rfl⟩ := hy
    exact hb k c σ _ hc' p
  · have e : k = z.cps.size := by omega
    subst e
    exact .inl ⟨Nat.le_refl _, hd σ H p⟩
end
end Wk

/-! My own layer, comprehensions with their own names, and ground terms: what only makes new objects, over facts that last. -/
namespace Wk
open PySem PySem.Spec PyProof.Rows L2
section
variable {P : Program} {w : World} {K : PySem.W.Frag} {mg : Str → Option Value} {base : Heap}
/-- a def with further slots C for the names of its comprehensions -/
theorem fn_okC {x : Str} {st : Stmt} {N C G ps : List Str} {k : Nat} {sp : Sp} (T : Top K mg x st) (S : FnScope (N ++ C) ps (defScope st)) (O : ScOk N G (defScope st)) (len : ∀ vs H Q E, sp vs H Q E → vs.length = ps.length)
    (hb : ∀ (kV doc pm : Value) (an : Option Addr) (cdv ct : Value) (us : List Value), us.length = ps.length → bindArgs (PySem.W.fnOf x x (defArgs st) (defBody st) (defScope st) .none kV doc pm an cdv ct) ⟨us, []⟩ = pure (ps.zip us))
    (hbody : ∀ (f : Addr) (cdv : Value) (A : Around) (outer : List Env) (s : Shared) (H : Hp) (vs : List V) (Q : VK) (E : XK), Room k (A.deeper (envOfC x (defScope st) s.heap.objs.size f cdv)) → sp vs H Q E → In (cxOf CX0 P w K mg base (N ++ C) x (defScope st) f cdv A outer s H E).nox N G (defScope st) →
      wL (cxOf CX0 P w K mg base (N ++ C) x (defScope st) f cdv A outer s H E).nox (defBody st) { nx := fun _ H' => Q .non H', rt := Q } (start (N ++ C) vs) H) : Fn P w K mg base (k + 1) x sp := by
  obtain ⟨f, fd, F, hm⟩ := T.ex
  exact ⟨f, fd, ps, F.ok S len (fun cdv A outer s H vs Q E hr h => ⟨_, pl, hbody f cdv A outer s H vs Q E hr h ⟨O, ⟨C, rfl⟩, S.nd, rfl, rfl, PassesOwn.never⟩⟩), hm, F.kp, F.binds hb⟩
end
/-! ### blocks -/
instance visDec {sc : Scope} {x : Str} : Decidable (Vis sc x) := inferInstanceAs (Decidable (_ ∨ _))
/-- the names of a comprehension's block: the seen ones with their slots, the global ones, its own at slot i -/
structure BkOk (N : List Str) (Vn : List (Nat × Str)) (G : List Str) (i : Nat) (x : Str) (sc scope : Scope) : Prop where
  lo : ∀ p ∈ Vn, N[p.1]? = some p.2 ∧ Vis (relS scope sc) p.2 ∧ (p.2 == ("__debug__" : Str)) = false ∧ (p.2 == ("__classdict__" : Str)) = false
  gl : ∀ x ∈ G, (relS scope sc).names.lookup x = some .globalImplicit ∧ (x == ("__debug__" : Str)) = false ∧ x ≠ "__name__"
  own : N[i]? = some x ∧ (relS scope sc).names.lookup x = some .local
  blk : blkC N sc scope [(x, i)] = true
structure InB (X : Cx) (Vn : List (Nat × Str)) (G : List Str) : Prop where
  nd : X.N.Nodup
  lo : ∀ p ∈ Vn, X.N[p.1]? = some p.2 ∧ Vis X.env.scope p.2 ∧ (p.2 == ("__debug__" : Str)) = false ∧ (p.2 == ("__classdict__" : Str)) = false
  gl : ∀ x ∈ G, Gl X x ∧ (x == ("__debug__" : Str)) = false ∧ x ≠ "__name__"
abbrev Bk (X : Cx) (s : Shared) (H : Hp) (scope : Scope) (C : Addr) (cl : List (Str × Addr)) (fp : List Addr) : Cx := X.blk s H scope (compEnvC scope cl C X.env) fp
section
variable {X : Cx} {e a b c elt : Expr} {es rest : List Expr} {σ : L2.St} {H : Hp} {Q : VK} {pos p0 : Pos} {N G G' : List Str} {Vn : List (Nat × Str)} {sc scope : Scope}
theorem rel_eq (h : X.env.scope = sc) (C : Addr) (cl : List (Str × Addr)) : (compEnvC scope cl C X.env).scope = relS scope sc := by
  subst h
  rfl
theorem BkOk.inB {i : Nat} {x : Str} (B : BkOk X.N Vn G' i x sc scope) (I : In X N G sc) (s : Shared) (H : Hp) (C : Addr) (cl : List (Str × Addr)) (fp : List Addr) : InB (Bk X s H scope C cl fp) Vn G' := by
  have e : (compEnvC scope cl C X.env).scope = relS scope sc := rel_eq I.sc C cl
  refine ⟨I.nd, fun p hp => ?_, fun y hy => ?_⟩
  · obtain ⟨h1, h2, h3, h4⟩ := B.lo p hp
    exact ⟨h1, by show Vis (compEnvC scope cl C X.env).scope p.2; rw [e]; exact h2, h3, h4⟩
  · obtain ⟨h1, h2, h3⟩ := B.gl y hy
    exact ⟨by show (compEnvC scope cl C X.env).scope.names.lookup y = _; rw [e]; exact h1, h2, h3⟩
theorem BkOk.pg {i : Nat} {x : Str} {px : Pos} (B : BkOk X.N Vn G' i x sc scope) (I : In X N G sc) (s : Shared) (H : Hp) (C : Addr) (cl : List (Str × Addr)) (fp : List Addr) : PG (Bk X s H scope C cl fp) (.Name x px) (gName i) := by
  have e : (compEnvC scope cl C X.env).scope = relS scope sc := rel_eq I.sc C cl
  have l : (Bk X s H scope C cl fp).env.scope.names.lookup x = some .local := by
    show (compEnvC scope cl C X.env).scope.names.lookup x = _
    rw [e]
    exact B.own.2
  exact pg_name I.nd B.own.1 (.inl l) (.inr l)
theorem BkOk.ok {i : Nat} {x : Str} (B : BkOk X.N Vn G' i x sc scope) (I : In X N G sc) : BlkOk X.N X.env.scope scope [(x, i)] := by
  rw [I.sc]
  exact blkOk_by B.blk
theorem InB.g (I : InB X Vn G) {i : Nat} {x : Str} (h : At G i x) : Gl X x := (I.gl x h.mem).1
theorem InB.gd (I : InB X Vn G) {i : Nat} {x : Str} (h : At G i x) : (x == ("__debug__" : Str)) = false := (I.gl x h.mem).2.1
theorem InB.gn (I : InB X Vn G) {i : Nat} {x : Str} (h : At G i x) : x ≠ "__name__" := (I.gl x h.mem).2.2
theorem b_var {j i : Nat} {x : Str} {v : V} (q : Q v H) (I : InB X Vn G := by assumption) (hA : At Vn j (i, x) := by repeat (first | with_reducible apply At.z | with_reducible apply At.s)) (hσ : σ[i]? = some (some v) := by exact rfl) : wE X (.Name x pos) σ H Q :=
  e_of (pe_var (I.lo _ hA.mem).1 (I.lo _ hA.mem).2.1 (I.lo _ hA.mem).2.2.1 (I.lo _ hA.mem).2.2.2) ⟨v, hσ, q⟩
theorem b_call {g : Nat} {k n : Nat} {x : Str} {sp : Sp} (F : Fn X.prog X.w X.K X.mg X.base k x sp) (hr : Room n X.A) (hk : k ≤ n) (q : wA X (e :: es) σ H fun vs H1 => sp vs H1 Q E0) (I : InB X Vn G := by assumption) (hG : At G g x := by repeat (first | with_reducible apply At.z | with_reducible apply At.s))
    (he : starEach (e :: es) X.env = (false, eval e X.env) :: starEach es X.env := by rfl) (hpl : (backTo pos (starEach es X.env)).any (·.1) = false := by rfl) : wE X (.Call (.Name x p0) (e :: es) [] pos) σ H Q := by
  obtain ⟨f, fd, ps, F0, hm, hkp, hb⟩ := F.ex
  refine e_of (pe_call F0 (hr.mono hk) (I.g hG) hm hkp hb .nil pass0 pa (I.gd hG) he hpl) ?_
  show wA X (e :: es) σ H fun vs H1 => sp (vs ++ []) H1 Q E0
  simp only [List.append_nil]
  exact q
theorem b_callB {g : Nat} {x : Str} {id : String} (hm : X.mg x = none) (hv : bootBuiltins x = some (.builtin id)) (q : wA X (e :: es) σ H fun vs H1 => wC X (.builtin id) vs H1 Q) (I : InB X Vn G := by assumption) (hG : At G g x := by repeat (first | with_reducible apply At.z | with_reducible apply At.s))
    (he : starEach (e :: es) X.env = (false, eval e X.env) :: starEach es X.env := by rfl) (hpl : (backTo pos (starEach es X.env)).any (·.1) = false := by rfl) : wE X (.Call (.Name x p0) (e :: es) [] pos) σ H Q := e_of (pe_callB cr (I.g hG) hm hv pa (I.gn hG) (I.gd hG) he hpl) q
theorem b_glob {g : Nat} {x : Str} {v : V} {u : Value} (hm : X.mg x = some u) (r : RelV v u) (q : Q v H) (I : InB X Vn G := by assumption) (hG : At G g x := by repeat (first | with_reducible apply At.z | with_reducible apply At.s)) : wE X (.Name x pos) σ H Q := e_of (pe_glob (I.g hG) hm r (I.gd hG)) q
theorem wipe1 (σ : L2.St) (i : Nat) : wipe σ [i] = σ.set i none := rfl
theorem wipe_set (σ : L2.St) (i : Nat) (v : L2.V) : wipe ((wipe σ [i]).set i (some v)) [i] = wipe σ [i] := by
  simp [wipe1, List.set_set]
/-- what the turns of a comprehension ask: over range(n) -/
def LcR (X : Cx) (Vn : List (Nat × Str)) (G' : List Str) (elt : Expr) (scope : Scope) (i n : Nat) (D : Addr) (σ : L2.St) (H1 : Hp) (Qd : Hp → Prop) : Prop := ∃ Pv : Nat → Hp → Prop, Pv 0 (upd H1 D (.lst [])) ∧
  (∀ k H2, k < n → Pv k H2 → ∀ s0 H0 C cl fp, InB (Bk X s0 H0 scope C cl fp) Vn G' → wE (Bk X s0 H0 scope C cl fp) elt ((wipe σ [i]).set i (some (.int (k : Int)))) H2 fun y H4 => ∃ acc, H4 D = some (.lst acc) ∧ acc.length < sizeLine ∧ Pv (k + 1) (upd H4 D (.lst (acc ++ [y])))) ∧
  ∀ H2, Pv n H2 → Qd H2
/-- .. over a list that stays -/
def LcL (X : Cx) (Vn : List (Nat × Str)) (G' : List Str) (elt : Expr) (scope : Scope) (i : Nat) (ad : Addr) (xs : List L2.V) (D : Addr) (σ : L2.St) (H1 : Hp) (Qd : Hp → Prop) : Prop := ∃ Pv : Nat → Hp → Prop, Pv 0 (upd H1 D (.lst [])) ∧ (∀ k H2, k ≤ xs.length → Pv k H2 → SqL X.K H2 ad xs) ∧
  (∀ k x H2, xs[k]? = some x → Pv k H2 → ∀ s0 H0 C cl fp, InB (Bk X s0 H0 scope C cl fp) Vn G' → wE (Bk X s0 H0 scope C cl fp) elt ((wipe σ [i]).set i (some x)) H2 fun y H4 => ∃ acc, H4 D = some (.lst acc) ∧ acc.length < sizeLine ∧ Pv (k + 1) (upd H4 D (.lst (acc ++ [y])))) ∧
  ∀ H2, Pv xs.length H2 → Qd H2
/-- the turn's reading, where the block may run anywhere -/
@[irreducible] def wBk (X : Cx) (Vn : List (Nat × Str)) (G' : List Str) (elt : Expr) (scope : Scope) : TE := fun σ H Q => ∀ s0 H0 C cl fp, InB (Bk X s0 H0 scope C cl fp) Vn G' → wE (Bk X s0 H0 scope C cl fp) elt σ H Q
theorem pe_bk {s0 : Shared} {H0 : Hp} {C : Addr} {cl : List (Str × Addr)} {fp : List Addr} (I : InB (Bk X s0 H0 scope C cl fp) Vn G') : PE (Bk X s0 H0 scope C cl fp) elt (wBk X Vn G' elt scope) :=
  ⟨fun pins s σ H Q Iv h => by unfold wBk at h; exact pe.run pins s σ H Q Iv (h s0 H0 C cl fp I)⟩
theorem lcR_of {i n : Nat} {D : Addr} {H1 : Hp} {Qd : Hp → Prop} (q : LcR X Vn G' elt scope i n D σ H1 Qd) : ∃ W : Nat → Nat → Hp → Prop, (∃ m, W 0 m (upd H1 D (.lst []))) ∧ ∀ k m H, W k m H →
    ((Itr 0 n).stop k H ∧ Qd H) ∨ ((Itr 0 n).go k H ∧ ∃ Nx : Hp → Prop, (∀ H', Nx H' → ∃ m', m' < m ∧ W (k + 1) m' H') ∧ ∀ x H', (Itr 0 n).yld k H x H' → gName i x (wipe σ [i]) H' fun σ2 H2 => wipe σ2 [i] = wipe σ [i] ∧ tYes σ2 H2 fun b H3 =>
      if b = true then wBk X Vn G' elt scope σ2 H3 fun y H4 => ∃ acc, H4 D = some (.lst acc) ∧ acc.length < sizeLine ∧ Nx (upd H4 D (.lst (acc ++ [y]))) else Nx H3) := by
  obtain ⟨Pv, h0, hs, hd⟩ := q
  refine lc_range Pv h0 (fun k H hk p => ?_) hd
  refine ⟨wipe_set σ i _, ?_⟩
  unfold tYes
  refine iteT ?_
  unfold wBk
  intro s0 H0 C cl fp I
  rw [Int.zero_add]
  exact hs k H hk p s0 H0 C cl fp I
theorem lcL_of {i : Nat} {ad : Addr} {xs : List L2.V} {D : Addr} {H1 : Hp} {Qd : Hp → Prop} (q : LcL X Vn G' elt scope i ad xs D σ H1 Qd) : ∃ W : Nat → Nat → Hp → Prop, (∃ m, W 0 m (upd H1 D (.lst []))) ∧ ∀ k m H, W k m H →
    ((Itl X.K ad).stop k H ∧ Qd H) ∨ ((Itl X.K ad).go k H ∧ ∃ Nx : Hp → Prop, (∀ H', Nx H' → ∃ m', m' < m ∧ W (k + 1) m' H') ∧ ∀ x H', (Itl X.K ad).yld k H x H' → gName i x (wipe σ [i]) H' fun σ2 H2 => wipe σ2 [i] = wipe σ [i] ∧ tYes σ2 H2 fun b H3 =>
      if b = true then wBk X Vn G' elt scope σ2 H3 fun y H4 => ∃ acc, H4 D = some (.lst acc) ∧ acc.length < sizeLine ∧ Nx (upd H4 D (.lst (acc ++ [y]))) else Nx H3) := by
  obtain ⟨Pv, h0, hl, hs, hd⟩ := q
  refine lc_list Pv h0 hl (fun k x H hk p => ?_) hd
  refine ⟨wipe_set σ i _, ?_⟩
  unfold tYes
  refine iteT ?_
  unfold wBk
  intro s0 H0 C cl fp I
  exact hs k x H hk p s0 H0 C cl fp I
/-- [elt for x in range(a)] -/
theorem e_lcR {i g : Nat} {x : Str} {px p cp : Pos} (B : BkOk X.N Vn G' i x sc scope) (hm : X.mg "range" = none)
    (q : wE X a σ H fun v H1 => ∃ n : Nat, v = .int n ∧ n < 2 ^ 62 ∧ ∀ D, H1 D = none → LcR X Vn G' elt scope i n D σ H1 fun H2 => Q (.ref D) H2)
    (I : In X N G sc := by assumption) (hc : X.calm = true := by rfl) (hG : At G g ("range" : Str) := by repeat (first | with_reducible apply At.z | with_reducible apply At.s)) (hs : starEach [a] X.env = [(false, eval a X.env)] := by rfl) (hs2 : ∀ z, foldedSetIterable (.Call (.Name "range" p) [a] [] cp) X.env z = pure z := by intro _; rfl)
    (hs1 : starEach (a :: []) X.env = (false, eval a X.env) :: starEach [] X.env := by rfl) :
    wE X (.ListComp elt [⟨.Name x px, .Call (.Name "range" p) [a] [] cp, [], 0⟩] scope pos) σ H Q := by
  refine e_of (pe_lc (own := [(x, i)]) (g := gName i) (tt := tYes) (te := wBk X Vn G' elt scope) hc I.nd (pi_range1 (I.g hG) hm (pa_cons pe pa_nil hs1) hs) (B.ok I) (fun s H C cl fp => B.pg I s H C cl fp) (fun _ _ _ _ _ => pts_nil) (fun s H C cl fp => pe_bk (B.inB I s H C cl fp)) hs2) (e_mono q fun v H1 q1 => ?_)
  obtain ⟨n, rfl, hn, q2⟩ := q1
  refine ⟨(n : Int), rfl, by omega, by omega, ?_⟩
  rw [Int.toNat_natCast]
  exact fun D hD => lcR_of (q2 D hD)
/-- [elt for x in a], a list -/
theorem e_lcL {i : Nat} {x : Str} {px : Pos} (B : BkOk X.N Vn G' i x sc scope)
    (q : wE X a σ H fun v H1 => ∃ ad xs, v = .ref ad ∧ SqL X.K H1 ad xs ∧ ∀ D, H1 D = none → LcL X Vn G' elt scope i ad xs D σ H1 fun H2 => Q (.ref D) H2)
    (I : In X N G sc := by assumption) (hc : X.calm = true := by rfl) (hs2 : ∀ z, foldedSetIterable a X.env z = pure z := by intro _; rfl) :
    wE X (.ListComp elt [⟨.Name x px, a, [], 0⟩] scope pos) σ H Q := by
  refine e_of (pe_lc (own := [(x, i)]) (g := gName i) (tt := tYes) (te := wBk X Vn G' elt scope) hc I.nd (pi_list pe) (B.ok I) (fun s H C cl fp => B.pg I s H C cl fp) (fun _ _ _ _ _ => pts_nil) (fun s H C cl fp => pe_bk (B.inB I s H C cl fp)) hs2) (e_mono q fun v H1 q1 => ?_)
  obtain ⟨ad, xs, rfl, hl, q2⟩ := q1
  exact ⟨ad, rfl, ⟨xs, hl⟩, fun D hD => lcL_of (q2 D hD)⟩
theorem s_lcR {nx : L2.St → Hp → Prop} {rt : VK} {bk ct : L2.St → Hp → Prop} {i j g : Nat} {x y : Str} {px py p cp spos : Pos} (B : BkOk X.N Vn G' i x sc scope) (hm : X.mg "range" = none)
    (q : wE X a σ H fun v H1 => ∃ n : Nat, v = .int n ∧ n < 2 ^ 62 ∧ ∀ D, H1 D = none → LcR X Vn G' elt scope i n D σ H1 fun H2 => nx (σ.set j (some (.ref D))) H2)
    (I : In X N G sc := by assumption) (hc : X.calm = true := by rfl) (hA : At N j y := by repeat (first | with_reducible apply At.z | with_reducible apply At.s)) (hG : At G g ("range" : Str) := by repeat (first | with_reducible apply At.z | with_reducible apply At.s))
    (hk : X.env.scope.kind = .function := by rfl) (hy : X.env.scope.names.lookup y = some .local := by rfl) (hl : (py.line == pos.line) = true := by rfl) (ha : (scope.names.any fun (n, k) => n == y && (k == .local || k == .cell)) = false := by decide +kernel)
    (hs : starEach [a] X.env = [(false, eval a X.env)] := by rfl) (hs2 : ∀ z, foldedSetIterable (.Call (.Name "range" p) [a] [] cp) X.env z = pure z := by intro _; rfl) (hs1 : starEach (a :: []) X.env = (false, eval a X.env) :: starEach [] X.env := by rfl) :
    wS X (.Assign [.Name y py] (.ListComp elt [⟨.Name x px, .Call (.Name "range" p) [a] [] cp, [], 0⟩] scope pos) spos) ⟨nx, rt, bk, ct⟩ σ H := by
  refine s_of (ps_setLc (own := [(x, i)]) (g := gName i) (tt := tYes) (te := wBk X Vn G' elt scope) hc I.nd (I.hi hA) hy (sw_true hk hy hl ha) (pi_range1 (I.g hG) hm (pa_cons pe pa_nil hs1) hs) (B.ok I) (fun s H C cl fp => B.pg I s H C cl fp) (fun _ _ _ _ _ => pts_nil) (fun s H C cl fp => pe_bk (B.inB I s H C cl fp)) hs2) (e_mono q fun v H1 q1 => ?_)
  obtain ⟨n, rfl, hn, q2⟩ := q1
  refine ⟨(n : Int), rfl, by omega, by omega, ?_⟩
  rw [Int.toNat_natCast]
  exact fun D hD => lcR_of (q2 D hD)
theorem s_lcL {nx : L2.St → Hp → Prop} {rt : VK} {bk ct : L2.St → Hp → Prop} {i j : Nat} {x y : Str} {px py spos : Pos} (B : BkOk X.N Vn G' i x sc scope)
    (q : wE X a σ H fun v H1 => ∃ ad xs, v = .ref ad ∧ SqL X.K H1 ad xs ∧ ∀ D, H1 D = none → LcL X Vn G' elt scope i ad xs D σ H1 fun H2 => nx (σ.set j (some (.ref D))) H2)
    (I : In X N G sc := by assumption) (hc : X.calm = true := by rfl) (hA : At N j y := by repeat (first | with_reducible apply At.z | with_reducible apply At.s))
    (hk : X.env.scope.kind = .function := by rfl) (hy : X.env.scope.names.lookup y = some .local := by rfl) (hl : (py.line == pos.line) = true := by rfl) (ha : (scope.names.any fun (n, k) => n == y && (k == .local || k == .cell)) = false := by decide +kernel) (hs2 : ∀ z, foldedSetIterable a X.env z = pure z := by intro _; rfl) :
    wS X (.Assign [.Name y py] (.ListComp elt [⟨.Name x px, a, [], 0⟩] scope pos) spos) ⟨nx, rt, bk, ct⟩ σ H := by
  refine s_of (ps_setLc (own := [(x, i)]) (g := gName i) (tt := tYes) (te := wBk X Vn G' elt scope) hc I.nd (I.hi hA) hy (sw_true hk hy hl ha) (pi_list pe) (B.ok I) (fun s H C cl fp => B.pg I s H C cl fp) (fun _ _ _ _ _ => pts_nil) (fun s H C cl fp => pe_bk (B.inB I s H C cl fp)) hs2) (e_mono q fun v H1 q1 => ?_)
  obtain ⟨ad, xs, rfl, hl, q2⟩ := q1
  exact ⟨ad, rfl, ⟨xs, hl⟩, fun D hD => lcL_of (q2 D hD)⟩
end
/-! ### ground terms: they make new objects and change none -/
abbrev Rl := Hp → L2.V → Prop
class Lasts (Γ : Hp → Prop) : Prop where
  up : ∀ H H', Same H H' → Γ H → Γ H'
class LastR (R : Rl) : Prop where
  up : ∀ H H' v, Same H H' → R H v → R H' v
def All2 : List Rl → Hp → List L2.V → Prop
  | [], _, vs => vs = []
  | R :: Rs, H, vs => ∃ v us, vs = v :: us ∧ R H v ∧ All2 Rs H us
@[irreducible] def Ev (X : Cx) (e : Expr) (σ : L2.St) (H : Hp) (R : Rl) : Prop := ∀ Q : VK, (∀ v H', Same H H' → R H' v → Q v H') → wE X e σ H Q
@[irreducible] def EvA (X : Cx) (es : List Expr) (σ : L2.St) (H : Hp) (Rs : List Rl) : Prop := ∀ Q : List L2.V → Hp → Prop, (∀ vs H', Same H H' → All2 Rs H' vs → Q vs H') → wA X es σ H Q
/-- a promise of a def that makes new objects alone -/
def spG {α : Type} (A : α → List Rl) (R : α → Rl) : Sp := fun vs H Q _ => ∃ x, All2 (A x) H vs ∧ ∀ v H', Same H H' → R x H' v → Q v H'
section
variable {X : Cx} {e a b c : Expr} {es : List Expr} {σ : L2.St} {H : Hp} {Q : VK} {pos p0 : Pos} {N G : List Str} {sc : Scope} {R R1 R2 : Rl} {Rs : List Rl}
theorem ev_e (h : Ev X e σ H R) (q : ∀ v H', Same H H' → R H' v → Q v H') : wE X e σ H Q := by unfold Ev at h; exact h Q q
theorem ev_of (h : ∀ Q : VK, (∀ v H', Same H H' → R H' v → Q v H') → wE X e σ H Q) : Ev X e σ H R := by unfold Ev; exact h
theorem ev_a {QA : List L2.V → Hp → Prop} (h : EvA X es σ H Rs) (q : ∀ vs H', Same H H' → All2 Rs H' vs → QA vs H') : wA X es σ H QA := by unfold EvA at h; exact h QA q
theorem ev_up {H0 : Hp} (h : Ev X e σ H R) : Ev X e σ H R := h
theorem g_var {i : Nat} {x : Str} {v : V} (r : R H v) (I : In X N G sc := by assumption) (hA : At N i x := by repeat (first | with_reducible apply At.z | with_reducible apply At.s)) (hσ : σ[i]? = some (some v) := by exact rfl) : Ev X (.Name x pos) σ H R :=
  ev_of fun Q q => e_var (q v H (Same.refl H) r) I hA hσ
theorem g_nil : EvA X [] σ H [] := by unfold EvA; exact fun Q q => a_nil (q [] H (Same.refl H) rfl)
theorem g_cons [LastR R] (h1 : Ev X e σ H R) (h2 : ∀ H', Same H H' → EvA X es σ H' Rs) (hs : starEach (e :: es) X.env = (false, eval e X.env) :: starEach es X.env := by rfl) : EvA X (e :: es) σ H (R :: Rs) := by
  unfold EvA
  exact fun Q q => a_cons (ev_e h1 fun v H1 s1 r1 => ev_a (h2 H1 s1) fun vs H2 s2 r2 => q (v :: vs) H2 (s1.trans s2) ⟨v, vs, rfl, LastR.up H1 H2 v s2 r1, r2⟩) hs
theorem g_call {α : Type} {A : α → List Rl} {R : α → Rl} {g k n : Nat} {x : Str} {z : α} (F : Fn X.prog X.w X.K X.mg X.base k x (spG A R)) (hr : Room n X.A) (hk : k ≤ n) (h : EvA X (e :: es) σ H (A z)) (I : In X N G sc := by assumption) (hG : At G g x := by repeat (first | with_reducible apply At.z | with_reducible apply At.s))
    (he : starEach (e :: es) X.env = (false, eval e X.env) :: starEach es X.env := by rfl) (hpl : (backTo pos (starEach es X.env)).any (·.1) = false := by rfl) : Ev X (.Call (.Name x p0) (e :: es) [] pos) σ H (R z) :=
  ev_of fun Q q => e_call F hr hk (ev_a h fun vs H1 s1 r1 => ⟨z, r1, fun v H2 s2 r2 => q v H2 (s1.trans s2) r2⟩) I hG he hpl
theorem g_test {QT : Bool → Hp → Prop} (h : Ev X e σ H fun _ v => v = .bl true) (q : ∀ H', Same H H' → QT true H') (he : ∀ whole, isTrue e X.env whole = (do let v ← whole; standAt e.pos; holding [v] (truthy v)) := by intro _; rfl) : wT X e σ H QT :=
  t_val (ev_e h fun v H' s r => by
    cases (show v = .bl true from r)
    exact ⟨true, rfl, q H' s⟩) he
/-- if not a or not b: return False -/
theorem s_no2 {nx : L2.St → Hp → Prop} {rt : VK} {bk ct : L2.St → Hp → Prop} {body : List Stmt} {p1 p2 p3 p4 : Pos} (h1 : Ev X a σ H fun _ v => v = .bl true) (h2 : ∀ H', Same H H' → Ev X b σ H' fun _ v => v = .bl true) (q : ∀ H', Same H H' → nx σ H')
    (he : ∀ whole, isTrue a X.env whole = (do let v ← whole; standAt a.pos; holding [v] (truthy v)) := by intro _; rfl) (he2 : ∀ whole, isTrue b X.env whole = (do let v ← whole; standAt b.pos; holding [v] (truthy v)) := by intro _; rfl) :
    wS X (.If (.BoolOp .Or [.UnaryOp .Not a p1, .UnaryOp .Not b p2] p3) body [] p4) ⟨nx, rt, bk, ct⟩ σ H := by
  refine s_if (t_w (w_or (t_not (g_test h1 (fun H1 s1 => ?_) he))))
  refine iteF (w_or1 (t_not (g_test (h2 H1 s1) (fun H2 s2 => ?_) he2)))
  exact iteF (l_nil (q H2 (s1.trans s2)))
theorem s_no1 {nx : L2.St → Hp → Prop} {rt : VK} {bk ct : L2.St → Hp → Prop} {body : List Stmt} {p1 p4 : Pos} (h1 : Ev X a σ H fun _ v => v = .bl true) (q : ∀ H', Same H H' → nx σ H')
    (he : ∀ whole, isTrue a X.env whole = (do let v ← whole; standAt a.pos; holding [v] (truthy v)) := by intro _; rfl) :
    wS X (.If (.UnaryOp .Not a p1) body [] p4) ⟨nx, rt, bk, ct⟩ σ H := by
  refine s_if (t_not (g_test h1 (fun H1 s1 => ?_) he))
  exact iteF (l_nil (q H1 s1))
theorem g_and2 (h1 : Ev X a σ H fun _ v => v = .bl true) (h2 : ∀ H', Same H H' → Ev X b σ H' fun _ v => v = .bl true) : Ev X (.BoolOp .And [a, b] pos) σ H fun _ v => v = .bl true :=
  ev_of fun Q q => e_and (ev_e h1 fun v H1 s1 r1 => by
    cases (show v = .bl true from r1)
    exact ⟨true, rfl, iteT (e_one (ev_e (h2 H1 s1) fun v H2 s2 r2 => q v H2 (s1.trans s2) r2))⟩)
theorem g_and3 (h1 : Ev X a σ H fun _ v => v = .bl true) (h2 : ∀ H', Same H H' → Ev X b σ H' fun _ v => v = .bl true) (h3 : ∀ H', Same H H' → Ev X c σ H' fun _ v => v = .bl true) : Ev X (.BoolOp .And [a, b, c] pos) σ H fun _ v => v = .bl true :=
  ev_of fun Q q => e_and (ev_e h1 fun v H1 s1 r1 => by
    cases (show v = .bl true from r1)
    refine ⟨true, rfl, iteT (e_and (ev_e (h2 H1 s1) fun v H2 s2 r2 => ?_))⟩
    cases (show v = .bl true from r2)
    exact ⟨true, rfl, iteT (e_one (ev_e (h3 H2 (s1.trans s2)) fun v H3 s3 r3 => q v H3 ((s1.trans s2).trans s3) r3))⟩)
end
section
variable {X : Cx} {H : Hp} {Q : VK} {i j : Int}
theorem o_mulW (c : CMulW i j) (q : Q (.int (i * j)) H) : wB X .Mult (.int i) (.int j) H Q := b_of op_mulW ⟨i, j, rfl, rfl, c, q⟩
end
end Wk
namespace Wk
open PySem PySem.Spec
/-- the value of a return or of an assignment, a comprehension's scope -/
def valE : Stmt → Expr
  | .Return (some e) _ => e
  | .Assign _ e _ => e
  | .Expr e _ => e
  | _ => .Name "" ⟨0, 0, 0, 0⟩
def lcSc : Expr → Scope
  | .ListComp _ _ sc _ => sc
  | _ => { kind := .function, names := [], isGenerator := false, isCoroutine := false }
end Wk
namespace Wk
open PySem PySem.Spec PyProof.Rows L2
section
variable {X : Cx} {c e : Expr} {body : List Stmt} {σ : L2.St} {H : Hp} {pos : Pos} {N G : List Str} {sc : Scope} {QT QT' : Bool → Hp → Prop}
theorem t_mono (q : wT X c σ H QT) (h : ∀ b H1, QT b H1 → QT' b H1) : wT X c σ H QT' := by
  unfold wT at q ⊢
  exact fun pins s I => wpAny_mono (q pins s I) (fun _ _ ⟨H1, I1, z⟩ => ⟨H1, I1, h _ _ z⟩) fun _ _ z => z
theorem s_while {nx : L2.St → Hp → Prop} {rt : VK} {bk ct : L2.St → Hp → Prop} (Pv : L2.St → Hp → Prop) (μ : L2.St → Hp → Nat) (h0 : Pv σ H)
    (hs : ∀ σ H, Pv σ H → wT X c σ H fun b H1 => if b = true then wL X body ⟨fun σ' H' => Pv σ' H' ∧ μ σ' H' < μ σ H, rt, nx, fun σ' H' => Pv σ' H' ∧ μ σ' H' < μ σ H⟩ σ H1 else nx σ H1)
    (I : In X N G sc := by assumption) : wS X (.While c body [] pos) ⟨nx, rt, bk, ct⟩ σ H :=
  s_of (ps_while I.never pt pl) (while_by Pv μ h0 hs fun _ _ _ _ h q => t_mono q h)
end
end Wk
namespace Wk
open PySem PySem.Spec PyProof.Rows L2
section
variable {X : Cx} {o e : Expr} {σ : L2.St} {H : Hp} {Q : VK} {pos apos : Pos}
/-- o.append(e) -/
theorem e_app (q : wE X o σ H fun x H1 => ∃ l xs0, x = .ref l ∧ SqL X.K H1 l xs0 ∧ wE X e σ H1 fun y H2 => ∃ xs, H2 l = some (.lst xs) ∧ xs.length < sizeLine ∧ Q .non (upd H2 l (.lst (xs ++ [y]))))
    (hbase : attributeBase o "append" X.env (eval o X.env) = eval o X.env := by rfl)
    (hfew : ((backTo pos (starEach (e :: []) X.env)).all (fun x => !x.1) && (backToKw pos (keywordEach [] X.env)).all (fun x => x.1.isSome)
      && decide ((e :: []).length + ([] : List Keyword).length + (if ([] : List Keyword).isEmpty then 0 else 1) < 30)) = true := by rfl)
    (hline : (apos.endLine == pos.line) = true := by rfl) (hs : starEach (e :: []) X.env = (false, eval e X.env) :: starEach [] X.env := by rfl) (hplain : (backTo pos (starEach [] X.env)).any (·.1) = false := by rfl) :
    wE X (.Call (.Attribute o "append" apos) [e] [] pos) σ H Q := by
  refine e_of (pe_bm PySem.F.plainAttrs_list PySem.F.slot_list_append PySem.F.type_list_append mt_append pe (pa_cons pe pa_nil hs) hbase hfew hline hs hplain) (e_mono q fun x H1 z => ?_)
  obtain ⟨l, xs0, rfl, hl, z⟩ := z
  refine ⟨.inl ⟨rfl, _, hl⟩, e_mono z fun y H2 z2 => ?_⟩
  obtain ⟨xs, h1, h2, h3⟩ := z2
  exact ⟨l, xs, y, rfl, rfl, h1, h2, h3⟩
end
end Wk
namespace Wk
open PySem PySem.Spec PyProof.Rows L2
theorem All2.len {Rs : List Rl} {H : Hp} : ∀ {vs : List L2.V}, All2 Rs H vs → vs.length = Rs.length := by
  induction Rs with
  | nil => intro vs h; cases (show vs = [] from h); rfl
  | cons R Rs ih => intro vs h; obtain ⟨v, us, rfl, _, h⟩ := h; simp [ih h]
end Wk
namespace Wk
open PySem PySem.Spec PyProof.Rows L2
/-- from the heap H on -/
def EvS (X : Cx) (e : Expr) (σ : L2.St) (H : Hp) (R : Rl) : Prop := ∀ H', Same H H' → Ev X e σ H' R
def EvSA (X : Cx) (es : List Expr) (σ : L2.St) (H : Hp) (Rs : List Rl) : Prop := ∀ H', Same H H' → EvA X es σ H' Rs
abbrev IsT : Rl := fun _ v => v = .bl true
section
variable {X : Cx} {e a b c : Expr} {es : List Expr} {σ : L2.St} {H H0 : Hp} {Q : VK} {pos p0 : Pos} {N G : List Str} {sc : Scope} {R R1 R2 : Rl} {Rs : List Rl}
theorem EvS.up {H1 : Hp} (h : EvS X e σ H R) (s : Same H H1) : EvS X e σ H1 R := fun H' t => h H' (s.trans t)
theorem EvS.get (h : EvS X e σ H R) (q : ∀ v H', Same H H' → R H' v → Q v H') : wE X e σ H Q := ev_e (h H (Same.refl H)) q
theorem gs_var [LastR R] {i : Nat} {x : Str} {v : L2.V} (r : R H v) (I : In X N G sc := by assumption) (hA : At N i x := by repeat (first | with_reducible apply At.z | with_reducible apply At.s)) (hσ : σ[i]? = some (some v) := by exact rfl) : EvS X (.Name x pos) σ H R :=
  fun H' s => g_var (LastR.up H H' v s r) I hA hσ
theorem gs_int {i : Int} {j} : EvS X (.Constant (.int i) j pos) σ H (fun _ v => v = .int i) := fun H' _ => ev_of fun Q q => e_int (q _ H' (Same.refl H') rfl)
theorem gs_nil : EvSA X [] σ H [] := fun _ _ => g_nil
theorem gs_cons [LastR R] (h1 : EvS X e σ H R) (h2 : EvSA X es σ H Rs) (hs : starEach (e :: es) X.env = (false, eval e X.env) :: starEach es X.env := by rfl) : EvSA X (e :: es) σ H (R :: Rs) := fun H' s => g_cons (h1 H' s) (fun H2 s2 => h2 H2 (s.trans s2)) hs
theorem gs_call {α : Type} {A : α → List Rl} {R : α → Rl} {g k n : Nat} {x : Str} {z : α} (F : Fn X.prog X.w X.K X.mg X.base k x (spG A R)) (hr : Room n X.A) (hk : k ≤ n) (h : EvSA X (e :: es) σ H (A z)) (I : In X N G sc := by assumption) (hG : At G g x := by repeat (first | with_reducible apply At.z | with_reducible apply At.s))
    (he : starEach (e :: es) X.env = (false, eval e X.env) :: starEach es X.env := by rfl) (hpl : (backTo pos (starEach es X.env)).any (·.1) = false := by rfl) : EvS X (.Call (.Name x p0) (e :: es) [] pos) σ H (R z) := fun H' s => g_call F hr hk (h H' s) I hG he hpl
/-- if not a or not b: return False; both hold -/
theorem s_nn {nx : L2.St → Hp → Prop} {rt : VK} {bk ct : L2.St → Hp → Prop} {body : List Stmt} {p1 p2 p3 p4 : Pos} (s0 : Same H0 H) (h1 : EvS X a σ H0 IsT) (h2 : EvS X b σ H0 IsT) (q : ∀ H', Same H0 H' → nx σ H')
    (he : ∀ whole, isTrue a X.env whole = (do let v ← whole; standAt a.pos; holding [v] (truthy v)) := by intro _; rfl) (he2 : ∀ whole, isTrue b X.env whole = (do let v ← whole; standAt b.pos; holding [v] (truthy v)) := by intro _; rfl) :
    wS X (.If (.BoolOp .Or [.UnaryOp .Not a p1, .UnaryOp .Not b p2] p3) body [] p4) ⟨nx, rt, bk, ct⟩ σ H := s_no2 (h1 H s0) (fun H1 s1 => h2 H1 (s0.trans s1)) (fun H1 s1 => q H1 (s0.trans s1)) he he2
theorem s_n {nx : L2.St → Hp → Prop} {rt : VK} {bk ct : L2.St → Hp → Prop} {body : List Stmt} {p1 p4 : Pos} (s0 : Same H0 H) (h1 : EvS X a σ H0 IsT) (q : ∀ H', Same H0 H' → nx σ H')
    (he : ∀ whole, isTrue a X.env whole = (do let v ← whole; standAt a.pos; holding [v] (truthy v)) := by intro _; rfl) :
    wS X (.If (.UnaryOp .Not a p1) body [] p4) ⟨nx, rt, bk, ct⟩ σ H := s_no1 (h1 H s0) (fun H1 s1 => q H1 (s0.trans s1)) he
theorem gs_and2 (h1 : EvS X a σ H IsT) (h2 : EvS X b σ H IsT) : EvS X (.BoolOp .And [a, b] pos) σ H IsT := fun H' s => g_and2 (h1 H' s) fun H2 s2 => h2 H2 (s.trans s2)
theorem gs_and3 (h1 : EvS X a σ H IsT) (h2 : EvS X b σ H IsT) (h3 : EvS X c σ H IsT) : EvS X (.BoolOp .And [a, b, c] pos) σ H IsT := fun H' s => g_and3 (h1 H' s) (fun H2 s2 => h2 H2 (s.trans s2)) fun H2 s2 => h3 H2 (s.trans s2)
theorem s_let {nx : L2.St → Hp → Prop} {rt : VK} {bk ct : L2.St → Hp → Prop} {i : Nat} {x : Str} {pos' : Pos} (s0 : Same H0 H) (h : EvS X e σ H0 R) (q : ∀ v H', Same H0 H' → R H' v → nx (σ.set i (some v)) H')
    (I : In X N G sc := by assumption) (hA : At N i x := by repeat (first | with_reducible apply At.z | with_reducible apply At.s)) (hs : swapsWith e (some (.Name x pos')) pos.line X.env = pure false := by rfl) :
    wS X (.Assign [.Name x pos'] e pos) ⟨nx, rt, bk, ct⟩ σ H := s_set ((h.up s0).get fun v H' s r => q v H' (s0.trans s) r) I hA hs
theorem s_retS {nx : L2.St → Hp → Prop} {rt : VK} {bk ct : L2.St → Hp → Prop} (s0 : Same H0 H) (h : EvS X e σ H0 R) (q : ∀ v H', Same H0 H' → R H' v → rt v H') : wS X (.Return (some e) pos) ⟨nx, rt, bk, ct⟩ σ H := s_ret ((h.up s0).get fun v H' s r => q v H' (s0.trans s) r)
end
end Wk

/-! My own layer, more: defs with loops where an error is handled, a keyword-only parameter with a default, insert. -/
namespace Wk
open PySem PySem.Spec PyProof.Rows L2
section
variable {P : Program} {w : World} {K : PySem.W.Frag} {mg : Str → Option Value} {base : Heap}
theorem fn_okH2 {x : Str} {st : Stmt} {N G ps : List Str} {k : Nat} {sp : Sp} (T : Top K mg x st) (S : FnScope N ps (defScope st)) (O : ScOk N G (defScope st)) (len : ∀ vs H Q E, sp vs H Q E → vs.length = ps.length)
    (hb : ∀ (kV doc pm : Value) (an : Option Addr) (cdv ct : Value) (us : List Value), us.length = ps.length → bindArgs (PySem.W.fnOf x x (defArgs st) (defBody st) (defScope st) .none kV doc pm an cdv ct) ⟨us, []⟩ = pure (ps.zip us))
    (hbody : ∀ (f : Addr) (cdv : Value) (A : Around) (outer : List Env) (s : Shared) (H : Hp) (vs : List L2.V) (Q : VK) (E : XK) (p : Addr × Obj), L2H.RoomH k (A.deeper (envOfC x (defScope st) s.heap.objs.size f cdv)) → sp vs H Q E → In (L2H.cxH CX0 P w K mg base N x (defScope st) f cdv A outer s H E p).nox N G (defScope st) →
      L2H.HotC (L2H.cxH CX0 P w K mg base N x (defScope st) f cdv A outer s H E p).nox →
      wL (L2H.cxH CX0 P w K mg base N x (defScope st) f cdv A outer s H E p).nox (defBody st) { nx := fun _ H' => Q .non H', rt := Q } (start N vs) H) : FnHt P w K mg base (k + 1) x sp := by
  obtain ⟨f, fd, F, hm⟩ := T.ex
  obtain ⟨oc, od, kV, doc, pm, an, cdv, ct, osl, rfl, lk, hcd⟩ := id F.ex
  exact ⟨f, _, ps, L2H.fn_ofH lk hcd S len (fun A outer s H vs Q E p hot hr h => ⟨_, PSs.nox pl, hbody f cdv A outer s H vs Q E p hr h ⟨O, ⟨[], (List.append_nil _).symm⟩, S.nd, rfl, rfl, PassesOwn.never⟩ ⟨p, ⟨hot.1, hot.2⟩, List.mem_cons_self⟩⟩), hm, F.kp, F.binds hb⟩
end
section
variable {X : Cx} {N G : List Str} {sc : Scope} {a e v o : Expr} {es : List Expr} {σ : L2.St} {H : Hp} {Q : VK} {pos p0 kpos apos : Pos}
theorem s_forRH {nx : L2.St → Hp → Prop} {rt : VK} {bk ct : L2.St → Hp → Prop} {g : Nat} {x : Str} {i : Nat} {body : List Stmt} {px p cp : Pos} (hm : X.mg "range" = none) (hot : L2H.HotC X)
    (q : wE X a σ H fun v H1 => ∃ n : Nat, v = .int n ∧ n < 2 ^ 62 ∧ ∃ Pv : Nat → L2.St → Hp → Prop, Pv 0 σ H1 ∧ (∀ k σ H, k < n → Pv k σ H → wL X body ⟨Pv (k + 1), rt, nx, Pv (k + 1)⟩ (σ.set i (some (.int (k : Int)))) H) ∧ ∀ σ H, Pv n σ H → nx σ H)
    (I : In X N G sc := by assumption) (hA : At N i x := by repeat (first | with_reducible apply At.z | with_reducible apply At.s))
    (hG : At G g ("range" : Str) := by repeat (first | with_reducible apply At.z | with_reducible apply At.s)) (hs : starEach [a] X.env = [(false, eval a X.env)] := by rfl) (hs2 : ∀ z, foldedSetIterable (.Call (.Name "range" p) [a] [] cp) X.env z = pure z := by intro _; rfl)
    (hs1 : starEach (a :: []) X.env = (false, eval a X.env) :: starEach [] X.env := by rfl) :
    wS X (.For (.Name x px) (.Call (.Name "range" p) [a] [] cp) body [] pos) ⟨nx, rt, bk, ct⟩ σ H := by
  refine s_of (L2H.ps_forH I.never hot (L2H.pi_range1H (I.g hG) hm (pa_cons pe pa_nil hs1) hs) (pg_name I.nd (I.hi hA) (I.loc hA) I.f) pl hs2) (e_mono q fun v H1 q1 => ?_)
  obtain ⟨n, rfl, hn, Pv, h0, hb, hd⟩ := q1
  refine ⟨(n : Int), rfl, by omega, by omega, ?_⟩
  rw [Int.toNat_natCast]
  refine for_range (n := n) Pv h0 (fun k σ H hk p => ?_) hd
  rw [Int.zero_add]
  exact hb k σ H hk p
/-- a def with one keyword-only parameter kw and its default d, that may raise -/
structure FnKw (P : Program) (w : World) (K : PySem.W.Frag) (mg : Str → Option Value) (base : Heap) (k : Nat) (x kw : Str) (m : Nat) (d : L2.V) (sp : Sp) : Prop where
  ex : ∃ (f : Addr) (fd : FuncData) (ps : List Str), FnOk P w K mg base (L2N.CX P w) k f fd ps sp ∧ mg x = some (.ref f) ∧ PySem.W.keepIn K (.ref f) = true ∧ (∃ ds, Vals [d] ds ∧ Binds K fd ps ds) ∧ ∃ g, KBn K fd ps m [kw] g (fun vs zs => vs ++ zs)
theorem e_callD {g k n m : Nat} {x kw : Str} {d : L2.V} {sp : Sp} {W : WX} (F : FnKw X.prog X.w X.K X.mg X.base k x kw m d sp) (tk : L2N.Takes X W) (hr : Room n X.A) (hk : k ≤ n) (q : wA X (e :: es) σ H fun vs H1 => sp (vs ++ [d]) H1 Q (fun cls d H' => W cls d σ H'))
    (I : In X N G sc := by assumption) (hG : At G g x := by repeat (first | with_reducible apply At.z | with_reducible apply At.s)) (he : starEach (e :: es) X.env = (false, eval e X.env) :: starEach es X.env := by rfl) (hpl : (backTo pos (starEach es X.env)).any (·.1) = false := by rfl) :
    wE X (.Call (.Name x p0) (e :: es) [] pos) σ H Q := by
  obtain ⟨f, fd, ps, F0, hm, hkp, ⟨ds, hd, hb⟩, _⟩ := F.ex
  exact e_of (pe_callSD (E := fun σ cls d H' => W cls d σ H') F0 (hr.mono hk) (I.g hG) hm hkp hb hd (fun σ => L2N.passAt tk σ) pa (I.gd hG) he hpl) q
theorem e_callK {g k n m : Nat} {x kw : Str} {d : L2.V} {sp : Sp} {W : WX} (F : FnKw X.prog X.w X.K X.mg X.base k x kw m d sp) (tk : L2N.Takes X W) (hr : Room n X.A) (hk : k ≤ n) (q : wA X (e :: es) σ H fun vs H1 => wE X v σ H1 fun z H2 => vs.length = m ∧ sp (vs ++ [z]) H2 Q (fun cls d H' => W cls d σ H'))
    (I : In X N G sc := by assumption) (hG : At G g x := by repeat (first | with_reducible apply At.z | with_reducible apply At.s))
    (hall : (backToKw pos (keywordEach [⟨some kw, v, kpos⟩] X.env)).all (·.1.isSome) = true := by rfl) (hks : (backToKw pos (keywordEach [⟨some kw, v, kpos⟩] X.env)).filterMap (·.1) = [kw] := by rfl)
    (he : starEach (e :: es) X.env = (false, eval e X.env) :: starEach es X.env := by rfl) (hpl : ((backTo pos (starEach (e :: es) X.env)).any (·.1) || (backToKw pos (keywordEach [⟨some kw, v, kpos⟩] X.env)).any (·.1.isNone)) = false := by rfl) :
    wE X (.Call (.Name x p0) (e :: es) [⟨some kw, v, kpos⟩] pos) σ H Q := by
  obtain ⟨f, fd, ps, F0, hm, hkp, _, g0, hb⟩ := F.ex
  unfold wE
  intro pins s I0
  refine wpAny_Call_Name_kw (ld_glob I0 (I.g hG) hm ?_ (I.gd hG))
  refine PySem.W.callWith_KW (h₀ := X.base) I0.ok.mod.kin hkp hall (thn (pa.run pos pins s σ H _ I0 q) fun us s1 ⟨vs, H1, I1, r, q1⟩ => ?_) hpl he
  refine thn ((pk_cons pe pk_nil).run pos pins s1 σ H1 (fun zs H2 => ∃ z, zs = [z] ∧ vs.length = m ∧ sp (vs ++ [z]) H2 Q (fun cls d H' => W cls d σ H')) I1 (e_mono q1 fun z H2 z2 => ⟨z, rfl, z2⟩)) fun ws s2 ⟨zs, H2, I2, rz, z, ez, l1, q2⟩ => ⟨I2.kIn, ?_⟩
  subst ez
  rw [hks]
  have r2 := hb.rel r rz
  have l2 : ws.length = [kw].length := rz.length.symm
  refine wpAny_call (codeAny_mono (F0.run X.A X.stack s2 H2 ⟨us, [kw].zip ws⟩ (g0 us ws) (vs ++ [z]) Q (fun cls d H' => W cls d σ H') (hr.mono hk) I2.env0 (hb.to s2 us ws I2.kIn (r.length.symm.trans l1) l2) r2 q2) fun r s' hq => ?_)
  cases r with
  | error e => exact L2N.passAt tk σ pins H2 s2 e s' I2 hq
  | ok fl =>
    cases fl with
    | ret u => exact I2.after hq
    | next => exact False.elim hq
    | brk => exact False.elim hq
    | cont => exact False.elim hq
/-- o.insert(0, v) and its like -/
theorem e_ins {i : Expr} (q : wE X o σ H fun x H1 => ∃ l xs0, x = .ref l ∧ SqL X.K H1 l xs0 ∧ wE X i σ H1 fun j H2 => wE X e σ H2 fun y H3 => ∃ n : Int, ∃ xs, j = .int n ∧ H3 l = some (.lst xs) ∧ xs.length < sizeLine ∧ 0 ≤ n ∧ n < 2 ^ 63 ∧ Q .non (upd H3 l (.lst (xs.take n.toNat ++ [y] ++ xs.drop n.toNat))))
    (hbase : attributeBase o "insert" X.env (eval o X.env) = eval o X.env := by rfl)
    (hfew : ((backTo pos (starEach (i :: [e]) X.env)).all (fun x => !x.1) && (backToKw pos (keywordEach [] X.env)).all (fun x => x.1.isSome)
      && decide ((i :: [e]).length + ([] : List Keyword).length + (if ([] : List Keyword).isEmpty then 0 else 1) < 30)) = true := by rfl)
    (hline : (apos.endLine == pos.line) = true := by rfl) (hs : starEach (i :: [e]) X.env = (false, eval i X.env) :: starEach [e] X.env := by rfl) (hs2 : starEach (e :: []) X.env = (false, eval e X.env) :: starEach [] X.env := by rfl) (hplain : (backTo pos (starEach [e] X.env)).any (·.1) = false := by rfl) :
    wE X (.Call (.Attribute o "insert" apos) [i, e] [] pos) σ H Q := by
  refine e_of (pe_bm PySem.F.plainAttrs_list PySem.F.slot_list_insert PySem.F.type_list_insert mt_insert pe (pa_cons pe (pa_cons pe pa_nil hs2) hs) hbase hfew hline hs hplain) (e_mono q fun x H1 z => ?_)
  obtain ⟨l, xs0, rfl, hl, z⟩ := z
  refine ⟨.inl ⟨rfl, _, hl⟩, e_mono z fun j H2 z2 => e_mono z2 fun y H3 z3 => ?_⟩
  obtain ⟨n, xs, rfl, h1, h2, h3, h4, h5⟩ := z3
  exact ⟨l, xs, n, y, rfl, rfl, h1, h2, h3, h4, h5⟩
end
end Wk
namespace Wk
open PySem PySem.Spec PyProof.Rows L2
section
variable {X : Cx} {N G : List Str} {sc : Scope} {a b e v o i : Expr} {es : List Expr} {σ : L2.St} {H : Hp} {Q : VK} {QT : Bool → Hp → Prop} {pos p0 p2 apos : Pos}
theorem t_tru (q : wE X a σ H fun x H' => ∃ k, TruV X.K x H' k ∧ QT k H') (he : ∀ whole, isTrue a X.env whole = (do let v ← whole; standAt a.pos; holding [v] (truthy v)) := by intro _; rfl) : wT X a σ H QT := t_of (pt_truth pe he) q
theorem tru_l {K : PySem.W.Frag} {l : Addr} {xs : List L2.V} (h : H l = some (.lst xs)) : TruV K (.ref l) H (!xs.isEmpty) := .inl ⟨xs, SqL.of h, rfl⟩
/-- o.pop() -/
theorem e_pop (q : wE X o σ H fun x H1 => ∃ l xs y, x = .ref l ∧ H1 l = some (.lst (xs ++ [y])) ∧ Q y (upd H1 l (.lst xs)))
    (hbase : attributeBase o "pop" X.env (eval o X.env) = eval o X.env := by rfl) (hline : (apos.endLine == pos.line) = true := by rfl) : wE X (.Call (.Attribute o "pop" apos) [] [] pos) σ H Q := by
  refine e_of (pe_bm0 PySem.F.plainAttrs_list PySem.F.slot_list_pop PySem.F.type_list_pop mt_pop pe hbase hline) (e_mono q fun x H1 z => ?_)
  obtain ⟨l, xs, y, rfl, h1, h2⟩ := z
  refine ⟨.inl ⟨rfl, _, SqL.of h1⟩, l, _, y, rfl, rfl, h1, by simp, ?_⟩
  rw [List.dropLast_concat]
  exact h2
theorem e_slL0 {r : L2.V → Option Int → Option Int → Hp → VK → Prop} (hr : SlR X r) (q : wE X e σ H fun x H1 => wE X a σ H1 fun y H2 => ∃ j, y = .int j ∧ r x (some j) none H2 Q) : wE X (.Subscript e (.Slice (some a) none none p2) pos) σ H Q :=
  e_of (pe_slice hr pe (po_some pe) po_none) (e_mono q fun x H1 z => e_mono z fun y H2 ⟨j, e, z2⟩ => ⟨j, e, z2⟩)
theorem e_slL1 {r : L2.V → Option Int → Option Int → Hp → VK → Prop} (hr : SlR X r) (q : wE X e σ H fun x H1 => wE X b σ H1 fun y H2 => ∃ j, y = .int j ∧ r x none (some j) H2 Q) : wE X (.Subscript e (.Slice none (some b) none p2) pos) σ H Q :=
  e_of (pe_slice hr pe po_none (po_some pe)) (e_mono q fun x H1 z => e_mono z fun y H2 ⟨j, e, z2⟩ => ⟨j, e, z2⟩)
theorem s_dput {nx : L2.St → Hp → Prop} {rt : VK} {bk ct : L2.St → Hp → Prop} {pos' : Pos} (hu : X.A.units + 1 < cLine) (q : wE X v σ H fun v H1 => wE X o σ H1 fun x H2 => wE X i σ H2 fun y H3 => ∃ a H4, x = .ref a ∧ DPut H3 a y v H4 ∧ nx σ H4)
    (hs : swapsWith v (some (.Subscript o i pos')) pos.line X.env = pure false := by rfl) : wS X (.Assign [.Subscript o i pos'] v pos) ⟨nx, rt, bk, ct⟩ σ H := s_of (ps_dput hu pe pe pe hs) q
theorem c_listD {p : Addr} {kvs : List (Key × L2.V)} (hc : X.calm = true) (h : H p = some (.dK kvs)) (q : ∀ l H2, Same H H2 → H2 l = some (.lst (kvs.map fun kv => kV kv.1)) → Q (.ref l) H2) : wC X (.type "list") [.ref p] H Q :=
  c_of (call_list_dK hc) ⟨p, kvs, rfl, h, fun l np => q l _ (fun c u eo => by rw [upd_ne (ne_of_none eo np)]; exact eo) upd_same⟩
theorem c_listL {p : Addr} {xs : List L2.V} (h : H p = some (.lst xs)) (q : ∀ l H2, Same H H2 → H l = none → H2 l = some (.lst xs) → Q (.ref l) H2) : wC X (.type "list") [.ref p] H Q :=
  c_of call_list_of ⟨p, xs, rfl, .inl (SqL.of h), fun l np => q l _ (fun c u eo => by rw [upd_ne (ne_of_none eo np)]; exact eo) np upd_same⟩
end
end Wk
namespace Wk
open PySem PySem.Spec PyProof.Rows L2
section
variable {X : Cx} {c e : Expr} {body : List Stmt} {σ : L2.St} {H : Hp} {pos : Pos} {N G : List Str} {sc : Scope}
theorem s_whileN {nx : L2.St → Hp → Prop} {rt : VK} {bk ct : L2.St → Hp → Prop} (Pv : Nat → L2.St → Hp → Prop) (n0 : Nat) (h0 : Pv n0 σ H)
    (hs : ∀ n σ H, Pv n σ H → wT X c σ H fun b H1 => if b = true then wL X body ⟨fun σ' H' => ∃ m, m < n ∧ Pv m σ' H', rt, nx, fun σ' H' => ∃ m, m < n ∧ Pv m σ' H'⟩ σ H1 else nx σ H1)
    (I : In X N G sc := by assumption) : wS X (.While c body [] pos) ⟨nx, rt, bk, ct⟩ σ H := by
  refine s_of (ps_while I.never pt pl) ⟨Pv, ⟨n0, h0⟩, fun n σ H p => ?_⟩
  refine t_mono (hs n σ H p) fun b H1 q => ?_
  cases b with
  | true => exact ⟨fun σ' H' => ∃ m, m < n ∧ Pv m σ' H', fun σ' H' z => z, q⟩
  | false => exact q
end
end Wk
namespace Wk
open PySem PySem.Spec PyProof.Rows L2
/-- a block with two own names -/
structure BkOk2 (N : List Str) (V : List (Nat × Str)) (G : List Str) (i j : Nat) (x y : Str) (sc scope : Scope) : Prop where
  lo : ∀ p ∈ V, N[p.1]? = some p.2 ∧ Vis (relS scope sc) p.2 ∧ (p.2 == ("__debug__" : Str)) = false ∧ (p.2 == ("__classdict__" : Str)) = false
  gl : ∀ x ∈ G, (relS scope sc).names.lookup x = some .globalImplicit ∧ (x == ("__debug__" : Str)) = false ∧ x ≠ "__name__"
  own : N[i]? = some x ∧ (relS scope sc).names.lookup x = some .local
  own2 : N[j]? = some y ∧ (relS scope sc).names.lookup y = some .local
  ne : i ≠ j
  blk : blkC N sc scope [(x, i), (y, j)] = true
section
variable {X : Cx} {e a b c elt : Expr} {es rest : List Expr} {σ : L2.St} {H : Hp} {Q : VK} {pos p0 : Pos} {N G G' : List Str} {Vn : List (Nat × Str)} {sc scope : Scope}
theorem BkOk2.inB {i j : Nat} {x y : Str} (B : BkOk2 X.N Vn G' i j x y sc scope) (I : In X N G sc) (s : Shared) (H : Hp) (C : Addr) (cl : List (Str × Addr)) (fp : List Addr) : InB (Bk X s H scope C cl fp) Vn G' := by
  have e : (compEnvC scope cl C X.env).scope = relS scope sc := rel_eq I.sc C cl
  refine ⟨I.nd, fun p hp => ?_, fun y hy => ?_⟩
  · obtain ⟨h1, h2, h3, h4⟩ := B.lo p hp
    exact ⟨h1, by show Vis (compEnvC scope cl C X.env).scope p.2; rw [e]; exact h2, h3, h4⟩
  · obtain ⟨h1, h2, h3⟩ := B.gl y hy
    exact ⟨by show (compEnvC scope cl C X.env).scope.names.lookup y = _; rw [e]; exact h1, h2, h3⟩
def gT2 (K : PySem.W.Frag) (i j : Nat) : TG := fun v σ H Q => ∃ a u w, v = .ref a ∧ SqT K H a [u, w] ∧ Q ((σ.set i (some u)).set j (some w)) H
theorem BkOk2.pg {i j : Nat} {x y : Str} {px py pt : Pos} {k : Nat} (B : BkOk2 X.N Vn G' i j x y sc scope) (hc : X.calm = true) (I : In X N G sc) (s : Shared) (H : Hp) (C : Addr) (cl : List (Str × Addr)) (fp : List Addr) : PG (Bk X s H scope C cl fp) (.Tuple [.Name x px, .Name y py] k pt) (gT2 X.K i j) := by
  have e : (compEnvC scope cl C X.env).scope = relS scope sc := rel_eq I.sc C cl
  have l : (Bk X s H scope C cl fp).env.scope.names.lookup x = some .local := by
    show (compEnvC scope cl C X.env).scope.names.lookup x = _
    rw [e]
    exact B.own.2
  have l2 : (Bk X s H scope C cl fp).env.scope.names.lookup y = some .local := by
    show (compEnvC scope cl C X.env).scope.names.lookup y = _
    rw [e]
    exact B.own2.2
  refine ⟨fun pins s σ H v u Q I0 r h => ?_⟩
  obtain ⟨ad, u1, w1, rfl, hq, q⟩ := h
  exact (pg_tup (X := Bk X _ _ scope C cl fp) hc (pgs_cons (pg_name I.nd B.own.1 (.inl l) (.inr l)) (pgs_cons (pg_name I.nd B.own2.1 (.inl l2) (.inr l2)) pgs_nil))).run pins s σ H _ u Q I0 r ⟨ad, [u1, w1], rfl, hq, rfl, u1, [w1], rfl, w1, [], rfl, rfl, q⟩
theorem BkOk2.ok {i j : Nat} {x y : Str} (B : BkOk2 X.N Vn G' i j x y sc scope) (I : In X N G sc) : BlkOk X.N X.env.scope scope [(x, i), (y, j)] := by
  rw [I.sc]
  exact blkOk_by B.blk
theorem wipe2 (σ : L2.St) (i j : Nat) : wipe σ [i, j] = (σ.set j none).set i none := rfl
theorem wipe_set2 (σ : L2.St) {i j : Nat} (h : i ≠ j) (u w : L2.V) : wipe (((wipe σ [i, j]).set i (some u)).set j (some w)) [i, j] = wipe σ [i, j] := by
  rw [wipe2, wipe2]
  apply List.ext_getElem?
  intro k
  by_cases h1 : i = k
  · subst h1
    simp [List.getElem?_set, h.symm]
  · by_cases h2 : j = k
    · subst h2
      simp [List.getElem?_set, h1]
    · simp [List.getElem?_set, h1, h2]
/-- [elt for x, y in a], a list of pairs -/
def LcL2 (X : Cx) (Vn : List (Nat × Str)) (G' : List Str) (elt : Expr) (scope : Scope) (i j : Nat) (ad : Addr) (xs : List L2.V) (D : Addr) (σ : L2.St) (H1 : Hp) (Qd : Hp → Prop) : Prop := ∃ Pv : Nat → Hp → Prop, Pv 0 (upd H1 D (.lst [])) ∧ (∀ k H2, k ≤ xs.length → Pv k H2 → SqL X.K H2 ad xs) ∧
  (∀ k x H2, xs[k]? = some x → Pv k H2 → ∃ t u w, x = .ref t ∧ SqT X.K H2 t [u, w] ∧ ∀ s0 H0 C cl fp, InB (Bk X s0 H0 scope C cl fp) Vn G' → wE (Bk X s0 H0 scope C cl fp) elt (((wipe σ [i, j]).set i (some u)).set j (some w)) H2 fun y H4 => ∃ acc, H4 D = some (.lst acc) ∧ acc.length < sizeLine ∧ Pv (k + 1) (upd H4 D (.lst (acc ++ [y])))) ∧
  ∀ H2, Pv xs.length H2 → Qd H2
theorem pe_bk2 {i j : Nat} {x y : Str} {s0 : Shared} {H0 : Hp} {C : Addr} {cl : List (Str × Addr)} {fp : List Addr} (I : InB (Bk X s0 H0 scope C cl fp) Vn G') : PE (Bk X s0 H0 scope C cl fp) elt (wBk X Vn G' elt scope) := pe_bk I
theorem lcL2_of {i j : Nat} (hij : i ≠ j) {ad : Addr} {xs : List L2.V} {D : Addr} {H1 : Hp} {Qd : Hp → Prop} (q : LcL2 X Vn G' elt scope i j ad xs D σ H1 Qd) : ∃ W : Nat → Nat → Hp → Prop, (∃ m, W 0 m (upd H1 D (.lst []))) ∧ ∀ k m H, W k m H →
    ((Itl X.K ad).stop k H ∧ Qd H) ∨ ((Itl X.K ad).go k H ∧ ∃ Nx : Hp → Prop, (∀ H', Nx H' → ∃ m', m' < m ∧ W (k + 1) m' H') ∧ ∀ x H', (Itl X.K ad).yld k H x H' → gT2 X.K i j x (wipe σ [i, j]) H' fun σ2 H2 => wipe σ2 [i, j] = wipe σ [i, j] ∧ tYes σ2 H2 fun b H3 =>
      if b = true then wBk X Vn G' elt scope σ2 H3 fun y H4 => ∃ acc, H4 D = some (.lst acc) ∧ acc.length < sizeLine ∧ Nx (upd H4 D (.lst (acc ++ [y]))) else Nx H3) := by
  obtain ⟨Pv, h0, hl, hs, hd⟩ := q
  refine lc_list Pv h0 hl (fun k x H hk p => ?_) hd
  obtain ⟨t, u, w, rfl, hq, z⟩ := hs k x H hk p
  refine ⟨t, u, w, rfl, hq, wipe_set2 σ hij u w, ?_⟩
  unfold tYes
  refine iteT ?_
  unfold wBk
  intro s0 H0 C cl fp I
  exact z s0 H0 C cl fp I
theorem e_lcL2 {i j : Nat} {x y : Str} {px py pt : Pos} {kt : Nat} (B : BkOk2 X.N Vn G' i j x y sc scope)
    (q : wE X a σ H fun v H1 => ∃ ad xs, v = .ref ad ∧ SqL X.K H1 ad xs ∧ ∀ D, H1 D = none → LcL2 X Vn G' elt scope i j ad xs D σ H1 fun H2 => Q (.ref D) H2)
    (I : In X N G sc := by assumption) (hc : X.calm = true := by rfl) (hs2 : ∀ z, foldedSetIterable a X.env z = pure z := by intro _; rfl) :
    wE X (.ListComp elt [⟨.Tuple [.Name x px, .Name y py] kt pt, a, [], 0⟩] scope pos) σ H Q := by
  refine e_of (pe_lc (own := [(x, i), (y, j)]) (g := gT2 X.K i j) (tt := tYes) (te := wBk X Vn G' elt scope) hc I.nd (pi_list pe) (B.ok I) (fun s H C cl fp => B.pg hc I s H C cl fp) (fun _ _ _ _ _ => pts_nil) (fun s H C cl fp => pe_bk (B.inB I s H C cl fp)) hs2) (e_mono q fun v H1 q1 => ?_)
  obtain ⟨ad, xs, rfl, hl, q2⟩ := q1
  exact ⟨ad, rfl, ⟨xs, hl⟩, fun D hD => lcL2_of B.ne (q2 D hD)⟩
end
end Wk
namespace Wk
open PySem PySem.Spec PyProof.Rows L2
section
variable {P : Program} {w : World} {K : PySem.W.Frag} {mg : Str → Option Value} {base : Heap}
/-- a def of the module with one keyword-only default -/
structure TopK (K : PySem.W.Frag) (mg : Str → Option Value) (x : Str) (st : Stmt) (kw : Str) (d : L2.V) : Prop where
  ex : ∃ (f : Addr) (fd : FuncData), FunD K x x (defArgs st) (defBody st) (defScope st) [] [(kw, d)] f fd ∧ mg x = some (.ref f)
theorem topK_mk {h : Heap} {x kw : Str} {d : L2.V} {u : Value} {st : Stmt} {f D : Addr} {oc : Value} {od an : Option Addr} {osl : Array (Option Value)} {doc pm cdv ct : Value} (X : K.In h) (G : h.Ns mainGlobals mg) (a : PySem.W.nsIn K mainGlobals x = some (some (.ref f)))
    (l : K.lookup f = some ⟨oc, od, .func (PySem.W.fnOf x x (defArgs st) (defBody st) (defScope st) .none (.ref D) doc pm an cdv ct), osl⟩) (c : PySem.W.codeIn K cdv x = true) (k : PySem.W.keepIn K (.ref f) = true)
    (hd : PySem.W.nsIn K D kw = some (some u)) (r : RelV d u) : TopK K mg x st kw d :=
  ⟨f, _, ⟨⟨oc, od, .none, .ref D, doc, pm, an, cdv, ct, osl, rfl, l, c, .inl ⟨rfl, rfl⟩, .inr ⟨D, rfl, fun q hq => by
    simp only [List.mem_singleton] at hq
    subst hq
    exact ⟨u, hd, r⟩⟩⟩, k⟩, PySem.W.mg_of X G a⟩
theorem fn_okKw {x kw : Str} {d : L2.V} {st : Stmt} {N G : List Str} {p1 p2 : Str} {k : Nat} {sp : Sp} (T : TopK K mg x st kw d) (S : FnScope N [p1, p2, kw] (defScope st)) (O : ScOk N G (defScope st)) (len : ∀ vs H Q E, sp vs H Q E → vs.length = 3)
    (hb : ∀ (D : Addr) (doc pm : Value) (an : Option Addr) (cdv ct : Value) (a b u : Value), KwChain D [(kw, u)] (bindArgs (PySem.W.fnOf x x (defArgs st) (defBody st) (defScope st) .none (.ref D) doc pm an cdv ct) ⟨[a, b], []⟩) [(p1, a), (p2, b), (kw, u)])
    (hb2 : ∀ (kV doc pm : Value) (an : Option Addr) (cdv ct : Value) (a b u : Value), bindArgs (PySem.W.fnOf x x (defArgs st) (defBody st) (defScope st) .none kV doc pm an cdv ct) ⟨[a, b], [(kw, u)]⟩ = pure [(p1, a), (p2, b), (kw, u)])
    (hbody : ∀ (f : Addr) (cdv : Value) (A : Around) (outer : List Env) (s : Shared) (H : Hp) (vs : List L2.V) (Q : VK) (E : XK), Room k (A.deeper (envOfC x (defScope st) s.heap.objs.size f cdv)) → sp vs H Q E → In (cxOf (L2N.CX P w) P w K mg base N x (defScope st) f cdv A outer s H E) N G (defScope st) →
      L2N.Takes (cxOf (L2N.CX P w) P w K mg base N x (defScope st) f cdv A outer s H E) (fun cls d _ H => E cls d H) →
      wL (cxOf (L2N.CX P w) P w K mg base N x (defScope st) f cdv A outer s H E) (defBody st) { nx := fun _ H' => Q .non H', rt := Q } (start N vs) H) : FnKw P w K mg base (k + 1) x kw 2 d sp := by
  obtain ⟨f, fd, F, hm⟩ := T.ex
  have hbd := FunD.binds0 (ps := [p1, p2, kw]) F 2 (by simp) rfl (fun D doc pm an cdv ct us ks l1 l2 => by
    match us, ks, l1, l2 with
    | [a, b], [u], _, _ => exact hb D doc pm an cdv ct a b u)
  obtain ⟨oc, od, dV, kV, doc, pm, an, cdv, ct, osl, rfl, lk, hcd, hD, hK⟩ := id F.ex
  obtain rfl : dV = .none := by
    rcases hD with ⟨_, h⟩ | ⟨h, _⟩
    · exact h
    · exact absurd rfl h
  refine ⟨f, _, [p1, p2, kw], fn_of lk hcd S len (fun A outer s H vs Q E hr h => ⟨_, pl, hbody f cdv A outer s H vs Q E hr h ⟨O, ⟨[], (List.append_nil _).symm⟩, S.nd, rfl, rfl, passes_of rfl⟩ (L2N.takes_of rfl rfl rfl rfl)⟩), hm, F.kp, ?_, fun us ws => us ++ ws, ⟨fun s us ws _ l1 l2 => ?_, fun r1 r2 => r1.append r2⟩⟩
  · obtain ⟨ds, h1, h2⟩ := hbd
    exact ⟨ds, h1, h2⟩
  · match us, ws, l1, l2 with
    | [a, b], [u], _, _ => exact .of_eq (hb2 kV doc pm an cdv ct a b u)
end
end Wk

set_option maxHeartbeats 4000000
namespace K02
open PySem PySem.Spec PyProof.Rows L2 Wk
def topS (i : Nat) : Stmt := PySem.Challenge.pw_heldproofs_k02_sentences_and_legs.main.body.getD i (.Pass ⟨0, 0, 0, 0⟩)
abbrev s_BadName___init : Stmt := inClass (topS 2) 0
abbrev N_BadName___init : List Str := ["self", "name"]
abbrev P_BadName___init : List Str := ["self", "name"]
abbrev G_BadName___init : List Str := []
theorem so_BadName___init : ScOk N_BadName___init G_BadName___init (defScope s_BadName___init) := ⟨by decide +kernel, by decide +kernel, by decide +kernel⟩
theorem sc_BadName___init : FnScope N_BadName___init P_BadName___init (defScope s_BadName___init) := ⟨rfl, rfl, rfl, by decide +kernel, rfl, by decide +kernel, by decide +kernel⟩
abbrev s_NameTaken___init : Stmt := inClass (topS 3) 0
abbrev N_NameTaken___init : List Str := ["self", "name"]
abbrev P_NameTaken___init : List Str := ["self", "name"]
abbrev G_NameTaken___init : List Str := []
theorem so_NameTaken___init : ScOk N_NameTaken___init G_NameTaken___init (defScope s_NameTaken___init) := ⟨by decide +kernel, by decide +kernel, by decide +kernel⟩
theorem sc_NameTaken___init : FnScope N_NameTaken___init P_NameTaken___init (defScope s_NameTaken___init) := ⟨rfl, rfl, rfl, by decide +kernel, rfl, by decide +kernel, by decide +kernel⟩
abbrev s_UnknownName___init : Stmt := inClass (topS 4) 0
abbrev N_UnknownName___init : List Str := ["self", "name"]
abbrev P_UnknownName___init : List Str := ["self", "name"]
abbrev G_UnknownName___init : List Str := []
theorem so_UnknownName___init : ScOk N_UnknownName___init G_UnknownName___init (defScope s_UnknownName___init) := ⟨by decide +kernel, by decide +kernel, by decide +kernel⟩
theorem sc_UnknownName___init : FnScope N_UnknownName___init P_UnknownName___init (defScope s_UnknownName___init) := ⟨rfl, rfl, rfl, by decide +kernel, rfl, by decide +kernel, by decide +kernel⟩
abbrev s_BadKind___init : Stmt := inClass (topS 5) 0
abbrev N_BadKind___init : List Str := ["self", "kind"]
abbrev P_BadKind___init : List Str := ["self", "kind"]
abbrev G_BadKind___init : List Str := []
theorem so_BadKind___init : ScOk N_BadKind___init G_BadKind___init (defScope s_BadKind___init) := ⟨by decide +kernel, by decide +kernel, by decide +kernel⟩
theorem sc_BadKind___init : FnScope N_BadKind___init P_BadKind___init (defScope s_BadKind___init) := ⟨rfl, rfl, rfl, by decide +kernel, rfl, by decide +kernel, by decide +kernel⟩
abbrev s_TextError___init : Stmt := inClass (topS 6) 0
abbrev N_TextError___init : List Str := ["self", "index"]
abbrev P_TextError___init : List Str := ["self", "index"]
abbrev G_TextError___init : List Str := []
theorem so_TextError___init : ScOk N_TextError___init G_TextError___init (defScope s_TextError___init) := ⟨by decide +kernel, by decide +kernel, by decide +kernel⟩
theorem sc_TextError___init : FnScope N_TextError___init P_TextError___init (defScope s_TextError___init) := ⟨rfl, rfl, rfl, by decide +kernel, rfl, by decide +kernel, by decide +kernel⟩
abbrev s_is_number_from : Stmt := topS 9
abbrev N_is_number_from : List Str := ["value", "least"]
abbrev P_is_number_from : List Str := ["value", "least"]
abbrev G_is_number_from : List Str := ["isinstance", "int", "bool"]
theorem so_is_number_from : ScOk N_is_number_from G_is_number_from (defScope s_is_number_from) := ⟨by decide +kernel, by decide +kernel, by decide +kernel⟩
theorem sc_is_number_from : FnScope N_is_number_from P_is_number_from (defScope s_is_number_from) := ⟨rfl, rfl, rfl, by decide +kernel, rfl, by decide +kernel, by decide +kernel⟩
abbrev s_is_kind : Stmt := topS 10
abbrev N_is_kind : List Str := ["value"]
abbrev P_is_kind : List Str := ["value"]
abbrev G_is_kind : List Str := ["isinstance", "tuple", "len", "is_number_from", "str"]
theorem so_is_kind : ScOk N_is_kind G_is_kind (defScope s_is_kind) := ⟨by decide +kernel, by decide +kernel, by decide +kernel⟩
theorem sc_is_kind : FnScope N_is_kind P_is_kind (defScope s_is_kind) := ⟨rfl, rfl, rfl, by decide +kernel, rfl, by decide +kernel, by decide +kernel⟩
abbrev s_is_letter : Stmt := topS 13
abbrev N_is_letter : List Str := ["char"]
abbrev P_is_letter : List Str := ["char"]
abbrev G_is_letter : List Str := []
theorem so_is_letter : ScOk N_is_letter G_is_letter (defScope s_is_letter) := ⟨by decide +kernel, by decide +kernel, by decide +kernel⟩
theorem sc_is_letter : FnScope N_is_letter P_is_letter (defScope s_is_letter) := ⟨rfl, rfl, rfl, by decide +kernel, rfl, by decide +kernel, by decide +kernel⟩
abbrev s_is_digit : Stmt := topS 14
abbrev N_is_digit : List Str := ["char"]
abbrev P_is_digit : List Str := ["char"]
abbrev G_is_digit : List Str := []
theorem so_is_digit : ScOk N_is_digit G_is_digit (defScope s_is_digit) := ⟨by decide +kernel, by decide +kernel, by decide +kernel⟩
theorem sc_is_digit : FnScope N_is_digit P_is_digit (defScope s_is_digit) := ⟨rfl, rfl, rfl, by decide +kernel, rfl, by decide +kernel, by decide +kernel⟩
abbrev s_is_name : Stmt := topS 15
abbrev N_is_name : List Str := ["text", "char"]
abbrev P_is_name : List Str := ["text"]
abbrev G_is_name : List Str := ["len", "NAME_LENGTH", "is_letter", "is_digit"]
theorem so_is_name : ScOk N_is_name G_is_name (defScope s_is_name) := ⟨by decide +kernel, by decide +kernel, by decide +kernel⟩
theorem sc_is_name : FnScope N_is_name P_is_name (defScope s_is_name) := ⟨rfl, rfl, rfl, by decide +kernel, rfl, by decide +kernel, by decide +kernel⟩
abbrev s_word : Stmt := topS 17
abbrev N_word : List Str := ["name"]
abbrev P_word : List Str := ["name"]
abbrev G_word : List Str := ["is_name", "BadName"]
theorem so_word : ScOk N_word G_word (defScope s_word) := ⟨by decide +kernel, by decide +kernel, by decide +kernel⟩
theorem sc_word : FnScope N_word P_word (defScope s_word) := ⟨rfl, rfl, rfl, by decide +kernel, rfl, by decide +kernel, by decide +kernel⟩
abbrev s_menu : Stmt := topS 18
abbrev N_menu : List Str := ["left", "right"]
abbrev P_menu : List Str := ["left", "right"]
abbrev G_menu : List Str := []
theorem so_menu : ScOk N_menu G_menu (defScope s_menu) := ⟨by decide +kernel, by decide +kernel, by decide +kernel⟩
theorem sc_menu : FnScope N_menu P_menu (defScope s_menu) := ⟨rfl, rfl, rfl, by decide +kernel, rfl, by decide +kernel, by decide +kernel⟩
abbrev s_trade : Stmt := topS 19
abbrev N_trade : List Str := ["price", "goods", "kind"]
abbrev P_trade : List Str := ["price", "goods", "kind"]
abbrev G_trade : List Str := ["is_kind", "BadKind"]
theorem so_trade : ScOk N_trade G_trade (defScope s_trade) := ⟨by decide +kernel, by decide +kernel, by decide +kernel⟩
theorem sc_trade : FnScope N_trade P_trade (defScope s_trade) := ⟨rfl, rfl, rfl, by decide +kernel, rfl, by decide +kernel, by decide +kernel⟩
abbrev s_names_within : Stmt := topS 20
abbrev N_names_within : List Str := ["sentence", "names", "waiting", "here"]
abbrev P_names_within : List Str := ["sentence"]
abbrev G_names_within : List Str := []
theorem so_names_within : ScOk N_names_within G_names_within (defScope s_names_within) := ⟨by decide +kernel, by decide +kernel, by decide +kernel⟩
theorem sc_names_within : FnScope N_names_within P_names_within (defScope s_names_within) := ⟨rfl, rfl, rfl, by decide +kernel, rfl, by decide +kernel, by decide +kernel⟩
abbrev s_size : Stmt := topS 21
abbrev N_size : List Str := ["sentence"]
abbrev P_size : List Str := ["sentence"]
abbrev G_size : List Str := ["len", "names_within"]
theorem so_size : ScOk N_size G_size (defScope s_size) := ⟨by decide +kernel, by decide +kernel, by decide +kernel⟩
theorem sc_size : FnScope N_size P_size (defScope s_size) := ⟨rfl, rfl, rfl, by decide +kernel, rfl, by decide +kernel, by decide +kernel⟩
abbrev s_words_in : Stmt := topS 22
abbrev N_words_in : List Str := ["sentence", "found", "name"]
abbrev P_words_in : List Str := ["sentence"]
abbrev G_words_in : List Str := ["names_within", "list"]
theorem so_words_in : ScOk N_words_in G_words_in (defScope s_words_in) := ⟨by decide +kernel, by decide +kernel, by decide +kernel⟩
theorem sc_words_in : FnScope N_words_in P_words_in (defScope s_words_in) := ⟨rfl, rfl, rfl, by decide +kernel, rfl, by decide +kernel, by decide +kernel⟩
abbrev s_legs : Stmt := topS 23
abbrev N_legs : List Str := ["sentence", "first"]
abbrev P_legs : List Str := ["sentence"]
abbrev G_legs : List Str := ["legs"]
theorem so_legs : ScOk N_legs G_legs (defScope s_legs) := ⟨by decide +kernel, by decide +kernel, by decide +kernel⟩
abbrev C_legs : List Str := ["prices", "name"]
theorem sc_legs : FnScope (N_legs ++ C_legs) P_legs (defScope s_legs) := ⟨rfl, rfl, rfl, by decide +kernel, rfl, by decide +kernel, by decide +kernel⟩
theorem bk_legs0 : BkOk2 (N_legs ++ C_legs) [(3, "name"), (2, "prices"), (1, "first")] [] 2 3 "prices" "name" (defScope s_legs) (lcSc (valE ((defBody s_legs).getD 3 (.Pass ⟨0, 0, 0, 0⟩)))) := ⟨by decide +kernel, by decide +kernel, by decide +kernel, by decide +kernel, by decide, by decide +kernel⟩
abbrev s_cell : Stmt := topS 25
abbrev N_cell : List Str := ["_law_script", "_law_k"]
abbrev P_cell : List Str := ["_law_script", "_law_k"]
abbrev G_cell : List Str := ["len", "abs"]
theorem so_cell : ScOk N_cell G_cell (defScope s_cell) := ⟨by decide +kernel, by decide +kernel, by decide +kernel⟩
theorem sc_cell : FnScope N_cell P_cell (defScope s_cell) := ⟨rfl, rfl, rfl, by decide +kernel, rfl, by decide +kernel, by decide +kernel⟩
abbrev s_pool : Stmt := topS 26
abbrev N_pool : List Str := ["_law_script", "_law_k", "_law_cell_here"]
abbrev P_pool : List Str := ["_law_script", "_law_k"]
abbrev G_pool : List Str := ["_law_cell", "int"]
theorem so_pool : ScOk N_pool G_pool (defScope s_pool) := ⟨by decide +kernel, by decide +kernel, by decide +kernel⟩
theorem sc_pool : FnScope N_pool P_pool (defScope s_pool) := ⟨rfl, rfl, rfl, by decide +kernel, rfl, by decide +kernel, by decide +kernel⟩
abbrev s_next : Stmt := topS 27
abbrev N_next : List Str := ["_law_pool_here", "_law_many", "_law_digit", "_law_mixed"]
abbrev P_next : List Str := ["_law_pool_here", "_law_many"]
abbrev G_next : List Str := ["int"]
theorem so_next : ScOk N_next G_next (defScope s_next) := ⟨by decide +kernel, by decide +kernel, by decide +kernel⟩
theorem sc_next : FnScope N_next P_next (defScope s_next) := ⟨rfl, rfl, rfl, by decide +kernel, rfl, by decide +kernel, by decide +kernel⟩
abbrev s_same : Stmt := topS 28
abbrev N_same : List Str := ["_law_told", "_law_due", "_law_k"]
abbrev P_same : List Str := ["_law_told", "_law_due"]
abbrev G_same : List Str := ["isinstance", "bool", "int", "str", "list", "tuple", "len", "range", "_law_same"]
theorem so_same : ScOk N_same G_same (defScope s_same) := ⟨by decide +kernel, by decide +kernel, by decide +kernel⟩
theorem sc_same : FnScope N_same P_same (defScope s_same) := ⟨rfl, rfl, rfl, by decide +kernel, rfl, by decide +kernel, by decide +kernel⟩
abbrev s_name : Stmt := topS 29
abbrev N_name : List Str := ["_law_pool_here", "_law_names", "_law_letters", "_law_signs", "_law_pick", "_law_name_here", "_law_at", "_law_k"]
abbrev P_name : List Str := ["_law_pool_here", "_law_names"]
abbrev G_name : List Str := ["_law_next", "len", "max", "range"]
theorem so_name : ScOk N_name G_name (defScope s_name) := ⟨by decide +kernel, by decide +kernel, by decide +kernel⟩
theorem sc_name : FnScope N_name P_name (defScope s_name) := ⟨rfl, rfl, rfl, by decide +kernel, rfl, by decide +kernel, by decide +kernel⟩
abbrev s_bad_name : Stmt := topS 30
abbrev N_bad_name : List Str := ["_law_pool_here", "_law_name_here", "_law_marks", "_law_pick", "_law_at", "_law_mark"]
abbrev P_bad_name : List Str := ["_law_pool_here", "_law_name_here"]
abbrev G_bad_name : List Str := ["_law_next", "len", "str"]
theorem so_bad_name : ScOk N_bad_name G_bad_name (defScope s_bad_name) := ⟨by decide +kernel, by decide +kernel, by decide +kernel⟩
theorem sc_bad_name : FnScope N_bad_name P_bad_name (defScope s_bad_name) := ⟨rfl, rfl, rfl, by decide +kernel, rfl, by decide +kernel, by decide +kernel⟩
abbrev s_mode : Stmt := topS 31
abbrev N_mode : List Str := ["_law_pool_here"]
abbrev P_mode : List Str := ["_law_pool_here"]
abbrev G_mode : List Str := ["_law_next"]
theorem so_mode : ScOk N_mode G_mode (defScope s_mode) := ⟨by decide +kernel, by decide +kernel, by decide +kernel⟩
theorem sc_mode : FnScope N_mode P_mode (defScope s_mode) := ⟨rfl, rfl, rfl, by decide +kernel, rfl, by decide +kernel, by decide +kernel⟩
abbrev s_deep : Stmt := topS 32
abbrev N_deep : List Str := ["_law_pool_here", "_law_names", "_law_depth", "_law_pick", "_law_one", "_law_two"]
abbrev P_deep : List Str := ["_law_pool_here", "_law_names", "_law_depth"]
abbrev G_deep : List Str := ["_law_next", "len", "_law_deep", "_law_mode"]
theorem so_deep : ScOk N_deep G_deep (defScope s_deep) := ⟨by decide +kernel, by decide +kernel, by decide +kernel⟩
theorem sc_deep : FnScope N_deep P_deep (defScope s_deep) := ⟨rfl, rfl, rfl, by decide +kernel, rfl, by decide +kernel, by decide +kernel⟩
abbrev s_sentence : Stmt := topS 33
abbrev N_sentence : List Str := ["_law_pool_here", "_law_names", "_law_sentence_here", "_law_k", "_law_other", "_law_pick"]
abbrev P_sentence : List Str := ["_law_pool_here", "_law_names"]
abbrev G_sentence : List Str := ["_law_next", "_law_deep", "range", "len", "_law_mode"]
theorem so_sentence : ScOk N_sentence G_sentence (defScope s_sentence) := ⟨by decide +kernel, by decide +kernel, by decide +kernel⟩
theorem sc_sentence : FnScope N_sentence P_sentence (defScope s_sentence) := ⟨rfl, rfl, rfl, by decide +kernel, rfl, by decide +kernel, by decide +kernel⟩
abbrev s_l_legs : Stmt := topS 34
abbrev N_l_legs : List Str := ["_law_sentence_here", "_law_found", "_law_left", "_law_row", "_law_one"]
abbrev P_l_legs : List Str := ["_law_sentence_here"]
abbrev G_l_legs : List Str := ["list"]
theorem so_l_legs : ScOk N_l_legs G_l_legs (defScope s_l_legs) := ⟨by decide +kernel, by decide +kernel, by decide +kernel⟩
theorem sc_l_legs : FnScope N_l_legs P_l_legs (defScope s_l_legs) := ⟨rfl, rfl, rfl, by decide +kernel, rfl, by decide +kernel, by decide +kernel⟩
abbrev s_words : Stmt := topS 35
abbrev N_words : List Str := ["_law_sentence_here", "_law_found", "_law_left", "_law_one"]
abbrev P_words : List Str := ["_law_sentence_here"]
abbrev G_words : List Str := []
theorem so_words : ScOk N_words G_words (defScope s_words) := ⟨by decide +kernel, by decide +kernel, by decide +kernel⟩
theorem sc_words : FnScope N_words P_words (defScope s_words) := ⟨rfl, rfl, rfl, by decide +kernel, rfl, by decide +kernel, by decide +kernel⟩
abbrev s_tells : Stmt := topS 36
abbrev N_tells : List Str := ["_law_sentence_here", "_law_due", "_law_names", "_law_unlike", "_law_name_here", "_law_told", "_law_listed", "_law_lead", "_law_row", "_law_prices"]
abbrev P_tells : List Str := ["_law_sentence_here"]
abbrev G_tells : List Str := ["_law_legs", "_law_words", "legs", "words_in", "_law_same", "size", "len"]
theorem so_tells : ScOk N_tells G_tells (defScope s_tells) := ⟨by decide +kernel, by decide +kernel, by decide +kernel⟩
theorem sc_tells : FnScope N_tells P_tells (defScope s_tells) := ⟨rfl, rfl, rfl, by decide +kernel, rfl, by decide +kernel, by decide +kernel⟩
abbrev s_through : Stmt := topS 37
abbrev N_through : List Str := ["_law_sentence_here", "_law_one", "_law_two"]
abbrev P_through : List Str := ["_law_sentence_here"]
abbrev G_through : List Str := ["word", "_law_through", "menu", "trade"]
theorem so_through : ScOk N_through G_through (defScope s_through) := ⟨by decide +kernel, by decide +kernel, by decide +kernel⟩
theorem sc_through : FnScope N_through P_through (defScope s_through) := ⟨rfl, rfl, rfl, by decide +kernel, rfl, by decide +kernel, by decide +kernel⟩
abbrev s_name_refused : Stmt := topS 38
abbrev N_name_refused : List Str := ["_law_name_here", "e"]
abbrev P_name_refused : List Str := ["_law_name_here"]
abbrev G_name_refused : List Str := ["word", "BadName", "isinstance", "BadKind", "NameTaken", "UnknownName", "TextError", "NotSimple", "HeldError", "ValueError", "_law_same"]
theorem so_name_refused : ScOk N_name_refused G_name_refused (defScope s_name_refused) := ⟨by decide +kernel, by decide +kernel, by decide +kernel⟩
theorem sc_name_refused : FnScope N_name_refused P_name_refused (defScope s_name_refused) := ⟨rfl, rfl, rfl, by decide +kernel, rfl, by decide +kernel, by decide +kernel⟩
abbrev s_kind_refused : Stmt := topS 39
abbrev N_kind_refused : List Str := ["_law_value", "_law_one", "_law_two", "e"]
abbrev P_kind_refused : List Str := ["_law_value", "_law_one", "_law_two"]
abbrev G_kind_refused : List Str := ["trade", "BadKind", "isinstance", "BadName", "NameTaken", "UnknownName", "TextError", "NotSimple", "HeldError", "ValueError", "_law_same"]
theorem so_kind_refused : ScOk N_kind_refused G_kind_refused (defScope s_kind_refused) := ⟨by decide +kernel, by decide +kernel, by decide +kernel⟩
theorem sc_kind_refused : FnScope N_kind_refused P_kind_refused (defScope s_kind_refused) := ⟨rfl, rfl, rfl, by decide +kernel, rfl, by decide +kernel, by decide +kernel⟩
abbrev s_refused_at_all : Stmt := topS 40
abbrev N_refused_at_all : List Str := ["_law_name_here", "_law_one", "_law_two", "_law_count", "e"]
abbrev P_refused_at_all : List Str := ["_law_name_here", "_law_one", "_law_two"]
abbrev G_refused_at_all : List Str := ["word", "HeldError", "int", "isinstance", "BadName", "trade", "BadKind"]
theorem so_refused_at_all : ScOk N_refused_at_all G_refused_at_all (defScope s_refused_at_all) := ⟨by decide +kernel, by decide +kernel, by decide +kernel⟩
theorem sc_refused_at_all : FnScope N_refused_at_all P_refused_at_all (defScope s_refused_at_all) := ⟨rfl, rfl, rfl, by decide +kernel, rfl, by decide +kernel, by decide +kernel⟩
abbrev s_law : Stmt := topS 41
abbrev N_law : List Str := ["_law_script", "_law_pool_here", "_law_names", "_law_k", "_law_one", "_law_two", "_law_mode_here", "_law_sentence_here", "_law_bad", "_law_odd", "_law_value", "_law_long"]
abbrev P_law : List Str := ["_law_script"]
abbrev G_law : List Str := ["_law_pool", "range", "_law_next", "_law_name", "_law_sentence", "_law_mode", "_law_tells", "_law_same", "_law_through", "trade", "_law_bad_name", "_law_name_refused", "_law_refused_at_all", "_law_kind_refused", "word"]
theorem so_law : ScOk N_law G_law (defScope s_law) := ⟨by decide +kernel, by decide +kernel, by decide +kernel⟩
theorem sc_law : FnScope N_law P_law (defScope s_law) := ⟨rfl, rfl, rfl, by decide +kernel, rfl, by decide +kernel, by decide +kernel⟩
local macro_rules | `(tactic| walk_at "bl") => `(tactic| first
  | refine e_callB (x := "len") (by assumption) b_len ?_
  | refine e_callB (x := "isinstance") (by assumption) b_isi ?_
  | refine e_callB (x := "abs") (by assumption) b_abs ?_
  | refine e_callB (x := "max") (by assumption) b_max ?_
  | refine e_callB (x := "min") (by assumption) b_min ?_
  | refine e_callTy (x := "str") (by assumption) b_str ?_
  | refine e_callTy (x := "int") (by assumption) b_int ?_)
local macro_rules | `(tactic| walk_at "gl") => `(tactic| first
  | refine e_bltn (x := "int") (v := .ty "int") (by assumption) b_int rfl ?_
  | refine e_bltn (x := "bool") (v := .ty "bool") (by assumption) b_bool rfl ?_
  | refine e_bltn (x := "str") (v := .ty "str") (by assumption) b_str rfl ?_
  | refine e_bltn (x := "tuple") (v := .ty "tuple") (by assumption) b_tuple rfl ?_
  | refine e_bltn (x := "list") (v := .ty "list") (by assumption) b_list rfl ?_)
local macro_rules | `(tactic| walk_at "st") => `(tactic| first
  | refine l_cons ?_
  | refine s_ret ?_
  | refine s_if ?_
  | refine s_set ?_
  | refine s_sub ?_
  | refine e_var ?_
  | refine e_int ?_
  | refine e_ix ?_
  | refine a_cons ?_
  | refine a_nil ?_
  | refine t_cmp ?_
  | refine t_not ?_
  | refine t_w (w_and ?_)
  | refine t_w (w_or ?_)
  | refine w_and ?_
  | refine w_or ?_
  | refine w_and1 ?_
  | refine w_or1 ?_
  | refine t_val ?_
  | refine e_str ?_
  | refine e_bl ?_
  | refine e_non ?_
  | refine e_bin ?_
  | refine e_cmp ?_
  | refine e_and ?_
  | refine e_or ?_
  | refine e_not ?_
  | refine e_one ?_
  | refine l_nil ?_
  | refine s_expr ?_
  | refine e_tup ?_
  | refine e_lst ?_
  | refine ⟨_, rfl, ?_⟩
  | ((with_reducible refine ite_t ?hc ?_); (case hc => exact rfl))
  | ((with_reducible refine ite_f ?hc ?_); (case hc => exact rfl))
  | refine o_add ?_
  | refine o_sub ?_
  | refine o_lt ?_
  | refine o_le ?_
  | refine o_gt ?_
  | refine o_ge ?_
  | refine o_eqI ?_
  | refine o_neI ?_
  | refine o_eqS ?_
  | refine o_neB ?_
  | refine o_isN ?_
  | refine o_nisB ?_
  | refine o_isB ?_
  | refine e_neg ?_
  | refine o_eqB ?_
  | refine c_int ?_
  | refine c_abs ?_
  | refine c_max rfl ?_
  | refine c_min rfl ?_
  | refine a_cons (e_fld ?_)
  | walk_at "bl"
  | walk_at "gl")
local macro_rules | `(tactic| walk_at "sts") => `(tactic| repeat walk_at "st")
section
variable {P : Program} {w : World} {K : PySem.W.Frag} {mg : Str → Option Value} {base : Heap}
def let1 (c : Nat) : Bool := decide (97 ≤ c) && decide (c ≤ 122)
def dig1 (c : Nat) : Bool := decide (48 ≤ c) && decide (c ≤ 57)
theorem and_val {X : Cx} {e : Expr} {σ : L2.St} {H : Hp} {Q : VK} {x y : Bool} (h : Q (.bl (x && y)) H) (hb : Q (.bl y) H → wE X e σ H Q) : if x = true then wE X e σ H Q else Q (.bl false) H := by
  cases x with
  | true => exact iteT (hb h)
  | false => exact iteF h
theorem chain_val {X : Cx} {e : Expr} {σ : L2.St} {H : Hp} {Q : VK} {R : V → Hp → Prop} {x y : Bool} (h : Q (.bl (x && y)) H) (hb : Q (.bl y) H → wE X e σ H R) : if x = true then wE X e σ H R else Q (.bl false) H := by
  cases x with
  | true => exact iteT (hb h)
  | false => exact iteF h
def spLet (g : Nat → Bool) : Sp := fun vs H Q _ => ∃ c : Nat, vs = [.str (sg c)] ∧ Q (.bl (g c)) H
theorem sg_a : (Str.ofString "a") = sg 97 := by decide +kernel
theorem sg_z : (Str.ofString "z") = sg 122 := by decide +kernel
theorem sg_0 : (Str.ofString "0") = sg 48 := by decide +kernel
theorem sg_9 : (Str.ofString "9") = sg 57 := by decide +kernel
theorem ok_letter (T : Top K mg "is_letter" s_is_letter) : Fn P w K mg base 1 "is_letter" (spLet let1) := by
  refine fn_ok T sc_is_letter so_is_letter (fun vs H Q E h => ?_) (fun _ _ _ _ _ _ us hl => match us, hl with | [_], _ => rfl) fun f cdv A outer s H vs Q E hr h nd => ?_
  · obtain ⟨c, rfl, _⟩ := h
    rfl
  · obtain ⟨c, rfl, q⟩ := h
    refine l_cons (s_ret (e_chain (e_str (e_var ?_))))
    rw [sg_a]
    refine o_le1 ⟨_, rfl, chain_val (x := decide (97 ≤ c)) (y := decide (c ≤ 122)) q fun q => e_str ?_⟩
    rw [sg_z]
    exact o_le1 q
theorem ok_digit (T : Top K mg "is_digit" s_is_digit) : Fn P w K mg base 1 "is_digit" (spLet dig1) := by
  refine fn_ok T sc_is_digit so_is_digit (fun vs H Q E h => ?_) (fun _ _ _ _ _ _ us hl => match us, hl with | [_], _ => rfl) fun f cdv A outer s H vs Q E hr h nd => ?_
  · obtain ⟨c, rfl, _⟩ := h
    rfl
  · obtain ⟨c, rfl, q⟩ := h
    refine l_cons (s_ret (e_chain (e_str (e_var ?_))))
    rw [sg_0]
    refine o_le1 ⟨_, rfl, chain_val (x := decide (48 ≤ c)) (y := decide (c ≤ 57)) q fun q => e_str ?_⟩
    rw [sg_9]
    exact o_le1 q
def nameB (l : List Nat) : Bool := (decide ((1 : Int) ≤ l.length) && decide ((l.length : Int) ≤ 12)) && ((l.head?.map let1).getD false && l.all fun c => let1 c || dig1 c)
def spName : Sp := fun vs H Q _ => ∃ z : Str, vs = [.str z] ∧ z.length ≤ sizeLine ∧ Q (.bl (nameB z.cps.toList)) H
theorem ok_name {t : Tok} (T : Top K mg "is_name" s_is_name) (mLen : mg "len" = none) (mN : mg "NAME_LENGTH" = some (.int 12 t)) (FL : Fn P w K mg base 1 "is_letter" (spLet let1)) (FD : Fn P w K mg base 1 "is_digit" (spLet dig1)) : Fn P w K mg base 2 "is_name" spName := by
  refine fn_ok T sc_is_name so_is_name (fun vs H Q E h => ?_) (fun _ _ _ _ _ _ us hl => match us, hl with | [_], _ => rfl) fun f cdv A outer s H vs Q E hr h nd => ?_
  · obtain ⟨c, rfl, _⟩ := h
    rfl
  · obtain ⟨z, rfl, hz, q⟩ := h
    have el : (z.length : Int) = (z.cps.toList.length : Int) := by
      show (z.cps.size : Int) = _
      rw [Array.length_toList]
    refine l_cons (s_if (t_w (w_or (t_not (t_chain (e_int ?_))))))
    walk_at "sts"
    refine c_lenS hz ?_
    rw [el]
    refine o_le ⟨_, rfl, ?_⟩
    by_cases h1 : (1 : Int) ≤ z.cps.toList.length
    · refine ifT h1 ?_
      refine e_glob (v := .int 12) (by exact mN) ⟨t, rfl⟩ ?_
      refine o_le ⟨_, rfl, ?_⟩
      by_cases h2 : (z.cps.toList.length : Int) ≤ 12
      · rw [decide_eq_true h2]
        refine iteF ?_
        refine w_or1 (t_not (t_val (e_call (by exact FL) (by exact hr) (by decide) ?_)))
        walk_at "sts"
        have hl0 : 0 < z.cps.toList.length := by omega
        refine ix_s hz (atI_nat (j := 0) (v := z.cps.toList[0]) (by simp [hl0])) ?_
        walk_at "sts"
        have hd : (z.cps.toList.head?.map let1).getD false = let1 z.cps.toList[0] := by
          rw [List.head?_eq_getElem?, List.getElem?_eq_getElem hl0]
          rfl
        have e0 : nameB z.cps.toList = (let1 z.cps.toList[0] && z.cps.toList.all fun c => let1 c || dig1 c) := by
          unfold nameB
          rw [decide_eq_true h1, decide_eq_true h2, hd]
          rfl
        rw [e0] at q
        cases h3 : let1 z.cps.toList[0] with
        | false =>
          rw [h3] at q
          walk_at "sts"
          exact q
        | true =>
          rw [h3] at q
          walk_at "sts"
          refine s_forS ?_
          walk_at "sts"
          refine ⟨fun k σ H' => ∃ y, σ = [some (.str z), y] ∧ H' = H ∧ ∀ i c, i < k → z.cps.toList[i]? = some c → (let1 c || dig1 c) = true, ⟨_, rfl, rfl, fun i c hi => absurd hi (Nat.not_lt_zero i)⟩, fun k c σ H' hk hW => ?_, fun σ H' hW => ?_⟩
          · obtain ⟨y, rfl, rfl, hall⟩ := hW
            have hk' : z.cps.toList[k]? = some c := by rw [Array.getElem?_toList]; exact hk
            walk_at "sts"
            refine e_call (by exact FL) (by exact hr) (by decide) ?_
            walk_at "sts"
            cases h4 : let1 c with
            | true =>
              walk_at "sts"
              refine ⟨rfl, fun i c' hi hc' => ?_⟩
              rcases Nat.lt_succ_iff_lt_or_eq.mp hi with hi | rfl
              · exact hall i c' hi hc'
              · rw [hk'] at hc'
                cases hc'
                simp [h4]
            | false =>
              walk_at "sts"
              refine e_call (by exact FD) (by exact hr) (by decide) ?_
              walk_at "sts"
              cases h5 : dig1 c with
              | true =>
                walk_at "sts"
                refine ⟨rfl, fun i c' hi hc' => ?_⟩
                rcases Nat.lt_succ_iff_lt_or_eq.mp hi with hi | rfl
                · exact hall i c' hi hc'
                · rw [hk'] at hc'
                  cases hc'
                  simp [h5]
              | false =>
                walk_at "sts"
                have hn : (z.cps.toList.all fun c => let1 c || dig1 c) = false := by
                  rw [List.all_eq_false]
                  exact ⟨c, List.mem_of_getElem? hk', by simp [h4, h5]⟩
                rw [hn] at q
                exact q
          · obtain ⟨y, rfl, rfl, hall⟩ := hW
            have hy : (z.cps.toList.all fun c => let1 c || dig1 c) = true := by
              rw [List.all_eq_true]
              intro c hc
              obtain ⟨i, hi, e⟩ := List.getElem_of_mem hc
              exact hall i c (by rw [Array.length_toList] at hi; exact hi) (by rw [List.getElem?_eq_getElem hi, e])
            rw [hy] at q
            walk_at "sts"
            exact q
      · rw [decide_eq_false h2]
        have e0 : nameB z.cps.toList = false := by
          unfold nameB
          rw [decide_eq_false h2]
          simp
        rw [e0] at q
        walk_at "sts"
        exact q
    · refine ifF h1 ?_
      have e0 : nameB z.cps.toList = false := by
        unfold nameB
        rw [decide_eq_false h1]
        simp
      rw [e0] at q
      walk_at "sts"
      exact q
def PoolAt (H : Hp) (a : Addr) : Prop := ∃ x y z : Int, H a = some (.lst [.int x, .int y, .int z])
def spCell (K : PySem.W.Frag) : Sp := fun vs H Q _ => ∃ (a : Addr) (ns : List Int) (k : Nat), vs = [.ref a, .int k] ∧ SqL K H a (ns.map V.int) ∧ ∀ z : Int, 0 ≤ z → Q (.int z) H
theorem ok_cell (T : Top K mg "_law_cell" s_cell) (mLen : mg "len" = none) (mAbs : mg "abs" = none) : Fn P w K mg base 1 "_law_cell" (spCell K) := by
  refine fn_ok T sc_cell so_cell (fun vs H Q E h => ?_) (fun _ _ _ _ _ _ us hl => match us, hl with | [_, _], _ => rfl) fun f cdv A outer s H vs Q E hr h nd => ?_
  · obtain ⟨a, ns, k, rfl, _⟩ := h
    rfl
  · obtain ⟨a, ns, k, rfl, hS, q⟩ := h
    walk_at "sts"
    refine c_lenL (by exact hS) ?_
    walk_at "sts"
    refine if2 (fun h => ?_) (fun h => ?_)
    · rw [List.length_map] at h
      have hk : k < ns.length := by omega
      walk_at "sts"
      refine ix_l (by exact hS) (atI_nat (v := .int ns[k]) (by simp [hk])) ?_
      walk_at "sts"
      exact q _ (by split <;> omega)
    · walk_at "sts"
      exact q _ (Int.le_refl _)
def spPool (K : PySem.W.Frag) : Sp := fun vs H Q _ => ∃ (a : Addr) (ns : List Int) (k : Nat), vs = [.ref a, .int k] ∧ SqL K H a (ns.map V.int) ∧ ∀ p H', Same H H' → H p = none → PoolAt H' p → Q (.ref p) H'
theorem ok_pool (T : Top K mg "_law_pool" s_pool) (F : Fn P w K mg base 1 "_law_cell" (spCell K)) (mInt : mg "int" = none) : Fn P w K mg base 2 "_law_pool" (spPool K) := by
  refine fn_ok T sc_pool so_pool (fun vs H Q E h => ?_) (fun _ _ _ _ _ _ us hl => match us, hl with | [_, _], _ => rfl) fun f cdv A outer s H vs Q E hr h nd => ?_
  · obtain ⟨a, ns, k, rfl, _⟩ := h
    rfl
  · obtain ⟨a, ns, k, rfl, hS, q⟩ := h
    walk_at "sts"
    refine e_call (by exact F) (by exact hr) (by decide) ?_
    walk_at "sts"
    refine ⟨a, ns, k, rfl, hS, fun z hz => ?_⟩
    walk_at "sts"
    refine o_pow ⟨by decide, by decide, by decide⟩ ?_
    walk_at "sts"
    refine if2 (fun h => ?_) (fun h => ?_)
    · walk_at "sts"
      refine o_mod (by decide) ?_
      walk_at "sts"
      refine ⟨by show 3 ≤ sizeLine; decide, fun p H2 e np hp => ?_⟩
      exact q p H2 e np ⟨_, _, _, hp⟩
    · walk_at "sts"
      refine ⟨by show 3 ≤ sizeLine; decide, fun p H2 e np hp => ?_⟩
      exact q p H2 e np ⟨_, _, _, hp⟩
def spNext : Sp := fun vs H Q _ => ∃ (a : Addr) (m : Int), vs = [.ref a, .int m] ∧ 0 < m ∧ m < 1073741824 ∧ PoolAt H a ∧ ∀ d H', 0 ≤ d → d < m → But a H H' → PoolAt H' a → Q (.int d) H'
theorem ok_next (T : Top K mg "_law_next" s_next) (mInt : mg "int" = none) : Fn P w K mg base 1 "_law_next" spNext := by
  refine fn_ok T sc_next so_next (fun vs H Q E h => ?_) (fun _ _ _ _ _ _ us hl => match us, hl with | [_, _], _ => rfl) fun f cdv A outer s H vs Q E hr h nd => ?_
  · obtain ⟨a, m, rfl, _⟩ := h
    rfl
  · obtain ⟨a, m, rfl, m0, m1, ⟨x, y, z, hp⟩, q⟩ := h
    walk_at "sts"
    refine ix_l (by exact SqL.of hp) rfl ?_
    walk_at "sts"
    refine if2 (fun h => ?_) (fun h => ?_)
    · walk_at "sts"
      refine ix_l (by exact SqL.of hp) rfl ?_
      walk_at "sts"
      refine o_mod m0 ?_
      walk_at "sts"
      refine ix_l (by exact SqL.of hp) rfl ?_
      walk_at "sts"
      refine o_fdiv ⟨m0, m1⟩ ?_
      walk_at "sts"
      refine set_l hp rfl ?_
      walk_at "sts"
      exact q _ _ (Int.emod_nonneg _ (by omega)) (Int.emod_lt_of_pos _ m0) (But.refl.upd) ⟨_, _, _, upd_same⟩
    · walk_at "sts"
      refine ix_l (by exact SqL.of hp) rfl ?_
      walk_at "sts"
      refine set_l hp rfl ?_
      walk_at "sts"
      refine ix_l (by exact SqL.of upd_same) rfl ?_
      walk_at "sts"
      refine ix_l (by exact SqL.of upd_same) rfl ?_
      walk_at "sts"
      refine o_mul (.inl (by decide)) ?_
      walk_at "sts"
      refine o_mod (by decide) ?_
      walk_at "sts"
      have b1 := Int.emod_nonneg (z + 7919 * (y + 1) + 13) (show (2147483647 : Int) ≠ 0 by decide)
      have b2 := Int.emod_lt_of_pos (z + 7919 * (y + 1) + 13) (show (0 : Int) < 2147483647 by decide)
      refine o_mul (.inl ⟨by omega, by omega⟩) ?_
      walk_at "sts"
      refine o_mod (by decide) ?_
      walk_at "sts"
      generalize (z + 7919 * (y + 1) + 13) % 2147483647 = u at *
      have c1 := Int.emod_nonneg (u * (u + 48271)) (show (2147483629 : Int) ≠ 0 by decide)
      have c2 := Int.emod_lt_of_pos (u * (u + 48271)) (show (0 : Int) < 2147483629 by decide)
      refine o_mul (.inl ⟨by omega, by omega⟩) ?_
      walk_at "sts"
      refine ix_l (by exact SqL.of upd_same) rfl ?_
      walk_at "sts"
      refine o_mul (.inl (by decide)) ?_
      walk_at "sts"
      refine o_mod (by decide) ?_
      walk_at "sts"
      refine o_fdiv (by decide) ?_
      walk_at "sts"
      refine o_mod m0 ?_
      walk_at "sts"
      exact q _ _ (Int.emod_nonneg _ (by omega)) (Int.emod_lt_of_pos _ m0) (But.refl.upd) ⟨_, _, _, upd_same⟩
end


section
variable {P : Program} {w : World} {K : PySem.W.Frag} {mg : Str → Option Value} {base : Heap}
structure BOk (mg : Str → Option Value) : Prop where
  isi : mg "isinstance" = none
  int : mg "int" = none
  bool : mg "bool" = none
  str : mg "str" = none
  tuple : mg "tuple" = none
  list : mg "list" = none
  len : mg "len" = none
  range : mg "range" = none
def Flat (v : V) : Prop := v = .non ∨ (∃ b, v = .bl b) ∨ (∃ i, v = .int i) ∨ ∃ z, v = .str z
/-- the same data, at most n deep -/
def Eqd (H : Hp) : Nat → V → V → Prop
  | 0, u, v => Flat v ∧ u = v
  | n + 1, u, v => (Flat v ∧ u = v) ∨ ∃ a b xs ys, u = .ref a ∧ v = .ref b ∧ ((H a = some (.lst xs) ∧ H b = some (.lst ys)) ∨ (H a = some (.tup xs) ∧ H b = some (.tup ys))) ∧ xs.length = ys.length ∧ ys.length ≤ 100000 ∧ ∀ (i : Nat) x y, xs[i]? = some x → ys[i]? = some y → Eqd H n x y
def spSame (n : Nat) : Sp := fun vs H Q _ => ∃ u v, vs = [u, v] ∧ Eqd H n u v ∧ Q (.bl true) H
theorem ok_same0 (T : Top K mg "_law_same" s_same) (B : BOk mg) : Fn P w K mg base 1 "_law_same" (spSame 0) := by
  refine fn_ok T sc_same so_same (fun vs H Q E h => by obtain ⟨u, v, rfl, _⟩ := h; rfl) (fun _ _ _ _ _ _ us hl => match us, hl with | [_, _], _ => rfl) fun f cdv A outer s H vs Q E hr h nd => ?_
  obtain ⟨u, v, rfl, ⟨hf, rfl⟩, q⟩ := h
  obtain ⟨bi, bt, bb, bs, btu, bl, bn, br⟩ := B
  · rcases hf with rfl | ⟨b, rfl⟩ | ⟨i, rfl⟩ | ⟨z, rfl⟩
    · walk_at "sts"
      exact q
    · walk_at "sts"
      refine c_isi ty_bl (.ty _) (kit_ty kb_bool_bool) ?_
      walk_at "sts"
      refine c_isi ty_bl (.ty _) (kit_ty kb_bool_bool) ?_
      walk_at "sts"
      rw [decide_eq_true (rfl : b = b)]
      exact q
    · walk_at "sts"
      refine c_isi ty_int (.ty _) (kit_ty kb_int_bool) ?_
      walk_at "sts"
      refine c_isi ty_int (.ty _) (kit_ty kb_int_int) ?_
      walk_at "sts"
      refine c_isi ty_int (.ty _) (kit_ty kb_int_int) ?_
      walk_at "sts"
      refine c_isi ty_int (.ty _) (kit_ty kb_int_bool) ?_
      walk_at "sts"
      rw [decide_eq_true (rfl : i = i)]
      exact q
    · walk_at "sts"
      refine c_isi ty_str (.ty _) (kit_ty kb_str_bool) ?_
      walk_at "sts"
      refine c_isi ty_str (.ty _) (kit_ty kb_str_int) ?_
      walk_at "sts"
      refine c_isi ty_str (.ty _) (kit_ty kb_str_str) ?_
      walk_at "sts"
      refine c_isi ty_str (.ty _) (kit_ty kb_str_str) ?_
      walk_at "sts"
      rw [decide_eq_true (rfl : z = z)]
      exact q
theorem ok_sameS {n : Nat} (T : Top K mg "_law_same" s_same) (B : BOk mg) (F : Fn P w K mg base (n + 1) "_law_same" (spSame n)) : Fn P w K mg base (n + 2) "_law_same" (spSame (n + 1)) := by
  refine fn_ok T sc_same so_same (fun vs H Q E h => by obtain ⟨u, v, rfl, _⟩ := h; rfl) (fun _ _ _ _ _ _ us hl => match us, hl with | [_, _], _ => rfl) fun f cdv A outer s H vs Q E hr h nd => ?_
  obtain ⟨u, v, rfl, hh, q⟩ := h
  obtain ⟨bi, bt, bb, bs, btu, bl, bn, br⟩ := B
  rcases hh with ⟨hf, rfl⟩ | ⟨p, r, xs, ys, rfl, rfl, hk, hl, hm, ha⟩
  · rcases hf with rfl | ⟨b, rfl⟩ | ⟨i, rfl⟩ | ⟨z, rfl⟩
    · walk_at "sts"
      exact q
    · walk_at "sts"
      refine c_isi ty_bl (.ty _) (kit_ty kb_bool_bool) ?_
      walk_at "sts"
      refine c_isi ty_bl (.ty _) (kit_ty kb_bool_bool) ?_
      walk_at "sts"
      rw [decide_eq_true (rfl : b = b)]
      exact q
    · walk_at "sts"
      refine c_isi ty_int (.ty _) (kit_ty kb_int_bool) ?_
      walk_at "sts"
      refine c_isi ty_int (.ty _) (kit_ty kb_int_int) ?_
      walk_at "sts"
      refine c_isi ty_int (.ty _) (kit_ty kb_int_int) ?_
      walk_at "sts"
      refine c_isi ty_int (.ty _) (kit_ty kb_int_bool) ?_
      walk_at "sts"
      rw [decide_eq_true (rfl : i = i)]
      exact q
    · walk_at "sts"
      refine c_isi ty_str (.ty _) (kit_ty kb_str_bool) ?_
      walk_at "sts"
      refine c_isi ty_str (.ty _) (kit_ty kb_str_int) ?_
      walk_at "sts"
      refine c_isi ty_str (.ty _) (kit_ty kb_str_str) ?_
      walk_at "sts"
      refine c_isi ty_str (.ty _) (kit_ty kb_str_str) ?_
      walk_at "sts"
      rw [decide_eq_true (rfl : z = z)]
      exact q
  · rcases hk with ⟨h1, h2⟩ | ⟨h1, h2⟩
    · walk_at "sts"
      refine c_isi (ty_lst h2) (.ty _) (kit_ty kb_list_bool) ?_
      walk_at "sts"
      refine c_isi (ty_lst h2) (.ty _) (kit_ty kb_list_int) ?_
      walk_at "sts"
      refine c_isi (ty_lst h2) (.ty _) (kit_ty kb_list_str) ?_
      walk_at "sts"
      refine c_isi (ty_lst h2) (.ty _) (kit_ty kb_list_list) ?_
      walk_at "sts"
      refine c_isi (ty_lst h1) (.ty _) (kit_ty kb_list_list) ?_
      walk_at "sts"
      refine c_isi (ty_lst h2) (.ty _) (kit_ty kb_list_tuple) ?_
      walk_at "sts"
      refine c_lenL (by exact SqL.of h1) ?_
      walk_at "sts"
      refine c_lenL (by exact SqL.of h2) ?_
      rw [hl]
      walk_at "sts"
      rw [decide_eq_true (rfl : (ys.length : Int) = ys.length)]
      walk_at "sts"
      refine s_forR (by assumption) ?_
      walk_at "sts"
      refine c_lenL (by exact SqL.of h2) ?_
      refine ⟨ys.length, rfl, by omega, fun i σ H' => ∃ y, σ = [some (.ref p), some (.ref r), y] ∧ H' = H, ⟨_, rfl, rfl⟩, fun k σ H3 hk hW => ?_, fun σ H3 hW => ?_⟩
      · obtain ⟨y, rfl, rfl⟩ := hW
        have hx : xs[k]? = some xs[k] := by simp [hl, hk]
        have hy : ys[k]? = some ys[k] := by simp [hk]
        walk_at "sts"
        refine e_call (by exact F) (by exact hr) (Nat.le_refl _) ?_
        walk_at "sts"
        refine ix_l (by exact SqL.of h1) (atI_nat hx) ?_
        walk_at "sts"
        refine ix_l (by exact SqL.of h2) (atI_nat hy) ?_
        walk_at "sts"
        refine ⟨_, _, rfl, ha k _ _ hx hy, ?_⟩
        walk_at "sts"
        rfl
      · obtain ⟨y, rfl, rfl⟩ := hW
        walk_at "sts"
        exact q
    · walk_at "sts"
      refine c_isi (ty_tup h2) (.ty _) (kit_ty kb_tuple_bool) ?_
      walk_at "sts"
      refine c_isi (ty_tup h2) (.ty _) (kit_ty kb_tuple_int) ?_
      walk_at "sts"
      refine c_isi (ty_tup h2) (.ty _) (kit_ty kb_tuple_str) ?_
      walk_at "sts"
      refine c_isi (ty_tup h2) (.ty _) (kit_ty kb_tuple_list) ?_
      walk_at "sts"
      refine c_isi (ty_tup h2) (.ty _) (kit_ty kb_tuple_tuple) ?_
      walk_at "sts"
      refine c_isi (ty_tup h1) (.ty _) (kit_ty kb_tuple_tuple) ?_
      walk_at "sts"
      refine c_lenT (by exact SqT.of h1) ?_
      walk_at "sts"
      refine c_lenT (by exact SqT.of h2) ?_
      rw [hl]
      walk_at "sts"
      rw [decide_eq_true (rfl : (ys.length : Int) = ys.length)]
      walk_at "sts"
      refine s_forR (by assumption) ?_
      walk_at "sts"
      refine c_lenT (by exact SqT.of h2) ?_
      refine ⟨ys.length, rfl, by omega, fun i σ H' => ∃ y, σ = [some (.ref p), some (.ref r), y] ∧ H' = H, ⟨_, rfl, rfl⟩, fun k σ H3 hk hW => ?_, fun σ H3 hW => ?_⟩
      · obtain ⟨y, rfl, rfl⟩ := hW
        have hx : xs[k]? = some xs[k] := by simp [hl, hk]
        have hy : ys[k]? = some ys[k] := by simp [hk]
        walk_at "sts"
        refine e_call (by exact F) (by exact hr) (Nat.le_refl _) ?_
        walk_at "sts"
        refine ix_t (by exact SqT.of h1) (atI_nat hx) ?_
        walk_at "sts"
        refine ix_t (by exact SqT.of h2) (atI_nat hy) ?_
        walk_at "sts"
        refine ⟨_, _, rfl, ha k _ _ hx hy, ?_⟩
        walk_at "sts"
        rfl
      · obtain ⟨y, rfl, rfl⟩ := hW
        walk_at "sts"
        exact q
theorem ok_same (T : Top K mg "_law_same" s_same) (B : BOk mg) : ∀ n, Fn P w K mg base (n + 1) "_law_same" (spSame n)
  | 0 => ok_same0 T B
  | n + 1 => ok_sameS T B (ok_same T B n)
theorem ok_sameH0 (T : Top K mg "_law_same" s_same) (B : BOk mg) : FnHt P w K mg base 1 "_law_same" (spSame 0) := by
  refine fn_okH2 T sc_same so_same (fun vs H Q E h => by obtain ⟨u, v, rfl, _⟩ := h; rfl) (fun _ _ _ _ _ _ us hl => match us, hl with | [_, _], _ => rfl) fun f cdv A outer s H vs Q E pp hr h nd hot => ?_
  obtain ⟨u, v, rfl, ⟨hf, rfl⟩, q⟩ := h
  obtain ⟨bi, bt, bb, bs, btu, bl, bn, br⟩ := B
  · rcases hf with rfl | ⟨b, rfl⟩ | ⟨i, rfl⟩ | ⟨z, rfl⟩
    · walk_at "sts"
      exact q
    · walk_at "sts"
      refine c_isi ty_bl (.ty _) (kit_ty kb_bool_bool) ?_
      walk_at "sts"
      refine c_isi ty_bl (.ty _) (kit_ty kb_bool_bool) ?_
      walk_at "sts"
      rw [decide_eq_true (rfl : b = b)]
      exact q
    · walk_at "sts"
      refine c_isi ty_int (.ty _) (kit_ty kb_int_bool) ?_
      walk_at "sts"
      refine c_isi ty_int (.ty _) (kit_ty kb_int_int) ?_
      walk_at "sts"
      refine c_isi ty_int (.ty _) (kit_ty kb_int_int) ?_
      walk_at "sts"
      refine c_isi ty_int (.ty _) (kit_ty kb_int_bool) ?_
      walk_at "sts"
      rw [decide_eq_true (rfl : i = i)]
      exact q
    · walk_at "sts"
      refine c_isi ty_str (.ty _) (kit_ty kb_str_bool) ?_
      walk_at "sts"
      refine c_isi ty_str (.ty _) (kit_ty kb_str_int) ?_
      walk_at "sts"
      refine c_isi ty_str (.ty _) (kit_ty kb_str_str) ?_
      walk_at "sts"
      refine c_isi ty_str (.ty _) (kit_ty kb_str_str) ?_
      walk_at "sts"
      rw [decide_eq_true (rfl : z = z)]
      exact q
theorem ok_sameHS {n : Nat} (T : Top K mg "_law_same" s_same) (B : BOk mg) (F : FnHt P w K mg base (n + 1) "_law_same" (spSame n)) : FnHt P w K mg base (n + 2) "_law_same" (spSame (n + 1)) := by
  refine fn_okH2 T sc_same so_same (fun vs H Q E h => by obtain ⟨u, v, rfl, _⟩ := h; rfl) (fun _ _ _ _ _ _ us hl => match us, hl with | [_, _], _ => rfl) fun f cdv A outer s H vs Q E pp hr h nd hot => ?_
  obtain ⟨u, v, rfl, hh, q⟩ := h
  obtain ⟨bi, bt, bb, bs, btu, bl, bn, br⟩ := B
  rcases hh with ⟨hf, rfl⟩ | ⟨p, r, xs, ys, rfl, rfl, hk, hl, hm, ha⟩
  · rcases hf with rfl | ⟨b, rfl⟩ | ⟨i, rfl⟩ | ⟨z, rfl⟩
    · walk_at "sts"
      exact q
    · walk_at "sts"
      refine c_isi ty_bl (.ty _) (kit_ty kb_bool_bool) ?_
      walk_at "sts"
      refine c_isi ty_bl (.ty _) (kit_ty kb_bool_bool) ?_
      walk_at "sts"
      rw [decide_eq_true (rfl : b = b)]
      exact q
    · walk_at "sts"
      refine c_isi ty_int (.ty _) (kit_ty kb_int_bool) ?_
      walk_at "sts"
      refine c_isi ty_int (.ty _) (kit_ty kb_int_int) ?_
      walk_at "sts"
      refine c_isi ty_int (.ty _) (kit_ty kb_int_int) ?_
      walk_at "sts"
      refine c_isi ty_int (.ty _) (kit_ty kb_int_bool) ?_
      walk_at "sts"
      rw [decide_eq_true (rfl : i = i)]
      exact q
    · walk_at "sts"
      refine c_isi ty_str (.ty _) (kit_ty kb_str_bool) ?_
      walk_at "sts"
      refine c_isi ty_str (.ty _) (kit_ty kb_str_int) ?_
      walk_at "sts"
      refine c_isi ty_str (.ty _) (kit_ty kb_str_str) ?_
      walk_at "sts"
      refine c_isi ty_str (.ty _) (kit_ty kb_str_str) ?_
      walk_at "sts"
      rw [decide_eq_true (rfl : z = z)]
      exact q
  · rcases hk with ⟨h1, h2⟩ | ⟨h1, h2⟩
    · walk_at "sts"
      refine c_isi (ty_lst h2) (.ty _) (kit_ty kb_list_bool) ?_
      walk_at "sts"
      refine c_isi (ty_lst h2) (.ty _) (kit_ty kb_list_int) ?_
      walk_at "sts"
      refine c_isi (ty_lst h2) (.ty _) (kit_ty kb_list_str) ?_
      walk_at "sts"
      refine c_isi (ty_lst h2) (.ty _) (kit_ty kb_list_list) ?_
      walk_at "sts"
      refine c_isi (ty_lst h1) (.ty _) (kit_ty kb_list_list) ?_
      walk_at "sts"
      refine c_isi (ty_lst h2) (.ty _) (kit_ty kb_list_tuple) ?_
      walk_at "sts"
      refine c_lenL (by exact SqL.of h1) ?_
      walk_at "sts"
      refine c_lenL (by exact SqL.of h2) ?_
      rw [hl]
      walk_at "sts"
      rw [decide_eq_true (rfl : (ys.length : Int) = ys.length)]
      walk_at "sts"
      refine s_forRH (by assumption) (by exact hot) ?_
      walk_at "sts"
      refine c_lenL (by exact SqL.of h2) ?_
      refine ⟨ys.length, rfl, by omega, fun i σ H' => ∃ y, σ = [some (.ref p), some (.ref r), y] ∧ H' = H, ⟨_, rfl, rfl⟩, fun k σ H3 hk hW => ?_, fun σ H3 hW => ?_⟩
      · obtain ⟨y, rfl, rfl⟩ := hW
        have hx : xs[k]? = some xs[k] := by simp [hl, hk]
        have hy : ys[k]? = some ys[k] := by simp [hk]
        walk_at "sts"
        refine e_callH (by exact F) (by exact hr) (Nat.le_refl _) (by exact hot) ?_
        walk_at "sts"
        refine ix_l (by exact SqL.of h1) (atI_nat hx) ?_
        walk_at "sts"
        refine ix_l (by exact SqL.of h2) (atI_nat hy) ?_
        walk_at "sts"
        refine ⟨_, _, rfl, ha k _ _ hx hy, ?_⟩
        walk_at "sts"
        rfl
      · obtain ⟨y, rfl, rfl⟩ := hW
        walk_at "sts"
        exact q
    · walk_at "sts"
      refine c_isi (ty_tup h2) (.ty _) (kit_ty kb_tuple_bool) ?_
      walk_at "sts"
      refine c_isi (ty_tup h2) (.ty _) (kit_ty kb_tuple_int) ?_
      walk_at "sts"
      refine c_isi (ty_tup h2) (.ty _) (kit_ty kb_tuple_str) ?_
      walk_at "sts"
      refine c_isi (ty_tup h2) (.ty _) (kit_ty kb_tuple_list) ?_
      walk_at "sts"
      refine c_isi (ty_tup h2) (.ty _) (kit_ty kb_tuple_tuple) ?_
      walk_at "sts"
      refine c_isi (ty_tup h1) (.ty _) (kit_ty kb_tuple_tuple) ?_
      walk_at "sts"
      refine c_lenT (by exact SqT.of h1) ?_
      walk_at "sts"
      refine c_lenT (by exact SqT.of h2) ?_
      rw [hl]
      walk_at "sts"
      rw [decide_eq_true (rfl : (ys.length : Int) = ys.length)]
      walk_at "sts"
      refine s_forRH (by assumption) (by exact hot) ?_
      walk_at "sts"
      refine c_lenT (by exact SqT.of h2) ?_
      refine ⟨ys.length, rfl, by omega, fun i σ H' => ∃ y, σ = [some (.ref p), some (.ref r), y] ∧ H' = H, ⟨_, rfl, rfl⟩, fun k σ H3 hk hW => ?_, fun σ H3 hW => ?_⟩
      · obtain ⟨y, rfl, rfl⟩ := hW
        have hx : xs[k]? = some xs[k] := by simp [hl, hk]
        have hy : ys[k]? = some ys[k] := by simp [hk]
        walk_at "sts"
        refine e_callH (by exact F) (by exact hr) (Nat.le_refl _) (by exact hot) ?_
        walk_at "sts"
        refine ix_t (by exact SqT.of h1) (atI_nat hx) ?_
        walk_at "sts"
        refine ix_t (by exact SqT.of h2) (atI_nat hy) ?_
        walk_at "sts"
        refine ⟨_, _, rfl, ha k _ _ hx hy, ?_⟩
        walk_at "sts"
        rfl
      · obtain ⟨y, rfl, rfl⟩ := hW
        walk_at "sts"
        exact q
theorem ok_sameH (T : Top K mg "_law_same" s_same) (B : BOk mg) : ∀ n, FnHt P w K mg base (n + 1) "_law_same" (spSame n)
  | 0 => ok_sameH0 T B
  | n + 1 => ok_sameHS T B (ok_sameH T B n)
end


section
variable {P : Program} {w : World} {K : PySem.W.Frag} {mg : Str → Option Value} {base : Heap}
/-- a kind as a value: once, or a pair -/
def ModeV (H : Hp) (m : V) : Option (Int × Int) → Prop
  | none => m = .str "once"
  | some (u, v) => ∃ t, m = .ref t ∧ H t = some (.tup [.int u, .int v])
theorem ModeV.up {H H' : Hp} {m : V} {k : Option (Int × Int)} (e : Same H H') (h : ModeV H m k) : ModeV H' m k := by
  cases k with
  | none => exact h
  | some uv =>
    obtain ⟨t, h1, h2⟩ := h
    exact ⟨t, h1, e _ _ h2⟩
theorem once_shaped : SeqAt.shaped (.str "once") = true := by decide +kernel
/-- whether a value is a whole number of at least l -/
def IsW (K : PySem.W.Frag) (H : Hp) (v : V) (l : Int) (b : Bool) : Prop := (∃ i, v = .int i ∧ b = decide (l ≤ i)) ∨ (b = false ∧ ((∃ k, v = .bl k) ∨ ∃ T, TyX K H v (.type T) ∧ kitB T "int" = some false))
def spWh (K : PySem.W.Frag) : Sp := fun vs H Q _ => ∃ v l b, vs = [v, .int l] ∧ IsW K H v l b ∧ Q (.bl b) H
theorem ok_whole (T : Top K mg "is_number_from" s_is_number_from) (B : BOk mg) : Fn P w K mg base 1 "is_number_from" (spWh K) := by
  refine fn_ok T sc_is_number_from so_is_number_from (fun vs H Q E h => ?_) (fun _ _ _ _ _ _ us hl => match us, hl with | [_, _], _ => rfl) fun f cdv A outer s H vs Q E hr h nd => ?_
  · obtain ⟨v, l, b, rfl, _⟩ := h
    rfl
  · obtain ⟨v, l, b, rfl, hv, q⟩ := h
    obtain ⟨bi, bt, bb, bs, btu, bl, bn, br⟩ := B
    rcases hv with ⟨i, rfl, rfl⟩ | ⟨rfl, ⟨k, rfl⟩ | ⟨T, ht, hk⟩⟩
    · walk_at "sts"
      refine c_isi ty_int (.ty _) (kit_ty kb_int_int) ?_
      walk_at "sts"
      refine c_isi ty_int (.ty _) (kit_ty kb_int_bool) ?_
      walk_at "sts"
      exact q
    · walk_at "sts"
      refine c_isi ty_bl (.ty _) (kit_ty kb_bool_int) ?_
      walk_at "sts"
      refine c_isi ty_bl (.ty _) (kit_ty kb_bool_bool) ?_
      walk_at "sts"
      exact q
    · walk_at "sts"
      refine c_isi (by exact ht) (.ty _) (kit_ty hk) ?_
      walk_at "sts"
      exact q
def KindV (K : PySem.W.Frag) (H : Hp) (v : V) (b : Bool) : Prop :=
  (∃ p xs, v = .ref p ∧ H p = some (.tup xs) ∧ ((¬ (xs.length : Int) = 2 ∧ b = false) ∨ ∃ x y b1 b2, xs = [x, y] ∧ IsW K H x 1 b1 ∧ IsW K H y 0 b2 ∧ b = (b1 && b2))) ∨
  (∃ z, v = .str z ∧ b = decide (z = "once")) ∨ (b = false ∧ ∃ T, TyX K H v (.type T) ∧ kitB T "tuple" = some false ∧ kitB T "str" = some false)
def spKi (K : PySem.W.Frag) : Sp := fun vs H Q _ => ∃ v b, vs = [v] ∧ KindV K H v b ∧ Q (.bl b) H
theorem ok_kind (T : Top K mg "is_kind" s_is_kind) (B : BOk mg) (F : Fn P w K mg base 1 "is_number_from" (spWh K)) : Fn P w K mg base 2 "is_kind" (spKi K) := by
  refine fn_ok T sc_is_kind so_is_kind (fun vs H Q E h => ?_) (fun _ _ _ _ _ _ us hl => match us, hl with | [_], _ => rfl) fun f cdv A outer s H vs Q E hr h nd => ?_
  · obtain ⟨v, b, rfl, _⟩ := h
    rfl
  · obtain ⟨v, b, rfl, hv, q⟩ := h
    obtain ⟨bi, bt, bb, bs, btu, bl, bn, br⟩ := B
    rcases hv with ⟨p, xs, rfl, hp, hx⟩ | ⟨z, rfl, rfl⟩ | ⟨rfl, T, ht, hk1, hk2⟩
    · walk_at "sts"
      refine c_isi (ty_tup hp) (.ty _) (kit_ty kb_tuple_tuple) ?_
      walk_at "sts"
      refine c_lenT (by exact SqT.of hp) ?_
      rcases hx with ⟨hl, rfl⟩ | ⟨x, y, b1, b2, rfl, h1, h2, rfl⟩
      · walk_at "sts"
        refine ite_f (decide_eq_false hl) ?_
        exact q
      · walk_at "sts"
        refine e_call (by exact F) (by exact hr) (by decide) ?_
        walk_at "sts"
        refine ix_t (by exact SqT.of hp) rfl ?_
        walk_at "sts"
        refine ⟨x, 1, b1, rfl, h1, ?_⟩
        cases b1 with
        | false =>
          walk_at "sts"
          exact q
        | true =>
          walk_at "sts"
          refine e_call (by exact F) (by exact hr) (by decide) ?_
          walk_at "sts"
          refine ix_t (by exact SqT.of hp) rfl ?_
          walk_at "sts"
          refine ⟨y, 0, b2, rfl, h2, ?_⟩
          exact q
    · walk_at "sts"
      refine c_isi ty_str (.ty _) (kit_ty kb_str_tuple) ?_
      walk_at "sts"
      refine c_isi ty_str (.ty _) (kit_ty kb_str_str) ?_
      walk_at "sts"
      exact q
    · walk_at "sts"
      refine c_isi (by exact ht) (.ty _) (kit_ty hk1) ?_
      walk_at "sts"
      refine c_isi (by exact ht) (.ty _) (kit_ty hk2) ?_
      walk_at "sts"
      exact q
/-! ### sentences -/
inductive Sn where
  | word (z : Str)
  | menu (l r : Sn)
  | trade (k : Option (Int × Int)) (p g : Sn)
/-- all tuples stay -/
def TS (H H' : Hp) : Prop := ∀ t xs, H t = some (.tup xs) → H' t = some (.tup xs)
theorem Same.ts {H H' : Hp} (s : Same H H') : TS H H' := fun t xs h => s t _ h
theorem But.ts {a : Addr} {H H' : Hp} {l : List V} (b : But a H H') (ha : H a = some (.lst l)) : TS H H' := fun t xs h => b.tup ha h
theorem PoolAt.ts {a : Addr} {H H' : Hp} (h : PoolAt H a) (b : But a H H') : TS H H' := let ⟨_, _, _, e⟩ := h; But.ts b e
theorem TS.upd {a : Addr} {H : Hp} {l : List V} {o : HO} (ha : H a = some (.lst l)) : TS H (L2.upd H a o) := fun t xs h => by
  rw [upd_ne (ne_of h ha (by intro z; cases z))]
  exact h
theorem TS.trans {H H1 H2 : Hp} (a : TS H H1) (b : TS H1 H2) : TS H H2 := fun t xs h => b t xs (a t xs h)
theorem ModeV.ts {H H' : Hp} {m : V} {k : Option (Int × Int)} (e : TS H H') (h : ModeV H m k) : ModeV H' m k := by
  cases k with
  | none => exact h
  | some uv =>
    obtain ⟨t, h1, h2⟩ := h
    exact ⟨t, h1, e _ _ h2⟩
def SnV (H : Hp) : V → Sn → Prop
  | v, .word z => ∃ t, v = .ref t ∧ H t = some (.tup [.str "word", .str z])
  | v, .menu l r => ∃ t a b, v = .ref t ∧ H t = some (.tup [.str "menu", a, b]) ∧ SnV H a l ∧ SnV H b r
  | v, .trade k p g => ∃ t m a b, v = .ref t ∧ H t = some (.tup [.str "trade", m, a, b]) ∧ ModeV H m k ∧ SnV H a p ∧ SnV H b g
theorem SnV.ts {H H' : Hp} (e : TS H H') : ∀ {s : Sn} {v : V}, SnV H v s → SnV H' v s
  | .word z, v, ⟨t, h1, h2⟩ => ⟨t, h1, e _ _ h2⟩
  | .menu l r, v, ⟨t, a, b, h1, h2, h3, h4⟩ => ⟨t, a, b, h1, e _ _ h2, h3.ts e, h4.ts e⟩
  | .trade k p g, v, ⟨t, m, a, b, h1, h2, h5, h3, h4⟩ => ⟨t, m, a, b, h1, e _ _ h2, h5.ts e, h3.ts e, h4.ts e⟩
/-- the words, one after another -/
def nms : Sn → List Str
  | .word z => [z]
  | .menu l r => nms l ++ nms r
  | .trade _ p g => nms p ++ nms g
/-- rows -/
def rws : Sn → Nat
  | .word _ => 1
  | .menu l r => rws l + rws r + 1
  | .trade _ p g => rws p + rws g + 1
theorem nms_rws : ∀ s, (nms s).length ≤ rws s
  | .word _ => Nat.le_refl _
  | .menu l r => by have := nms_rws l; have := nms_rws r; simp only [nms, rws, List.length_append]; omega
  | .trade _ p g => by have := nms_rws p; have := nms_rws g; simp only [nms, rws, List.length_append]; omega
/-- a stack of sentences, the top at the end -/
def StV (H : Hp) : List V → List Sn → Prop
  | [], [] => True
  | v :: vs, s :: ss => SnV H v s ∧ StV H vs ss
  | _, _ => False
theorem StV.ts {H H' : Hp} (e : TS H H') : ∀ {xs : List V} {ss : List Sn}, StV H xs ss → StV H' xs ss
  | [], [], _ => trivial
  | _ :: _, _ :: _, ⟨a, r⟩ => ⟨a.ts e, r.ts e⟩
theorem StV.len {H : Hp} : ∀ {xs : List V} {ss : List Sn}, StV H xs ss → xs.length = ss.length
  | [], [], _ => rfl
  | _ :: _, _ :: _, ⟨_, r⟩ => by simp [r.len]
theorem StV.app {H : Hp} {v : V} {s : Sn} (h : SnV H v s) : ∀ {xs : List V} {ss : List Sn}, StV H xs ss → StV H (xs ++ [v]) (ss ++ [s])
  | [], [], _ => ⟨h, trivial⟩
  | _ :: _, _ :: _, ⟨a, r⟩ => ⟨a, r.app h⟩
theorem StV.last {H : Hp} : ∀ {xs : List V} {ss : List Sn} {s : Sn}, StV H xs (ss ++ [s]) → ∃ ys v, xs = ys ++ [v] ∧ StV H ys ss ∧ SnV H v s
  | [], [], s, h => h.elim
  | [], _ :: _, s, h => h.elim
  | [v], [], s, ⟨a, _⟩ => ⟨[], v, rfl, trivial, a⟩
  | v :: w :: vs, [], s, ⟨_, h⟩ => h.elim
  | v :: vs, t :: ss, s, ⟨a, r⟩ => by
    obtain ⟨ys, u, e, h1, h2⟩ := StV.last (ss := ss) r
    exact ⟨v :: ys, u, by rw [e]; rfl, ⟨a, h1⟩, h2⟩
def stN (ss : List Sn) : List Str := (ss.reverse.map nms).flatten
def stR (ss : List Sn) : Nat := (ss.map rws).sum
theorem stN_app (ss : List Sn) (s : Sn) : stN (ss ++ [s]) = nms s ++ stN ss := by simp [stN]
theorem stR_app (ss : List Sn) (s : Sn) : stR (ss ++ [s]) = stR ss + rws s := by simp [stR]
theorem rws_pos : ∀ s, 0 < rws s
  | .word _ => Nat.one_pos
  | .menu _ _ => Nat.succ_pos _
  | .trade _ _ _ => Nat.succ_pos _
theorem len_stR : ∀ ss : List Sn, ss.length ≤ stR ss
  | [] => Nat.le_refl _
  | s :: ss => by have := len_stR ss; have := rws_pos s; simp only [stR, List.map_cons, List.sum_cons, List.length_cons] at *; omega
theorem snoc_or {α : Type} : ∀ l : List α, l = [] ∨ ∃ a b, l = a ++ [b]
  | [] => .inl rfl
  | x :: xs => by
    rcases snoc_or xs with rfl | ⟨a, b, rfl⟩
    · exact .inr ⟨[], x, rfl⟩
    · exact .inr ⟨x :: a, b, rfl⟩
def sVs (l : List Str) : List V := l.map V.str
theorem updS {H H1 : Hp} {f : Addr} {o : HO} (s : Same H H1) (n : H f = none) : Same H (upd H1 f o) := fun x u h => by
  rw [upd_ne (ne_of_none h n)]
  exact s x u h
theorem ix_neg {X : Cx} {H : Hp} {Q : VK} {a : Addr} {xs : List V} {v : V} {j : Int} (h : H a = some (.tup xs)) (e : atI xs j = some v) (q : Q v H) : wIx X (.ref a) (.int j) H Q := ix_t (SqT.of h) e q
theorem mw : ¬ (("menu" : Str) = "word") := by decide +kernel
theorem tw : ¬ (("trade" : Str) = "word") := by decide +kernel
theorem tm : ¬ (("trade" : Str) = "menu") := by decide +kernel
def spNames : Sp := fun vs H Q _ => ∃ v s, vs = [v] ∧ SnV H v s ∧ rws s ≤ 100000 ∧ ∀ l H', Same H H' → H l = none → H' l = some (.lst (sVs (nms s))) → Q (.ref l) H'
theorem ok_names_within (T : Top K mg "names_within" s_names_within) : Fn P w K mg base 1 "names_within" spNames := by
  refine fn_ok T sc_names_within so_names_within (fun vs H Q E h => by obtain ⟨v, s, rfl, _⟩ := h; rfl) (fun _ _ _ _ _ _ us hl => match us, hl with | [_], _ => rfl) fun f cdv A outer s H vs Q E hr h nd => ?_
  obtain ⟨v, s, rfl, hv, hz, q⟩ := h
  walk_at "sts"
  refine ⟨by show 0 ≤ sizeLine; decide, fun f H1 e1 nf hf => ?_⟩
  walk_at "sts"
  refine ⟨by show 1 ≤ sizeLine; decide, fun g H2 e2 ng hg => ?_⟩
  have fg : f ≠ g := fun e => by subst e; rw [hf] at ng; cases ng
  have ng0 : H g = none := by
    cases hz : H g with
    | none => rfl
    | some o => exact absurd (e1 g o hz) (by rw [ng]; intro z; cases z)
  walk_at "sts"
  refine s_whileN (fun n σ H' => ∃ y xs ss ns, σ = [some v, some (.ref f), some (.ref g), y] ∧ Same H H' ∧ H' f = some (.lst (sVs ns)) ∧ H' g = some (.lst xs) ∧ StV H' xs ss ∧ ns ++ stN ss = nms s ∧ n = stR ss ∧ ns.length + stR ss ≤ rws s)
    (rws s) ⟨_, [v], [s], [], rfl, e1.trans e2, e2 _ _ hf, hg, ⟨hv.ts (Same.ts (e1.trans e2)), trivial⟩, by simp [stN], by simp [stR], by simp [stR]⟩ fun n σ H3 hW => ?_
  obtain ⟨y, xs, ss, ns, rfl, e3, hf3, hg3, hst, hn, rfl, hle⟩ := hW
  refine t_tru ?_
  walk_at "sts"
  refine ⟨_, tru_l hg3, ?_⟩
  rcases snoc_or ss with rfl | ⟨ss, s1, rfl⟩
  · have hx : xs = [] := by
      match xs, hst with
      | [], _ => rfl
    subst hx
    refine iteF ?_
    rw [show stN [] = [] from rfl, List.append_nil] at hn
    rw [hn] at hf3
    walk_at "sts"
    exact q f H3 e3 nf hf3
  · obtain ⟨xs, v1, rfl, hs2, hv1⟩ := hst.last
    clear hst
    rw [stN_app] at hn
    rw [stR_app] at hle
    rw [stR_app]
    refine ite_t (by simp) ?_
    refine l_cons (s_set (e_pop ?_))
    walk_at "sts"
    refine ⟨g, xs, v1, rfl, hg3, ?_⟩
    have ts4 := TS.upd (o := .lst xs) hg3
    replace hv1 := hv1.ts ts4
    replace hs2 := hs2.ts ts4
    have hf4 : (upd H3 g (.lst xs)) f = some (.lst (sVs ns)) := by rw [upd_ne fg]; exact hf3
    have e4 : Same H (upd H3 g (.lst xs)) := updS e3 ng0
    have hg4 : (upd H3 g (.lst xs)) g = some (.lst xs) := upd_same
    generalize upd H3 g (.lst xs) = H4 at *
    have hll := len_stR ss
    have hlx := hs2.len
    cases s1 with
    | word z =>
      obtain ⟨t, rfl, ht⟩ := hv1
      simp only [nms, rws] at hn hle ⊢
      walk_at "sts"
      refine ix_t (by exact SqT.of (ht)) rfl ?_
      walk_at "sts"
      refine e_app ?_
      walk_at "sts"
      refine ⟨f, _, rfl, SqL.of hf4, ?_⟩
      walk_at "sts"
      refine ix_t (by exact SqT.of (ht)) rfl ?_
      walk_at "sts"
      refine ⟨_, hf4, by simp only [sVs, List.length_map]; show ns.length < 2 ^ 24; omega, ?_⟩
      have ts5 := TS.upd (o := .lst (sVs ns ++ [.str z])) hf4
      refine l_nil (l_nil ⟨stR ss, by omega, _, xs, ss, ns ++ [z], rfl, updS e4 nf, by rw [upd_same]; simp [sVs], by rw [upd_ne fg.symm]; exact hg4, hs2.ts ts5, by rw [List.append_assoc]; exact hn, rfl, by simp only [List.length_append, List.length_cons, List.length_nil]; omega⟩)
    | menu l r =>
      obtain ⟨t, a, b, rfl, ht, ha, hb⟩ := hv1
      simp only [nms, rws] at hn hle ⊢
      walk_at "sts"
      refine ix_t (by exact SqT.of (ht)) rfl ?_
      walk_at "sts"
      refine e_app ?_
      walk_at "sts"
      refine ⟨g, _, rfl, SqL.of hg4, ?_⟩
      walk_at "sts"
      refine ix_neg (by exact ht) rfl ?_
      refine ⟨_, hg4, by rw [hlx]; show ss.length < 2 ^ 24; omega, ?_⟩
      have ts5 := TS.upd (o := .lst (xs ++ [b])) hg4
      refine l_cons (s_expr (e_app ?_))
      walk_at "sts"
      refine ⟨g, _, rfl, SqL.of upd_same, ?_⟩
      walk_at "sts"
      refine ix_neg (by exact ts5 _ _ ht) rfl ?_
      refine ⟨_, upd_same, by rw [List.length_append, hlx]; show ss.length + 1 < 2 ^ 24; omega, ?_⟩
      have ts6 := ts5.trans (TS.upd (o := .lst (xs ++ [b] ++ [a])) upd_same)
      refine l_nil (l_nil ⟨stR ss + rws r + rws l, by omega, _, xs ++ [b] ++ [a], ss ++ [r] ++ [l], ns, rfl, updS (updS e4 ng0) ng0, by rw [upd_ne fg, upd_ne fg]; exact hf4, upd_same, ((hs2.ts ts6).app (hb.ts ts6)).app (ha.ts ts6), by rw [stN_app, stN_app]; simpa [List.append_assoc] using hn, by rw [stR_app, stR_app], by rw [stR_app, stR_app]; omega⟩)
    | trade k l r =>
      obtain ⟨t, m, a, b, rfl, ht, hm, ha, hb⟩ := hv1
      simp only [nms, rws] at hn hle ⊢
      walk_at "sts"
      refine ix_t (by exact SqT.of (ht)) rfl ?_
      walk_at "sts"
      refine e_app ?_
      walk_at "sts"
      refine ⟨g, _, rfl, SqL.of hg4, ?_⟩
      walk_at "sts"
      refine ix_neg (by exact ht) rfl ?_
      refine ⟨_, hg4, by rw [hlx]; show ss.length < 2 ^ 24; omega, ?_⟩
      have ts5 := TS.upd (o := .lst (xs ++ [b])) hg4
      refine l_cons (s_expr (e_app ?_))
      walk_at "sts"
      refine ⟨g, _, rfl, SqL.of upd_same, ?_⟩
      walk_at "sts"
      refine ix_neg (by exact ts5 _ _ ht) rfl ?_
      refine ⟨_, upd_same, by rw [List.length_append, hlx]; show ss.length + 1 < 2 ^ 24; omega, ?_⟩
      have ts6 := ts5.trans (TS.upd (o := .lst (xs ++ [b] ++ [a])) upd_same)
      refine l_nil (l_nil ⟨stR ss + rws r + rws l, by omega, _, xs ++ [b] ++ [a], ss ++ [r] ++ [l], ns, rfl, updS (updS e4 ng0) ng0, by rw [upd_ne fg, upd_ne fg]; exact hf4, upd_same, ((hs2.ts ts6).app (hb.ts ts6)).app (ha.ts ts6), by rw [stN_app, stN_app]; simpa [List.append_assoc] using hn, by rw [stR_app, stR_app], by rw [stR_app, stR_app]; omega⟩)
theorem ok_words (T : Top K mg "_law_words" s_words) : Fn P w K mg base 1 "_law_words" spNames := by
  refine fn_ok T sc_words so_words (fun vs H Q E h => by obtain ⟨v, s, rfl, _⟩ := h; rfl) (fun _ _ _ _ _ _ us hl => match us, hl with | [_], _ => rfl) fun f cdv A outer s H vs Q E hr h nd => ?_
  obtain ⟨v, s, rfl, hv, hz, q⟩ := h
  walk_at "sts"
  refine ⟨by show 0 ≤ sizeLine; decide, fun f H1 e1 nf hf => ?_⟩
  walk_at "sts"
  refine ⟨by show 1 ≤ sizeLine; decide, fun g H2 e2 ng hg => ?_⟩
  have fg : f ≠ g := fun e => by subst e; rw [hf] at ng; cases ng
  have ng0 : H g = none := by
    cases hz : H g with
    | none => rfl
    | some o => exact absurd (e1 g o hz) (by rw [ng]; intro z; cases z)
  walk_at "sts"
  refine s_whileN (fun n σ H' => ∃ y xs ss ns, σ = [some v, some (.ref f), some (.ref g), y] ∧ Same H H' ∧ H' f = some (.lst (sVs ns)) ∧ H' g = some (.lst xs) ∧ StV H' xs ss ∧ ns ++ stN ss = nms s ∧ n = stR ss ∧ ns.length + stR ss ≤ rws s)
    (rws s) ⟨_, [v], [s], [], rfl, e1.trans e2, e2 _ _ hf, hg, ⟨hv.ts (Same.ts (e1.trans e2)), trivial⟩, by simp [stN], by simp [stR], by simp [stR]⟩ fun n σ H3 hW => ?_
  obtain ⟨y, xs, ss, ns, rfl, e3, hf3, hg3, hst, hn, rfl, hle⟩ := hW
  refine t_tru ?_
  walk_at "sts"
  refine ⟨_, tru_l hg3, ?_⟩
  rcases snoc_or ss with rfl | ⟨ss, s1, rfl⟩
  · have hx : xs = [] := by
      match xs, hst with
      | [], _ => rfl
    subst hx
    refine iteF ?_
    rw [show stN [] = [] from rfl, List.append_nil] at hn
    rw [hn] at hf3
    walk_at "sts"
    exact q f H3 e3 nf hf3
  · obtain ⟨xs, v1, rfl, hs2, hv1⟩ := hst.last
    clear hst
    rw [stN_app] at hn
    rw [stR_app] at hle
    rw [stR_app]
    refine ite_t (by simp) ?_
    refine l_cons (s_set (e_pop ?_))
    walk_at "sts"
    refine ⟨g, xs, v1, rfl, hg3, ?_⟩
    have ts4 := TS.upd (o := .lst xs) hg3
    replace hv1 := hv1.ts ts4
    replace hs2 := hs2.ts ts4
    have hf4 : (upd H3 g (.lst xs)) f = some (.lst (sVs ns)) := by rw [upd_ne fg]; exact hf3
    have e4 : Same H (upd H3 g (.lst xs)) := updS e3 ng0
    have hg4 : (upd H3 g (.lst xs)) g = some (.lst xs) := upd_same
    generalize upd H3 g (.lst xs) = H4 at *
    have hll := len_stR ss
    have hlx := hs2.len
    cases s1 with
    | word z =>
      obtain ⟨t, rfl, ht⟩ := hv1
      simp only [nms, rws] at hn hle ⊢
      walk_at "sts"
      refine ix_t (by exact SqT.of (ht)) rfl ?_
      walk_at "sts"
      refine e_app ?_
      walk_at "sts"
      refine ⟨f, _, rfl, SqL.of hf4, ?_⟩
      walk_at "sts"
      refine ix_t (by exact SqT.of (ht)) rfl ?_
      walk_at "sts"
      refine ⟨_, hf4, by simp only [sVs, List.length_map]; show ns.length < 2 ^ 24; omega, ?_⟩
      have ts5 := TS.upd (o := .lst (sVs ns ++ [.str z])) hf4
      refine l_nil (l_nil ⟨stR ss, by omega, _, xs, ss, ns ++ [z], rfl, updS e4 nf, by rw [upd_same]; simp [sVs], by rw [upd_ne fg.symm]; exact hg4, hs2.ts ts5, by rw [List.append_assoc]; exact hn, rfl, by simp only [List.length_append, List.length_cons, List.length_nil]; omega⟩)
    | menu l r =>
      obtain ⟨t, a, b, rfl, ht, ha, hb⟩ := hv1
      simp only [nms, rws] at hn hle ⊢
      walk_at "sts"
      refine ix_t (by exact SqT.of (ht)) rfl ?_
      walk_at "sts"
      refine e_app ?_
      walk_at "sts"
      refine ⟨g, _, rfl, SqL.of hg4, ?_⟩
      walk_at "sts"
      refine ix_neg (by exact ht) rfl ?_
      refine ⟨_, hg4, by rw [hlx]; show ss.length < 2 ^ 24; omega, ?_⟩
      have ts5 := TS.upd (o := .lst (xs ++ [b])) hg4
      refine l_cons (s_expr (e_app ?_))
      walk_at "sts"
      refine ⟨g, _, rfl, SqL.of upd_same, ?_⟩
      walk_at "sts"
      refine ix_neg (by exact ts5 _ _ ht) rfl ?_
      refine ⟨_, upd_same, by rw [List.length_append, hlx]; show ss.length + 1 < 2 ^ 24; omega, ?_⟩
      have ts6 := ts5.trans (TS.upd (o := .lst (xs ++ [b] ++ [a])) upd_same)
      refine l_nil (l_nil ⟨stR ss + rws r + rws l, by omega, _, xs ++ [b] ++ [a], ss ++ [r] ++ [l], ns, rfl, updS (updS e4 ng0) ng0, by rw [upd_ne fg, upd_ne fg]; exact hf4, upd_same, ((hs2.ts ts6).app (hb.ts ts6)).app (ha.ts ts6), by rw [stN_app, stN_app]; simpa [List.append_assoc] using hn, by rw [stR_app, stR_app], by rw [stR_app, stR_app]; omega⟩)
    | trade k l r =>
      obtain ⟨t, m, a, b, rfl, ht, hm, ha, hb⟩ := hv1
      simp only [nms, rws] at hn hle ⊢
      walk_at "sts"
      refine ix_t (by exact SqT.of (ht)) rfl ?_
      walk_at "sts"
      refine e_app ?_
      walk_at "sts"
      refine ⟨g, _, rfl, SqL.of hg4, ?_⟩
      walk_at "sts"
      refine ix_neg (by exact ht) rfl ?_
      refine ⟨_, hg4, by rw [hlx]; show ss.length < 2 ^ 24; omega, ?_⟩
      have ts5 := TS.upd (o := .lst (xs ++ [b])) hg4
      refine l_cons (s_expr (e_app ?_))
      walk_at "sts"
      refine ⟨g, _, rfl, SqL.of upd_same, ?_⟩
      walk_at "sts"
      refine ix_neg (by exact ts5 _ _ ht) rfl ?_
      refine ⟨_, upd_same, by rw [List.length_append, hlx]; show ss.length + 1 < 2 ^ 24; omega, ?_⟩
      have ts6 := ts5.trans (TS.upd (o := .lst (xs ++ [b] ++ [a])) upd_same)
      refine l_nil (l_nil ⟨stR ss + rws r + rws l, by omega, _, xs ++ [b] ++ [a], ss ++ [r] ++ [l], ns, rfl, updS (updS e4 ng0) ng0, by rw [upd_ne fg, upd_ne fg]; exact hf4, upd_same, ((hs2.ts ts6).app (hb.ts ts6)).app (ha.ts ts6), by rw [stN_app, stN_app]; simpa [List.append_assoc] using hn, by rw [stR_app, stR_app], by rw [stR_app, stR_app]; omega⟩)
end


/-! ### legs -/
abbrev Pk := Option (Int × Int)
abbrev Leg := List (Pk × Sn) × Str
def legsL : Sn → List Leg
  | .word z => [([], z)]
  | .menu l r => legsL l ++ legsL r
  | .trade k p g => (legsL g).map fun x => ((k, p) :: x.1, x.2)
def dep : Sn → Nat
  | .word _ => 0
  | .menu l r => max (dep l) (dep r) + 1
  | .trade _ p g => max (dep p) (dep g) + 1
theorem legs_n : ∀ s, (legsL s).length ≤ rws s
  | .word _ => Nat.le_refl _
  | .menu l r => by have := legs_n l; have := legs_n r; simp only [legsL, rws, List.length_append]; omega
  | .trade _ p g => by have := legs_n g; simp only [legsL, rws, List.length_map]; omega
theorem legs_p : ∀ s, ∀ x ∈ legsL s, x.1.length < rws s
  | .word _, x, h => by
    simp only [legsL, List.mem_singleton] at h
    subst h
    exact Nat.one_pos
  | .menu l r, x, h => by
    simp only [legsL, List.mem_append] at h
    simp only [rws]
    rcases h with h | h
    · have := legs_p l x h; omega
    · have := legs_p r x h; omega
  | .trade k p g, x, h => by
    simp only [legsL, List.mem_map] at h
    obtain ⟨y, hy, rfl⟩ := h
    have := legs_p g y hy
    simp only [rws, List.length_cons]
    omega
def PrV (H : Hp) (v : V) (x : Pk × Sn) : Prop := ∃ t m a, v = .ref t ∧ H t = some (.tup [m, a]) ∧ ModeV H m x.1 ∧ SnV H a x.2
theorem PrV.ts {H H' : Hp} {v : V} {x : Pk × Sn} (e : TS H H') : PrV H v x → PrV H' v x := fun ⟨t, m, a, h1, h2, h3, h4⟩ => ⟨t, m, a, h1, e _ _ h2, h3.ts e, h4.ts e⟩
def PrsV (H : Hp) : List V → List (Pk × Sn) → Prop
  | [], [] => True
  | v :: vs, x :: xs => PrV H v x ∧ PrsV H vs xs
  | _, _ => False
theorem PrsV.ts {H H' : Hp} (e : TS H H') : ∀ {vs : List V} {xs : List (Pk × Sn)}, PrsV H vs xs → PrsV H' vs xs
  | [], [], _ => trivial
  | _ :: _, _ :: _, ⟨a, r⟩ => ⟨a.ts e, r.ts e⟩
theorem PrsV.len {H : Hp} : ∀ {vs : List V} {xs : List (Pk × Sn)}, PrsV H vs xs → vs.length = xs.length
  | [], [], _ => rfl
  | _ :: _, _ :: _, ⟨_, r⟩ => by simp [r.len]
theorem PrsV.cat {H : Hp} : ∀ {vs : List V} {xs : List (Pk × Sn)} {us : List V} {ys : List (Pk × Sn)}, PrsV H vs xs → PrsV H us ys → PrsV H (vs ++ us) (xs ++ ys)
  | [], [], _, _, _, h => h
  | _ :: _, _ :: _, _, _, ⟨a, r⟩, h => ⟨a, r.cat h⟩
/-- a leg at v, its prices in the list at p -/
def LgV (H : Hp) (v : V) (p : Addr) (x : Leg) : Prop := ∃ t xs, v = .ref t ∧ H t = some (.tup [.ref p, .str x.2]) ∧ H p = some (.lst xs) ∧ PrsV H xs x.1
theorem LgV.up {H H' : Hp} {v : V} {p : Addr} {x : Leg} (s : Same H H') : LgV H v p x → LgV H' v p x := fun ⟨t, xs, h1, h2, h3, h4⟩ => ⟨t, xs, h1, s _ _ h2, s _ _ h3, h4.ts (Same.ts s)⟩
theorem LgV.upd {H : Hp} {v : V} {p f : Addr} {x : Leg} {l : List V} {o : HO} (hf : H f = some (.lst l)) (n : p ≠ f) : LgV H v p x → LgV (L2.upd H f o) v p x := fun ⟨t, xs, h1, h2, h3, h4⟩ => ⟨t, xs, h1, TS.upd hf _ _ h2, by rw [upd_ne n]; exact h3, h4.ts (TS.upd hf)⟩
def LgsV (H : Hp) : List V → List Addr → List Leg → Prop
  | [], [], [] => True
  | v :: vs, p :: ps, x :: xs => LgV H v p x ∧ LgsV H vs ps xs
  | _, _, _ => False
theorem LgsV.up {H H' : Hp} (s : Same H H') : ∀ {vs : List V} {ps : List Addr} {xs : List Leg}, LgsV H vs ps xs → LgsV H' vs ps xs
  | [], [], [], _ => trivial
  | _ :: _, _ :: _, _ :: _, ⟨a, r⟩ => ⟨a.up s, r.up s⟩
theorem LgsV.upd {H : Hp} {f : Addr} {l : List V} {o : HO} (hf : H f = some (.lst l)) : ∀ {vs : List V} {ps : List Addr} {xs : List Leg}, (∀ p ∈ ps, p ≠ f) → LgsV H vs ps xs → LgsV (L2.upd H f o) vs ps xs
  | [], [], [], _, _ => trivial
  | _ :: _, p :: _, _ :: _, n, ⟨a, r⟩ => ⟨a.upd hf (n p List.mem_cons_self), r.upd hf fun q h => n q (List.mem_cons_of_mem _ h)⟩
theorem LgsV.len {H : Hp} : ∀ {vs : List V} {ps : List Addr} {xs : List Leg}, LgsV H vs ps xs → vs.length = xs.length
  | [], [], [], _ => rfl
  | _ :: _, _ :: _, _ :: _, ⟨_, r⟩ => by simp [r.len]
theorem LgsV.cat {H : Hp} : ∀ {vs : List V} {ps : List Addr} {xs : List Leg} {us : List V} {qs : List Addr} {ys : List Leg}, LgsV H vs ps xs → LgsV H us qs ys → LgsV H (vs ++ us) (ps ++ qs) (xs ++ ys)
  | [], [], [], _, _, _, _, h => h
  | _ :: _, _ :: _, _ :: _, _, _, _, ⟨a, r⟩, h => ⟨a, r.cat h⟩
theorem LgsV.get {H : Hp} : ∀ {vs : List V} {ps : List Addr} {xs : List Leg} {k : Nat} {v : V}, LgsV H vs ps xs → vs[k]? = some v → ∃ p x, ps[k]? = some p ∧ xs[k]? = some x ∧ LgV H v p x
  | _ :: _, p :: _, x :: _, 0, v, ⟨a, _⟩, e => by
    cases (Option.some.inj e)
    exact ⟨p, x, rfl, rfl, a⟩
  | _ :: _, _ :: _, _ :: _, k + 1, v, ⟨_, r⟩, e => by
    obtain ⟨p, x, h1, h2, h3⟩ := r.get (show (_ : List V)[k]? = some v from e)
    exact ⟨p, x, h1, h2, h3⟩
theorem LgsV.there {H : Hp} : ∀ {vs : List V} {ps : List Addr} {xs : List Leg}, LgsV H vs ps xs → ∀ p ∈ ps, ∃ l, H p = some (.lst l)
  | _ :: _, p :: _, _ :: _, ⟨⟨t, xs, _, _, h, _⟩, r⟩, q, hq => by
    rcases List.mem_cons.mp hq with rfl | hq
    · exact ⟨xs, h⟩
    · exact r.there q hq
  | [], [], [], _, q, hq => by cases hq
theorem none_of {H H' : Hp} {p : Addr} (s : Same H H') (n : H' p = none) : H p = none := by
  cases hz : H p with
  | none => rfl
  | some o => exact absurd (s p o hz) (by rw [n]; intro z; cases z)
section
variable {P : Program} {w : World} {K : PySem.W.Frag} {mg : Str → Option Value} {base : Heap}
theorem o_cat2 {X : Cx} {H : Hp} {Q : VK} {l b : Addr} {xs zs : List V} (h1 : H l = some (.lst xs)) (h2 : H b = some (.lst zs)) (hz : xs.length + zs.length ≤ 200000) (q : ∀ p H2, Same H H2 → H p = none → H2 p = some (.lst (xs ++ zs)) → Q (.ref p) H2) : wB X .Add (.ref l) (.ref b) H Q :=
  b_of op_cat ⟨l, b, xs, zs, rfl, rfl, h1, h2, by show _ ≤ 2 ^ 24; omega, fun p np => q p _ (fun c u eo => by rw [upd_ne (ne_of_none eo np)]; exact eo) np upd_same⟩
def spLegs (n : Nat) : Sp := fun vs H Q _ => ∃ v s, vs = [v] ∧ SnV H v s ∧ dep s ≤ n ∧ rws s ≤ 100000 ∧ ∀ l vs ps H', Same H H' → H l = none → H' l = some (.lst vs) → LgsV H' vs ps (legsL s) → ps.Nodup → (∀ p ∈ ps, H p = none ∧ p ≠ l) → Q (.ref l) H'
theorem ok_legsS (n : Nat) (T : Top K mg "legs" s_legs) (F : ∀ m, n = m + 1 → Fn P w K mg base (m + 1) "legs" (spLegs m)) : Fn P w K mg base (n + 1) "legs" (spLegs n) := by
  refine fn_okC T sc_legs so_legs (fun vs H Q E h => by obtain ⟨v, s, rfl, _⟩ := h; rfl) (fun _ _ _ _ _ _ us hl => match us, hl with | [_], _ => rfl) fun f cdv A outer s H vs Q E hr h nd => ?_
  obtain ⟨v, s, rfl, hv, hd, hz, q⟩ := h
  cases s with
  | word z =>
    obtain ⟨t, rfl, ht⟩ := hv
    walk_at "sts"
    refine ix_t (by exact SqT.of (ht)) rfl ?_
    walk_at "sts"
    refine ⟨by show 0 ≤ sizeLine; decide, fun p H1 e1 np hp => ?_⟩
    have ht1 := e1 _ _ ht
    walk_at "sts"
    refine ix_t (by exact SqT.of (ht1)) rfl ?_
    walk_at "sts"
    refine ⟨by show 2 ≤ sizeLine; decide, fun t2 H2 e2 nt2 ht2 => ?_⟩
    walk_at "sts"
    refine ⟨by show 1 ≤ sizeLine; decide, fun l H3 e3 nl hl => ?_⟩
    have e13 := e1.trans (e2.trans e3)
    have nl1 : H1 l = none := none_of e2 nl
    refine q l _ [p] H3 e13 (none_of e1 nl1) hl ⟨⟨t2, [], rfl, e3 _ _ ht2, (e2.trans e3) _ _ hp, trivial⟩, trivial⟩ (by simp) fun p' hp' => ?_
    simp only [List.mem_singleton] at hp'
    subst hp'
    exact ⟨np, fun e => by subst e; rw [hp] at nl1; cases nl1⟩
  | menu l r =>
    obtain ⟨t, a, b, rfl, ht, ha, hb⟩ := hv
    obtain ⟨m, rfl⟩ : ∃ m, n = m + 1 := ⟨n - 1, by simp only [dep] at hd; omega⟩
    simp only [dep, rws] at hd hz
    have F0 := F m rfl
    walk_at "sts"
    refine ix_t (by exact SqT.of (ht)) rfl ?_
    walk_at "sts"
    refine ix_t (by exact SqT.of (ht)) rfl ?_
    walk_at "sts"
    refine e_call (by exact F0) (by exact hr) (Nat.le_refl _) ?_
    walk_at "sts"
    refine ix_t (by exact SqT.of (ht)) rfl ?_
    walk_at "sts"
    refine ⟨a, l, rfl, ha, by omega, by omega, fun l1 v1 p1 H1 e1 n1 h1 g1 d1 f1 => ?_⟩
    walk_at "sts"
    refine e_call (by exact F0) (by exact hr) (Nat.le_refl _) ?_
    walk_at "sts"
    have htm := e1 _ _ ht
    refine ix_t (by exact SqT.of (htm)) rfl ?_
    walk_at "sts"
    refine ⟨b, r, rfl, hb.ts (Same.ts e1), by omega, by omega, fun l2 v2 p2 H2 e2 n2 h2 g2 d2 f2 => ?_⟩
    have g1' := g1.up e2
    have hl1 := legs_n l
    have hl2 := legs_n r
    refine o_cat2 (e2 _ _ h1) h2 (by rw [g1.len, g2.len]; omega) fun l3 H3 e3 n3 h3 => ?_
    refine q l3 _ (p1 ++ p2) H3 (e1.trans (e2.trans e3)) (none_of (e1.trans e2) n3) h3 ((g1'.up e3).cat (g2.up e3)) ?_ fun p hp => ?_
    · refine List.nodup_append.mpr ⟨d1, d2, fun x hx y hy e => ?_⟩
      subst e
      obtain ⟨l0, hl0⟩ := g1.there x hx
      rw [(f2 x hy).1] at hl0
      cases hl0
    · have hne : p ≠ l3 := by
        intro e
        subst e
        rcases List.mem_append.mp hp with h | h
        · obtain ⟨l0, hl0⟩ := g1'.there p h
          rw [n3] at hl0
          cases hl0
        · obtain ⟨l0, hl0⟩ := g2.there p h
          rw [n3] at hl0
          cases hl0
      rcases List.mem_append.mp hp with h | h
      · exact ⟨(f1 p h).1, hne⟩
      · exact ⟨none_of e1 (f2 p h).1, hne⟩
  | trade k pr g =>
    obtain ⟨t, md, a, b, rfl, ht, hm, ha, hb⟩ := hv
    obtain ⟨m, rfl⟩ : ∃ m, n = m + 1 := ⟨n - 1, by simp only [dep] at hd; omega⟩
    simp only [dep, rws] at hd hz
    have F0 := F m rfl
    walk_at "sts"
    refine ix_t (by exact SqT.of (ht)) rfl ?_
    walk_at "sts"
    refine ix_t (by exact SqT.of (ht)) rfl ?_
    walk_at "sts"
    refine ix_t (by exact SqT.of (ht)) rfl ?_
    walk_at "sts"
    refine ix_t (by exact SqT.of (ht)) rfl ?_
    walk_at "sts"
    refine ⟨by show 2 ≤ sizeLine; decide, fun tf H1 e1 ntf htf => ?_⟩
    have ht1 := e1 _ _ ht
    refine l_cons (s_ret (e_lcL2 (by exact bk_legs0) ?_))
    refine e_call (by exact F0) (by exact hr) (Nat.le_refl _) ?_
    walk_at "sts"
    refine ix_t (by exact SqT.of (ht1)) rfl ?_
    walk_at "sts"
    refine ⟨b, g, rfl, hb.ts (Same.ts e1), by omega, by omega, fun l1 v1 p1 H2 e2 n2 h2 g2 d2 f2 => ⟨l1, v1, rfl, SqL.of h2, fun D hD => ?_⟩⟩
    have htf2 := e2 _ _ htf
    have e02 := e1.trans e2
    have nD : H D = none := none_of e02 hD
    have hm2 := hm.ts (Same.ts e02)
    have ha2 := ha.ts (Same.ts e02)
    have hlg := legs_n g
    have hpg := legs_p g
    refine ⟨fun j H' => ∃ acc ps, H' D = some (.lst acc) ∧ Same H2 H' ∧ LgsV H' acc ps ((legsL (.trade k pr g)).take j) ∧ ps.Nodup ∧ ∀ p ∈ ps, H2 p = none ∧ p ≠ D, ⟨[], [], upd_same, updS (Same.refl H2) hD, by simp [LgsV], by simp, by simp⟩, fun j H' _ hW => ?_, fun j x H' hj hW => ?_, fun H' hW => ?_⟩
    · obtain ⟨acc, ps, _, e3, _⟩ := hW
      exact SqL.of (e3 _ _ h2)
    · obtain ⟨acc, ps, hD3, e3, ga, da, fa⟩ := hW
      obtain ⟨p, lg, hp, hlx, tt, xs, rfl, htt, hpp, hpx⟩ := (g2.up e3).get hj
      have jl : j < (legsL g).length := (List.getElem?_eq_some_iff.mp hlx).1
      have hmem : lg ∈ legsL g := List.mem_of_getElem? hlx
      refine ⟨tt, .ref p, .str lg.2, rfl, SqT.of htt, fun s0 H0 C0 cl fp IB => ?_⟩
      refine e_tup (a_cons (e_bin (e_lst (a_cons (b_var (a_nil ⟨by show 1 ≤ sizeLine; decide, fun n1 H4 e4 nn1 hn1 => b_var ?_⟩))))))
      refine o_cat2 hn1 (e4 _ _ hpp) (by rw [hpx.len]; have := hpg lg hmem; simp only [List.length_cons, List.length_nil]; omega) fun np H5 e5 nnp hnp => a_cons (b_var (a_nil ?_))
      refine ⟨by show 2 ≤ sizeLine; decide, fun nt H6 e6 nnt hnt => ?_⟩
      have e36 := e4.trans (e5.trans e6)
      have hD6 := e36 _ _ hD3
      have npD : np ≠ D := fun e => by subst e; rw [(none_of e4 nnp)] at hD3; cases hD3
      refine ⟨acc, hD6, ?_, acc ++ [.ref nt], ps ++ [np], upd_same, updS (e3.trans e36) hD, ?_, ?_, ?_⟩
      · rw [ga.len, List.length_take]
        show min j _ < 2 ^ 24
        have : min j (legsL (.trade k pr g)).length ≤ j := Nat.min_le_left _ _
        omega
      · have ht' : (legsL (.trade k pr g)).take (j + 1) = (legsL (.trade k pr g)).take j ++ [((k, pr) :: lg.1, lg.2)] := by
          rw [List.take_add_one]
          simp only [legsL, List.getElem?_map, hlx]
          rfl
        rw [ht']
        have h6 : LgsV H6 [V.ref nt] [np] [((k, pr) :: lg.1, lg.2)] := ⟨⟨nt, _, rfl, hnt, e6 _ _ hnp, ⟨tf, md, a, rfl, (e3.trans e36) _ _ htf2, hm2.ts (Same.ts (e3.trans e36)), ha2.ts (Same.ts (e3.trans e36))⟩, hpx.ts (Same.ts e36)⟩, trivial⟩
        exact ((ga.up e36).cat h6).upd hD6 (fun p' hp' => by
          rcases List.mem_append.mp hp' with h | h
          · exact (fa p' h).2
          · simp only [List.mem_singleton] at h
            subst h
            exact npD)
      · refine List.nodup_append.mpr ⟨da, by simp, fun x hx y hy e => ?_⟩
        simp only [List.mem_singleton] at hy
        subst e
        subst hy
        obtain ⟨l0, hl0⟩ := (ga.up e4).there x hx
        rw [nnp] at hl0
        cases hl0
      · intro p' hp'
        rcases List.mem_append.mp hp' with h | h
        · exact fa p' h
        · simp only [List.mem_singleton] at h
          subst h
          exact ⟨none_of (e3.trans e4) nnp, npD⟩
    · obtain ⟨acc, ps, hD3, e3, ga, da, fa⟩ := hW
      have hle : v1.length = (legsL (.trade k pr g)).length := by rw [g2.len]; simp [legsL]
      rw [hle, List.take_length] at ga
      exact q D acc ps H' (e02.trans e3) nD hD3 ga da fun p hp => ⟨none_of e02 (fa p hp).1, (fa p hp).2⟩
theorem ok_legs (T : Top K mg "legs" s_legs) : ∀ n, Fn P w K mg base (n + 1) "legs" (spLegs n)
  | 0 => ok_legsS 0 T fun m h => by cases h
  | n + 1 => ok_legsS (n + 1) T fun m h => by cases h; exact ok_legs T n
end


/-! ### the law's own legs -/
abbrev It := List (Pk × Sn) × Sn
def ItV (H : Hp) (v : V) (p : Addr) (x : It) : Prop := ∃ t xs u, v = .ref t ∧ H t = some (.tup [.ref p, u]) ∧ H p = some (.lst xs) ∧ PrsV H xs x.1 ∧ SnV H u x.2
theorem ItV.up {H H' : Hp} {v : V} {p : Addr} {x : It} (s : Same H H') : ItV H v p x → ItV H' v p x := fun ⟨t, xs, u, h1, h2, h3, h4, h5⟩ => ⟨t, xs, u, h1, s _ _ h2, s _ _ h3, h4.ts (Same.ts s), h5.ts (Same.ts s)⟩
theorem ItV.upd {H : Hp} {v : V} {p f : Addr} {x : It} {l : List V} {o : HO} (hf : H f = some (.lst l)) (n : p ≠ f) : ItV H v p x → ItV (L2.upd H f o) v p x := fun ⟨t, xs, u, h1, h2, h3, h4, h5⟩ => ⟨t, xs, u, h1, TS.upd hf _ _ h2, by rw [upd_ne n]; exact h3, h4.ts (TS.upd hf), h5.ts (TS.upd hf)⟩
def StL (H : Hp) : List V → List Addr → List It → Prop
  | [], [], [] => True
  | v :: vs, p :: ps, x :: xs => ItV H v p x ∧ StL H vs ps xs
  | _, _, _ => False
theorem StL.up {H H' : Hp} (s : Same H H') : ∀ {vs : List V} {ps : List Addr} {xs : List It}, StL H vs ps xs → StL H' vs ps xs
  | [], [], [], _ => trivial
  | _ :: _, _ :: _, _ :: _, ⟨a, r⟩ => ⟨a.up s, r.up s⟩
theorem StL.upd {H : Hp} {f : Addr} {l : List V} {o : HO} (hf : H f = some (.lst l)) : ∀ {vs : List V} {ps : List Addr} {xs : List It}, (∀ p ∈ ps, p ≠ f) → StL H vs ps xs → StL (L2.upd H f o) vs ps xs
  | [], [], [], _, _ => trivial
  | _ :: _, p :: _, _ :: _, n, ⟨a, r⟩ => ⟨a.upd hf (n p List.mem_cons_self), r.upd hf fun q h => n q (List.mem_cons_of_mem _ h)⟩
theorem StL.len {H : Hp} : ∀ {vs : List V} {ps : List Addr} {xs : List It}, StL H vs ps xs → vs.length = xs.length
  | [], [], [], _ => rfl
  | _ :: _, _ :: _, _ :: _, ⟨_, r⟩ => by simp [r.len]
theorem StL.app {H : Hp} {v : V} {p : Addr} {x : It} (h : ItV H v p x) : ∀ {vs : List V} {ps : List Addr} {xs : List It}, StL H vs ps xs → StL H (vs ++ [v]) (ps ++ [p]) (xs ++ [x])
  | [], [], [], _ => ⟨h, trivial⟩
  | _ :: _, _ :: _, _ :: _, ⟨a, r⟩ => ⟨a, r.app h⟩
theorem StL.last {H : Hp} : ∀ {xs : List V} {ps : List Addr} {ss : List It} {s : It}, StL H xs ps (ss ++ [s]) → ∃ ys v qs p, xs = ys ++ [v] ∧ ps = qs ++ [p] ∧ StL H ys qs ss ∧ ItV H v p s
  | [], [], [], s, h => h.elim
  | [], _ :: _, [], s, h => h.elim
  | [], [], _ :: _, s, h => h.elim
  | [], _ :: _, _ :: _, s, h => h.elim
  | _ :: _, [], [], s, h => h.elim
  | _ :: _, [], _ :: _, s, h => h.elim
  | [v], [p], [], s, ⟨a, _⟩ => ⟨[], v, [], p, rfl, rfl, trivial, a⟩
  | v :: w :: vs, [p], [], s, ⟨_, h⟩ => h.elim
  | [v], p :: q :: ps, [], s, ⟨_, h⟩ => h.elim
  | v :: w :: vs, p :: q :: ps, [], s, ⟨_, h⟩ => h.elim
  | v :: vs, p :: ps, t :: ss, s, ⟨a, r⟩ => by
    obtain ⟨ys, u, qs, q, e, e2, h1, h2⟩ := StL.last (ss := ss) r
    exact ⟨v :: ys, u, p :: qs, q, by rw [e]; rfl, by rw [e2]; rfl, ⟨a, h1⟩, h2⟩
def lgO (x : It) : List Leg := (legsL x.2).map fun y => (x.1 ++ y.1, y.2)
def stO (ss : List It) : List Leg := (ss.reverse.map lgO).flatten
def stW (ss : List It) : Nat := (ss.map fun x => rws x.2).sum
theorem stO_app (ss : List It) (s : It) : stO (ss ++ [s]) = lgO s ++ stO ss := by simp [stO]
theorem stW_app (ss : List It) (s : It) : stW (ss ++ [s]) = stW ss + rws s.2 := by simp [stW]
theorem len_stW : ∀ ss : List It, ss.length ≤ stW ss
  | [] => Nat.le_refl _
  | s :: ss => by have := len_stW ss; have := rws_pos s.2; simp only [stW, List.map_cons, List.sum_cons, List.length_cons] at *; omega
theorem lgO_menu (qs : List (Pk × Sn)) (l r : Sn) : lgO (qs, .menu l r) = lgO (qs, l) ++ lgO (qs, r) := by simp [lgO, legsL]
theorem lgO_trade (qs : List (Pk × Sn)) (k : Pk) (p g : Sn) : lgO (qs, .trade k p g) = lgO (qs ++ [(k, p)], g) := by
  simp only [lgO, legsL, List.map_map]
  congr 1
  funext y
  simp
theorem lgO_word (qs : List (Pk × Sn)) (z : Str) : lgO (qs, .word z) = [(qs, z)] := by simp [lgO, legsL]
section
variable {P : Program} {w : World} {K : PySem.W.Frag} {mg : Str → Option Value} {base : Heap}
def spLLegs : Sp := fun vs H Q _ => ∃ v s, vs = [v] ∧ SnV H v s ∧ rws s ≤ 100000 ∧ ∀ l vs ps H', Same H H' → H' l = some (.lst vs) → LgsV H' vs ps (legsL s) → Q (.ref l) H'
theorem ok_llegs (T : Top K mg "_law_legs" s_l_legs) (mL : mg "list" = none) : Fn P w K mg base 1 "_law_legs" spLLegs := by
  refine fn_ok T sc_l_legs so_l_legs (fun vs H Q E h => by obtain ⟨v, s, rfl, _⟩ := h; rfl) (fun _ _ _ _ _ _ us hl => match us, hl with | [_], _ => rfl) fun f cdv A outer s H vs Q E hr h nd => ?_
  obtain ⟨v, s, rfl, hv, hz, q⟩ := h
  walk_at "sts"
  refine ⟨by show 0 ≤ sizeLine; decide, fun f H1 e1 nf hf => ?_⟩
  walk_at "sts"
  refine ⟨by show 0 ≤ sizeLine; decide, fun p0 H2 e2 np0 hp0 => ?_⟩
  walk_at "sts"
  refine ⟨by show 2 ≤ sizeLine; decide, fun t0 H3 e3 nt0 ht0 => ?_⟩
  walk_at "sts"
  refine ⟨by show 1 ≤ sizeLine; decide, fun g H4 e4 ng hg => ?_⟩
  have e24 := e3.trans e4
  have e04 := e1.trans (e2.trans e24)
  have fp : p0 ≠ f := fun e => by subst e; rw [hf] at np0; cases np0
  have gp : p0 ≠ g := fun e => by subst e; rw [e3 _ _ hp0] at ng; cases ng
  have fg : f ≠ g := fun e => by subst e; rw [e3 _ _ (e2 _ _ hf)] at ng; cases ng
  have ng0 : H g = none := none_of (e1.trans (e2.trans e3)) ng
  walk_at "sts"
  refine s_whileN (fun n σ H' => ∃ y y2 xs ps ss vs qs acc, σ = [some v, some (.ref f), some (.ref g), y, y2] ∧ Same H H' ∧ H' f = some (.lst vs) ∧ H' g = some (.lst xs) ∧ StL H' xs ps ss ∧ LgsV H' vs qs acc ∧ (∀ p ∈ ps, p ≠ f ∧ p ≠ g) ∧ (∀ p ∈ qs, p ≠ f ∧ p ≠ g) ∧ acc ++ stO ss = legsL s ∧ n = stW ss ∧ acc.length + stW ss ≤ rws s ∧ ∀ x ∈ ss, x.1.length + rws x.2 ≤ rws s)
    (rws s) ⟨_, _, [.ref t0], [p0], [([], s)], [], [], [], rfl, e04, (e2.trans e24) _ _ hf, hg, ⟨⟨t0, [], v, rfl, e4 _ _ ht0, e24 _ _ hp0, trivial, hv.ts (Same.ts e04)⟩, trivial⟩, trivial, by simpa using ⟨fp, gp⟩, by simp, by simp [stO, lgO], by simp [stW], by simp [stW], by simp⟩ fun n σ H5 hW => ?_
  obtain ⟨y, y2, xs, ps, ss, vs, qs, acc, rfl, e5, hf5, hg5, hst, hac, np, nq, hn, rfl, hle, hb⟩ := hW
  refine t_tru ?_
  walk_at "sts"
  refine ⟨_, tru_l hg5, ?_⟩
  rcases snoc_or ss with rfl | ⟨ss, s1, rfl⟩
  · have hx : xs = [] := List.eq_nil_of_length_eq_zero (by rw [hst.len]; rfl)
    subst hx
    refine iteF ?_
    rw [show stO [] = [] from rfl, List.append_nil] at hn
    subst hn
    walk_at "sts"
    exact q f vs qs H5 e5 hf5 hac
  · obtain ⟨xs, v1, ps, p, rfl, rfl, hs2, hv1⟩ := hst.last
    clear hst
    obtain ⟨qs1, s1⟩ := s1
    rw [stO_app] at hn
    rw [stW_app] at hle
    rw [stW_app]
    have hb1 := hb (qs1, s1) (by simp)
    have hb2 : ∀ x ∈ ss, x.1.length + rws x.2 ≤ rws s := fun x hx => hb x (by simp [hx])
    have npp := np p (by simp)
    have np2 : ∀ p ∈ ps, p ≠ f ∧ p ≠ g := fun x hx => np x (by simp [hx])
    clear hb np
    refine ite_t (by simp) ?_
    refine l_cons (s_set (e_pop ?_))
    walk_at "sts"
    refine ⟨g, xs, v1, rfl, hg5, ?_⟩
    replace hv1 := hv1.upd (o := .lst xs) hg5 npp.2
    replace hs2 := hs2.upd (o := .lst xs) hg5 fun x hx => (np2 x hx).2
    replace hac := hac.upd (o := .lst xs) hg5 fun x hx => (nq x hx).2
    have hf6 : (upd H5 g (.lst xs)) f = some (.lst vs) := by rw [upd_ne fg]; exact hf5
    have e6 : Same H (upd H5 g (.lst xs)) := updS e5 ng0
    have hg6 : (upd H5 g (.lst xs)) g = some (.lst xs) := upd_same
    generalize upd H5 g (.lst xs) = H6 at *
    have hll := len_stW ss
    have hlx := hs2.len
    obtain ⟨t, zs, u, rfl, ht, hpz, hzs, hu⟩ := hv1
    have hzl := hzs.len
    walk_at "sts"
    refine ix_t (by exact SqT.of (ht)) rfl ?_
    walk_at "sts"
    cases s1 with
    | word z =>
      obtain ⟨t1, rfl, ht1⟩ := hu
      rw [lgO_word] at hn
      simp only [rws] at hle hb1 ⊢
      refine ix_t (by exact SqT.of (ht1)) rfl ?_
      walk_at "sts"
      refine e_app ?_
      walk_at "sts"
      refine ⟨f, _, rfl, SqL.of hf6, ?_⟩
      walk_at "sts"
      refine ix_t (by exact SqT.of (ht)) rfl ?_
      walk_at "sts"
      refine ix_t (by exact SqT.of (ht1)) rfl ?_
      walk_at "sts"
      refine ⟨by show 2 ≤ sizeLine; decide, fun nt H7 e7 nnt hnt => ?_⟩
      have hf7 := e7 _ _ hf6
      refine ⟨vs, hf7, by rw [hac.len]; show acc.length < 2 ^ 24; omega, ?_⟩
      have h1 : LgsV H7 [V.ref nt] [p] [(qs1, z)] := ⟨⟨nt, zs, rfl, hnt, e7 _ _ hpz, hzs.ts (Same.ts e7)⟩, trivial⟩
      refine l_nil (l_nil ⟨stW ss, by omega, _, _, xs, ps, ss, vs ++ [.ref nt], qs ++ [p], acc ++ [(qs1, z)], rfl, updS (e6.trans e7) nf, upd_same, by rw [upd_ne fg.symm]; exact e7 _ _ hg6, (hs2.up e7).upd hf7 (fun x hx => (np2 x hx).1), ((hac.up e7).cat h1).upd hf7 (fun x hx => ?_), np2, fun x hx => ?_, by rw [List.append_assoc]; exact hn, rfl, by simp only [List.length_append, List.length_cons, List.length_nil]; omega, hb2⟩)
      · rcases List.mem_append.mp hx with h | h
        · exact (nq x h).1
        · simp only [List.mem_singleton] at h
          subst h
          exact npp.1
      · rcases List.mem_append.mp hx with h | h
        · exact nq x h
        · simp only [List.mem_singleton] at h
          subst h
          exact npp
    | menu l r =>
      obtain ⟨t1, a, b, rfl, ht1, ha, hb⟩ := hu
      rw [lgO_menu] at hn
      simp only [rws] at hle hb1 ⊢
      refine ix_t (by exact SqT.of (ht1)) rfl ?_
      walk_at "sts"
      refine ix_t (by exact SqT.of (ht1)) rfl ?_
      walk_at "sts"
      refine e_app ?_
      walk_at "sts"
      refine ⟨g, _, rfl, SqL.of hg6, ?_⟩
      walk_at "sts"
      refine e_callTy (x := "list") (by exact mL) b_list ?_
      walk_at "sts"
      refine ix_t (by exact SqT.of (ht)) rfl ?_
      walk_at "sts"
      refine c_listL hpz fun p7 H7 e7 n7 h7 => ?_
      walk_at "sts"
      have ht17 := e7 _ _ ht1
      refine ix_t (by exact SqT.of (ht17)) rfl ?_
      walk_at "sts"
      refine ⟨by show 2 ≤ sizeLine; decide, fun t8 H8 e8 n8 h8 => ?_⟩
      have e68 := e7.trans e8
      have hg8 := e68 _ _ hg6
      have hf8 := e68 _ _ hf6
      refine ⟨xs, hg8, by rw [hlx]; show ss.length < 2 ^ 24; omega, ?_⟩
      have g7 : p7 ≠ g := fun e => by subst e; rw [hg6] at n7; cases n7
      have f7 : p7 ≠ f := fun e => by subst e; rw [hf6] at n7; cases n7
      have i8 : ItV H8 (.ref t8) p7 (qs1, r) := ⟨t8, zs, b, rfl, h8, e8 _ _ h7, hzs.ts (Same.ts e68), hb.ts (Same.ts e68)⟩
      have i9 := i8.upd (o := .lst (xs ++ [.ref t8])) hg8 g7
      have s9 := (hs2.up e68).upd (o := .lst (xs ++ [.ref t8])) hg8 fun x hx => (np2 x hx).2
      have a9 := (hac.up e68).upd (o := .lst (xs ++ [.ref t8])) hg8 fun x hx => (nq x hx).2
      have ht9 := TS.upd (o := .lst (xs ++ [.ref t8])) hg8 _ _ (e68 _ _ ht)
      have ht19 := TS.upd (o := .lst (xs ++ [.ref t8])) hg8 _ _ (e68 _ _ ht1)
      have hp9 : (upd H8 g (.lst (xs ++ [.ref t8]))) p = some (.lst zs) := by rw [upd_ne npp.2]; exact e68 _ _ hpz
      have hz9 := hzs.ts ((Same.ts e68).trans (TS.upd (o := .lst (xs ++ [.ref t8])) hg8))
      have ha9 := ha.ts ((Same.ts e68).trans (TS.upd (o := .lst (xs ++ [.ref t8])) hg8))
      have hf9 : (upd H8 g (.lst (xs ++ [.ref t8]))) f = some (.lst vs) := by rw [upd_ne fg]; exact hf8
      have e9 : Same H (upd H8 g (.lst (xs ++ [.ref t8]))) := updS (e6.trans e68) ng0
      have hg9 : (upd H8 g (.lst (xs ++ [.ref t8]))) g = some (.lst (xs ++ [.ref t8])) := upd_same
      generalize upd H8 g (.lst (xs ++ [.ref t8])) = H9 at *
      refine l_cons (s_expr (e_app ?_))
      walk_at "sts"
      refine ⟨g, _, rfl, SqL.of hg9, ?_⟩
      walk_at "sts"
      refine e_callTy (x := "list") (by exact mL) b_list ?_
      walk_at "sts"
      refine ix_t (by exact SqT.of (ht9)) rfl ?_
      walk_at "sts"
      refine c_listL hp9 fun pa Ha ea na ha' => ?_
      walk_at "sts"
      have ht1a := ea _ _ ht19
      refine ix_t (by exact SqT.of (ht1a)) rfl ?_
      walk_at "sts"
      refine ⟨by show 2 ≤ sizeLine; decide, fun tb Hb eb nb hb' => ?_⟩
      have e9b := ea.trans eb
      have hgb := e9b _ _ hg9
      refine ⟨_, hgb, by rw [List.length_append, hlx]; show ss.length + 1 < 2 ^ 24; omega, ?_⟩
      have ga : pa ≠ g := fun e => by subst e; rw [hg9] at na; cases na
      have fa : pa ≠ f := fun e => by subst e; rw [hf9] at na; cases na
      have ib : ItV Hb (.ref tb) pa (qs1, l) := ⟨tb, zs, a, rfl, hb', eb _ _ ha', hz9.ts (Same.ts e9b), ha9.ts (Same.ts e9b)⟩
      have nall : ∀ x ∈ ps ++ [p7] ++ [pa], x ≠ f ∧ x ≠ g := fun x hx => by
        simp only [List.mem_append, List.mem_singleton] at hx
        rcases hx with (h | h) | h
        · exact np2 x h
        · subst h; exact ⟨f7, g7⟩
        · subst h; exact ⟨fa, ga⟩
      refine l_nil (l_nil (l_nil ⟨stW ss + rws r + rws l, by omega, _, _, xs ++ [.ref t8] ++ [.ref tb], ps ++ [p7] ++ [pa], ss ++ [(qs1, r)] ++ [(qs1, l)], vs, qs, acc, rfl, updS (e9.trans e9b) ng0, by rw [upd_ne fg]; exact e9b _ _ hf9, upd_same, StL.upd hgb (fun x hx => (nall x hx).2) (((s9.app i9).up e9b).app ib), (a9.up e9b).upd hgb (fun x hx => (nq x hx).2), nall, nq, by rw [stO_app, stO_app]; simpa [List.append_assoc] using hn, by rw [stW_app, stW_app], by rw [stW_app, stW_app]; show acc.length + (stW ss + rws r + rws l) ≤ _; omega, fun x hx => ?_⟩))
      simp only [List.mem_append, List.mem_singleton] at hx
      rcases hx with (h | h) | h
      · exact hb2 x h
      · subst h; show qs1.length + rws r ≤ _; omega
      · subst h; show qs1.length + rws l ≤ _; omega
    | trade k l r =>
      obtain ⟨t1, m, a, b, rfl, ht1, hm, ha, hb⟩ := hu
      rw [lgO_trade] at hn
      simp only [rws] at hle hb1 ⊢
      refine ix_t (by exact SqT.of (ht1)) rfl ?_
      walk_at "sts"
      refine ix_t (by exact SqT.of (ht1)) rfl ?_
      walk_at "sts"
      refine e_app ?_
      walk_at "sts"
      refine ⟨g, _, rfl, SqL.of hg6, ?_⟩
      walk_at "sts"
      refine ix_t (by exact SqT.of (ht)) rfl ?_
      walk_at "sts"
      refine ix_t (by exact SqT.of (ht1)) rfl ?_
      walk_at "sts"
      refine ix_t (by exact SqT.of (ht1)) rfl ?_
      walk_at "sts"
      refine ⟨by show 2 ≤ sizeLine; decide, fun t7 H7 e7 n7 h7 => ?_⟩
      walk_at "sts"
      refine ⟨by show 1 ≤ sizeLine; decide, fun l7 H8 e8 n8 h8 => ?_⟩
      walk_at "sts"
      have e68 := e7.trans e8
      refine o_cat2 (e68 _ _ hpz) h8 (by rw [hzl]; simp only [List.length_cons, List.length_nil]; omega) fun p9 H9 e9 n9 h9 => ?_
      have e69 := e68.trans e9
      walk_at "sts"
      have ht19 := e69 _ _ ht1
      refine ix_t (by exact SqT.of (ht19)) rfl ?_
      walk_at "sts"
      refine ⟨by show 2 ≤ sizeLine; decide, fun ta Ha ea na hta => ?_⟩
      have e6a := e69.trans ea
      have hga := e6a _ _ hg6
      refine ⟨xs, hga, by rw [hlx]; show ss.length < 2 ^ 24; omega, ?_⟩
      have n96 : H6 p9 = none := none_of e68 n9
      have g9 : p9 ≠ g := fun e => by subst e; rw [hg6] at n96; cases n96
      have f9 : p9 ≠ f := fun e => by subst e; rw [hf6] at n96; cases n96
      have ia : ItV Ha (.ref ta) p9 (qs1 ++ [(k, l)], r) := ⟨ta, _, b, rfl, hta, ea _ _ h9, (hzs.ts (Same.ts e6a)).cat ⟨⟨t7, m, a, rfl, (e8.trans (e9.trans ea)) _ _ h7, hm.ts (Same.ts e6a), ha.ts (Same.ts e6a)⟩, trivial⟩, hb.ts (Same.ts e6a)⟩
      have nall : ∀ x ∈ ps ++ [p9], x ≠ f ∧ x ≠ g := fun x hx => by
        simp only [List.mem_append, List.mem_singleton] at hx
        rcases hx with h | h
        · exact np2 x h
        · subst h; exact ⟨f9, g9⟩
      refine l_nil (l_nil (l_nil ⟨stW ss + rws r, by omega, _, _, xs ++ [.ref ta], ps ++ [p9], ss ++ [(qs1 ++ [(k, l)], r)], vs, qs, acc, rfl, updS (e6.trans e6a) ng0, by rw [upd_ne fg]; exact e6a _ _ hf6, upd_same, StL.upd hga (fun x hx => (nall x hx).2) ((hs2.up e6a).app ia), (hac.up e6a).upd hga (fun x hx => (nq x hx).2), nall, nq, by rw [stO_app]; exact hn, by rw [stW_app], by rw [stW_app]; show acc.length + (stW ss + rws r) ≤ _; omega, fun x hx => ?_⟩))
      simp only [List.mem_append, List.mem_singleton] at hx
      rcases hx with h | h
      · exact hb2 x h
      · subst h; simp only [List.length_append, List.length_cons, List.length_nil]; omega
end


section
variable {P : Program} {w : World} {K : PySem.W.Frag} {mg : Str → Option Value} {base : Heap}
theorem ok_size (T : Top K mg "size" s_size) (mLen : mg "len" = none) (F : Fn P w K mg base 1 "names_within" spNames) : Fn P w K mg base 2 "size" (fun vs H Q _ => ∃ v s, vs = [v] ∧ SnV H v s ∧ rws s ≤ 100000 ∧ ∀ H', Same H H' → Q (.int (nms s).length) H') := by
  refine fn_ok T sc_size so_size (fun vs H Q E h => by obtain ⟨v, s, rfl, _⟩ := h; rfl) (fun _ _ _ _ _ _ us hl => match us, hl with | [_], _ => rfl) fun f cdv A outer s H vs Q E hr h nd => ?_
  obtain ⟨v, s, rfl, hv, hz, q⟩ := h
  walk_at "sts"
  refine e_call (by exact F) (by exact hr) (by decide) ?_
  walk_at "sts"
  refine ⟨v, s, rfl, hv, hz, fun l H1 e1 n1 h1 => ?_⟩
  walk_at "sts"
  refine c_lenL (by exact SqL.of h1) ?_
  rw [show ((sVs (nms s)).length : Int) = ((nms s).length : Int) by simp [sVs]]
  exact q H1 e1
/-! ### the different words -/
def addU (l : List Str) (z : Str) : List Str := if z ∈ l then l else l ++ [z]
def uniq (ns : List Str) : List Str := ns.foldl addU []
theorem uniq_take {ns : List Str} {k : Nat} {z : Str} (h : ns[k]? = some z) : uniq (ns.take (k + 1)) = addU (uniq (ns.take k)) z := by
  rw [List.take_add_one, h]
  simp [uniq]
theorem addU_len (l : List Str) (z : Str) : (addU l z).length ≤ l.length + 1 := by
  unfold addU
  split <;> simp
theorem uniq_len : ∀ (ns : List Str) (l : List Str), (ns.foldl addU l).length ≤ l.length + ns.length
  | [], l => Nat.le_refl _
  | z :: ns, l => by
    have := uniq_len ns (addU l z)
    have := addU_len l z
    simp only [List.foldl_cons, List.length_cons]
    omega
def dKs (l : List Str) : List (Key × V) := l.map fun z => (Sum.inr z, .bl true)
theorem dKs_put (l : List Str) (z : Str) : putK (dKs l) (Sum.inr z) (.bl true) = dKs (addU l z) := by
  unfold putK addU
  have e : ((dKs l).any fun kv => decide (kv.1 = Sum.inr z)) = decide (z ∈ l) := by
    rw [Bool.eq_iff_iff, List.any_eq_true, decide_eq_true_iff]
    constructor
    · rintro ⟨kv, h, hz⟩
      simp only [dKs, List.mem_map] at h
      obtain ⟨y, hy, rfl⟩ := h
      have e2 : y = z := by simpa using hz
      exact e2 ▸ hy
    · intro h
      exact ⟨(Sum.inr z, .bl true), by simp only [dKs, List.mem_map]; exact ⟨z, h, rfl⟩, by simp⟩
  rw [e]
  by_cases h : z ∈ l
  · rw [if_pos (by simpa using h), if_pos h]
    unfold dKs
    rw [List.map_map]
    apply List.map_congr_left
    intro x _
    show (if (Sum.inr x : Key) = Sum.inr z then ((Sum.inr x : Key), V.bl true) else (Sum.inr x, .bl true)) = _
    split <;> rfl
  · rw [if_neg (by simpa using h), if_neg h]
    simp [dKs]
theorem sVs_get {l : List Str} {k : Nat} {v : V} (h : (sVs l)[k]? = some v) : ∃ z, l[k]? = some z ∧ v = .str z := by
  simp only [sVs, List.getElem?_map] at h
  cases hz : l[k]? with
  | none => rw [hz] at h; cases h
  | some z => rw [hz] at h; cases h; exact ⟨z, rfl, rfl⟩
theorem ok_words_in (T : Top K mg "words_in" s_words_in) (mL : mg "list" = none) (F : Fn P w K mg base 1 "names_within" spNames) : Fn P w K mg base 2 "words_in" (fun vs H Q _ => ∃ v s, vs = [v] ∧ SnV H v s ∧ rws s ≤ 100000 ∧ ∀ l H', Same H H' → H l = none → H' l = some (.lst (sVs (uniq (nms s)))) → Q (.ref l) H') := by
  refine fn_ok T sc_words_in so_words_in (fun vs H Q E h => by obtain ⟨v, s, rfl, _⟩ := h; rfl) (fun _ _ _ _ _ _ us hl => match us, hl with | [_], _ => rfl) fun f cdv A outer s H vs Q E hr h nd => ?_
  obtain ⟨v, s, rfl, hv, hz, q⟩ := h
  have hn := nms_rws s
  walk_at "sts"
  refine e_dict fun d H1 e1 nd1 hd => ?_
  walk_at "sts"
  refine s_forL ?_
  refine e_call (by exact F) (by exact hr) (by decide) ?_
  walk_at "sts"
  refine ⟨v, s, rfl, hv.ts (Same.ts e1), hz, fun l H2 e2 n2 h2 => ?_⟩
  have hd2 := e2 _ _ hd
  have dl : d ≠ l := fun e => by subst e; rw [hd] at n2; cases n2
  refine ⟨l, _, rfl, SqL.of h2, fun k σ H' => ∃ y, σ = [some v, some (.ref d), y] ∧ Same H H' ∧ H' d = some (.dK (dKs (uniq ((nms s).take k)))) ∧ H' l = some (.lst (sVs (nms s))), ⟨_, rfl, e1.trans e2, hd2, h2⟩, fun k σ H' _ hW => ?_, fun k x σ H3 hk hW => ?_, fun σ H3 hW => ?_⟩
  · obtain ⟨y, rfl, _, _, h⟩ := hW
    exact SqL.of h
  · obtain ⟨y, rfl, e3, hd3, hl3⟩ := hW
    obtain ⟨z, hz2, rfl⟩ := sVs_get hk
    refine l_cons (s_dput (show (A.deeper (envOfC _ _ _ f cdv)).units + 1 < cLine from by have := hr.un; omega) ?_)
    walk_at "sts"
    have hlen : (dKs (uniq ((nms s).take k))).length < sizeLine := by
      have h1 := uniq_len ((nms s).take k) []
      simp only [dKs, List.length_map]
      show (uniq _).length < 2 ^ 24
      have h2 : ((nms s).take k).length ≤ (nms s).length := by simp [List.length_take]; omega
      unfold uniq
      simp only [List.length_nil] at h1
      omega
    refine ⟨d, _, rfl, DPut.k (k := Sum.inr z) hd3 hlen, ?_⟩
    refine l_nil ⟨_, rfl, updS e3 nd1, by rw [upd_same, dKs_put, uniq_take hz2], by rw [upd_ne dl.symm]; exact hl3⟩
  · obtain ⟨y, rfl, e3, hd3, hl3⟩ := hW
    rw [show (sVs (nms s)).length = (nms s).length by simp [sVs], List.take_length] at hd3
    walk_at "sts"
    refine e_callTy (x := "list") (by exact mL) b_list ?_
    walk_at "sts"
    refine c_of (call_list_dK rfl) ⟨d, _, rfl, hd3, fun r nr => ?_⟩
    refine q r _ (fun c u eo => ?_) (none_of e3 nr) ?_
    · rw [upd_ne (ne_of_none (e3 _ _ eo) nr)]
      exact e3 _ _ eo
    · rw [upd_same]
      simp only [dKs, sVs, List.map_map]
      rfl
end


section
variable {P : Program} {w : World} {K : PySem.W.Frag} {mg : Str → Option Value} {base : Heap} {CB CN : Addr}
theorem ok_bk (T : TopM K CB "__init__" "BadKind.__init__" s_BadKind___init) (O : OexC K CB) (no : PySem.W.findIn K (.ref CB) "kind" = some none) (hm : mg "BadKind" = some (.ref CB)) : Er P w K mg base "BadKind" CB "kind" := by
  obtain ⟨f, fd, F, hb, hf, hi, hk⟩ := me_ok (P := P) (w := w) (mg := mg) (base := base) (k := 0) (sp := sp1 CB "kind") T sc_BadKind___init so_BadKind___init (fun vs H Q E h => by obtain ⟨a, v, rfl, _⟩ := h; rfl) (fun _ _ _ _ _ _ us hl => match us, hl with | [_, _], _ => rfl) fun f cdv A outer s H vs Q E hr h nd => by
    obtain ⟨a, v, rfl, ha, q⟩ := h
    refine l_cons (s_ost ?_)
    walk_at "sts"
    refine ⟨a, CB, rfl, O, no, ha, fun dx nd ne => ?_⟩
    refine l_nil ?_
    exact q dx nd ne
  exact ⟨O, hm, f, fd, _, F, hf, beq_iff_eq.mp hi, hb⟩
theorem ok_bn (T : TopM K CN "__init__" "BadName.__init__" s_BadName___init) (O : OexC K CN) (no : PySem.W.findIn K (.ref CN) "name" = some none) (hm : mg "BadName" = some (.ref CN)) : Er P w K mg base "BadName" CN "name" := by
  obtain ⟨f, fd, F, hb, hf, hi, hk⟩ := me_ok (P := P) (w := w) (mg := mg) (base := base) (k := 0) (sp := sp1 CN "name") T sc_BadName___init so_BadName___init (fun vs H Q E h => by obtain ⟨a, v, rfl, _⟩ := h; rfl) (fun _ _ _ _ _ _ us hl => match us, hl with | [_, _], _ => rfl) fun f cdv A outer s H vs Q E hr h nd => by
    obtain ⟨a, v, rfl, ha, q⟩ := h
    refine l_cons (s_ost ?_)
    walk_at "sts"
    refine ⟨a, CN, rfl, O, no, ha, fun dx nd ne => ?_⟩
    refine l_nil ?_
    exact q dx nd ne
  exact ⟨O, hm, f, fd, _, F, hf, beq_iff_eq.mp hi, hb⟩
def spWord (CN : Addr) : Sp := fun vs H Q E => ∃ z, vs = [.str z] ∧ z.length ≤ 1000 ∧ ((nameB z.cps.toList = true ∧ ∀ t H', Same H H' → H' t = some (.tup [.str "word", .str z]) → Q (.ref t) H') ∨
  (nameB z.cps.toList = false ∧ ∀ d H', Same H H' → H d = none → H' d = some (.xd [("name", .str z)]) → E (.ref CN) (some d) H'))
theorem ok_word (T : Top K mg "word" s_word) (R : Er P w K mg base "BadName" CN "name") (F : Fn P w K mg base 2 "is_name" spName) : FnN P w K mg base 3 "word" (spWord CN) := by
  refine fn_okN T sc_word so_word (fun vs H Q E h => by obtain ⟨z, rfl, _⟩ := h; rfl) (fun _ _ _ _ _ _ us hl => match us, hl with | [_], _ => rfl) fun f cdv A outer s H vs Q E hr h nd tk => ?_
  obtain ⟨z, rfl, hz, q⟩ := h
  walk_at "sts"
  refine e_call (by exact F) (by exact hr) (by decide) ?_
  walk_at "sts"
  refine ⟨by show z.length ≤ 2 ^ 24; omega, ?_⟩
  rcases q with ⟨hb, q⟩ | ⟨hb, q⟩
  · rw [hb]
    walk_at "sts"
    exact ⟨by show 2 ≤ sizeLine; decide, fun t H1 e1 _ ht => q t H1 e1 ht⟩
  · rw [hb]
    walk_at "sts"
    refine s_raiseN (by exact R) (by exact tk) (by exact hr) (by decide) ?_
    walk_at "sts"
    exact fun d H' e nd hd => q d H' e nd hd
def spMenu : Sp := fun vs H Q _ => ∃ a b, vs = [a, b] ∧ ∀ t H', Same H H' → H' t = some (.tup [.str "menu", a, b]) → Q (.ref t) H'
theorem ok_menu (T : Top K mg "menu" s_menu) : Fn P w K mg base 1 "menu" spMenu := by
  refine fn_ok T sc_menu so_menu (fun vs H Q E h => by obtain ⟨a, b, rfl, _⟩ := h; rfl) (fun _ _ _ _ _ _ us hl => match us, hl with | [_, _], _ => rfl) fun f cdv A outer s H vs Q E hr h nd => ?_
  obtain ⟨a, b, rfl, q⟩ := h
  walk_at "sts"
  exact ⟨by show 3 ≤ sizeLine; decide, fun t H1 e1 _ ht => q t H1 e1 ht⟩
def spTrade (K : PySem.W.Frag) (CB : Addr) : Sp := fun vs H Q E => ∃ p g m b, vs = [p, g, m] ∧ KindV K H m b ∧ ((b = true ∧ ∀ t H', Same H H' → H' t = some (.tup [.str "trade", m, p, g]) → Q (.ref t) H') ∨
  (b = false ∧ ∀ d H', Same H H' → H d = none → H' d = some (.xd [("kind", m)]) → E (.ref CB) (some d) H'))
theorem ok_trade (T : TopK K mg "trade" s_trade "kind" (.str "once")) (R : Er P w K mg base "BadKind" CB "kind") (F : Fn P w K mg base 2 "is_kind" (spKi K)) : FnKw P w K mg base 3 "trade" "kind" 2 (.str "once") (spTrade K CB) := by
  refine fn_okKw T sc_trade so_trade (fun vs H Q E h => by obtain ⟨p, g, m, b, rfl, _⟩ := h; rfl) (fun _ _ _ _ _ _ _ _ _ => ⟨_, _, _, _, _, _, rfl, rfl, rfl⟩) (fun _ _ _ _ _ _ _ _ _ => rfl) fun f cdv A outer s H vs Q E hr h nd tk => ?_
  obtain ⟨p, g, m, b, rfl, hk, q⟩ := h
  walk_at "sts"
  refine e_call (by exact F) (by exact hr) (by decide) ?_
  walk_at "sts"
  refine ⟨_, b, rfl, hk, ?_⟩
  rcases q with ⟨rfl, q⟩ | ⟨rfl, q⟩
  · walk_at "sts"
    exact ⟨by show 4 ≤ sizeLine; decide, fun t H1 e1 _ ht => q t H1 e1 ht⟩
  · walk_at "sts"
    refine s_raiseN (by exact R) (by exact tk) (by exact hr) (by decide) ?_
    walk_at "sts"
    exact fun d H' e nd hd => q d H' e nd hd
/-! ### through the program's own builders -/
def okN (z : Str) : Prop := nameB z.cps.toList = true ∧ z.length ≤ 12
def okK : Pk → Prop
  | none => True
  | some (u, v) => 1 ≤ u ∧ 0 ≤ v
def okS : Sn → Prop
  | .word z => okN z
  | .menu l r => okS l ∧ okS r
  | .trade k p g => okK k ∧ okS p ∧ okS g
theorem kindV_of {H : Hp} {m : V} {k : Pk} (hm : ModeV H m k) (hk : okK k) : KindV K H m true := by
  rcases k with _ | ⟨u, v⟩
  · exact .inr (.inl ⟨"once", hm, by simp⟩)
  · obtain ⟨t, rfl, ht⟩ := hm
    exact .inl ⟨t, _, rfl, ht, .inr ⟨.int u, .int v, true, true, rfl, .inl ⟨u, rfl, by simp [hk.1]⟩, .inl ⟨v, rfl, by simp [hk.2]⟩, rfl⟩⟩
def spThrough (n : Nat) : Sp := fun vs H Q _ => ∃ v s, vs = [v] ∧ SnV H v s ∧ okS s ∧ dep s ≤ n ∧ ∀ r H', Same H H' → SnV H' r s → Q r H'
theorem ok_throughS (n : Nat) (T : Top K mg "_law_through" s_through) (FW : FnN P w K mg base 3 "word" (spWord CN)) (FM : Fn P w K mg base 1 "menu" spMenu) (FT : FnKw P w K mg base 3 "trade" "kind" 2 (.str "once") (spTrade K CB))
    (F : ∀ m, n = m + 1 → Fn P w K mg base (m + 4) "_law_through" (spThrough m)) : Fn P w K mg base (n + 4) "_law_through" (spThrough n) := by
  refine fn_ok T sc_through so_through (fun vs H Q E h => by obtain ⟨v, s, rfl, _⟩ := h; rfl) (fun _ _ _ _ _ _ us hl => match us, hl with | [_], _ => rfl) fun f cdv A outer s H vs Q E hr h nd => ?_
  obtain ⟨v, s, rfl, hv, ho, hd, q⟩ := h
  cases s with
  | word z =>
    obtain ⟨t, rfl, ht⟩ := hv
    walk_at "sts"
    refine ix_t (by exact SqT.of (ht)) rfl ?_
    walk_at "sts"
    refine e_callN (by exact FW) takesN0 (by exact hr) (by omega) ?_
    walk_at "sts"
    refine ix_t (by exact SqT.of (ht)) rfl ?_
    walk_at "sts"
    exact ⟨by have := ho.2; omega, .inl ⟨ho.1, fun r H' e h => q _ H' e ⟨r, rfl, h⟩⟩⟩
  | menu l r =>
    obtain ⟨t, a, b, rfl, ht, ha, hb⟩ := hv
    obtain ⟨m, rfl⟩ : ∃ m, n = m + 1 := ⟨n - 1, by simp only [dep] at hd; omega⟩
    simp only [dep] at hd
    have F0 := F m rfl
    walk_at "sts"
    refine ix_t (by exact SqT.of (ht)) rfl ?_
    walk_at "sts"
    refine e_call (by exact F0) (by exact hr) (by omega) ?_
    walk_at "sts"
    refine ix_neg (by exact ht) rfl ?_
    walk_at "sts"
    refine ⟨a, l, rfl, ha, ho.1, by omega, fun r1 H1 e1 h1 => ?_⟩
    have ht1 := e1 _ _ ht
    walk_at "sts"
    refine e_call (by exact F0) (by exact hr) (by omega) ?_
    walk_at "sts"
    refine ix_neg (by exact ht1) rfl ?_
    walk_at "sts"
    refine ⟨b, r, rfl, hb.ts (Same.ts e1), ho.2, by omega, fun r2 H2 e2 h2 => ?_⟩
    have ht2 := e2 _ _ ht1
    walk_at "sts"
    refine ix_t (by exact SqT.of (ht2)) rfl ?_
    walk_at "sts"
    refine e_call (by exact FM) (by exact hr) (by omega) ?_
    walk_at "sts"
    refine ⟨r1, r2, rfl, fun u H3 e3 h3 => ?_⟩
    exact q _ H3 (e1.trans (e2.trans e3)) ⟨u, r1, r2, rfl, h3, h1.ts (Same.ts (e2.trans e3)), h2.ts (Same.ts e3)⟩
  | trade k l r =>
    obtain ⟨t, md, a, b, rfl, ht, hm, ha, hb⟩ := hv
    obtain ⟨m, rfl⟩ : ∃ m, n = m + 1 := ⟨n - 1, by simp only [dep] at hd; omega⟩
    simp only [dep] at hd
    obtain ⟨ok, ol, or⟩ := ho
    have F0 := F m rfl
    walk_at "sts"
    refine ix_t (by exact SqT.of (ht)) rfl ?_
    walk_at "sts"
    refine e_call (by exact F0) (by exact hr) (by omega) ?_
    walk_at "sts"
    refine ix_neg (by exact ht) rfl ?_
    walk_at "sts"
    refine ⟨a, l, rfl, ha, ol, by omega, fun r1 H1 e1 h1 => ?_⟩
    have ht1 := e1 _ _ ht
    walk_at "sts"
    refine e_call (by exact F0) (by exact hr) (by omega) ?_
    walk_at "sts"
    refine ix_neg (by exact ht1) rfl ?_
    walk_at "sts"
    refine ⟨b, r, rfl, hb.ts (Same.ts e1), or, by omega, fun r2 H2 e2 h2 => ?_⟩
    have ht2 := e2 _ _ ht1
    have hm2 := hm.ts (Same.ts (e1.trans e2))
    walk_at "sts"
    refine ix_t (by exact SqT.of (ht2)) rfl ?_
    walk_at "sts"
    refine ix_t (by exact SqT.of (ht2)) rfl ?_
    walk_at "sts"
    rcases k with _ | ⟨u, v⟩
    · obtain rfl : md = .str "once" := hm
      walk_at "sts"
      refine e_callD (by exact FT) takesN0 (by exact hr) (by omega) ?_
      walk_at "sts"
      refine ⟨r1, r2, .str "once", true, rfl, kindV_of (k := none) rfl trivial, .inl ⟨rfl, fun u H3 e3 h3 => ?_⟩⟩
      exact q _ H3 (e1.trans (e2.trans e3)) ⟨u, _, r1, r2, rfl, h3, rfl, h1.ts (Same.ts (e2.trans e3)), h2.ts (Same.ts e3)⟩
    · obtain ⟨tm, rfl, htm⟩ := hm2
      refine o_eqPS (by exact hr) htm once_shaped ?_
      walk_at "sts"
      refine e_callK (by exact FT) takesN0 (by exact hr) (by omega) ?_
      walk_at "sts"
      refine ix_t (by exact SqT.of (ht2)) rfl ?_
      walk_at "sts"
      refine ⟨rfl, r1, r2, .ref tm, true, rfl, kindV_of (k := some (u, v)) ⟨tm, rfl, htm⟩ ok, .inl ⟨rfl, fun u' H3 e3 h3 => ?_⟩⟩
      exact q _ H3 (e1.trans (e2.trans e3)) ⟨u', _, r1, r2, rfl, h3, ⟨tm, rfl, e3 _ _ htm⟩, h1.ts (Same.ts (e2.trans e3)), h2.ts (Same.ts e3)⟩
theorem ok_through (T : Top K mg "_law_through" s_through) (FW : FnN P w K mg base 3 "word" (spWord CN)) (FM : Fn P w K mg base 1 "menu" spMenu) (FT : FnKw P w K mg base 3 "trade" "kind" 2 (.str "once") (spTrade K CB)) : ∀ n, Fn P w K mg base (n + 4) "_law_through" (spThrough n)
  | 0 => ok_throughS 0 T FW FM FT fun m h => by cases h
  | n + 1 => ok_throughS (n + 1) T FW FM FT fun m h => by cases h; exact ok_through T FW FM FT n
end


/-! ### texts by their codes -/
abbrev cs (z : Str) : List Nat := z.cps.toList
theorem len_cs (z : Str) : z.length = (cs z).length := by
  show z.cps.size = z.cps.toList.length
  rw [Array.length_toList]
theorem cs_app (x y : Str) : cs (x ++ y) = cs x ++ cs y := by
  show (x.cps ++ y.cps).toList = _
  exact Array.toList_append
theorem cut_hi (z : Str) (j : Nat) : cs (cutS z none (some (j : Int))) = (cs z).take j := by
  unfold cutS
  rw [HT.sIx_nat, HT.sIx_none]
  show ((cs z).drop 0).take (min j z.length - 0) = _
  rw [List.drop_zero, Nat.sub_zero, len_cs]
  by_cases h : j ≤ (cs z).length
  · rw [Nat.min_eq_left h]
  · rw [Nat.min_eq_right (by omega), List.take_length, List.take_of_length_le (by omega)]
theorem cut_lo (z : Str) (j : Nat) : cs (cutS z (some (j : Int)) none) = (cs z).drop j := by
  unfold cutS
  rw [HT.sIx_nat, HT.sIx_none]
  show ((cs z).drop (min j z.length)).take (z.length - min j z.length) = _
  rw [len_cs]
  by_cases h : j ≤ (cs z).length
  · rw [Nat.min_eq_left h, List.take_of_length_le (by simp)]
  · rw [Nat.min_eq_right (by omega), Nat.sub_self, List.take_zero, List.drop_eq_nil_of_le (by omega)]
theorem ceq {x y : Str} (h : cs x = cs y) : x = y := by
  cases x with | mk a => cases y with | mk b => exact congrArg _ (Array.toList_inj.mp h)
def ok1 (c : Nat) : Bool := let1 c || dig1 c
/-- the codes of a name -/
def Nm (l : List Nat) : Prop := (∃ c t, l = c :: t ∧ let1 c = true) ∧ (∀ x ∈ l, ok1 x = true) ∧ l.length ≤ 12
theorem Nm.b {l : List Nat} (h : Nm l) : nameB l = true := by
  obtain ⟨⟨c, t, rfl, hc⟩, ha, hl⟩ := h
  unfold nameB
  have h2 : ((c :: t).all fun c => let1 c || dig1 c) = true := by
    rw [List.all_eq_true]
    exact fun x hx => ha x hx
  rw [h2]
  simp only [List.head?_cons, Option.map_some, Option.getD_some, hc, List.length_cons] at hl ⊢
  simp
  omega
theorem Nm.ok {z : Str} (h : Nm (cs z)) : okN z := ⟨h.b, by rw [len_cs]; exact h.2.2⟩
theorem okN.nm {z : Str} (h : okN z) : Nm (cs z) := by
  obtain ⟨h, hl⟩ := h
  rw [len_cs] at hl
  have h : nameB (cs z) = true := h
  generalize cs z = l at *
  unfold nameB at h
  simp only [Bool.and_eq_true, decide_eq_true_eq, List.all_eq_true] at h
  obtain ⟨⟨h1, _⟩, h3, h4⟩ := h
  cases l with
  | nil => simp at h1
  | cons c t => exact ⟨⟨c, t, rfl, by simpa using h3⟩, h4, hl⟩
theorem Nm.len {l : List Nat} (h : Nm l) : 1 ≤ l.length := by
  obtain ⟨⟨c, t, rfl, _⟩, _⟩ := h
  simp
theorem ok1_of {c : Nat} (h : let1 c = true) : ok1 c = true := by unfold ok1; rw [h]; rfl
theorem Nm.put {l : List Nat} {c : Nat} {j : Nat} (h : Nm l) (hc : let1 c = true) (hj : j < l.length) : Nm (l.take j ++ [c] ++ l.drop (j + 1)) := by
  obtain ⟨⟨a, t, rfl, ha⟩, hall, hl⟩ := h
  refine ⟨?_, fun x hx => ?_, ?_⟩
  · cases j with
    | zero => exact ⟨c, _, rfl, hc⟩
    | succ j => exact ⟨a, _, rfl, ha⟩
  · simp only [List.mem_append, List.mem_singleton] at hx
    rcases hx with (h | h) | h
    · exact hall x (List.mem_of_mem_take h)
    · subst h; exact ok1_of hc
    · exact hall x (List.mem_of_mem_drop h)
  · simp only [List.length_append, List.length_take, List.length_drop, List.length_cons, List.length_nil] at *
    omega
theorem Nm.more {l : List Nat} {c : Nat} (h : Nm l) (hc : ok1 c = true) (hl : l.length < 12) : Nm (l ++ [c]) := by
  obtain ⟨⟨a, t, rfl, ha⟩, hall, _⟩ := h
  refine ⟨⟨a, t ++ [c], rfl, ha⟩, fun x hx => ?_, by simp only [List.length_append, List.length_cons, List.length_nil] at *; omega⟩
  rcases List.mem_append.mp hx with h | h
  · exact hall x h
  · simp only [List.mem_singleton] at h; subst h; exact hc
theorem Nm.cut {l : List Nat} {j : Nat} (h : Nm l) (hj : 1 ≤ j) : Nm (l.take j) := by
  obtain ⟨⟨a, t, rfl, ha⟩, hall, hl⟩ := h
  obtain ⟨i, rfl⟩ : ∃ i, j = i + 1 := ⟨j - 1, by omega⟩
  exact ⟨⟨a, t.take i, rfl, ha⟩, fun x hx => hall x (List.mem_of_mem_take hx), by simp only [List.length_take]; omega⟩
theorem Nm.one {c : Nat} (hc : let1 c = true) : Nm [c] := ⟨⟨c, [], rfl, hc⟩, fun x hx => by simp only [List.mem_singleton] at hx; subst hx; exact ok1_of hc, by simp⟩
theorem letters_cs : cs (Str.ofString "abcdefghijklmnopqrstuvwxyz") = List.range' 97 26 := by decide +kernel
theorem digits_cs : cs (Str.ofString "0123456789") = List.range' 48 10 := by decide +kernel
theorem let1_of {c : Nat} (h1 : 97 ≤ c) (h2 : c ≤ 122) : let1 c = true := by unfold let1; simp [h1, h2]
theorem dig1_of {c : Nat} (h1 : 48 ≤ c) (h2 : c ≤ 57) : dig1 c = true := by unfold dig1; simp [h1, h2]
theorem letter_at {d : Int} (h0 : 0 ≤ d) (h1 : d < 26) : ∃ c, atI (cs (Str.ofString "abcdefghijklmnopqrstuvwxyz")) d = some c ∧ let1 c = true := by
  obtain ⟨j, rfl⟩ := Int.eq_ofNat_of_zero_le h0
  refine ⟨97 + j, atI_nat ?_, let1_of (by omega) (by omega)⟩
  rw [letters_cs, List.getElem?_range' (by omega)]
  simp
theorem sign_at {d : Int} (h0 : 0 ≤ d) (h1 : d < 36) : ∃ c, atI (cs (Str.ofString "abcdefghijklmnopqrstuvwxyz" ++ Str.ofString "0123456789")) d = some c ∧ ok1 c = true := by
  obtain ⟨j, rfl⟩ := Int.eq_ofNat_of_zero_le h0
  rw [cs_app, letters_cs, digits_cs]
  by_cases hj : j < 26
  · refine ⟨97 + j, atI_nat ?_, ok1_of (let1_of (by omega) (by omega))⟩
    rw [List.getElem?_append_left (by simpa using hj), List.getElem?_range' (by omega)]
    simp
  · refine ⟨48 + (j - 26), atI_nat ?_, ?_⟩
    · rw [List.getElem?_append_right (by simp; omega), List.getElem?_range' (by simp; omega)]
      simp
    · unfold ok1
      rw [dig1_of (by omega) (by omega)]
      simp
section
variable {P : Program} {w : World} {K : PySem.W.Frag} {mg : Str → Option Value} {base : Heap}
theorem o_addS {X : Cx} {H : Hp} {Q : VK} {x y : Str} (hz : x.length + y.length ≤ 1000) (q : Q (.str (x ++ y)) H) : wB X .Add (.str x) (.str y) H Q := b_of op_add_str ⟨x, y, rfl, rfl, by show _ ≤ 2 ^ 24; omega, q⟩
def spMode : Sp := fun vs H Q _ => ∃ a, vs = [.ref a] ∧ PoolAt H a ∧ ∀ m k H', But a H H' → PoolAt H' a → ModeV H' m k → okK k → Q m H'
theorem PoolAt.up {H H' : Hp} {a : Addr} (e : Same H H') (h : PoolAt H a) : PoolAt H' a := let ⟨x, y, z, p⟩ := h; ⟨x, y, z, e _ _ p⟩
theorem ok_mode (T : Top K mg "_law_mode" s_mode) (F : Fn P w K mg base 1 "_law_next" spNext) : Fn P w K mg base 2 "_law_mode" spMode := by
  refine fn_ok T sc_mode so_mode (fun vs H Q E h => by obtain ⟨a, rfl, _⟩ := h; rfl) (fun _ _ _ _ _ _ us hl => match us, hl with | [_], _ => rfl) fun f cdv A outer s H vs Q E hr h nd => ?_
  obtain ⟨a, rfl, hp, q⟩ := h
  walk_at "sts"
  refine e_call (by exact F) (by exact hr) (by decide) ?_
  walk_at "sts"
  refine ⟨a, 2, rfl, by decide, by decide, hp, fun d H1 d0 d1 b1 p1 => ?_⟩
  walk_at "sts"
  refine if2 (fun _ => ?_) (fun _ => ?_)
  · walk_at "sts"
    exact q _ none H1 b1 p1 rfl trivial
  · walk_at "sts"
    refine e_call (by exact F) (by exact hr) (by decide) ?_
    walk_at "sts"
    refine ⟨a, 50, rfl, by decide, by decide, p1, fun d2 H2 e0 e1 b2 p2 => ?_⟩
    walk_at "sts"
    refine e_call (by exact F) (by exact hr) (by decide) ?_
    walk_at "sts"
    refine ⟨a, 51, rfl, by decide, by decide, p2, fun d3 H3 f0 f1 b3 p3 => ?_⟩
    walk_at "sts"
    exact ⟨by show 2 ≤ sizeLine; decide, fun t H4 e4 _ ht => q _ (some (1 + d2, d3)) H4 (((b1.trans b2).trans b3).trans (But.of e4)) (p3.up e4) ⟨t, rfl, ht⟩ ⟨by omega, f0⟩⟩
/-- a name of so many signs -/
def NmE (z : Str) (n : Nat) : Prop := Nm (cs z) ∧ (cs z).length = n
/-- the last row of the body under the test -/
def lastOf (b : List Stmt) : Stmt := match b.getD 3 (.Pass ⟨0, 0, 0, 0⟩) with
  | .If _ a _ _ => a.getD 4 (.Pass ⟨0, 0, 0, 0⟩)
  | _ => .Pass ⟨0, 0, 0, 0⟩
def spLName : Sp := fun vs H Q _ => ∃ a l ns, vs = [.ref a, .ref l] ∧ PoolAt H a ∧ l ≠ a ∧ H l = some (.lst (sVs ns)) ∧ ns.length ≤ 100 ∧ (∀ z ∈ ns, okN z) ∧ ∀ z H', But a H H' → PoolAt H' a → okN z → Q (.str z) H'
theorem sVs_at {ns : List Str} {d : Int} (h0 : 0 ≤ d) (h1 : d < ns.length) : ∃ z, z ∈ ns ∧ atI (sVs ns) d = some (.str z) := by
  obtain ⟨j, rfl⟩ := Int.eq_ofNat_of_zero_le h0
  have hj : j < ns.length := by omega
  refine ⟨ns[j], List.getElem_mem hj, atI_nat ?_⟩
  simp [sVs, hj]
theorem ok_lname (T : Top K mg "_law_name" s_name) (mLen : mg "len" = none) (mMax : mg "max" = none) (mR : mg "range" = none) (F : Fn P w K mg base 1 "_law_next" spNext) : Fn P w K mg base 2 "_law_name" spLName := by
  refine fn_ok T sc_name so_name (fun vs H Q E h => by obtain ⟨a, l, ns, rfl, _⟩ := h; rfl) (fun _ _ _ _ _ _ us hl => match us, hl with | [_, _], _ => rfl) fun f cdv A outer s H vs Q E hr h nd => ?_
  obtain ⟨a, l, ns, rfl, hp, hla, hl, hn, hok, q⟩ := h
  walk_at "sts"
  refine o_addS (by decide +kernel) ?_
  walk_at "sts"
  refine e_call (by exact F) (by exact hr) (by decide) ?_
  walk_at "sts"
  refine ⟨a, 6, rfl, by decide, by decide, hp, fun d H1 d0 d1 b1 p1 => ?_⟩
  have hl1 := b1 l _ hla hl
  -- a new one
  have new : ∀ σ, σ = [some (V.ref a), some (.ref l), some (.str (Str.ofString "abcdefghijklmnopqrstuvwxyz")), some (.str (Str.ofString "abcdefghijklmnopqrstuvwxyz" ++ Str.ofString "0123456789")), some (.int d), none, none, none] →
      wL (cxOf CX0 P w K mg base N_name (Str.ofString "_law_name") (defScope s_name) f cdv A outer s H E).nox ((defBody s_name).drop 4) { nx := fun _ H' => Q .non H', rt := Q } σ H1 := by
    rintro σ rfl
    show wL _ (_ :: _) _ _ _
    walk_at "sts"
    refine e_call (by exact F) (by exact hr) (by decide) ?_
    walk_at "sts"
    refine ⟨a, 26, rfl, by decide, by decide, p1, fun d2 H2 e0 e1 b2 p2 => ?_⟩
    walk_at "sts"
    obtain ⟨c, hc, hc1⟩ := letter_at e0 e1
    refine ix_s (by decide +kernel) hc ?_
    walk_at "sts"
    refine s_forR (by assumption) ?_
    walk_at "sts"
    refine ⟨by show 6 ≤ sizeLine; decide, fun r H3 e3 nr hr3 => ?_⟩
    walk_at "sts"
    refine e_call (by exact F) (by exact hr) (by decide) ?_
    walk_at "sts"
    refine ⟨a, 6, rfl, by decide, by decide, p2.up e3, fun d4 H4 f0 f1 b4 p4 => ?_⟩
    have ra : r ≠ a := fun e => by subst e; obtain ⟨_, _, _, p2⟩ := p2; rw [p2] at nr; cases nr
    obtain ⟨m, hm, hm2⟩ : ∃ m : Nat, atI ([.int 0, .int 0, .int 1, .int 2, .int 5, .int 11] : List V) d4 = some (.int m) ∧ m ≤ 11 := by
      obtain ⟨j, rfl⟩ := Int.eq_ofNat_of_zero_le f0
      match j, f1 with
      | 0, _ => exact ⟨0, rfl, by decide⟩
      | 1, _ => exact ⟨0, rfl, by decide⟩
      | 2, _ => exact ⟨1, rfl, by decide⟩
      | 3, _ => exact ⟨2, rfl, by decide⟩
      | 4, _ => exact ⟨5, rfl, by decide⟩
      | 5, _ => exact ⟨11, rfl, by decide⟩
    refine ix_l (by exact SqL.of (b4 r _ ra hr3)) hm ?_
    refine ⟨m, rfl, by omega, fun i σ H' => ∃ z y, σ = [some (V.ref a), some (.ref l), some (.str (Str.ofString "abcdefghijklmnopqrstuvwxyz")), some (.str (Str.ofString "abcdefghijklmnopqrstuvwxyz" ++ Str.ofString "0123456789")), some (.int d), some (.str z), none, y] ∧ But a H H' ∧ PoolAt H' a ∧ NmE z (i + 1), ⟨sg c, _, rfl, ((b1.trans b2).trans (But.of e3)).trans b4, p4, Nm.one hc1, rfl⟩, fun i σ H5 hi hW => ?_, fun σ H5 hW => ?_⟩
    · obtain ⟨z, y, rfl, b5, p5, hz, hzl⟩ := hW
      walk_at "sts"
      refine e_call (by exact F) (by exact hr) (by decide) ?_
      walk_at "sts"
      refine ⟨a, 36, rfl, by decide, by decide, p5, fun d6 H6 g0 g1 b6 p6 => ?_⟩
      walk_at "sts"
      obtain ⟨c6, hc6, hk6⟩ := sign_at g0 g1
      refine ix_s (by decide +kernel) hc6 ?_
      have hz12 := hz.2.2
      refine o_addS (by rw [len_cs, len_cs]; show (cs z).length + 1 ≤ 1000; omega) ?_
      walk_at "sts"
      have e7 : cs (z ++ sg c6) = cs z ++ [c6] := cs_app _ _
      refine ⟨z ++ sg c6, _, rfl, b5.trans b6, p6, ?_, ?_⟩
      · rw [e7]
        exact hz.more hk6 (by rw [hzl]; omega)
      · rw [e7, List.length_append, hzl]
        rfl
    · obtain ⟨z, y, rfl, b5, p5, hz, hzl⟩ := hW
      walk_at "sts"
      exact q z H5 b5 p5 hz.ok
  refine l_cons (s_if (t_w (w_and (t_tru ?_))))
  walk_at "sts"
  refine ⟨_, tru_l hl1, ?_⟩
  by_cases hns : ns = []
  · subst hns
    refine ite_f rfl ?_
    exact iteF (l_nil (new _ rfl))
  · have hpos : 0 < ns.length := List.length_pos_iff.mpr hns
    refine ite_t (by cases ns with | nil => exact absurd rfl hns | cons x xs => rfl) ?_
    walk_at "sts"
    refine if2 (fun h3 => ?_) (fun h3 => l_nil (new _ rfl))
    walk_at "sts"
    refine e_call (by exact F) (by exact hr) (by decide) ?_
    walk_at "sts"
    refine c_lenL (by exact SqL.of hl1) ?_
    rw [show (sVs ns).length = ns.length by simp [sVs]]
    walk_at "sts"
    refine ⟨a, _, rfl, by omega, by omega, p1, fun d2 H2 e0 e1 b2 p2 => ?_⟩
    obtain ⟨z, hz, hat⟩ := sVs_at e0 e1
    have hnz := (hok z hz).nm
    have hzl : z.length ≤ 12 := (hok z hz).2
    have hz1 := hnz.len
    have hzs : z.length ≤ sizeLine := by show z.length ≤ 2 ^ 24; omega
    have elen := len_cs z
    refine ix_l (by exact SqL.of (b2 l _ hla hl1)) hat ?_
    walk_at "sts"
    refine e_call (by exact F) (by exact hr) (by decide) ?_
    walk_at "sts"
    refine c_lenS hzs ?_
    walk_at "sts"
    refine ⟨a, _, rfl, by omega, by omega, p2, fun d3 H3 f0 f1 b3 p3 => ?_⟩
    obtain ⟨j, rfl⟩ := Int.eq_ofNat_of_zero_le f0
    have hj : j < (cs z).length := by omega
    have b13 := (b1.trans b2).trans b3
    walk_at "sts"
    refine if2 (fun h0 => ?_) (fun h0 => ?_)
    · walk_at "sts"
      refine e_slL1 sl_str ?_
      walk_at "sts"
      refine ⟨hzs, ?_⟩
      walk_at "sts"
      refine e_call (by exact F) (by exact hr) (by decide) ?_
      walk_at "sts"
      refine ⟨a, 26, rfl, by decide, by decide, p3, fun d4 H4 g0 g1 b4 p4 => ?_⟩
      obtain ⟨c, hc, hc1⟩ := letter_at g0 g1
      refine ix_s (by decide +kernel) hc ?_
      have e1' := cut_hi z j
      refine o_addS (by rw [len_cs, len_cs, e1', List.length_take]; show min j _ + 1 ≤ 1000; have := Nat.min_le_left j (cs z).length; omega) ?_
      refine e_slL0 sl_str ?_
      walk_at "sts"
      refine ⟨hzs, ?_⟩
      have e2' := cut_lo z (j + 1)
      rw [show ((j : Int) + 1) = ((j + 1 : Nat) : Int) by omega]
      have e3' : cs (cutS z none (some (j : Int)) ++ sg c) = (cs z).take j ++ [c] := by rw [cs_app, e1']
      refine o_addS (by rw [len_cs, len_cs, e3', e2']; simp only [List.length_append, List.length_take, List.length_drop, List.length_cons, List.length_nil]; omega) ?_
      refine q _ H4 (b13.trans b4) p4 (Nm.ok ?_)
      rw [cs_app, e3', e2']
      exact hnz.put hc1 hj
    · have tl : ∀ σ, σ = [some (V.ref a), some (.ref l), some (.str (Str.ofString "abcdefghijklmnopqrstuvwxyz")), some (.str (Str.ofString "abcdefghijklmnopqrstuvwxyz" ++ Str.ofString "0123456789")), some (.int d), some (.str z), some (.int j), none] → wL (cxOf CX0 P w K mg base N_name (Str.ofString "_law_name") (defScope s_name) f cdv A outer s H E).nox [lastOf (defBody s_name)] { nx := fun σ' H' => wL (cxOf CX0 P w K mg base N_name (Str.ofString "_law_name") (defScope s_name) f cdv A outer s H E).nox ((defBody s_name).drop 4) { nx := fun _ H' => Q .non H', rt := Q } σ' H', rt := Q } σ H3 := by
        rintro σ rfl
        show wL _ (_ :: _) _ _ _
        refine l_cons (s_ret (e_slL1 sl_str ?_))
        walk_at "sts"
        refine ⟨hzs, ?_⟩
        refine q _ H3 b13 p3 (Nm.ok ?_)
        rw [show (if (j : Int) > 1 then (j : Int) else 1) = ((max 1 j : Nat) : Int) by split <;> omega, cut_hi]
        exact hnz.cut (Nat.le_max_left 1 j)
      refine l_nil ?_
      refine l_cons (s_if (t_w (w_and ?_)))
      walk_at "sts"
      refine if2 (fun h1 => ?_) (fun h1 => l_nil (tl _ rfl))
      walk_at "sts"
      refine c_lenS hzs ?_
      walk_at "sts"
      refine if2 (fun h2 => ?_) (fun h2 => l_nil (tl _ rfl))
      walk_at "sts"
      refine e_call (by exact F) (by exact hr) (by decide) ?_
      walk_at "sts"
      refine ⟨a, 36, rfl, by decide, by decide, p3, fun d4 H4 g0 g1 b4 p4 => ?_⟩
      walk_at "sts"
      obtain ⟨c, hc, hc1⟩ := sign_at g0 g1
      refine ix_s (by decide +kernel) hc ?_
      refine o_addS (by rw [len_cs, len_cs]; show (cs z).length + 1 ≤ 1000; omega) ?_
      refine q _ H4 (b13.trans b4) p4 (Nm.ok ?_)
      rw [cs_app]
      exact hnz.more hc1 (by omega)
end


/-! ### bad names and sentences drawn -/
abbrev marks : Str := Str.ofString " !\"#$&'()*+,-./:;<=>?@ABCDEFGHIJKLMNOPQRSTUVWXYZ[\\]^_`{|}~"
theorem marks_len : marks.length = 58 := by decide +kernel
theorem marks_no : ∀ c ∈ cs marks, ok1 c = false := by decide +kernel
theorem at_mem {l : List Nat} {d : Int} (h0 : 0 ≤ d) (h1 : d < l.length) : ∃ c, atI l d = some c ∧ c ∈ l := by
  obtain ⟨j, rfl⟩ := Int.eq_ofNat_of_zero_le h0
  have hj : j < l.length := by omega
  exact ⟨l[j], atI_nat (by simp [hj]), List.getElem_mem hj⟩
theorem nb_mem {l : List Nat} {c : Nat} (h : c ∈ l) (hc : ok1 c = false) : nameB l = false := by
  unfold nameB
  have : (l.all fun c => let1 c || dig1 c) = false := by
    rw [List.all_eq_false]
    exact ⟨c, h, by unfold ok1 at hc; rw [hc]; simp⟩
  rw [this]
  simp
theorem nb_len {l : List Nat} (h : 13 ≤ l.length) : nameB l = false := by
  unfold nameB
  rw [decide_eq_false (show ¬ ((l.length : Int) ≤ 12) by omega)]
  simp
theorem nb_head {c : Nat} {t : List Nat} (h : let1 c = false) : nameB (c :: t) = false := by
  unfold nameB
  simp [h]
theorem dig_str {d : Int} (h0 : 0 ≤ d) (h1 : d < 10) : ∃ c, cs (toString d : Str) = [c] ∧ let1 c = false := by
  obtain ⟨j, rfl⟩ := Int.eq_ofNat_of_zero_le h0
  have hj : j < 10 := by omega
  match j, hj with
  | 0, _ => exact ⟨48, by decide +kernel, by decide +kernel⟩
  | 1, _ => exact ⟨49, by decide +kernel, by decide +kernel⟩
  | 2, _ => exact ⟨50, by decide +kernel, by decide +kernel⟩
  | 3, _ => exact ⟨51, by decide +kernel, by decide +kernel⟩
  | 4, _ => exact ⟨52, by decide +kernel, by decide +kernel⟩
  | 5, _ => exact ⟨53, by decide +kernel, by decide +kernel⟩
  | 6, _ => exact ⟨54, by decide +kernel, by decide +kernel⟩
  | 7, _ => exact ⟨55, by decide +kernel, by decide +kernel⟩
  | 8, _ => exact ⟨56, by decide +kernel, by decide +kernel⟩
  | 9, _ => exact ⟨57, by decide +kernel, by decide +kernel⟩
section
variable {P : Program} {w : World} {K : PySem.W.Frag} {mg : Str → Option Value} {base : Heap}
def spBad : Sp := fun vs H Q _ => ∃ a z, vs = [.ref a, .str z] ∧ PoolAt H a ∧ okN z ∧ ∀ y H', But a H H' → PoolAt H' a → nameB (cs y) = false → y.length ≤ 100 → Q (.str y) H'
theorem ok_bad (T : Top K mg "_law_bad_name" s_bad_name) (mLen : mg "len" = none) (mStr : mg "str" = none) (F : Fn P w K mg base 1 "_law_next" spNext) : Fn P w K mg base 2 "_law_bad_name" spBad := by
  refine fn_ok T sc_bad_name so_bad_name (fun vs H Q E h => by obtain ⟨a, z, rfl, _⟩ := h; rfl) (fun _ _ _ _ _ _ us hl => match us, hl with | [_, _], _ => rfl) fun f cdv A outer s H vs Q E hr h nd => ?_
  obtain ⟨a, z, rfl, hp, hok, q⟩ := h
  have hnz := hok.nm
  have hzl : z.length ≤ 12 := hok.2
  have hz1 := hnz.len
  have hzs : z.length ≤ sizeLine := by show z.length ≤ 2 ^ 24; omega
  have elen := len_cs z
  walk_at "sts"
  refine e_call (by exact F) (by exact hr) (by decide) ?_
  walk_at "sts"
  refine ⟨a, 5, rfl, by decide, by decide, hp, fun d H1 d0 d1 b1 p1 => ?_⟩
  walk_at "sts"
  refine e_call (by exact F) (by exact hr) (by decide) ?_
  walk_at "sts"
  refine c_lenS hzs ?_
  walk_at "sts"
  refine ⟨a, _, rfl, by omega, by omega, p1, fun d2 H2 e0 e1 b2 p2 => ?_⟩
  obtain ⟨j, rfl⟩ := Int.eq_ofNat_of_zero_le e0
  walk_at "sts"
  refine e_call (by exact F) (by exact hr) (by decide) ?_
  walk_at "sts"
  refine c_lenS (by decide +kernel) ?_
  rw [show (Str.ofString " !\"#$&'()*+,-./:;<=>?@ABCDEFGHIJKLMNOPQRSTUVWXYZ[\\]^_`{|}~").length = 58 from marks_len]
  walk_at "sts"
  refine ⟨a, 58, rfl, by decide, by decide, p2, fun d3 H3 f0 f1 b3 p3 => ?_⟩
  obtain ⟨c, hc, hcm⟩ := at_mem (l := cs marks) f0 (by rw [← len_cs, marks_len]; exact f1)
  have hcn := marks_no c hcm
  refine ix_s (by decide +kernel) hc ?_
  have b13 := (b1.trans b2).trans b3
  have e1' := cut_hi z j
  walk_at "sts"
  refine if2 (fun h0 => ?_) (fun h0 => l_nil ?_)
  · walk_at "sts"
    exact q _ H3 b13 p3 (by decide +kernel) (by decide +kernel)
  walk_at "sts"
  refine if2 (fun h0 => ?_) (fun h0 => l_nil ?_)
  · walk_at "sts"
    refine e_call (by exact F) (by exact hr) (by decide) ?_
    walk_at "sts"
    refine ⟨a, 10, rfl, by decide, by decide, p3, fun d4 H4 g0 g1 b4 p4 => ?_⟩
    walk_at "sts"
    refine c_str (by have := Nat.log2_le_self d4.natAbs; omega) ?_
    refine e_slL1 sl_str ?_
    walk_at "sts"
    refine ⟨hzs, ?_⟩
    obtain ⟨c4, hc4, hl4⟩ := dig_str g0 g1
    have e11 := cut_hi z 11
    refine o_addS (by rw [len_cs, len_cs, hc4]; show 1 + (cs (cutS z none (some ((11 : Nat) : Int)))).length ≤ 1000; rw [e11, List.length_take]; omega) ?_
    refine q _ H4 (b13.trans b4) p4 ?_ ?_
    · rw [cs_app, hc4]
      exact nb_head hl4
    · rw [len_cs, cs_app, hc4]
      show ([c4] ++ cs (cutS z none (some ((11 : Nat) : Int)))).length ≤ 100
      rw [e11, List.length_append, List.length_take]
      show 1 + _ ≤ 100
      omega
  walk_at "sts"
  refine if2 (fun h0 => ?_) (fun h0 => l_nil ?_)
  · refine l_cons (s_ret (e_slL1 sl_str ?_))
    walk_at "sts"
    have tl : cs (z ++ Str.ofString "a7k2z9b4c6d8e0f1") = cs z ++ cs (Str.ofString "a7k2z9b4c6d8e0f1") := cs_app _ _
    have t16 : (cs (Str.ofString "a7k2z9b4c6d8e0f1")).length = 16 := by decide +kernel
    refine o_addS (by rw [len_cs, len_cs, t16]; omega) ?_
    walk_at "sts"
    refine e_call (by exact F) (by exact hr) (by decide) ?_
    walk_at "sts"
    refine ⟨a, 4, rfl, by decide, by decide, p3, fun d4 H4 g0 g1 b4 p4 => ?_⟩
    obtain ⟨i, rfl⟩ := Int.eq_ofNat_of_zero_le g0
    walk_at "sts"
    refine ⟨by rw [len_cs, tl, List.length_append, t16]; show _ ≤ 2 ^ 24; omega, ?_⟩
    rw [show (13 : Int) + (i : Int) = ((13 + i : Nat) : Int) by omega]
    have e13 := cut_hi (z ++ Str.ofString "a7k2z9b4c6d8e0f1") (13 + i)
    have l13 : (cs (cutS (z ++ Str.ofString "a7k2z9b4c6d8e0f1") none (some ((13 + i : Nat) : Int)))).length = 13 + i := by
      rw [e13, List.length_take, tl, List.length_append, t16]
      omega
    exact q _ H4 (b13.trans b4) p4 (nb_len (by omega)) (by rw [len_cs, l13]; omega)
  walk_at "sts"
  refine if2 (fun h0 => ?_) (fun h0 => l_nil ?_)
  · refine l_cons (s_ret (e_bin (e_bin (e_slL1 sl_str ?_))))
    walk_at "sts"
    refine ⟨hzs, ?_⟩
    walk_at "sts"
    refine o_addS (by rw [len_cs, len_cs, e1', List.length_take]; show min j _ + 1 ≤ 1000; have := Nat.min_le_left j (cs z).length; omega) ?_
    refine e_slL0 sl_str ?_
    walk_at "sts"
    refine ⟨hzs, ?_⟩
    have e2' := cut_lo z (j + 1)
    rw [show ((j : Int) + 1) = ((j + 1 : Nat) : Int) by omega]
    have e3' : cs (cutS z none (some (j : Int)) ++ sg c) = (cs z).take j ++ [c] := by rw [cs_app, e1']
    refine o_addS (by rw [len_cs, len_cs, e3', e2']; simp only [List.length_append, List.length_take, List.length_drop, List.length_cons, List.length_nil]; omega) ?_
    refine q _ H3 b13 p3 ?_ ?_
    · rw [cs_app, e3', e2']
      exact nb_mem (c := c) (by simp) hcn
    · rw [len_cs, cs_app, e3', e2']
      simp only [List.length_append, List.length_take, List.length_drop, List.length_cons, List.length_nil]
      omega
  · refine l_cons (s_ret (e_bin (e_bin (e_slL1 sl_str ?_))))
    walk_at "sts"
    refine ⟨hzs, ?_⟩
    walk_at "sts"
    refine o_addS (by rw [len_cs, len_cs, e1', List.length_take]; show min j _ + 1 ≤ 1000; have := Nat.min_le_left j (cs z).length; omega) ?_
    refine e_slL0 sl_str ?_
    walk_at "sts"
    refine ⟨hzs, ?_⟩
    have e2' := cut_lo z j
    have e3' : cs (cutS z none (some (j : Int)) ++ sg c) = (cs z).take j ++ [c] := by rw [cs_app, e1']
    refine o_addS (by rw [len_cs, len_cs, e3', e2']; simp only [List.length_append, List.length_take, List.length_drop, List.length_cons, List.length_nil]; omega) ?_
    refine q _ H3 b13 p3 ?_ ?_
    · rw [cs_app, e3', e2']
      exact nb_mem (c := c) (by simp) hcn
    · rw [len_cs, cs_app, e3', e2']
      simp only [List.length_append, List.length_take, List.length_drop, List.length_cons, List.length_nil]
      omega
def NsAt (a l : Addr) (ns : List Str) (H : Hp) : Prop := PoolAt H a ∧ l ≠ a ∧ H l = some (.lst (sVs ns)) ∧ 0 < ns.length ∧ ns.length ≤ 100 ∧ ∀ z ∈ ns, okN z
theorem NsAt.but {a l : Addr} {ns : List Str} {H H' : Hp} (h : NsAt a l ns H) (b : But a H H') (p : PoolAt H' a) : NsAt a l ns H' := ⟨p, h.2.1, b l _ h.2.1 h.2.2.1, h.2.2.2.1, h.2.2.2.2.1, h.2.2.2.2.2⟩
/-- the suite of a test -/
def ifA (b : List Stmt) (i : Nat) : List Stmt := match b.getD i (.Pass ⟨0, 0, 0, 0⟩) with
  | .If _ a _ _ => a
  | _ => []
def spDeep (n : Nat) : Sp := fun vs H Q _ => ∃ a l ns, ∃ d : Nat, vs = [.ref a, .ref l, .int d] ∧ NsAt a l ns H ∧ d ≤ n ∧ ∀ v s H', But a H H' → PoolAt H' a → SnV H' v s → okS s → dep s ≤ d → rws s < 2 ^ (d + 1) → Q v H'
theorem ok_deepS (n : Nat) (T : Top K mg "_law_deep" s_deep) (mLen : mg "len" = none) (FX : Fn P w K mg base 1 "_law_next" spNext) (FM : Fn P w K mg base 2 "_law_mode" spMode) (F : ∀ m, n = m + 1 → Fn P w K mg base (m + 3) "_law_deep" (spDeep m)) : Fn P w K mg base (n + 3) "_law_deep" (spDeep n) := by
  refine fn_ok T sc_deep so_deep (fun vs H Q E h => by obtain ⟨a, l, ns, d, rfl, _⟩ := h; rfl) (fun _ _ _ _ _ _ us hl => match us, hl with | [_, _, _], _ => rfl) fun f cdv A outer s H vs Q E hr h nd => ?_
  obtain ⟨a, l, ns, d, rfl, hns, hdn, q⟩ := h
  walk_at "sts"
  refine e_call (by exact FX) (by exact hr) (by omega) ?_
  walk_at "sts"
  refine ⟨a, 7, rfl, by decide, by decide, hns.1, fun d1 H1 d10 d11 b1 p1 => ?_⟩
  have hn1 := hns.but b1 p1
  have leaf : ∀ σ, σ = [some (V.ref a), some (.ref l), some (.int d), some (.int d1), none, none] → wL (cxOf CX0 P w K mg base N_deep (Str.ofString "_law_deep") (defScope s_deep) f cdv A outer s H E).nox (ifA (defBody s_deep) 1) { nx := fun σ' H' => wL (cxOf CX0 P w K mg base N_deep (Str.ofString "_law_deep") (defScope s_deep) f cdv A outer s H E).nox ((defBody s_deep).drop 2) { nx := fun _ H' => Q .non H', rt := Q } σ' H', rt := Q } σ H1 := by
    rintro σ rfl
    show wL _ (_ :: _) _ _ _
    walk_at "sts"
    refine e_call (by exact FX) (by exact hr) (by omega) ?_
    walk_at "sts"
    refine c_lenL (by exact SqL.of hn1.2.2.1) ?_
    rw [show (sVs ns).length = ns.length by simp [sVs]]
    have h1 := hn1.2.2.2.1
    have h2 := hn1.2.2.2.2.1
    walk_at "sts"
    refine ⟨a, _, rfl, by omega, by omega, p1, fun d2 H2 e0 e1 b2 p2 => ?_⟩
    obtain ⟨z, hz, hat⟩ := sVs_at e0 e1
    refine ix_l (by exact SqL.of (b2 l _ hn1.2.1 hn1.2.2.1)) hat ?_
    walk_at "sts"
    refine ⟨by show 2 ≤ sizeLine; decide, fun t H3 e3 _ ht => ?_⟩
    exact q _ (.word z) H3 ((b1.trans b2).trans (But.of e3)) (p2.up e3) ⟨t, rfl, ht⟩ (hn1.2.2.2.2.2 z hz) (Nat.zero_le _) (by show 1 < 2 ^ (d + 1); rw [Nat.pow_succ]; have := Nat.one_le_two_pow (n := d); omega)
  walk_at "sts"
  refine if2 (fun h0 => leaf _ rfl) (fun h0 => ?_)
  refine w_or1 (t_cmp ?_)
  walk_at "sts"
  refine if2 (fun h1 => leaf _ rfl) (fun h1 => l_nil ?_)
  obtain ⟨m, rfl⟩ : ∃ m, n = m + 1 := ⟨n - 1, by omega⟩
  obtain ⟨i, rfl⟩ : ∃ i, d = i + 1 := ⟨d - 1, by omega⟩
  have F0 := F m rfl
  have ei : ((i + 1 : Nat) : Int) - 1 = (i : Int) := by omega
  walk_at "sts"
  refine e_call (by exact F0) (by exact hr) (by omega) ?_
  walk_at "sts"
  rw [ei]
  refine ⟨a, l, ns, i, rfl, hn1, by omega, fun v1 s1 H2 b2 p2 g1 o1 dd1 r1 => ?_⟩
  have hn2 := hn1.but b2 p2
  walk_at "sts"
  refine e_call (by exact F0) (by exact hr) (by omega) ?_
  walk_at "sts"
  rw [ei]
  refine ⟨a, l, ns, i, rfl, hn2, by omega, fun v2 s2 H3 b3 p3 g2 o2 dd2 r2 => ?_⟩
  replace g1 := g1.ts (p2.ts b3)
  have hn3 := hn2.but b3 p3
  have b13 := (b1.trans b2).trans b3
  have hpow : rws s1 + rws s2 + 1 < 2 ^ (i + 1 + 1) := by rw [Nat.pow_succ]; omega
  walk_at "sts"
  refine if2 (fun h4 => ?_) (fun h4 => l_nil ?_)
  · walk_at "sts"
    refine ⟨by show 3 ≤ sizeLine; decide, fun t H4 e4 _ ht => ?_⟩
    exact q _ (.menu s1 s2) H4 (b13.trans (But.of e4)) (p3.up e4) ⟨t, v1, v2, rfl, ht, g1.ts (Same.ts e4), g2.ts (Same.ts e4)⟩ ⟨o1, o2⟩ (by show max (dep s1) (dep s2) + 1 ≤ _; omega) hpow
  · walk_at "sts"
    refine e_call (by exact FM) (by exact hr) (by omega) ?_
    walk_at "sts"
    refine ⟨p3, fun md k H4 b4 p4 hm hk => ?_⟩
    walk_at "sts"
    refine ⟨by show 4 ≤ sizeLine; decide, fun t H5 e5 _ ht => ?_⟩
    exact q _ (.trade k s1 s2) H5 ((b13.trans b4).trans (But.of e5)) (p4.up e5) ⟨t, md, v1, v2, rfl, ht, hm.ts (Same.ts e5), (g1.ts (p3.ts b4)).ts (Same.ts e5), (g2.ts (p3.ts b4)).ts (Same.ts e5)⟩ ⟨hk, o1, o2⟩ (by show max (dep s1) (dep s2) + 1 ≤ _; omega) hpow
theorem ok_deep (T : Top K mg "_law_deep" s_deep) (mLen : mg "len" = none) (FX : Fn P w K mg base 1 "_law_next" spNext) (FM : Fn P w K mg base 2 "_law_mode" spMode) : ∀ n, Fn P w K mg base (n + 3) "_law_deep" (spDeep n)
  | 0 => ok_deepS 0 T mLen FX FM fun m h => by cases h
  | n + 1 => ok_deepS (n + 1) T mLen FX FM fun m h => by cases h; exact ok_deep T mLen FX FM n
end


section
variable {P : Program} {w : World} {K : PySem.W.Frag} {mg : Str → Option Value} {base : Heap}
def spSent : Sp := fun vs H Q _ => ∃ a l ns, vs = [.ref a, .ref l] ∧ NsAt a l ns H ∧ ∀ v s H', But a H H' → PoolAt H' a → SnV H' v s → okS s → dep s ≤ 20 → rws s ≤ 40 → Q v H'
theorem ok_sent (T : Top K mg "_law_sentence" s_sentence) (mLen : mg "len" = none) (mR : mg "range" = none) (FX : Fn P w K mg base 1 "_law_next" spNext) (FM : Fn P w K mg base 2 "_law_mode" spMode) (FD : Fn P w K mg base 7 "_law_deep" (spDeep 4)) : Fn P w K mg base 8 "_law_sentence" spSent := by
  refine fn_ok T sc_sentence so_sentence (fun vs H Q E h => by obtain ⟨a, l, ns, rfl, _⟩ := h; rfl) (fun _ _ _ _ _ _ us hl => match us, hl with | [_, _], _ => rfl) fun f cdv A outer s H vs Q E hr h nd => ?_
  obtain ⟨a, l, ns, rfl, hns, q⟩ := h
  walk_at "sts"
  refine e_call (by exact FX) (by exact hr) (by decide) ?_
  walk_at "sts"
  refine ⟨a, 4, rfl, by decide, by decide, hns.1, fun d1 H1 d10 d11 b1 p1 => ?_⟩
  have hn1 := hns.but b1 p1
  walk_at "sts"
  refine if2 (fun h0 => ?_) (fun h0 => l_nil ?_)
  · walk_at "sts"
    refine e_call (by exact FD) (by exact hr) (by decide) ?_
    walk_at "sts"
    refine e_call (by exact FX) (by exact hr) (by decide) ?_
    walk_at "sts"
    refine ⟨a, 5, rfl, by decide, by decide, p1, fun d2 H2 e0 e1 b2 p2 => ?_⟩
    obtain ⟨d, rfl⟩ := Int.eq_ofNat_of_zero_le e0
    walk_at "sts"
    refine ⟨a, l, ns, d, rfl, hn1.but b2 p2, by omega, fun v s H3 b3 p3 g o dd r => ?_⟩
    have h5 : 2 ^ (d + 1) ≤ 32 := (Nat.pow_le_pow_right (n := 2) (j := 5) (by decide) (by omega))
    exact q v s H3 ((b1.trans b2).trans b3) p3 g o (by omega) (by omega)
  · walk_at "sts"
    obtain ⟨z0, hz0, hat0⟩ := sVs_at (ns := ns) (d := 0) (Int.le_refl 0) (by have := hn1.2.2.2.1; omega)
    refine ix_l (by exact SqL.of hn1.2.2.1) hat0 ?_
    walk_at "sts"
    refine ⟨by show 2 ≤ sizeLine; decide, fun t H2 e2 _ ht => ?_⟩
    have p2 := p1.up e2
    walk_at "sts"
    refine s_forR (by assumption) ?_
    walk_at "sts"
    refine e_call (by exact FX) (by exact hr) (by decide) ?_
    walk_at "sts"
    refine ⟨a, 18, rfl, by decide, by decide, p2, fun d3 H3 e0 e1 b3 p3 => ?_⟩
    obtain ⟨n, rfl⟩ := Int.eq_ofNat_of_zero_le e0
    walk_at "sts"
    have b13 := (b1.trans (But.of e2)).trans b3
    refine ⟨(have hn : n < 18 := by omega
      Nat.lt_of_lt_of_le (Nat.add_lt_add_left hn 1) (by decide)), fun k σ H' => ∃ v s y1 y2 y3, σ = [some (.ref a), some (.ref l), some v, y1, y2, y3] ∧ But a H H' ∧ PoolAt H' a ∧ SnV H' v s ∧ okS s ∧ dep s ≤ k ∧ rws s ≤ 2 * k + 1, ⟨_, .word z0, _, _, _, rfl, b13, p3, ⟨t, rfl, p2.ts b3 _ _ ht⟩, hn1.2.2.2.2.2 z0 hz0, Nat.le_refl _, Nat.le_refl _⟩, fun k σ H4 hk hW => ?_, fun σ H4 hW => ?_⟩
    · obtain ⟨v, s, y1, y2, y3, rfl, b4, p4, g4, o4, dd4, r4⟩ := hW
      have hn4 := hns.but b4 p4
      have h1 := hn4.2.2.2.1
      have h2 := hn4.2.2.2.2.1
      walk_at "sts"
      refine e_call (by exact FX) (by exact hr) (by decide) ?_
      walk_at "sts"
      refine c_lenL (by exact SqL.of hn4.2.2.1) ?_
      rw [show (sVs ns).length = ns.length by simp [sVs]]
      walk_at "sts"
      refine ⟨a, _, rfl, by omega, by omega, p4, fun d5 H5 e0 e1 b5 p5 => ?_⟩
      obtain ⟨z, hz, hat⟩ := sVs_at e0 e1
      refine ix_l (by exact SqL.of (b5 l _ hn4.2.1 hn4.2.2.1)) hat ?_
      walk_at "sts"
      refine ⟨by show 2 ≤ sizeLine; decide, fun t6 H6 e6 _ ht6 => ?_⟩
      have p6 := p5.up e6
      have oz := hns.2.2.2.2.2 z hz
      walk_at "sts"
      refine e_call (by exact FX) (by exact hr) (by decide) ?_
      walk_at "sts"
      refine ⟨a, 4, rfl, by decide, by decide, p6, fun d7 H7 f0 f1 b7 p7 => ?_⟩
      have ts47 : TS H4 H7 := ((p4.ts b5).trans (Same.ts e6)).trans (p6.ts b7)
      have b47 := (b5.trans (But.of e6)).trans b7
      have g7 := g4.ts ts47
      have w7 : SnV H7 (.ref t6) (.word z) := ⟨t6, rfl, p6.ts b7 _ _ ht6⟩
      have d0 : dep (.word z) = 0 := rfl
      have r0 : rws (.word z) = 1 := rfl
      walk_at "sts"
      refine if2 (fun h0 => ?_) (fun h0 => ?_)
      · walk_at "sts"
        refine ⟨by show 3 ≤ sizeLine; decide, fun t8 H8 e8 _ ht8 => ?_⟩
        refine l_nil (l_nil ⟨_, .menu s (.word z), _, _, _, rfl, (b4.trans b47).trans (But.of e8), p7.up e8, ⟨t8, _, _, rfl, ht8, g7.ts (Same.ts e8), w7.ts (Same.ts e8)⟩, ⟨o4, oz⟩, ?_, ?_⟩)
        · show max (dep s) 0 + 1 ≤ _; omega
        · show rws s + 1 + 1 ≤ _; omega
      walk_at "sts"
      refine if2 (fun h0 => ?_) (fun h0 => ?_)
      · walk_at "sts"
        refine ⟨by show 3 ≤ sizeLine; decide, fun t8 H8 e8 _ ht8 => ?_⟩
        refine l_nil (l_nil (l_nil ⟨_, .menu (.word z) s, _, _, _, rfl, (b4.trans b47).trans (But.of e8), p7.up e8, ⟨t8, _, _, rfl, ht8, w7.ts (Same.ts e8), g7.ts (Same.ts e8)⟩, ⟨oz, o4⟩, ?_, ?_⟩))
        · show max 0 (dep s) + 1 ≤ _; omega
        · show 1 + rws s + 1 ≤ _; omega
      walk_at "sts"
      refine if2 (fun h0 => ?_) (fun h0 => ?_)
      · walk_at "sts"
        refine e_call (by exact FM) (by exact hr) (by decide) ?_
        walk_at "sts"
        refine ⟨p7, fun md kk H8 b8 p8 hm hk8 => ?_⟩
        walk_at "sts"
        refine ⟨by show 4 ≤ sizeLine; decide, fun t9 H9 e9 _ ht9 => ?_⟩
        refine l_nil (l_nil (l_nil (l_nil ⟨_, .trade kk s (.word z), _, _, _, rfl, ((b4.trans b47).trans b8).trans (But.of e9), p8.up e9, ⟨t9, _, _, _, rfl, ht9, hm.ts (Same.ts e9), (g7.ts (p7.ts b8)).ts (Same.ts e9), (w7.ts (p7.ts b8)).ts (Same.ts e9)⟩, ⟨hk8, o4, oz⟩, ?_, ?_⟩)))
        · show max (dep s) 0 + 1 ≤ _; omega
        · show rws s + 1 + 1 ≤ _; omega
      · walk_at "sts"
        refine e_call (by exact FM) (by exact hr) (by decide) ?_
        walk_at "sts"
        refine ⟨p7, fun md kk H8 b8 p8 hm hk8 => ?_⟩
        walk_at "sts"
        refine ⟨by show 4 ≤ sizeLine; decide, fun t9 H9 e9 _ ht9 => ?_⟩
        refine l_nil (l_nil (l_nil (l_nil ⟨_, .trade kk (.word z) s, _, _, _, rfl, ((b4.trans b47).trans b8).trans (But.of e9), p8.up e9, ⟨t9, _, _, _, rfl, ht9, hm.ts (Same.ts e9), (w7.ts (p7.ts b8)).ts (Same.ts e9), (g7.ts (p7.ts b8)).ts (Same.ts e9)⟩, ⟨hk8, oz, o4⟩, ?_, ?_⟩)))
        · show max 0 (dep s) + 1 ≤ _; omega
        · show 1 + rws s + 1 ≤ _; omega
    · obtain ⟨v, s, y1, y2, y3, rfl, b4, p4, g4, o4, dd4, r4⟩ := hW
      have dd5 : dep s ≤ 1 + n := dd4
      have r5 : rws s ≤ 2 * (1 + n) + 1 := r4
      walk_at "sts"
      exact q v s H4 b4 p4 g4 o4 (by omega) (by omega)
end


/-! ### the same data -/
theorem Eqd.flat {H : Hp} {v : V} (h : Flat v) : ∀ n, Eqd H n v v
  | 0 => ⟨h, rfl⟩
  | _ + 1 => .inl ⟨h, rfl⟩
theorem flS (z : Str) : Flat (.str z) := .inr (.inr (.inr ⟨z, rfl⟩))
theorem flI (i : Int) : Flat (.int i) := .inr (.inr (.inl ⟨i, rfl⟩))
def AllE (H : Hp) (n : Nat) : List V → List V → Prop
  | [], [] => True
  | x :: xs, y :: ys => Eqd H n x y ∧ AllE H n xs ys
  | _, _ => False
theorem AllE.len {H : Hp} {n : Nat} : ∀ {xs ys : List V}, AllE H n xs ys → xs.length = ys.length
  | [], [], _ => rfl
  | _ :: _, _ :: _, ⟨_, r⟩ => by simp [r.len]
theorem AllE.get {H : Hp} {n : Nat} : ∀ {xs ys : List V} {i : Nat} {x y : V}, AllE H n xs ys → xs[i]? = some x → ys[i]? = some y → Eqd H n x y
  | _ :: _, _ :: _, 0, x, y, ⟨a, _⟩, e1, e2 => by cases (Option.some.inj e1); cases (Option.some.inj e2); exact a
  | _ :: _, _ :: _, i + 1, x, y, ⟨_, r⟩, e1, e2 => r.get (show (_ : List V)[i]? = some x from e1) (show (_ : List V)[i]? = some y from e2)
theorem eqd_t {H : Hp} {n : Nat} {a b : Addr} {xs ys : List V} (h1 : H a = some (.tup xs)) (h2 : H b = some (.tup ys)) (hm : ys.length ≤ 100000) (h : AllE H n xs ys) : Eqd H (n + 1) (.ref a) (.ref b) :=
  .inr ⟨a, b, xs, ys, rfl, rfl, .inr ⟨h1, h2⟩, h.len, hm, fun _ _ _ e1 e2 => h.get e1 e2⟩
theorem eqd_l {H : Hp} {n : Nat} {a b : Addr} {xs ys : List V} (h1 : H a = some (.lst xs)) (h2 : H b = some (.lst ys)) (hm : ys.length ≤ 100000) (h : AllE H n xs ys) : Eqd H (n + 1) (.ref a) (.ref b) :=
  .inr ⟨a, b, xs, ys, rfl, rfl, .inl ⟨h1, h2⟩, h.len, hm, fun _ _ _ e1 e2 => h.get e1 e2⟩
theorem mode_eq {H : Hp} {u v : V} {k : Pk} (h1 : ModeV H u k) (h2 : ModeV H v k) (n : Nat) : Eqd H (n + 1) u v := by
  rcases k with _ | ⟨i, j⟩
  · obtain rfl : u = .str "once" := h1
    obtain rfl : v = .str "once" := h2
    exact Eqd.flat (flS _) _
  · obtain ⟨a, rfl, ha⟩ := h1
    obtain ⟨b, rfl, hb⟩ := h2
    exact eqd_t ha hb (by simp) ⟨Eqd.flat (flI _) _, Eqd.flat (flI _) _, trivial⟩
theorem sn_eq {H : Hp} : ∀ (s : Sn) (n : Nat) {u v : V}, dep s + 2 ≤ n → SnV H u s → SnV H v s → Eqd H n u v
  | .word z, n + 1, _, _, _, ⟨a, rfl, ha⟩, ⟨b, rfl, hb⟩ => eqd_t ha hb (by simp) ⟨Eqd.flat (flS _) _, Eqd.flat (flS _) _, trivial⟩
  | .menu l r, n + 1, _, _, hd, ⟨a, a1, a2, rfl, ha, h1, h2⟩, ⟨b, b1, b2, rfl, hb, g1, g2⟩ => by
    simp only [dep] at hd
    exact eqd_t ha hb (by simp) ⟨Eqd.flat (flS _) _, sn_eq l n (by omega) h1 g1, sn_eq r n (by omega) h2 g2, trivial⟩
  | .trade k l r, n + 1, _, _, hd, ⟨a, m1, a1, a2, rfl, ha, hm, h1, h2⟩, ⟨b, m2, b1, b2, rfl, hb, gm, g1, g2⟩ => by
    simp only [dep] at hd
    obtain ⟨i, rfl⟩ : ∃ i, n = i + 1 := ⟨n - 1, by omega⟩
    exact eqd_t ha hb (by simp) ⟨Eqd.flat (flS _) _, mode_eq hm gm i, sn_eq l _ (by omega) h1 g1, sn_eq r _ (by omega) h2 g2, trivial⟩
theorem prs_eq {H : Hp} {n : Nat} : ∀ {ps : List (Pk × Sn)} {xs ys : List V}, (∀ p ∈ ps, dep p.2 + 3 ≤ n) → PrsV H xs ps → PrsV H ys ps → AllE H n xs ys := by
  intro ps
  induction ps with
  | nil =>
    intro xs ys _ h g
    cases xs with
    | cons x xs => exact False.elim h
    | nil =>
      cases ys with
      | cons y ys => exact False.elim g
      | nil => trivial
  | cons p ps ih =>
    intro xs ys hd h g
    cases xs with
    | nil => exact False.elim h
    | cons x xs =>
      cases ys with
      | nil => exact False.elim g
      | cons y ys =>
        obtain ⟨⟨a, m1, a1, rfl, ha, hm, h1⟩, r1⟩ := h
        obtain ⟨⟨b, m2, b1, rfl, hb, gm, g1⟩, r2⟩ := g
        have h0 := hd p List.mem_cons_self
        obtain ⟨i, rfl⟩ : ∃ i, n = i + 2 := ⟨n - 2, by omega⟩
        exact ⟨eqd_t ha hb (by simp) ⟨mode_eq hm gm i, sn_eq p.2 _ (by omega) h1 g1, trivial⟩, ih (fun q hq => hd q (List.mem_cons_of_mem _ hq)) r1 r2⟩
theorem LgsV.inv {H : Hp} {x : Leg} {xs : List Leg} : ∀ {vs : List V} {ps : List Addr}, LgsV H vs ps (x :: xs) → ∃ v us p qs, vs = v :: us ∧ ps = p :: qs ∧ LgV H v p x ∧ LgsV H us qs xs
  | v :: vs, p :: ps, ⟨h, r⟩ => ⟨v, vs, p, ps, rfl, rfl, h, r⟩
  | [], [], h => False.elim h
  | [], _ :: _, h => False.elim h
  | _ :: _, [], h => False.elim h
theorem lgs_eq {H : Hp} {n : Nat} : ∀ {xs : List Leg} {vs us : List V} {ps qs : List Addr}, (∀ x ∈ xs, x.1.length ≤ 100000 ∧ ∀ p ∈ x.1, dep p.2 + 5 ≤ n) → LgsV H vs ps xs → LgsV H us qs xs → 2 ≤ n → AllE H n vs us := by
  intro xs
  induction xs with
  | nil =>
    intro vs us ps qs _ h g _
    obtain rfl : vs = [] := List.eq_nil_of_length_eq_zero h.len
    obtain rfl : us = [] := List.eq_nil_of_length_eq_zero g.len
    trivial
  | cons x xs ih =>
    intro vs us ps qs hd h g hn
    obtain ⟨v, vs, p, ps, rfl, rfl, ⟨a, zs, rfl, ha, hz, hp⟩, r1⟩ := h.inv
    obtain ⟨u, us, q, qs, rfl, rfl, ⟨b, ys, rfl, hb, hy, gp⟩, r2⟩ := g.inv
    obtain ⟨hl, h0⟩ := hd x List.mem_cons_self
    obtain ⟨i, rfl⟩ : ∃ i, n = i + 2 := ⟨n - 2, by omega⟩
    exact ⟨eqd_t ha hb (by simp) ⟨eqd_l hz hy (by rw [gp.len]; exact hl) (prs_eq (fun p hp => by have := h0 p hp; omega) hp gp), Eqd.flat (flS _) _, trivial⟩, ih (fun q hq => hd q (List.mem_cons_of_mem _ hq)) r1 r2 hn⟩
theorem sVs_eq {H : Hp} {n : Nat} : ∀ l : List Str, AllE H n (sVs l) (sVs l)
  | [] => trivial
  | z :: l => ⟨Eqd.flat (flS z) n, sVs_eq l⟩
theorem legs_d : ∀ s, ∀ x ∈ legsL s, ∀ p ∈ x.1, dep p.2 ≤ dep s
  | .word _, x, h => by
    simp only [legsL, List.mem_singleton] at h
    subst h
    intro p hp
    cases hp
  | .menu l r, x, h => by
    simp only [legsL, List.mem_append] at h
    simp only [dep]
    rcases h with h | h
    · intro p hp; have := legs_d l x h p hp; omega
    · intro p hp; have := legs_d r x h p hp; omega
  | .trade k q g, x, h => by
    simp only [legsL, List.mem_map] at h
    obtain ⟨y, hy, rfl⟩ := h
    intro p hp
    simp only [dep]
    rcases List.mem_cons.mp hp with rfl | hp
    · show dep q ≤ _; omega
    · have := legs_d g y hy p hp; omega
theorem legs_ne : ∀ s, legsL s ≠ []
  | .word _ => by simp [legsL]
  | .menu l r => by simp [legsL, legs_ne l]
  | .trade _ _ g => by simp [legsL, legs_ne g]
theorem legs_ok {s : Sn} (hz : rws s ≤ 1000) (hd : dep s ≤ 22) : ∀ x ∈ legsL s, x.1.length ≤ 100000 ∧ ∀ p ∈ x.1, dep p.2 + 5 ≤ 27 := fun x hx => ⟨by have := legs_p s x hx; omega, fun p hp => by have := legs_d s x hx p hp; omega⟩
theorem lgs_l {H : Hp} {s : Sn} {a b : Addr} {vs us : List V} {ps qs : List Addr} (hz : rws s ≤ 1000) (hd : dep s ≤ 22) (h1 : H a = some (.lst vs)) (h2 : H b = some (.lst us)) (g1 : LgsV H vs ps (legsL s)) (g2 : LgsV H us qs (legsL s)) : Eqd H 28 (.ref a) (.ref b) :=
  eqd_l h1 h2 (by rw [g2.len]; have := legs_n s; omega) (lgs_eq (legs_ok hz hd) g1 g2 (by decide))
theorem str_dp {K : PySem.W.Frag} {H : Hp} : ∀ l : List Str, DpAll K H (sVs l) (l.map PyData.str)
  | [] => .nil
  | z :: l => .cons (.str z) (str_dp l)
theorem str_lay : ∀ l : List Str, (∀ z ∈ l, PyData.strOk z = true) → PyData.canLayAll0 (l.map PyData.str) = true
  | [], _ => by simp [PyData.canLayAll0]
  | z :: l, h => by simp [PyData.canLayAll0, PyData.canLay0, h z List.mem_cons_self, str_lay l fun y hy => h y (List.mem_cons_of_mem _ hy)]
theorem str_depth : ∀ l : List Str, PyData.depthAll (l.map PyData.str) ≤ 1
  | [] => by simp [PyData.depthAll]
  | z :: l => by
    have := str_depth l
    simp only [List.map_cons, PyData.depthAll, PyData.depth]
    omega
theorem str_sh {z : Str} (h : PyData.strOk z = true) : SeqAt.shaped (.str z) = true := by simp [SeqAt.shaped, PyData.canLay0, PyData.depth, h]
theorem strs_sh {l : List Str} (h : ∀ z ∈ l, PyData.strOk z = true) : SeqAt.shaped (.list (l.map PyData.str)) = true := by
  have h1 := str_depth l
  have h2 : PyData.depth (.list (l.map PyData.str)) ≤ 64 := by
    simp only [PyData.depth]
    omega
  show (PyData.canLay0 (.list (l.map PyData.str)) && decide (PyData.depth (.list (l.map PyData.str)) ≤ 64)) = true
  rw [Bool.and_eq_true]
  exact ⟨by simp only [PyData.canLay0]; exact str_lay l h, decide_eq_true h2⟩
theorem str_any (l : List Str) (z : Str) : ((l.map PyData.str).any fun y => PyData.eqv y (.str z)) = decide (z ∈ l) := by
  rw [Bool.eq_iff_iff, List.any_eq_true, decide_eq_true_iff]
  constructor
  · rintro ⟨y, h, hz⟩
    obtain ⟨x, hx, rfl⟩ := List.mem_map.mp h
    have e : x = z := by simpa [PyData.eqv] using hz
    exact e ▸ hx
  · intro h
    exact ⟨.str z, List.mem_map.mpr ⟨z, h, rfl⟩, by simp [PyData.eqv]⟩
theorem cutV1 (x : V) (xs : List V) : cutV (x :: xs) (some 1) none = xs := by
  unfold cutV
  rw [show (some (1 : Int)) = some ((1 : Nat) : Int) from rfl, HT.sIx_nat, HT.sIx_none]
  have : min 1 (x :: xs).length = 1 := by simp
  rw [this]
  simp


theorem okN.strOk {z : Str} (h : okN z) : PyData.strOk z = true := by
  have hn := h.nm.2.1
  unfold PyData.strOk
  rw [← Array.all_toList, List.all_eq_true]
  intro c hc
  have := hn c hc
  unfold ok1 let1 dig1 at this
  simp only [Bool.or_eq_true, Bool.and_eq_true, decide_eq_true_eq] at this ⊢
  omega
theorem okS_nms : ∀ s, okS s → ∀ z ∈ nms s, okN z
  | .word z, h, y, hy => by
    simp only [nms, List.mem_singleton] at hy
    subst hy
    exact h
  | .menu l r, h, y, hy => by
    rcases List.mem_append.mp hy with hy | hy
    · exact okS_nms l h.1 y hy
    · exact okS_nms r h.2 y hy
  | .trade k p g, h, y, hy => by
    rcases List.mem_append.mp hy with hy | hy
    · exact okS_nms p h.2.1 y hy
    · exact okS_nms g h.2.2 y hy
theorem uniq_sub : ∀ (ns l : List Str) (z : Str), z ∈ ns.foldl addU l → z ∈ l ∨ z ∈ ns
  | [], l, z, h => .inl h
  | n :: ns, l, z, h => by
    rcases uniq_sub ns (addU l n) z h with h | h
    · unfold addU at h
      split at h
      · exact .inl h
      · rcases List.mem_append.mp h with h | h
        · exact .inl h
        · simp only [List.mem_singleton] at h
          subst h
          exact .inr List.mem_cons_self
    · exact .inr (List.mem_cons_of_mem _ h)
section
variable {P : Program} {w : World} {K : PySem.W.Frag} {mg : Str → Option Value} {base : Heap}
/-- the told rows, as they are spoilt -/
def RowsOk (H0 : Hp) (l q : Addr) (n : Nat) (H : Hp) (vs : List V) : Prop := ∀ (i : Nat) v, vs[i]? = some v → ∃ t p z ys, v = .ref t ∧ H t = some (.tup [.ref p, z]) ∧ H p = some (.lst ys) ∧ ys.length ≤ n ∧ H0 p = none ∧ p ≠ l ∧ p ≠ q
def spTells : Sp := fun vs H Q _ => ∃ v s, vs = [v] ∧ SnV H v s ∧ okS s ∧ dep s ≤ 22 ∧ rws s ≤ 1000 ∧ ∀ H', Same H H' → Q (.bl true) H'
theorem ok_tells (T : Top K mg "_law_tells" s_tells) (mLen : mg "len" = none) (FLL : Fn P w K mg base 1 "_law_legs" spLLegs) (FLW : Fn P w K mg base 1 "_law_words" spNames) (FL : Fn P w K mg base 23 "legs" (spLegs 22)) (FW : Fn P w K mg base 2 "words_in" (fun vs H Q _ => ∃ v s, vs = [v] ∧ SnV H v s ∧ rws s ≤ 100000 ∧ ∀ l H', Same H H' → H l = none → H' l = some (.lst (sVs (uniq (nms s)))) → Q (.ref l) H'))
    (FZ : Fn P w K mg base 2 "size" (fun vs H Q _ => ∃ v s, vs = [v] ∧ SnV H v s ∧ rws s ≤ 100000 ∧ ∀ H', Same H H' → Q (.int (nms s).length) H')) (FS : Fn P w K mg base 29 "_law_same" (spSame 28)) : Fn P w K mg base 30 "_law_tells" spTells := by
  refine fn_ok T sc_tells so_tells (fun vs H Q E h => by obtain ⟨v, s, rfl, _⟩ := h; rfl) (fun _ _ _ _ _ _ us hl => match us, hl with | [_], _ => rfl) fun f cdv A outer s H vs Q E hr h nd => ?_
  obtain ⟨v, s, rfl, hv, ho, hd, hz, q⟩ := h
  have hn := nms_rws s
  walk_at "sts"
  refine e_call (by exact FLL) (by exact hr) (by decide) ?_
  walk_at "sts"
  refine ⟨v, s, rfl, hv, by omega, fun du dvs dps H1 e1 hdu gdu => ?_⟩
  walk_at "sts"
  refine e_call (by exact FLW) (by exact hr) (by decide) ?_
  walk_at "sts"
  refine ⟨v, s, rfl, hv.ts (Same.ts e1), by omega, fun nl H2 e2 _ hnl => ?_⟩
  walk_at "sts"
  refine ⟨by show 0 ≤ sizeLine; decide, fun un H3 e3 nun hun => ?_⟩
  have e13 := e2.trans e3
  have e03 := e1.trans e13
  have hnl3 := e3 _ _ hnl
  have unl : un ≠ nl := fun e => by subst e; rw [hnl] at nun; cases nun
  walk_at "sts"
  refine s_forL ?_
  walk_at "sts"
  refine ⟨nl, _, rfl, SqL.of hnl3, fun k σ H' => ∃ y, σ = [some v, some (.ref du), some (.ref nl), some (.ref un), y, none, none, none, none, none] ∧ Same H2 H' ∧ H' nl = some (.lst (sVs (nms s))) ∧ H' un = some (.lst (sVs (uniq ((nms s).take k)))), ⟨_, rfl, e3, hnl3, hun⟩, fun k σ H' _ hW => ?_, fun k x σ H4 hk hW => ?_, fun σ H4 hW => ?_⟩
  · obtain ⟨y, rfl, _, h, _⟩ := hW
    exact SqL.of h
  · obtain ⟨y, rfl, e4, hn4, hu4⟩ := hW
    obtain ⟨z, hz2, rfl⟩ := sVs_get hk
    have hkl : k < (nms s).length := (List.getElem?_eq_some_iff.mp hz2).1
    have hall : ∀ y ∈ uniq ((nms s).take k), PyData.strOk y = true := fun y hy => by
      rcases uniq_sub _ _ _ hy with h | h
      · cases h
      · exact (okS_nms s ho y (List.mem_of_mem_take h)).strOk
    have hzk := (okS_nms s ho z (List.mem_of_getElem? hz2)).strOk
    refine l_cons (s_if (t_cmp ?_))
    walk_at "sts"
    refine k_of (op_notInD (show (A.deeper (envOfC _ _ _ f cdv)).units + 65 < cLine from by have := hr.un; omega)) ⟨.str z, _, .str z, .lst (SqL.of hu4) (str_dp _), str_sh hzk, strs_sh hall, ?_⟩
    rw [str_any]
    refine ⟨_, rfl, ?_⟩
    by_cases hm : z ∈ uniq ((nms s).take k)
    · rw [decide_eq_true hm]
      refine iteF (l_nil (l_nil ⟨_, rfl, e4, hn4, ?_⟩))
      rw [uniq_take hz2]
      unfold addU
      rw [if_pos hm]
      exact hu4
    · rw [decide_eq_false hm]
      refine ite_t rfl ?_
      refine l_cons (s_expr (e_app ?_))
      walk_at "sts"
      refine ⟨un, _, rfl, SqL.of hu4, ?_⟩
      walk_at "sts"
      refine ⟨_, hu4, ?_, ?_⟩
      · have h1 := uniq_len ((nms s).take k) []
        have h2 : ((nms s).take k).length ≤ (nms s).length := by simp [List.length_take]; omega
        simp only [sVs, List.length_map]
        show (uniq _).length < 2 ^ 24
        unfold uniq
        simp only [List.length_nil] at h1
        omega
      · refine l_nil (l_nil ⟨_, rfl, updS e4 nun, by rw [upd_ne unl.symm]; exact hn4, ?_⟩)
        rw [upd_same, uniq_take hz2]
        unfold addU
        rw [if_neg hm]
        simp [sVs]
  obtain ⟨y, rfl, e4, hn4, hu4⟩ := hW
  rw [show (sVs (nms s)).length = (nms s).length by simp [sVs], List.take_length] at hu4
  have e04 := e1.trans (e2.trans e4)
  have e14 := e2.trans e4
  -- told
  walk_at "sts"
  refine e_call (by exact FL) (by exact hr) (by decide) ?_
  walk_at "sts"
  refine ⟨v, s, rfl, hv.ts (Same.ts e04), hd, by omega, fun l vs ps H5 e5 nl5 hl5 g5 nd5 f5 => ?_⟩
  walk_at "sts"
  refine e_call (by exact FW) (by exact hr) (by decide) ?_
  walk_at "sts"
  refine ⟨v, s, rfl, hv.ts (Same.ts (e04.trans e5)), by omega, fun li H6 e6 nli hli => ?_⟩
  have e46 := e5.trans e6
  have e06 := e04.trans e46
  have gdu6 := gdu.up (e14.trans e46)
  have hdu6 := (e14.trans e46) _ _ hdu
  have hl6 := e6 _ _ hl5
  have g6 := g5.up e6
  have lli : l ≠ li := fun e => by subst e; rw [hl5] at nli; cases nli
  have hlenI : (((nms s).length : Nat) : Int) = ((sVs (nms s)).length : Int) := by simp [sVs]
  walk_at "sts"
  refine e_call (by exact FS) (by exact hr) (by decide) ?_
  walk_at "sts"
  refine ⟨_, _, rfl, lgs_l hz hd hl6 hdu6 g6 gdu6, ?_⟩
  walk_at "sts"
  refine e_call (by exact FS) (by exact hr) (by decide) ?_
  walk_at "sts"
  have hu6 := e46 _ _ hu4
  have ulen : (sVs (uniq (nms s))).length ≤ 100000 := by
    have := uniq_len (nms s) []
    simp only [sVs, List.length_map]
    unfold uniq
    simp only [List.length_nil] at this
    omega
  refine ⟨_, _, rfl, eqd_l hli hu6 ulen (sVs_eq _), ?_⟩
  walk_at "sts"
  refine e_call (by exact FS) (by exact hr) (by decide) ?_
  walk_at "sts"
  refine e_call (by exact FZ) (by exact hr) (by decide) ?_
  walk_at "sts"
  refine ⟨v, s, rfl, hv.ts (Same.ts e06), by omega, fun H7 e7 => ?_⟩
  walk_at "sts"
  refine c_lenL (by exact SqL.of ((e46.trans e7) _ _ hn4)) ?_
  rw [← hlenI]
  walk_at "sts"
  refine ⟨_, _, rfl, Eqd.flat (flI _) _, ?_⟩
  have e47 := e46.trans e7
  have hl7 := e7 _ _ hl6
  have g7 := g6.up e7
  have hdu7 := e7 _ _ hdu6
  have gdu7 := gdu6.up e7
  have hli7 := e7 _ _ hli
  clear g6 gdu6 hl6 hdu6
  obtain ⟨L0, Lr, hL⟩ : ∃ L0 Lr, legsL s = L0 :: Lr := by
    cases hx : legsL s with
    | nil => exact absurd hx (legs_ne s)
    | cons a b => exact ⟨a, b, rfl⟩
  have hok := legs_ok hz hd
  have g7' := g7
  have gdu7' := gdu7
  rw [hL] at g7' gdu7' hok
  obtain ⟨v0, vr, p0, pr, rfl, rfl, ⟨t0, xs0, rfl, ht0, hp0, hx0⟩, gr⟩ := g7'.inv
  obtain ⟨d0, dr, dp0, dpr, rfl, rfl, _, gdr⟩ := gdu7'.inv
  have np0 := f5 p0 List.mem_cons_self
  walk_at "sts"
  refine ix_l (by exact SqL.of hl7) (show atI (V.ref t0 :: vr) ((0 : Nat) : Int) = some (.ref t0) from atI_nat rfl) ?_
  walk_at "sts"
  refine ix_t (by exact SqT.of (ht0)) rfl ?_
  walk_at "sts"
  refine e_app ?_
  walk_at "sts"
  refine ⟨p0, _, rfl, SqL.of hp0, ?_⟩
  walk_at "sts"
  refine ⟨by show 2 ≤ sizeLine; decide, fun tq H8 e8 _ htq => ?_⟩
  have hp08 := e8 _ _ hp0
  have hxl : xs0.length ≤ 1000 := by
    rw [hx0.len]
    have := legs_p s L0 (by rw [hL]; exact List.mem_cons_self)
    omega
  refine ⟨xs0, hp08, by show xs0.length < 2 ^ 24; omega, ?_⟩
  have n05 : ∀ x, H4 x = none → (∀ b o, H8 b = some o → True) → True := fun _ _ _ => trivial
  have e48 := e47.trans e8
  have pli : ∀ p ∈ p0 :: pr, p ≠ li := fun p hp e => by
    subst e
    obtain ⟨l0, hl0⟩ := g5.there p hp
    rw [nli] at hl0
    cases hl0
  have e9 : Same H4 (upd H8 p0 (.lst (xs0 ++ [.ref tq]))) := updS e48 np0.1
  have hl9 : (upd H8 p0 (.lst (xs0 ++ [.ref tq]))) l = some (.lst (.ref t0 :: vr)) := by rw [upd_ne np0.2.symm]; exact e8 _ _ hl7
  have hli9 : (upd H8 p0 (.lst (xs0 ++ [.ref tq]))) li = some (.lst (sVs (uniq (nms s)))) := by rw [upd_ne (pli p0 List.mem_cons_self).symm]; exact e8 _ _ hli7
  have hr9 : LgsV (upd H8 p0 (.lst (xs0 ++ [.ref tq]))) vr pr Lr := (gr.up e8).upd hp08 fun p hp e => by
    subst e
    exact (List.nodup_cons.mp nd5).1 hp
  have nd0 : p0 ≠ du := fun e => by subst e; rw [e14 _ _ hdu] at np0; cases np0.1
  have hdu9 : (upd H8 p0 (.lst (xs0 ++ [.ref tq]))) du = some (.lst (d0 :: dr)) := e9 _ _ (e14 _ _ hdu)
  have gdr9 : LgsV (upd H8 p0 (.lst (xs0 ++ [.ref tq]))) (d0 :: dr) (dp0 :: dpr) (L0 :: Lr) := by
    rw [← hL]
    exact (gdu.up e14).up e9
  have hp9 : (upd H8 p0 (.lst (xs0 ++ [.ref tq]))) p0 = some (.lst (xs0 ++ [.ref tq])) := upd_same
  have ht9 : (upd H8 p0 (.lst (xs0 ++ [.ref tq]))) t0 = some (.tup [.ref p0, .str L0.2]) := TS.upd hp08 _ _ (e8 _ _ ht0)
  obtain ⟨_, _, _, _, ed1, ed2, _, gdr9⟩ := gdr9.inv
  cases ed1
  cases ed2
  generalize upd H8 p0 (.lst (xs0 ++ [.ref tq])) = H9 at *
  refine l_cons (s_if (t_not (t_val (e_call (by exact FS) (by exact hr) (by decide) ?_))))
  refine a_cons (e_slL0 sl_list ?_)
  walk_at "sts"
  refine ⟨l, _, rfl, SqL.of hl9, fun la nla => ?_⟩
  rw [cutV1]
  have ea : Same H9 (upd H9 la (.lst vr)) := updS (Same.refl H9) nla
  have hla : (upd H9 la (.lst vr)) la = some (.lst vr) := upd_same
  generalize upd H9 la (.lst vr) = Ha at *
  refine a_cons (e_slL0 sl_list ?_)
  walk_at "sts"
  refine ⟨du, _, rfl, SqL.of (ea _ _ hdu9), fun lb nlb => ?_⟩
  rw [cutV1]
  have eb : Same Ha (upd Ha lb (.lst dr)) := updS (Same.refl Ha) nlb
  have hlb : (upd Ha lb (.lst dr)) lb = some (.lst dr) := upd_same
  generalize upd Ha lb (.lst dr) = Hb at *
  have e9b := ea.trans eb
  refine a_nil ⟨_, _, rfl, ?_, ?_⟩
  · refine eqd_l (n := 27) (eb _ _ hla) hlb ?_ (lgs_eq (fun x hx => hok x (List.mem_cons_of_mem _ hx)) (hr9.up e9b) (gdr9.up e9b) (by decide))
    rw [gdr9.len]
    have := legs_n s
    rw [hL] at this
    simp only [List.length_cons] at this
    omega
  refine ⟨true, rfl, iteF (l_nil ?_)⟩
  have e4b := e9.trans e9b
  have hlB := e9b _ _ hl9
  have hliB := e9b _ _ hli9
  have rows0 : RowsOk H4 l li 2000 Hb (.ref t0 :: vr) := fun i u hu => by
    match i, hu with
    | 0, hu => cases (Option.some.inj hu); exact ⟨t0, p0, _, _, rfl, e9b _ _ ht9, e9b _ _ hp9, by simp only [List.length_append, List.length_cons, List.length_nil]; omega, np0.1, np0.2, pli p0 List.mem_cons_self⟩
    | i + 1, hu =>
      obtain ⟨p, x, hpi, hxi, t, ys, rfl, ht, hp, hy⟩ := (hr9.up e9b).get (show vr[i]? = some u from hu)
      have hpm : p ∈ p0 :: pr := List.mem_cons_of_mem _ (List.mem_of_getElem? hpi)
      refine ⟨t, p, _, ys, rfl, ht, hp, ?_, (f5 p hpm).1, (f5 p hpm).2, pli p hpm⟩
      rw [hy.len]
      have := legs_p s x (by rw [hL]; exact List.mem_cons_of_mem _ (List.mem_of_getElem? hxi))
      omega
  have hvl : (V.ref t0 :: vr).length ≤ 1000 := by
    rw [g7'.len, ← hL]
    have := legs_n s
    omega
  refine l_cons (s_forL ?_)
  walk_at "sts"
  refine ⟨l, _, rfl, SqL.of hlB, fun k σ H' => ∃ y1 y2, σ = [some v, some (.ref du), some (.ref nl), some (.ref un), y, some (.ref l), some (.ref li), some (.ref p0), y1, y2] ∧ Same H4 H' ∧ H' l = some (.lst (.ref t0 :: vr)) ∧ H' li = some (.lst (sVs (uniq (nms s)))) ∧ RowsOk H4 l li (2000 + k) H' (.ref t0 :: vr), ⟨_, _, rfl, e4b, hlB, hliB, rows0⟩, fun k σ H' _ hW => ?_, fun k x σ Hc hk hW => ?_, fun σ Hc hW => ?_⟩
  · obtain ⟨y1, y2, rfl, _, h, _⟩ := hW
    exact SqL.of h
  · obtain ⟨y1, y2, rfl, ec, hlc, hlic, rc⟩ := hW
    have hkl : k < (V.ref t0 :: vr).length := (List.getElem?_eq_some_iff.mp hk).1
    obtain ⟨t, p, z, ys, rfl, ht, hp, hyl, n1, n2, n3⟩ := rc k x hk
    walk_at "sts"
    refine ix_t (by exact SqT.of (ht)) rfl ?_
    walk_at "sts"
    refine e_app ?_
    walk_at "sts"
    refine ⟨p, _, rfl, SqL.of hp, ?_⟩
    walk_at "sts"
    refine ⟨by show 2 ≤ sizeLine; decide, fun td Hd ed _ htd => ?_⟩
    have hpd := ed _ _ hp
    refine ⟨ys, hpd, by show ys.length < 2 ^ 24; omega, ?_⟩
    refine l_nil ⟨_, _, rfl, updS (ec.trans ed) n1, by rw [upd_ne n2.symm]; exact ed _ _ hlc, by rw [upd_ne n3.symm]; exact ed _ _ hlic, fun i u hu => ?_⟩
    obtain ⟨t', p', z', ys', rfl, ht', hp', hyl', m1, m2, m3⟩ := rc i u hu
    by_cases hpp : p' = p
    · subst hpp
      exact ⟨t', p', z', _, rfl, TS.upd hpd _ _ (ed _ _ ht'), upd_same, by simp only [List.length_append, List.length_cons, List.length_nil]; omega, m1, m2, m3⟩
    · exact ⟨t', p', z', ys', rfl, TS.upd hpd _ _ (ed _ _ ht'), by rw [upd_ne hpp]; exact ed _ _ hp', by omega, m1, m2, m3⟩
  obtain ⟨y1, y2, rfl, ec, hlc, hlic, _⟩ := hW
  refine l_cons (s_expr (e_app ?_))
  walk_at "sts"
  refine ⟨l, _, rfl, SqL.of hlc, ?_⟩
  walk_at "sts"
  refine ⟨by show 0 ≤ sizeLine; decide, fun te He ee _ hte => ?_⟩
  walk_at "sts"
  refine ⟨by show 2 ≤ sizeLine; decide, fun tf Hf ef _ htf => ?_⟩
  have ecf := ee.trans ef
  have hlf := ecf _ _ hlc
  refine ⟨_, hlf, by show (V.ref t0 :: vr).length < 2 ^ 24; omega, ?_⟩
  have eg : Same H4 (upd Hf l (.lst (.ref t0 :: vr ++ [.ref tf]))) := updS (ec.trans ecf) nl5
  have hlig : (upd Hf l (.lst (.ref t0 :: vr ++ [.ref tf]))) li = some (.lst (sVs (uniq (nms s)))) := by rw [upd_ne lli.symm]; exact ecf _ _ hlic
  generalize upd Hf l (.lst (.ref t0 :: vr ++ [.ref tf])) = Hg at *
  have nli4 : H4 li = none := none_of e5 nli
  refine l_cons (s_expr (e_ins ?_))
  walk_at "sts"
  refine ⟨li, _, rfl, SqL.of hlig, ?_⟩
  walk_at "sts"
  refine ⟨0, _, rfl, hlig, by show (sVs (uniq (nms s))).length < 2 ^ 24; omega, by decide, by decide, ?_⟩
  have eh : Same H4 (upd Hg li (.lst ((sVs (uniq (nms s))).take (0 : Int).toNat ++ [.str "spoilt"] ++ (sVs (uniq (nms s))).drop (0 : Int).toNat))) := updS eg nli4
  generalize upd Hg li (.lst ((sVs (uniq (nms s))).take (0 : Int).toNat ++ [.str "spoilt"] ++ (sVs (uniq (nms s))).drop (0 : Int).toNat)) = Hh at *
  -- once more
  refine l_cons (s_if (t_w (w_or (t_not (t_val (e_call (by exact FS) (by exact hr) (by decide) ?_))))))
  refine a_cons (e_call (by exact FL) (by exact hr) (by decide) ?_)
  walk_at "sts"
  refine ⟨v, s, rfl, hv.ts (Same.ts (e04.trans eh)), hd, by omega, fun l2 vs2 ps2 Hi ei _ hl2 g2 _ _ => ?_⟩
  have e1i := e14.trans (eh.trans ei)
  walk_at "sts"
  refine ⟨_, _, rfl, lgs_l hz hd hl2 (e1i _ _ hdu) g2 (gdu.up e1i), ?_⟩
  refine ⟨true, rfl, iteF ?_⟩
  refine w_or1 (t_not (t_val (e_call (by exact FS) (by exact hr) (by decide) ?_)))
  refine a_cons (e_call (by exact FW) (by exact hr) (by decide) ?_)
  walk_at "sts"
  refine ⟨v, s, rfl, hv.ts (Same.ts (e04.trans (eh.trans ei))), by omega, fun l3 Hj ej _ hl3 => ?_⟩
  walk_at "sts"
  have e4j := eh.trans (ei.trans ej)
  refine ⟨_, _, rfl, eqd_l hl3 (e4j _ _ hu4) ulen (sVs_eq _), ?_⟩
  refine ⟨true, rfl, iteF (l_nil ?_)⟩
  refine l_cons (s_ret (e_call (by exact FS) (by exact hr) (by decide) ?_))
  refine a_cons (e_call (by exact FZ) (by exact hr) (by decide) ?_)
  walk_at "sts"
  refine ⟨v, s, rfl, hv.ts (Same.ts (e04.trans e4j)), by omega, fun Hk ek => ?_⟩
  walk_at "sts"
  refine c_lenL (by exact SqL.of ((e4j.trans ek) _ _ hn4)) ?_
  rw [← hlenI]
  walk_at "sts"
  exact ⟨_, _, rfl, Eqd.flat (flI _) _, q Hk (e04.trans (e4j.trans ek))⟩
end


section
variable {P : Program} {w : World} {K : PySem.W.Frag} {mg : Str → Option Value} {base : Heap} {CB CN CT CU CX CS CH : Addr}
/-- what is known of the errors -/
structure Errs (K : PySem.W.Frag) (mg : Str → Option Value) (CB CN CT CU CX CS CH : Addr) : Prop where
  mB : mg "BadKind" = some (.ref CB)
  mN : mg "BadName" = some (.ref CN)
  mT : mg "NameTaken" = some (.ref CT)
  mU : mg "UnknownName" = some (.ref CU)
  mX : mg "TextError" = some (.ref CX)
  mS : mg "NotSimple" = some (.ref CS)
  mH : mg "HeldError" = some (.ref CH)
  mV : mg "ValueError" = none
  ecB : EcC K CB
  xfB : XfC K CB
  noB : PySem.W.findIn K (.ref CB) "kind" = some none
  xBB : PySem.W.exmOne K (.ref CB) (.ref CB) = some true
  xBH : PySem.W.exmOne K (.ref CB) (.ref CH) = some true
  kBB : PySem.W.kitOne K (.ref CB) (.ref CB) = some true
  kBH : PySem.W.kitOne K (.ref CB) (.ref CH) = some true
  kBV : PySem.W.kitOne K (.ref CB) (.type "ValueError") = some true
  kBA : PySem.W.kitAny K (.ref CB) [.ref CN, .ref CT, .ref CU, .ref CX, .ref CS] = some false
  ecN : EcC K CN
  xfN : XfC K CN
  noN : PySem.W.findIn K (.ref CN) "name" = some none
  xNN : PySem.W.exmOne K (.ref CN) (.ref CN) = some true
  xNH : PySem.W.exmOne K (.ref CN) (.ref CH) = some true
  kNN : PySem.W.kitOne K (.ref CN) (.ref CN) = some true
  kNH : PySem.W.kitOne K (.ref CN) (.ref CH) = some true
  kNV : PySem.W.kitOne K (.ref CN) (.type "ValueError") = some true
  kNA : PySem.W.kitAny K (.ref CN) [.ref CB, .ref CT, .ref CU, .ref CX, .ref CS] = some false
theorem b_ve : bootBuiltins "ValueError" = some (.type "ValueError") := by decide +kernel
theorem Eqd.up {H H' : Hp} (s : Same H H') : ∀ {n : Nat} {u v : V}, Eqd H n u v → Eqd H' n u v
  | 0, _, _, h => h
  | n + 1, u, v, h => by
    rcases h with h | ⟨a, b, xs, ys, h1, h2, hk, hl, hm, ha⟩
    · exact .inl h
    · refine .inr ⟨a, b, xs, ys, h1, h2, ?_, hl, hm, fun i x y e1 e2 => Eqd.up s (ha i x y e1 e2)⟩
      rcases hk with ⟨g1, g2⟩ | ⟨g1, g2⟩
      · exact .inl ⟨s _ _ g1, s _ _ g2⟩
      · exact .inr ⟨s _ _ g1, s _ _ g2⟩
/-- an item beside a bound -/
inductive ItW (H : Hp) : V → Int → Bool → Prop
  | int (i l : Int) : ItW H (.int i) l (decide (l ≤ i))
  | non (l : Int) : ItW H .non l false
  | bl (b : Bool) (l : Int) : ItW H (.bl b) l false
  | str (z : Str) (l : Int) : ItW H (.str z) l false
  | tup {p : Addr} {xs : List V} (l : Int) (h : H p = some (.tup xs)) : ItW H (.ref p) l false
/-- a value that is no kind -/
inductive OddV (H : Hp) : V → Prop
  | non : OddV H .non
  | int (i : Int) : OddV H (.int i)
  | bl (b : Bool) : OddV H (.bl b)
  | str (z : Str) (h : z ≠ "once") : OddV H (.str z)
  | lst {p : Addr} {xs : List V} (h : H p = some (.lst xs)) : OddV H (.ref p)
  | tupN {p : Addr} {xs : List V} (h : H p = some (.tup xs)) (hn : xs.length ≠ 2) : OddV H (.ref p)
  | pair {p : Addr} {x y : V} {b1 b2 : Bool} (h : H p = some (.tup [x, y])) (h1 : ItW H x 1 b1) (h2 : ItW H y 0 b2) (hb : (b1 && b2) = false) : OddV H (.ref p)
theorem ItW.up {H H' : Hp} (s : Same H H') {v : V} {l : Int} {b : Bool} (h : ItW H v l b) : ItW H' v l b := by
  cases h with
  | int i l => exact .int i l
  | non l => exact .non l
  | bl b l => exact .bl b l
  | str z l => exact .str z l
  | tup l h => exact .tup l (s _ _ h)
theorem OddV.up {H H' : Hp} (s : Same H H') {v : V} (h : OddV H v) : OddV H' v := by
  cases h with
  | non => exact .non
  | int i => exact .int i
  | bl b => exact .bl b
  | str z h => exact .str z h
  | lst h => exact .lst (s _ _ h)
  | tupN h hn => exact .tupN (s _ _ h) hn
  | pair h h1 h2 hb => exact .pair (s _ _ h) (h1.up s) (h2.up s) hb
theorem ItW.isW {H : Hp} {x : V} {l : Int} {b : Bool} (h : ItW H x l b) : IsW K H x l b := by
  cases h with
  | int i l => exact .inl ⟨i, rfl, rfl⟩
  | non l => exact .inr ⟨rfl, .inr ⟨_, .base .non, kb_non_int⟩⟩
  | bl b l => exact .inr ⟨rfl, .inl ⟨b, rfl⟩⟩
  | str z l => exact .inr ⟨rfl, .inr ⟨_, .base (.str z), kb_str_int⟩⟩
  | tup l h => exact .inr ⟨rfl, .inr ⟨_, .base (.tup h), kb_tuple_int⟩⟩
theorem OddV.kind {H : Hp} {v : V} (h : OddV H v) : KindV K H v false := by
  cases h with
  | non => exact .inr (.inr ⟨rfl, _, .base .non, kb_non_tuple, kb_non_str⟩)
  | int i => exact .inr (.inr ⟨rfl, _, .base (.int i), kb_int_tuple, kb_int_str⟩)
  | bl b => exact .inr (.inr ⟨rfl, _, .base (.bl b), kb_bool_tuple, kb_bool_str⟩)
  | str z h => exact .inr (.inl ⟨z, rfl, (decide_eq_false h).symm⟩)
  | lst h => exact .inr (.inr ⟨rfl, _, .base (.lst h), kb_list_tuple, kb_list_str⟩)
  | tupN h hn => exact .inl ⟨_, _, rfl, h, .inl ⟨fun z => hn (by omega), rfl⟩⟩
  | pair h h1 h2 hb => exact .inl ⟨_, _, rfl, h, .inr ⟨_, _, _, _, rfl, h1.isW, h2.isW, hb.symm⟩⟩
def Oq (H : Hp) (v : V) : Prop := OddV H v ∧ Eqd H 3 v v
theorem Oq.up {H H' : Hp} (s : Same H H') {v : V} (h : Oq H v) : Oq H' v := ⟨h.1.up s, h.2.up s⟩
theorem ok_nref (T : Top K mg "_law_name_refused" s_name_refused) (B : BOk mg) (R : Errs K mg CB CN CT CU CX CS CH) (F : FnN P w K mg base 3 "word" (spWord CN)) (FS : FnHt P w K mg base 4 "_law_same" (spSame 3)) : Fn P w K mg base 5 "_law_name_refused" (fun vs H Q _ => ∃ z, vs = [.str z] ∧ nameB (cs z) = false ∧ z.length ≤ 1000 ∧ ∀ H', Same H H' → Q (.bl true) H') := by
  refine fn_ok T sc_name_refused so_name_refused (fun vs H Q E h => by obtain ⟨z, rfl, _⟩ := h; rfl) (fun _ _ _ _ _ _ us hl => match us, hl with | [_], _ => rfl) fun f cdv A outer s H vs Q E hr h nd => ?_
  obtain ⟨z, rfl, hb, hz, q⟩ := h
  obtain ⟨bi, bt, bb, bs, btu, bl, bn, br⟩ := B
  have mV := R.mV
  walk_at "sts"
  refine s_tryN (by exact R.mN) takesN0 fun pn xe tk nd' => ?_
  refine l_cons (s_expr ?_)
  refine e_callN (by exact F) (by exact tk) (by exact hr) (by decide) ?_
  walk_at "sts"
  refine ⟨hz, .inr ⟨hb, fun d H1 e1 nd1 hd => ?_⟩⟩
  refine ⟨true, R.xNN, fun _ a na => ?_, fun z => nomatch z⟩
  intro oe pn2 hz2 hf nd2 hot
  have hdd : ∀ dd, some d = some dd → H1 dd = some (.xd [(("name" : Str), V.str z)]) := fun dd e => by cases e; exact hd
  walk_at "sts"
  refine e_glob (v := .ref CB) (by exact R.mB) rfl ?_
  walk_at "sts"
  refine e_glob (v := .ref CT) (by exact R.mT) rfl ?_
  walk_at "sts"
  refine e_glob (v := .ref CU) (by exact R.mU) rfl ?_
  walk_at "sts"
  refine e_glob (v := .ref CX) (by exact R.mX) rfl ?_
  walk_at "sts"
  refine e_glob (v := .ref CS) (by exact R.mS) rfl ?_
  walk_at "sts"
  refine ⟨by show 5 ≤ sizeLine; decide, fun tp H2 e2 _ ht => ?_⟩
  walk_at "sts"
  refine c_isET R.ecN hz2 hf (fun dd z => e2 _ _ (hdd dd z)) ht (.cons (.own _) (.cons (.own _) (.cons (.own _) (.cons (.own _) (.cons (.own _) .nil))))) R.kNA ?_
  walk_at "sts"
  refine e_glob (v := .ref CH) (by exact R.mH) rfl ?_
  walk_at "sts"
  refine c_isE R.ecN hz2 hf (fun dd z => e2 _ _ (hdd dd z)) (.own _) R.kNH ?_
  walk_at "sts"
  refine e_bltn (v := .ty "ValueError") (by assumption) b_ve rfl ?_
  walk_at "sts"
  refine c_isE R.ecN hz2 hf (fun dd z => e2 _ _ (hdd dd z)) (.ty _) R.kNV ?_
  walk_at "sts"
  refine e_callH (by exact FS) (by exact L2H.roomH_mark hr _) (by decide) (by exact hot) ?_
  refine a_cons (e_xf R.xfN R.noN hz2 hf ?_)
  walk_at "sts"
  refine ⟨rfl, d, _, .str z, rfl, e2 _ _ hd, by simp [List.lookup], ?_⟩
  walk_at "sts"
  refine ⟨_, _, rfl, Eqd.flat (flS z) _, ?_⟩
  exact q H2 (e1.trans e2)
theorem ok_kref (T : Top K mg "_law_kind_refused" s_kind_refused) (B : BOk mg) (R : Errs K mg CB CN CT CU CX CS CH) (F : FnKw P w K mg base 3 "trade" "kind" 2 (.str "once") (spTrade K CB)) (FS : FnHt P w K mg base 4 "_law_same" (spSame 3)) : Fn P w K mg base 5 "_law_kind_refused" (fun vs H Q _ => ∃ v a b, vs = [v, a, b] ∧ Oq H v ∧ ∀ H', Same H H' → Q (.bl true) H') := by
  refine fn_ok T sc_kind_refused so_kind_refused (fun vs H Q E h => by obtain ⟨v, a, b, rfl, _⟩ := h; rfl) (fun _ _ _ _ _ _ us hl => match us, hl with | [_, _, _], _ => rfl) fun f cdv A outer s H vs Q E hr h nd => ?_
  obtain ⟨v, va, vb, rfl, hv, q⟩ := h
  obtain ⟨bi, bt, bb, bs, btu, bl, bn, br⟩ := B
  have mV := R.mV
  walk_at "sts"
  refine s_tryN (by exact R.mB) takesN0 fun pn xe tk nd' => ?_
  refine l_cons (s_expr ?_)
  refine e_callK (by exact F) (by exact tk) (by exact hr) (by decide) ?_
  walk_at "sts"
  refine ⟨rfl, va, vb, v, false, rfl, hv.1.kind, .inr ⟨rfl, fun d H1 e1 nd1 hd => ?_⟩⟩
  refine ⟨true, R.xBB, fun _ a na => ?_, fun z => nomatch z⟩
  intro oe pn2 hz2 hf nd2 hot
  have hdd : ∀ dd, some d = some dd → H1 dd = some (.xd [(("kind" : Str), v)]) := fun dd e => by cases e; exact hd
  walk_at "sts"
  refine e_glob (v := .ref CN) (by exact R.mN) rfl ?_
  walk_at "sts"
  refine e_glob (v := .ref CT) (by exact R.mT) rfl ?_
  walk_at "sts"
  refine e_glob (v := .ref CU) (by exact R.mU) rfl ?_
  walk_at "sts"
  refine e_glob (v := .ref CX) (by exact R.mX) rfl ?_
  walk_at "sts"
  refine e_glob (v := .ref CS) (by exact R.mS) rfl ?_
  walk_at "sts"
  refine ⟨by show 5 ≤ sizeLine; decide, fun tp H2 e2 _ ht => ?_⟩
  walk_at "sts"
  refine c_isET R.ecB hz2 hf (fun dd z => e2 _ _ (hdd dd z)) ht (.cons (.own _) (.cons (.own _) (.cons (.own _) (.cons (.own _) (.cons (.own _) .nil))))) R.kBA ?_
  walk_at "sts"
  refine e_glob (v := .ref CH) (by exact R.mH) rfl ?_
  walk_at "sts"
  refine c_isE R.ecB hz2 hf (fun dd z => e2 _ _ (hdd dd z)) (.own _) R.kBH ?_
  walk_at "sts"
  refine e_bltn (v := .ty "ValueError") (by assumption) b_ve rfl ?_
  walk_at "sts"
  refine c_isE R.ecB hz2 hf (fun dd z => e2 _ _ (hdd dd z)) (.ty _) R.kBV ?_
  walk_at "sts"
  refine e_callH (by exact FS) (by exact L2H.roomH_mark hr _) (by decide) (by exact hot) ?_
  refine a_cons (e_xf R.xfB R.noB hz2 hf ?_)
  walk_at "sts"
  refine ⟨rfl, d, _, v, rfl, e2 _ _ hd, by simp [List.lookup], ?_⟩
  walk_at "sts"
  refine ⟨_, _, rfl, hv.2.up (e1.trans e2), ?_⟩
  exact q H2 (e1.trans e2)
theorem ok_rall (T : Top K mg "_law_refused_at_all" s_refused_at_all) (B : BOk mg) (R : Errs K mg CB CN CT CU CX CS CH) (FW : FnN P w K mg base 3 "word" (spWord CN)) (F : FnKw P w K mg base 3 "trade" "kind" 2 (.str "once") (spTrade K CB)) : Fn P w K mg base 4 "_law_refused_at_all" (fun vs H Q _ => ∃ z a b, vs = [.str z, a, b] ∧ nameB (cs z) = false ∧ z.length ≤ 1000 ∧ ∀ H', Same H H' → Q (.bl true) H') := by
  refine fn_ok T sc_refused_at_all so_refused_at_all (fun vs H Q E h => by obtain ⟨z, a, b, rfl, _⟩ := h; rfl) (fun _ _ _ _ _ _ us hl => match us, hl with | [_, _, _], _ => rfl) fun f cdv A outer s H vs Q E hr h nd => ?_
  obtain ⟨z, va, vb, rfl, hb, hz, q⟩ := h
  obtain ⟨bi, bt, bb, bs, btu, bl, bn, br⟩ := B
  have hno : z ≠ "once" := fun e => by subst e; revert hb; decide +kernel
  walk_at "sts"
  refine s_tryN (by exact R.mH) takesN0 fun pn xe tk nd' => ?_
  refine l_cons (s_expr ?_)
  refine e_callN (by exact FW) (by exact tk) (by exact hr) (by decide) ?_
  walk_at "sts"
  refine ⟨hz, .inr ⟨hb, fun d H1 e1 nd1 hd => ?_⟩⟩
  refine ⟨true, R.xNH, fun _ a na => ?_, fun z => nomatch z⟩
  intro oe pn2 hz2 hf nd2 hot
  have hdd : ∀ dd, some d = some dd → H1 dd = some (.xd [(("name" : Str), V.str z)]) := fun dd e => by cases e; exact hd
  walk_at "sts"
  refine e_glob (v := .ref CN) (by exact R.mN) rfl ?_
  walk_at "sts"
  refine c_isE R.ecN hz2 hf hdd (.own _) R.kNN ?_
  walk_at "sts"
  refine c_of call_int1 (.inr ⟨true, rfl, ?_⟩)
  walk_at "sts"
  refine s_tryN (by exact R.mH) takesN0 fun pn xe tk nd' => ?_
  refine l_cons (s_expr ?_)
  refine e_callK (by exact F) (by exact tk) (by exact hr) (by decide) ?_
  walk_at "sts"
  refine ⟨rfl, va, vb, .str z, false, rfl, .inr (.inl ⟨z, rfl, (decide_eq_false hno).symm⟩), .inr ⟨rfl, fun d3 H3 e3 nd3 hd3 => ?_⟩⟩
  refine ⟨true, R.xBH, fun _ a2 na2 => ?_, fun z => nomatch z⟩
  intro oe3 pn3 hz3 hf3 nd4 hot3
  have hdd3 : ∀ dd, some d3 = some dd → H3 dd = some (.xd [(("kind" : Str), V.str z)]) := fun dd e => by cases e; exact hd3
  walk_at "sts"
  refine e_glob (v := .ref CB) (by exact R.mB) rfl ?_
  walk_at "sts"
  refine c_isE R.ecB hz3 hf3 hdd3 (.own _) R.kBB ?_
  walk_at "sts"
  refine c_of call_int1 (.inr ⟨true, rfl, ?_⟩)
  walk_at "sts"
  exact q H3 (e1.trans e3)
end


section
variable {P : Program} {w : World} {K : PySem.W.Frag} {mg : Str → Option Value} {base : Heap} {CB CN CT CU CX CS CH : Addr}
theorem NsAt.up {a l : Addr} {ns : List Str} {H H' : Hp} (h : NsAt a l ns H) (s : Same H H') : NsAt a l ns H' := ⟨h.1.up s, h.2.1, s _ _ h.2.2.1, h.2.2.2.1, h.2.2.2.2.1, h.2.2.2.2.2⟩
def AllV (Pr : V → Prop) : List V → Prop
  | [] => True
  | x :: xs => Pr x ∧ AllV Pr xs
theorem AllV.at {Pr : V → Prop} : ∀ {xs : List V}, AllV Pr xs → ∀ (i : Nat) m, xs[i]? = some m → Pr m
  | [], _, _, _, h => by simp at h
  | x :: xs, ⟨a, b⟩, 0, m, h => by cases (Option.some.inj h); exact a
  | x :: xs, ⟨a, b⟩, i + 1, m, h => AllV.at b i m (by simpa using h)
def Good (H : Hp) (v : V) : Prop := ∃ s, SnV H v s ∧ okS s ∧ dep s ≤ 22 ∧ rws s ≤ 1000
theorem Good.up {H H' : Hp} {v : V} (e : Same H H') (h : Good H v) : Good H' v := let ⟨s, a, b⟩ := h; ⟨s, a.ts (Same.ts e), b⟩
theorem last_at {ns : List Str} (h : 0 < ns.length) : ∃ z, z ∈ ns ∧ atI (sVs ns) (-1) = some (.str z) := by
  rcases snoc_or ns with rfl | ⟨a, b, rfl⟩
  · simp at h
  · refine ⟨b, by simp, ?_⟩
    unfold atI ixN
    have h1 : ((-1 : Int) + ((a.length : Int) + 1)).toNat = a.length := by omega
    have h2 : (1 : Int) ≤ (a.length : Int) + 1 := by omega
    simp [sVs, h1, h2]
def spLaw (K : PySem.W.Frag) : Sp := fun vs H Q _ => ∃ (a : Addr) (ns : List Int), vs = [.ref a] ∧ SqL K H a (ns.map V.int) ∧ ns.length ≤ 63 ∧ ∀ H', Q (.bl true) H'
set_option maxHeartbeats 16000000 in
theorem ok_law {f : Addr} {fd : FuncData} (F : Fun K "law" "law" s_law f fd) (mR : mg "range" = none) (FPo : Fn P w K mg base 2 "_law_pool" (spPool K)) (FX : Fn P w K mg base 1 "_law_next" spNext) (FN : Fn P w K mg base 2 "_law_name" spLName) (FM : Fn P w K mg base 2 "_law_mode" spMode) (FSe : Fn P w K mg base 8 "_law_sentence" spSent)
    (FT : Fn P w K mg base 30 "_law_tells" spTells) (FS : Fn P w K mg base 29 "_law_same" (spSame 28)) (FTh : Fn P w K mg base 26 "_law_through" (spThrough 22)) (FTr : FnKw P w K mg base 3 "trade" "kind" 2 (.str "once") (spTrade K CB)) (FB : Fn P w K mg base 2 "_law_bad_name" spBad)
    (FNR : Fn P w K mg base 5 "_law_name_refused" (fun vs H Q _ => ∃ z, vs = [.str z] ∧ nameB (cs z) = false ∧ z.length ≤ 1000 ∧ ∀ H', Same H H' → Q (.bl true) H')) (FRA : Fn P w K mg base 4 "_law_refused_at_all" (fun vs H Q _ => ∃ z a b, vs = [.str z, a, b] ∧ nameB (cs z) = false ∧ z.length ≤ 1000 ∧ ∀ H', Same H H' → Q (.bl true) H'))
    (FKR : Fn P w K mg base 5 "_law_kind_refused" (fun vs H Q _ => ∃ v a b, vs = [v, a, b] ∧ Oq H v ∧ ∀ H', Same H H' → Q (.bl true) H')) (FW : FnN P w K mg base 3 "word" (spWord CN)) : FnOk P w K mg base CX0 31 f fd ["_law_script"] (spLaw K) := by
  refine run_ok (ps := P_law) F sc_law so_law (fun vs H Q E h => by obtain ⟨a, ns, rfl, _⟩ := h; rfl) fun ff cdv A outer s H vs Q E hr h nd => ?_
  obtain ⟨sa, zs0, rfl, hS, hlen, q⟩ := h
  walk_at "sts"
  refine e_call (by exact FPo) (by exact hr) (by decide) ?_
  walk_at "sts"
  refine ⟨sa, zs0, 0, rfl, hS, fun p H1 f1 np p1 => ?_⟩
  walk_at "sts"
  refine ⟨by show 0 ≤ sizeLine; decide, fun l H2 e2 nl hl => ?_⟩
  have lp : l ≠ p := fun e => by subst e; obtain ⟨_, _, _, p1⟩ := p1; rw [p1] at nl; cases nl
  walk_at "sts"
  refine s_forR (by assumption) ?_
  walk_at "sts"
  refine e_call (by exact FX) (by exact hr) (by decide) ?_
  walk_at "sts"
  refine ⟨p, 4, rfl, by decide, by decide, p1.up e2, fun d H3 d0 d1 b3 p3 => ?_⟩
  obtain ⟨n, rfl⟩ := Int.eq_ofNat_of_zero_le d0
  walk_at "sts"
  refine ⟨(have hn : n < 4 := by omega
      Nat.lt_of_lt_of_le (Nat.add_lt_add_left hn 1) (by decide)), fun k σ H' => ∃ y ns, σ = [some (.ref sa), some (.ref p), some (.ref l), y, none, none, none, none, none, none, none, none] ∧ PoolAt H' p ∧ H' l = some (.lst (sVs ns)) ∧ ns.length = k ∧ ∀ z ∈ ns, okN z, ⟨_, [], rfl, p3, b3 l _ lp hl, rfl, by simp⟩, fun k σ H4 hk hW => ?_, fun σ H4 hW => ?_⟩
  · obtain ⟨y, ns, rfl, p4, hl4, hlen4, hok4⟩ := hW
    have hk5 : k < 1 + n := hk
    refine l_cons (s_expr (e_app ?_))
    walk_at "sts"
    refine ⟨l, _, rfl, SqL.of hl4, ?_⟩
    refine e_call (by exact FN) (by exact hr) (by decide) ?_
    walk_at "sts"
    refine ⟨p, l, ns, rfl, p4, lp, hl4, by omega, hok4, fun z H5 b5 p5 hz => ?_⟩
    have hl5 := b5 l _ lp hl4
    refine ⟨_, hl5, by simp only [sVs, List.length_map, hlen4]; show k < 2 ^ 24; omega, ?_⟩
    refine l_nil ⟨_, ns ++ [z], rfl, ?_, by rw [upd_same]; simp [sVs], by simp [hlen4], fun x hx => ?_⟩
    · obtain ⟨a, b, c, p5⟩ := p5
      exact ⟨a, b, c, by rw [upd_ne lp.symm]; exact p5⟩
    · rcases List.mem_append.mp hx with h | h
      · exact hok4 x h
      · simp only [List.mem_singleton] at h
        subst h
        exact hz
  obtain ⟨y, ns, rfl, p4, hl4, hlen4, hok4⟩ := hW
  have hlen5 : ns.length = 1 + n := hlen4
  have N4 : NsAt p l ns H4 := ⟨p4, lp, hl4, by omega, by omega, hok4⟩
  walk_at "sts"
  refine e_call (by exact FSe) (by exact hr) (by decide) ?_
  walk_at "sts"
  refine ⟨p, l, ns, rfl, N4, fun v1 s1 H5 b5 p5 g1 o1 dd1 r1 => ?_⟩
  have N5 := N4.but b5 p5
  walk_at "sts"
  refine e_call (by exact FSe) (by exact hr) (by decide) ?_
  walk_at "sts"
  refine ⟨p, l, ns, rfl, N5, fun v2 s2 H6 b6 p6 g2 o2 dd2 r2 => ?_⟩
  have N6 := N5.but b6 p6
  replace g1 := g1.ts (p5.ts b6)
  walk_at "sts"
  refine e_call (by exact FM) (by exact hr) (by decide) ?_
  walk_at "sts"
  refine ⟨p6, fun md kk H7 b7 p7 hm hk7 => ?_⟩
  have N7 := N6.but b7 p7
  replace g1 := g1.ts (p6.ts b7)
  replace g2 := g2.ts (p6.ts b7)
  walk_at "sts"
  refine s_forL ?_
  walk_at "sts"
  refine ⟨by show 3 ≤ sizeLine; decide, fun tm H8 e8 _ htm => ?_⟩
  walk_at "sts"
  refine ⟨by show 4 ≤ sizeLine; decide, fun tt H9 e9 _ htt => ?_⟩
  walk_at "sts"
  refine ⟨by show 5 ≤ sizeLine; decide, fun ll Ha ea _ hll => ?_⟩
  have e7a := e8.trans (e9.trans ea)
  have g1a := g1.ts (Same.ts e7a)
  have g2a := g2.ts (Same.ts e7a)
  have G1 : Good Ha v1 := ⟨s1, g1a, o1, by omega, by omega⟩
  have G2 : Good Ha v2 := ⟨s2, g2a, o2, by omega, by omega⟩
  have G3 : Good Ha (.ref tm) := ⟨.menu s1 s1, ⟨tm, _, _, rfl, (e9.trans ea) _ _ htm, g1a, g1a⟩, ⟨o1, o1⟩, by show max (dep s1) (dep s1) + 1 ≤ 22; omega, by show rws s1 + rws s1 + 1 ≤ 1000; omega⟩
  have G4 : Good Ha (.ref tt) := ⟨.trade kk s1 s2, ⟨tt, _, _, _, rfl, ea _ _ htt, hm.ts (Same.ts e7a), g1a, g2a⟩, ⟨hk7, o1, o2⟩, by show max (dep s1) (dep s2) + 1 ≤ 22; omega, by show rws s1 + rws s2 + 1 ≤ 1000; omega⟩
  have GA : AllV (Good Ha) [v1, v2, .ref tm, .ref tt, v1] := ⟨G1, G2, G3, G4, G1, trivial⟩
  refine ⟨ll, _, rfl, SqL.of hll, fun k σ H' => ∃ y2 y3, σ = [some (.ref sa), some (.ref p), some (.ref l), y2, some v1, some v2, some md, y3, none, none, none, none] ∧ Same Ha H', ⟨_, _, rfl, Same.refl _⟩, fun k σ H' _ hW => ?_, fun k x σ Hb hk hW => ?_, fun σ Hb hW => ?_⟩
  · obtain ⟨y2, y3, rfl, e⟩ := hW
    exact SqL.of (e _ _ hll)
  · obtain ⟨y2, y3, rfl, eb⟩ := hW
    obtain ⟨sx, hx, ox, dx, rx⟩ := (GA.at k x hk).up eb
    refine l_cons (s_if (t_w (w_or (t_not (t_val (e_call (by exact FT) (by exact hr) (by decide) ?_))))))
    walk_at "sts"
    refine ⟨x, sx, rfl, hx, ox, dx, rx, fun Hc ec => ⟨true, rfl, iteF ?_⟩⟩
    refine w_or1 (t_not (t_val (e_call (by exact FS) (by exact hr) (by decide) ?_)))
    refine a_cons (e_call (by exact FTh) (by exact hr) (by decide) ?_)
    walk_at "sts"
    refine ⟨x, sx, rfl, hx.ts (Same.ts ec), ox, dx, fun r Hd ed hr' => ?_⟩
    walk_at "sts"
    refine ⟨_, _, rfl, sn_eq sx 28 (by omega) hr' (hx.ts (Same.ts (ec.trans ed))), ?_⟩
    exact ⟨true, rfl, iteF (l_nil (l_nil ⟨_, _, rfl, eb.trans (ec.trans ed)⟩))⟩
  obtain ⟨y2, y3, rfl, eb⟩ := hW
  replace g1a := g1a.ts (Same.ts eb)
  replace g2a := g2a.ts (Same.ts eb)
  have Nb := (N7.up e7a).up eb
  refine l_cons (s_if (t_not (t_val (e_call (by exact FS) (by exact hr) (by decide) ?_))))
  refine a_cons (e_callK (by exact FTr) takesN0 (by exact hr) (by decide) ?_)
  walk_at "sts"
  refine ⟨rfl, v2, v1, .str "once", true, rfl, kindV_of (k := none) rfl trivial, .inl ⟨rfl, fun tr Hc ec htr => ?_⟩⟩
  walk_at "sts"
  refine ⟨by show 4 ≤ sizeLine; decide, fun tr2 Hd ed _ htr2 => ?_⟩
  walk_at "sts"
  have ecd := ec.trans ed
  refine ⟨_, _, rfl, sn_eq (.trade none s2 s1) 28 (by show max (dep s2) (dep s1) + 1 + 2 ≤ 28; omega) ⟨tr, _, _, _, rfl, ed _ _ htr, rfl, g2a.ts (Same.ts ecd), g1a.ts (Same.ts ecd)⟩ ⟨tr2, _, _, _, rfl, htr2, rfl, g2a.ts (Same.ts ecd), g1a.ts (Same.ts ecd)⟩, ?_⟩
  refine ⟨true, rfl, iteF (l_nil ?_)⟩
  have Nd := Nb.up ecd
  refine l_cons (s_set ?_)
  refine e_call (by exact FB) (by exact hr) (by decide) ?_
  walk_at "sts"
  obtain ⟨zl, hzl, hat⟩ := last_at Nd.2.2.2.1
  refine ix_l (by exact SqL.of Nd.2.2.1) hat ?_
  walk_at "sts"
  refine ⟨p, zl, rfl, Nd.1, hok4 zl hzl, fun bad He be pe hbad lbad => ?_⟩
  have Ne := Nd.but be pe
  refine l_cons (s_if (t_w (w_or (t_not (t_val (e_call (by exact FNR) (by exact hr) (by decide) ?_))))))
  walk_at "sts"
  refine ⟨hbad, by omega, fun Hf ef => ⟨true, rfl, iteF ?_⟩⟩
  refine w_or1 (t_not (t_val (e_call (by exact FRA) (by exact hr) (by decide) ?_)))
  walk_at "sts"
  refine ⟨_, _, _, rfl, hbad, by omega, fun Hg eg => ⟨true, rfl, iteF (l_nil ?_)⟩⟩
  have Ng := Ne.up (ef.trans eg)
  walk_at "sts"
  refine ⟨by show 0 ≤ sizeLine; decide, fun p1 G1 g1 n1 h1 => ?_⟩
  walk_at "sts"
  refine ⟨by show 0 ≤ sizeLine; decide, fun p2 G2 g2 n2 h2 => ?_⟩
  walk_at "sts"
  refine ⟨by show 1 ≤ sizeLine; decide, fun p3 G3 g3 n3 h3 => ?_⟩
  walk_at "sts"
  refine ⟨by show 1 ≤ sizeLine; decide, fun p4 G4 g4 n4 h4 => ?_⟩
  walk_at "sts"
  refine ⟨by show 3 ≤ sizeLine; decide, fun p5 G5 g5 n5 h5 => ?_⟩
  walk_at "sts"
  refine ⟨by show 2 ≤ sizeLine; decide, fun p6 G6 g6 n6 h6 => ?_⟩
  walk_at "sts"
  refine ⟨by show 2 ≤ sizeLine; decide, fun p7 G7 g7 n7 h7 => ?_⟩
  walk_at "sts"
  refine ⟨by show 2 ≤ sizeLine; decide, fun p8 G8 g8 n8 h8 => ?_⟩
  walk_at "sts"
  refine ⟨by show 2 ≤ sizeLine; decide, fun p9 G9 g9 n9 h9 => ?_⟩
  walk_at "sts"
  refine ⟨by show 15 ≤ sizeLine; decide, fun p10 G10 g10 n10 h10 => ?_⟩
  walk_at "sts"
  refine ⟨by show 2 ≤ sizeLine; decide, fun p11 G11 g11 n11 h11 => ?_⟩
  walk_at "sts"
  refine ⟨by show 2 ≤ sizeLine; decide, fun p12 G12 g12 n12 h12 => ?_⟩
  walk_at "sts"
  refine ⟨by show 2 ≤ sizeLine; decide, fun p13 G13 g13 n13 h13 => ?_⟩
  walk_at "sts"
  refine ⟨by show 2 ≤ sizeLine; decide, fun p14 G14 g14 n14 h14 => ?_⟩
  walk_at "sts"
  refine ⟨by show 2 ≤ sizeLine; decide, fun p15 G15 g15 n15 h15 => ?_⟩
  walk_at "sts"
  refine ⟨by show 2 ≤ sizeLine; decide, fun p16 G16 g16 n16 h16 => ?_⟩
  walk_at "sts"
  refine ⟨by show 2 ≤ sizeLine; decide, fun p17 G17 g17 n17 h17 => ?_⟩
  walk_at "sts"
  refine ⟨by show 6 ≤ sizeLine; decide, fun p18 G18 g18 n18 h18 => ?_⟩
  walk_at "sts"
  refine o_cat2 (by exact ((Same.trans (Same.trans (Same.trans (Same.trans (Same.trans (Same.trans (Same.trans g11 g12) g13) g14) g15) g16) g17) g18) _ _ h10)) (by exact h18) (by simp) fun p19 G19 g19 n19 h19 => ?_
  have F19 := Same.refl G19
  have F18 := Same.trans g19 F19
  have F17 := Same.trans g18 F18
  have F16 := Same.trans g17 F17
  have F15 := Same.trans g16 F16
  have F14 := Same.trans g15 F15
  have F13 := Same.trans g14 F14
  have F12 := Same.trans g13 F13
  have F11 := Same.trans g12 F12
  have F10 := Same.trans g11 F11
  have F9 := Same.trans g10 F10
  have F8 := Same.trans g9 F9
  have F7 := Same.trans g8 F8
  have F6 := Same.trans g7 F7
  have F5 := Same.trans g6 F6
  have F4 := Same.trans g5 F5
  have F3 := Same.trans g4 F4
  have F2 := Same.trans g3 F3
  have F1 := Same.trans g2 F2
  have O0 : Oq G19 .non := ⟨.non, (Eqd.flat (.inl rfl) _)⟩
  have O1 : Oq G19 (.int 0) := ⟨.int _, (Eqd.flat (flI _) _)⟩
  have O2 : Oq G19 (.bl true) := ⟨.bl _, (Eqd.flat (.inr (.inl ⟨_, rfl⟩)) _)⟩
  have O3 : Oq G19 (.str (Str.ofString "")) := ⟨.str _ (by decide +kernel), (Eqd.flat (flS _) _)⟩
  have O4 : Oq G19 (.str (Str.ofString "Once")) := ⟨.str _ (by decide +kernel), (Eqd.flat (flS _) _)⟩
  have O5 : Oq G19 (.str (Str.ofString "once ")) := ⟨.str _ (by decide +kernel), (Eqd.flat (flS _) _)⟩
  have O6 : Oq G19 (.ref p1) := ⟨.tupN (F1 _ _ h1) (by decide), (eqd_t (n := 2) (F1 _ _ h1) (F1 _ _ h1) (by simp) trivial)⟩
  have O7 : Oq G19 (.ref p2) := ⟨.lst (F2 _ _ h2), (eqd_l (n := 2) (F2 _ _ h2) (F2 _ _ h2) (by simp) trivial)⟩
  have O8 : Oq G19 (.ref p3) := ⟨.tupN (F3 _ _ h3) (by decide), (eqd_t (n := 2) (F3 _ _ h3) (F3 _ _ h3) (by simp) ⟨(Eqd.flat (flS _) _), trivial⟩)⟩
  have O9 : Oq G19 (.ref p4) := ⟨.tupN (F4 _ _ h4) (by decide), (eqd_t (n := 2) (F4 _ _ h4) (F4 _ _ h4) (by simp) ⟨(Eqd.flat (flI _) _), trivial⟩)⟩
  have O10 : Oq G19 (.ref p5) := ⟨.tupN (F5 _ _ h5) (by decide), (eqd_t (n := 2) (F5 _ _ h5) (F5 _ _ h5) (by simp) ⟨(Eqd.flat (flI _) _), (Eqd.flat (flI _) _), (Eqd.flat (flI _) _), trivial⟩)⟩
  have O11 : Oq G19 (.ref p6) := ⟨.lst (F6 _ _ h6), (eqd_l (n := 2) (F6 _ _ h6) (F6 _ _ h6) (by simp) ⟨(Eqd.flat (flI _) _), (Eqd.flat (flI _) _), trivial⟩)⟩
  have O12 : Oq G19 (.ref p7) := ⟨.pair (F7 _ _ h7) (.int _ _) (.int _ _) (by first | rfl | simp), (eqd_t (n := 2) (F7 _ _ h7) (F7 _ _ h7) (by simp) ⟨(Eqd.flat (flI _) _), (Eqd.flat (flI _) _), trivial⟩)⟩
  have O13 : Oq G19 (.ref p8) := ⟨.pair (F8 _ _ h8) (.int _ _) (.int _ _) (by first | rfl | simp), (eqd_t (n := 2) (F8 _ _ h8) (F8 _ _ h8) (by simp) ⟨(Eqd.flat (flI _) _), (Eqd.flat (flI _) _), trivial⟩)⟩
  have O14 : Oq G19 (.ref p9) := ⟨.pair (F9 _ _ h9) (.int _ _) (.int _ _) (by first | rfl | simp), (eqd_t (n := 2) (F9 _ _ h9) (F9 _ _ h9) (by simp) ⟨(Eqd.flat (flI _) _), (Eqd.flat (flI _) _), trivial⟩)⟩
  have O15 : Oq G19 (.ref p11) := ⟨.pair (F11 _ _ h11) (.bl _ _) (.int _ _) (by first | rfl | simp), (eqd_t (n := 2) (F11 _ _ h11) (F11 _ _ h11) (by simp) ⟨(Eqd.flat (.inr (.inl ⟨_, rfl⟩)) _), (Eqd.flat (flI _) _), trivial⟩)⟩
  have O16 : Oq G19 (.ref p12) := ⟨.pair (F12 _ _ h12) (.int _ _) (.bl _ _) (by first | rfl | simp), (eqd_t (n := 2) (F12 _ _ h12) (F12 _ _ h12) (by simp) ⟨(Eqd.flat (flI _) _), (Eqd.flat (.inr (.inl ⟨_, rfl⟩)) _), trivial⟩)⟩
  have O17 : Oq G19 (.ref p13) := ⟨.pair (F13 _ _ h13) (.str _ _) (.int _ _) (by first | rfl | simp), (eqd_t (n := 2) (F13 _ _ h13) (F13 _ _ h13) (by simp) ⟨(Eqd.flat (flS _) _), (Eqd.flat (flI _) _), trivial⟩)⟩
  have O18 : Oq G19 (.ref p14) := ⟨.pair (F14 _ _ h14) (.int _ _) (.str _ _) (by first | rfl | simp), (eqd_t (n := 2) (F14 _ _ h14) (F14 _ _ h14) (by simp) ⟨(Eqd.flat (flI _) _), (Eqd.flat (flS _) _), trivial⟩)⟩
  have O19 : Oq G19 (.ref p16) := ⟨.pair (F16 _ _ h16) (.tup _ (F15 _ _ h15)) (.int _ _) (by first | rfl | simp), (eqd_t (n := 2) (F16 _ _ h16) (F16 _ _ h16) (by simp) ⟨(eqd_t (n := 1) (F15 _ _ h15) (F15 _ _ h15) (by simp) ⟨(Eqd.flat (flI _) _), (Eqd.flat (flI _) _), trivial⟩), (Eqd.flat (flI _) _), trivial⟩)⟩
  have O20 : Oq G19 (.ref p17) := ⟨.pair (F17 _ _ h17) (.non _) (.int _ _) (by first | rfl | simp), (eqd_t (n := 2) (F17 _ _ h17) (F17 _ _ h17) (by simp) ⟨(Eqd.flat (.inl rfl) _), (Eqd.flat (flI _) _), trivial⟩)⟩
  walk_at "sts"
  have GO : AllV (Oq G19) [.non, (.int 0), (.bl true), (.str (Str.ofString "")), (.str (Str.ofString "Once")), (.str (Str.ofString "once ")), (.ref p1), (.ref p2), (.ref p3), (.ref p4), (.ref p5), (.ref p6), (.ref p7), (.ref p8), (.ref p9), (.ref p11), (.ref p12), (.ref p13), (.ref p14), (.ref p16), (.ref p17)] := ⟨O0, O1, O2, O3, O4, O5, O6, O7, O8, O9, O10, O11, O12, O13, O14, O15, O16, O17, O18, O19, O20, trivial⟩
  have hlG : G19 l = some (.lst (sVs ns)) := (Same.trans (Same.trans (Same.trans (Same.trans (Same.trans (Same.trans (Same.trans (Same.trans (Same.trans (Same.trans (Same.trans (Same.trans (Same.trans (Same.trans (Same.trans (Same.trans (Same.trans (Same.trans g1 g2) g3) g4) g5) g6) g7) g8) g9) g10) g11) g12) g13) g14) g15) g16) g17) g18) g19) _ _ Ng.2.2.1
  clear O0 O1 O2 O3 O4 O5 O6 O7 O8 O9 O10 O11 O12 O13 O14 O15 O16 O17 O18 O19 O20 F1 F2 F3 F4 F5 F6 F7 F8 F9 F10 F11 F12 F13 F14 F15 F16 F17 F18 F19 n1 n2 n3 n4 n5 n6 n7 n8 n9 n10 n11 n12 n13 n14 n15 n16 n17 n18 n19 g1 g2 g3 g4 g5 g6 g7 g8 g9 g10 g11 g12 g13 g14 g15 g16 g17 g18 g19 h1 h2 h3 h4 h5 h6 h7 h8 h9 h10 h11 h12 h13 h14 h15 h16 h17 h18
  refine s_forL ?_
  walk_at "sts"
  refine ⟨p19, _, rfl, SqL.of h19, fun k σ H' => ∃ y, σ = [some (.ref sa), some (.ref p), some (.ref l), y2, some v1, some v2, some md, y3, some (.str bad), some (.ref p19), y, none] ∧ Same G19 H', ⟨_, rfl, Same.refl _⟩, fun k σ H' _ hW => ?_, fun k x σ H' hk hW => ?_, fun σ H' hW => ?_⟩
  · obtain ⟨y, rfl, e⟩ := hW
    exact SqL.of (e _ _ h19)
  · obtain ⟨y, rfl, e⟩ := hW
    refine l_cons (s_if (t_not (t_val (e_call (by exact FKR) (by exact hr) (by decide) ?_))))
    walk_at "sts"
    exact ⟨x, v1, v2, rfl, (GO.at k x hk).up e, fun H2 e2 => ⟨true, rfl, iteF (l_nil (l_nil ⟨_, rfl, e.trans e2⟩))⟩⟩
  obtain ⟨y, rfl, eo⟩ := hW
  have hlN : H' l = some (.lst (sVs ns)) := eo _ _ hlG
  clear GO
  obtain ⟨z0, hz0, hat0⟩ := sVs_at (ns := ns) (d := 0) (by decide) (by omega)
  have hN0 := (hok4 z0 hz0).nm
  have hl0 : z0.length ≤ 12 := (hok4 z0 hz0).2
  have lit : cs (z0 ++ Str.ofString "b3c4d5e6f7g8") = cs z0 ++ cs (Str.ofString "b3c4d5e6f7g8") := cs_app _ _
  have lit12 : (cs (Str.ofString "b3c4d5e6f7g8")).length = 12 := by decide +kernel
  have litok : ∀ c ∈ cs (Str.ofString "b3c4d5e6f7g8"), ok1 c = true := by decide +kernel
  refine l_cons (s_set (e_slL1 sl_str ?_))
  walk_at "sts"
  refine ix_l (by exact SqL.of hlN) hat0 ?_
  walk_at "sts"
  refine o_addS (by rw [len_cs (Str.ofString "b3c4d5e6f7g8"), lit12]; omega) ?_
  walk_at "sts"
  refine ⟨by rw [len_cs, lit, List.length_append, lit12, ← len_cs]; show z0.length + 12 ≤ 2 ^ 24; omega, ?_⟩
  have hz := cut_hi (z0 ++ Str.ofString "b3c4d5e6f7g8") 12
  have hNz : Nm (cs (cutS (z0 ++ Str.ofString "b3c4d5e6f7g8") none (some ((12 : Nat) : Int)))) := by
    rw [hz, lit]
    obtain ⟨⟨c, t, e1, e2⟩, e3, _⟩ := hN0
    refine ⟨⟨c, (t ++ cs (Str.ofString "b3c4d5e6f7g8")).take 11, by rw [e1]; rfl, e2⟩, fun x hx => ?_, by rw [List.length_take]; omega⟩
    rcases List.mem_append.mp (List.mem_of_mem_take hx) with hx | hx
    · exact e3 x hx
    · exact litok x hx
  generalize hzz : cutS (z0 ++ Str.ofString "b3c4d5e6f7g8") none (some ((12 : Nat) : Int)) = zl at hNz
  have hN1 : Nm (cs (cutS zl none (some ((1 : Nat) : Int)))) := by
    rw [cut_hi]
    exact hNz.cut (by decide)
  have hzlen : zl.length ≤ 12 := by rw [len_cs]; exact hNz.2.2
  have hzs : zl.length ≤ sizeLine := by show zl.length ≤ 2 ^ 24; omega
  have hl1 : (cutS zl none (some ((1 : Nat) : Int))).length ≤ 12 := by rw [len_cs]; exact hN1.2.2
  show wL _ [_] _ [some (.ref sa), some (.ref p), some (.ref l), y2, some v1, some v2, some md, y3, some (.str bad), some (.ref p19), y, some (.str zl)] _
  refine l_cons (s_ret (e_and ?_))
  refine e_call (by exact FS) (by exact hr) (by decide) ?_
  refine a_cons (e_callN (by exact FW) takesN0 (by exact hr) (by decide) ?_)
  refine a_cons (e_var (a_nil ?_))
  refine ⟨_, rfl, Nat.le_trans hzlen (by decide), .inl ⟨hNz.b, fun t1 I1 i1 ht1 => ?_⟩⟩
  refine a_cons (e_tup (a_cons (e_str (a_cons (e_var (a_nil ?_))))))
  refine ⟨by show 2 ≤ sizeLine; decide, fun t2 I2 i2 _ ht2 => ?_⟩
  refine a_nil ?_
  have EQ1 : ∀ n, Eqd I2 (n + 1) (.ref t1) (.ref t2) := fun n => eqd_t (i2 _ _ ht1) ht2 (by simp) ⟨Eqd.flat (flS _) _, Eqd.flat (flS _) _, trivial⟩
  refine ⟨_, _, rfl, EQ1 27, ?_⟩
  refine ⟨true, rfl, ?_⟩
  refine (if_pos rfl).mpr (e_one ?_)
  refine e_call (by exact FS) (by exact hr) (by decide) ?_
  refine a_cons (e_callN (by exact FW) takesN0 (by exact hr) (by decide) ?_)
  refine a_cons (e_slL1 sl_str (e_var (e_int ⟨_, rfl, _, rfl, hzs, ?_⟩)))
  refine a_nil ?_
  refine ⟨_, rfl, Nat.le_trans hl1 (by decide), .inl ⟨hN1.b, fun t3 I3 i3 ht3 => ?_⟩⟩
  refine a_cons (e_tup (a_cons (e_str (a_cons (e_slL1 sl_str (e_var (e_int ⟨_, rfl, _, rfl, hzs, ?_⟩)))))))
  refine a_nil ?_
  refine ⟨by show 2 ≤ sizeLine; decide, fun t4 I4 i4 _ ht4 => ?_⟩
  refine a_nil ?_
  have EQ2 : ∀ n, Eqd I4 (n + 1) (.ref t3) (.ref t4) := fun n => eqd_t (i4 _ _ ht3) ht4 (by simp) ⟨Eqd.flat (flS _) _, Eqd.flat (flS _) _, trivial⟩
  refine ⟨_, _, rfl, EQ2 27, ?_⟩
  exact q _
end

section
theorem kit_sub {K : PySem.W.Frag} {D C : Addr} (hd : PySem.W.hasDictIn K C = true) (ht : PySem.W.typeIn K (.ref C) = some (.type "type")) (h : PySem.W.subIn K (.ref D) (.ref C) = some true) : PySem.W.kitOne K (.ref D) (.ref C) = some true := by
  obtain ⟨cd, hc, _⟩ := PySem.W.any_some hd
  unfold PySem.W.kitOne
  split
  · rfl
  · show (if ((PySem.W.clsIn K C).isSome && PySem.W.typeIn K (.ref C) == some (.type "type")) = true then PySem.W.subIn K (.ref D) (.ref C) else none) = some true
    rw [hc, ht, h]
    rfl
theorem kit_not {K : PySem.W.Frag} {D C : Addr} (hd : PySem.W.hasDictIn K C = true) (ht : PySem.W.typeIn K (.ref C) = some (.type "type")) (h : PySem.W.subIn K (.ref D) (.ref C) = some false) (hs : PySem.W.subIn K (.ref D) (.ref D) = some true) : PySem.W.kitOne K (.ref D) (.ref C) = some false := by
  obtain ⟨cd, hc, _⟩ := PySem.W.any_some hd
  have ne : D ≠ C := fun z => by
    subst z
    rw [hs] at h
    cases h
  unfold PySem.W.kitOne
  rw [if_neg (fun z => ne (Value.ref.inj (beq_iff_eq.mp z)))]
  show (if ((PySem.W.clsIn K C).isSome && PySem.W.typeIn K (.ref C) == some (.type "type")) = true then PySem.W.subIn K (.ref D) (.ref C) else none) = some false
  rw [hc, ht, h]
  rfl
theorem kit_typ {K : PySem.W.Frag} {D : Addr} (h : PySem.W.subIn K (.ref D) (.type "ValueError") = some true) : PySem.W.kitOne K (.ref D) (.type "ValueError") = some true := by
  unfold PySem.W.kitOne
  rw [if_neg (by simp)]
  show (if PySem.W.kitMeta "ValueError" = true then PySem.W.subIn K (.ref D) (.type "ValueError") else none) = some true
  rw [if_pos (by decide +kernel), h]
theorem all_mk {l : PySem.W.OpenLaw} {w : World} {K : PySem.W.Frag} {h : Heap} {mg : Str → Option Value} {fa : Addr} (X : K.In h) (G : h.Ns mainGlobals mg) (hfa : mg "law" = some (.ref fa))
    {f0 : Addr} {od0 an0 : Option Addr} {sl0 : Array (Option Value)} {oc0 kV0 dc0 pm0 cd0 ct0 : Value}
    {f1 : Addr} {od1 an1 : Option Addr} {sl1 : Array (Option Value)} {oc1 kV1 dc1 pm1 cd1 ct1 : Value}
    {f2 : Addr} {od2 an2 : Option Addr} {sl2 : Array (Option Value)} {oc2 kV2 dc2 pm2 cd2 ct2 : Value}
    {f3 : Addr} {od3 an3 : Option Addr} {sl3 : Array (Option Value)} {oc3 kV3 dc3 pm3 cd3 ct3 : Value}
    {f4 : Addr} {od4 an4 : Option Addr} {sl4 : Array (Option Value)} {oc4 kV4 dc4 pm4 cd4 ct4 : Value}
    {f5 : Addr} {od5 an5 : Option Addr} {sl5 : Array (Option Value)} {oc5 kV5 dc5 pm5 cd5 ct5 : Value}
    {f6 : Addr} {od6 an6 : Option Addr} {sl6 : Array (Option Value)} {oc6 kV6 dc6 pm6 cd6 ct6 : Value}
    {f7 : Addr} {od7 an7 : Option Addr} {sl7 : Array (Option Value)} {oc7 kV7 dc7 pm7 cd7 ct7 : Value}
    {f8 : Addr} {od8 an8 : Option Addr} {sl8 : Array (Option Value)} {oc8 kV8 dc8 pm8 cd8 ct8 : Value}
    {f9 : Addr} {od9 an9 : Option Addr} {sl9 : Array (Option Value)} {oc9 kV9 dc9 pm9 cd9 ct9 : Value}
    {f10 : Addr} {od10 an10 : Option Addr} {sl10 : Array (Option Value)} {oc10 kV10 dc10 pm10 cd10 ct10 : Value}
    {f11 : Addr} {od11 an11 : Option Addr} {sl11 : Array (Option Value)} {oc11 kV11 dc11 pm11 cd11 ct11 : Value}
    {f12 : Addr} {od12 an12 : Option Addr} {sl12 : Array (Option Value)} {oc12 kV12 dc12 pm12 cd12 ct12 : Value}
    {f13 : Addr} {od13 an13 : Option Addr} {sl13 : Array (Option Value)} {oc13 kV13 dc13 pm13 cd13 ct13 : Value}
    {f14 : Addr} {od14 an14 : Option Addr} {sl14 : Array (Option Value)} {oc14 kV14 dc14 pm14 cd14 ct14 : Value}
    {f15 : Addr} {od15 an15 : Option Addr} {sl15 : Array (Option Value)} {oc15 kV15 dc15 pm15 cd15 ct15 : Value}
    {f16 : Addr} {od16 an16 : Option Addr} {sl16 : Array (Option Value)} {oc16 kV16 dc16 pm16 cd16 ct16 : Value}
    {f17 : Addr} {od17 an17 : Option Addr} {sl17 : Array (Option Value)} {oc17 kV17 dc17 pm17 cd17 ct17 : Value}
    {f18 : Addr} {od18 an18 : Option Addr} {sl18 : Array (Option Value)} {oc18 kV18 dc18 pm18 cd18 ct18 : Value}
    {f19 : Addr} {od19 an19 : Option Addr} {sl19 : Array (Option Value)} {oc19 kV19 dc19 pm19 cd19 ct19 : Value}
    {f20 : Addr} {od20 an20 : Option Addr} {sl20 : Array (Option Value)} {oc20 kV20 dc20 pm20 cd20 ct20 : Value}
    {f21 : Addr} {od21 an21 : Option Addr} {sl21 : Array (Option Value)} {oc21 kV21 dc21 pm21 cd21 ct21 : Value}
    {f22 : Addr} {od22 an22 : Option Addr} {sl22 : Array (Option Value)} {oc22 kV22 dc22 pm22 cd22 ct22 : Value}
    {f23 : Addr} {od23 an23 : Option Addr} {sl23 : Array (Option Value)} {oc23 kV23 dc23 pm23 cd23 ct23 : Value}
    {f24 : Addr} {od24 an24 : Option Addr} {sl24 : Array (Option Value)} {oc24 kV24 dc24 pm24 cd24 ct24 : Value}
    {f25 : Addr} {od25 an25 : Option Addr} {sl25 : Array (Option Value)} {oc25 kV25 dc25 pm25 cd25 ct25 : Value}
    {f26 : Addr} {od26 an26 : Option Addr} {sl26 : Array (Option Value)} {oc26 kV26 dc26 pm26 cd26 ct26 : Value}
    {f27 : Addr} {od27 an27 : Option Addr} {sl27 : Array (Option Value)} {oc27 kV27 dc27 pm27 cd27 ct27 : Value}
    {f28 D28 : Addr} {od28 an28 : Option Addr} {sl28 : Array (Option Value)} {oc28 dc28 pm28 cd28 ct28 : Value} {tk28 : Tok}
    {tN : Tok}
    {CB CN CT CU CX CS CH : Addr}
    {nmCB qnCB : Str} {NaCB : Addr} {bsCB : List Value} {snCB : List Str} {subCB : List Value} {abCB : Bool} {colCB : Option Bool} {ddCB : Option Addr} {x0CB x1CB x2CB x3CB x5CB : Option Value}
    {f29 : Addr} {od29 an29 : Option Addr} {sl29 : Array (Option Value)} {oc29 kV29 dc29 pm29 cd29 ct29 : Value}
    {nmCN qnCN : Str} {NaCN : Addr} {bsCN : List Value} {snCN : List Str} {subCN : List Value} {abCN : Bool} {colCN : Option Bool} {ddCN : Option Addr} {x0CN x1CN x2CN x3CN x5CN : Option Value}
    {f30 : Addr} {od30 an30 : Option Addr} {sl30 : Array (Option Value)} {oc30 kV30 dc30 pm30 cd30 ct30 : Value}
    (a0 : PySem.W.nsIn K mainGlobals "is_number_from" = some (some (.ref f0)))
    (l0 : K.lookup f0 = some ⟨oc0, od0, .func (PySem.W.fnOf "is_number_from" "is_number_from" (defArgs s_is_number_from) (defBody s_is_number_from) (defScope s_is_number_from) .none kV0 dc0 pm0 an0 cd0 ct0), sl0⟩)
    (c0 : PySem.W.codeIn K cd0 "is_number_from" = true)
    (k0 : PySem.W.keepIn K (.ref f0) = true)
    (a1 : PySem.W.nsIn K mainGlobals "is_kind" = some (some (.ref f1)))
    (l1 : K.lookup f1 = some ⟨oc1, od1, .func (PySem.W.fnOf "is_kind" "is_kind" (defArgs s_is_kind) (defBody s_is_kind) (defScope s_is_kind) .none kV1 dc1 pm1 an1 cd1 ct1), sl1⟩)
    (c1 : PySem.W.codeIn K cd1 "is_kind" = true)
    (k1 : PySem.W.keepIn K (.ref f1) = true)
    (a2 : PySem.W.nsIn K mainGlobals "is_letter" = some (some (.ref f2)))
    (l2 : K.lookup f2 = some ⟨oc2, od2, .func (PySem.W.fnOf "is_letter" "is_letter" (defArgs s_is_letter) (defBody s_is_letter) (defScope s_is_letter) .none kV2 dc2 pm2 an2 cd2 ct2), sl2⟩)
    (c2 : PySem.W.codeIn K cd2 "is_letter" = true)
    (k2 : PySem.W.keepIn K (.ref f2) = true)
    (a3 : PySem.W.nsIn K mainGlobals "is_digit" = some (some (.ref f3)))
    (l3 : K.lookup f3 = some ⟨oc3, od3, .func (PySem.W.fnOf "is_digit" "is_digit" (defArgs s_is_digit) (defBody s_is_digit) (defScope s_is_digit) .none kV3 dc3 pm3 an3 cd3 ct3), sl3⟩)
    (c3 : PySem.W.codeIn K cd3 "is_digit" = true)
    (k3 : PySem.W.keepIn K (.ref f3) = true)
    (a4 : PySem.W.nsIn K mainGlobals "is_name" = some (some (.ref f4)))
    (l4 : K.lookup f4 = some ⟨oc4, od4, .func (PySem.W.fnOf "is_name" "is_name" (defArgs s_is_name) (defBody s_is_name) (defScope s_is_name) .none kV4 dc4 pm4 an4 cd4 ct4), sl4⟩)
    (c4 : PySem.W.codeIn K cd4 "is_name" = true)
    (k4 : PySem.W.keepIn K (.ref f4) = true)
    (a5 : PySem.W.nsIn K mainGlobals "word" = some (some (.ref f5)))
    (l5 : K.lookup f5 = some ⟨oc5, od5, .func (PySem.W.fnOf "word" "word" (defArgs s_word) (defBody s_word) (defScope s_word) .none kV5 dc5 pm5 an5 cd5 ct5), sl5⟩)
    (c5 : PySem.W.codeIn K cd5 "word" = true)
    (k5 : PySem.W.keepIn K (.ref f5) = true)
    (a6 : PySem.W.nsIn K mainGlobals "menu" = some (some (.ref f6)))
    (l6 : K.lookup f6 = some ⟨oc6, od6, .func (PySem.W.fnOf "menu" "menu" (defArgs s_menu) (defBody s_menu) (defScope s_menu) .none kV6 dc6 pm6 an6 cd6 ct6), sl6⟩)
    (c6 : PySem.W.codeIn K cd6 "menu" = true)
    (k6 : PySem.W.keepIn K (.ref f6) = true)
    (a7 : PySem.W.nsIn K mainGlobals "names_within" = some (some (.ref f7)))
    (l7 : K.lookup f7 = some ⟨oc7, od7, .func (PySem.W.fnOf "names_within" "names_within" (defArgs s_names_within) (defBody s_names_within) (defScope s_names_within) .none kV7 dc7 pm7 an7 cd7 ct7), sl7⟩)
    (c7 : PySem.W.codeIn K cd7 "names_within" = true)
    (k7 : PySem.W.keepIn K (.ref f7) = true)
    (a8 : PySem.W.nsIn K mainGlobals "size" = some (some (.ref f8)))
    (l8 : K.lookup f8 = some ⟨oc8, od8, .func (PySem.W.fnOf "size" "size" (defArgs s_size) (defBody s_size) (defScope s_size) .none kV8 dc8 pm8 an8 cd8 ct8), sl8⟩)
    (c8 : PySem.W.codeIn K cd8 "size" = true)
    (k8 : PySem.W.keepIn K (.ref f8) = true)
    (a9 : PySem.W.nsIn K mainGlobals "words_in" = some (some (.ref f9)))
    (l9 : K.lookup f9 = some ⟨oc9, od9, .func (PySem.W.fnOf "words_in" "words_in" (defArgs s_words_in) (defBody s_words_in) (defScope s_words_in) .none kV9 dc9 pm9 an9 cd9 ct9), sl9⟩)
    (c9 : PySem.W.codeIn K cd9 "words_in" = true)
    (k9 : PySem.W.keepIn K (.ref f9) = true)
    (a10 : PySem.W.nsIn K mainGlobals "legs" = some (some (.ref f10)))
    (l10 : K.lookup f10 = some ⟨oc10, od10, .func (PySem.W.fnOf "legs" "legs" (defArgs s_legs) (defBody s_legs) (defScope s_legs) .none kV10 dc10 pm10 an10 cd10 ct10), sl10⟩)
    (c10 : PySem.W.codeIn K cd10 "legs" = true)
    (k10 : PySem.W.keepIn K (.ref f10) = true)
    (a11 : PySem.W.nsIn K mainGlobals "_law_cell" = some (some (.ref f11)))
    (l11 : K.lookup f11 = some ⟨oc11, od11, .func (PySem.W.fnOf "_law_cell" "_law_cell" (defArgs s_cell) (defBody s_cell) (defScope s_cell) .none kV11 dc11 pm11 an11 cd11 ct11), sl11⟩)
    (c11 : PySem.W.codeIn K cd11 "_law_cell" = true)
    (k11 : PySem.W.keepIn K (.ref f11) = true)
    (a12 : PySem.W.nsIn K mainGlobals "_law_pool" = some (some (.ref f12)))
    (l12 : K.lookup f12 = some ⟨oc12, od12, .func (PySem.W.fnOf "_law_pool" "_law_pool" (defArgs s_pool) (defBody s_pool) (defScope s_pool) .none kV12 dc12 pm12 an12 cd12 ct12), sl12⟩)
    (c12 : PySem.W.codeIn K cd12 "_law_pool" = true)
    (k12 : PySem.W.keepIn K (.ref f12) = true)
    (a13 : PySem.W.nsIn K mainGlobals "_law_next" = some (some (.ref f13)))
    (l13 : K.lookup f13 = some ⟨oc13, od13, .func (PySem.W.fnOf "_law_next" "_law_next" (defArgs s_next) (defBody s_next) (defScope s_next) .none kV13 dc13 pm13 an13 cd13 ct13), sl13⟩)
    (c13 : PySem.W.codeIn K cd13 "_law_next" = true)
    (k13 : PySem.W.keepIn K (.ref f13) = true)
    (a14 : PySem.W.nsIn K mainGlobals "_law_same" = some (some (.ref f14)))
    (l14 : K.lookup f14 = some ⟨oc14, od14, .func (PySem.W.fnOf "_law_same" "_law_same" (defArgs s_same) (defBody s_same) (defScope s_same) .none kV14 dc14 pm14 an14 cd14 ct14), sl14⟩)
    (c14 : PySem.W.codeIn K cd14 "_law_same" = true)
    (k14 : PySem.W.keepIn K (.ref f14) = true)
    (a15 : PySem.W.nsIn K mainGlobals "_law_name" = some (some (.ref f15)))
    (l15 : K.lookup f15 = some ⟨oc15, od15, .func (PySem.W.fnOf "_law_name" "_law_name" (defArgs s_name) (defBody s_name) (defScope s_name) .none kV15 dc15 pm15 an15 cd15 ct15), sl15⟩)
    (c15 : PySem.W.codeIn K cd15 "_law_name" = true)
    (k15 : PySem.W.keepIn K (.ref f15) = true)
    (a16 : PySem.W.nsIn K mainGlobals "_law_bad_name" = some (some (.ref f16)))
    (l16 : K.lookup f16 = some ⟨oc16, od16, .func (PySem.W.fnOf "_law_bad_name" "_law_bad_name" (defArgs s_bad_name) (defBody s_bad_name) (defScope s_bad_name) .none kV16 dc16 pm16 an16 cd16 ct16), sl16⟩)
    (c16 : PySem.W.codeIn K cd16 "_law_bad_name" = true)
    (k16 : PySem.W.keepIn K (.ref f16) = true)
    (a17 : PySem.W.nsIn K mainGlobals "_law_mode" = some (some (.ref f17)))
    (l17 : K.lookup f17 = some ⟨oc17, od17, .func (PySem.W.fnOf "_law_mode" "_law_mode" (defArgs s_mode) (defBody s_mode) (defScope s_mode) .none kV17 dc17 pm17 an17 cd17 ct17), sl17⟩)
    (c17 : PySem.W.codeIn K cd17 "_law_mode" = true)
    (k17 : PySem.W.keepIn K (.ref f17) = true)
    (a18 : PySem.W.nsIn K mainGlobals "_law_deep" = some (some (.ref f18)))
    (l18 : K.lookup f18 = some ⟨oc18, od18, .func (PySem.W.fnOf "_law_deep" "_law_deep" (defArgs s_deep) (defBody s_deep) (defScope s_deep) .none kV18 dc18 pm18 an18 cd18 ct18), sl18⟩)
    (c18 : PySem.W.codeIn K cd18 "_law_deep" = true)
    (k18 : PySem.W.keepIn K (.ref f18) = true)
    (a19 : PySem.W.nsIn K mainGlobals "_law_sentence" = some (some (.ref f19)))
    (l19 : K.lookup f19 = some ⟨oc19, od19, .func (PySem.W.fnOf "_law_sentence" "_law_sentence" (defArgs s_sentence) (defBody s_sentence) (defScope s_sentence) .none kV19 dc19 pm19 an19 cd19 ct19), sl19⟩)
    (c19 : PySem.W.codeIn K cd19 "_law_sentence" = true)
    (k19 : PySem.W.keepIn K (.ref f19) = true)
    (a20 : PySem.W.nsIn K mainGlobals "_law_legs" = some (some (.ref f20)))
    (l20 : K.lookup f20 = some ⟨oc20, od20, .func (PySem.W.fnOf "_law_legs" "_law_legs" (defArgs s_l_legs) (defBody s_l_legs) (defScope s_l_legs) .none kV20 dc20 pm20 an20 cd20 ct20), sl20⟩)
    (c20 : PySem.W.codeIn K cd20 "_law_legs" = true)
    (k20 : PySem.W.keepIn K (.ref f20) = true)
    (a21 : PySem.W.nsIn K mainGlobals "_law_words" = some (some (.ref f21)))
    (l21 : K.lookup f21 = some ⟨oc21, od21, .func (PySem.W.fnOf "_law_words" "_law_words" (defArgs s_words) (defBody s_words) (defScope s_words) .none kV21 dc21 pm21 an21 cd21 ct21), sl21⟩)
    (c21 : PySem.W.codeIn K cd21 "_law_words" = true)
    (k21 : PySem.W.keepIn K (.ref f21) = true)
    (a22 : PySem.W.nsIn K mainGlobals "_law_tells" = some (some (.ref f22)))
    (l22 : K.lookup f22 = some ⟨oc22, od22, .func (PySem.W.fnOf "_law_tells" "_law_tells" (defArgs s_tells) (defBody s_tells) (defScope s_tells) .none kV22 dc22 pm22 an22 cd22 ct22), sl22⟩)
    (c22 : PySem.W.codeIn K cd22 "_law_tells" = true)
    (k22 : PySem.W.keepIn K (.ref f22) = true)
    (a23 : PySem.W.nsIn K mainGlobals "_law_through" = some (some (.ref f23)))
    (l23 : K.lookup f23 = some ⟨oc23, od23, .func (PySem.W.fnOf "_law_through" "_law_through" (defArgs s_through) (defBody s_through) (defScope s_through) .none kV23 dc23 pm23 an23 cd23 ct23), sl23⟩)
    (c23 : PySem.W.codeIn K cd23 "_law_through" = true)
    (k23 : PySem.W.keepIn K (.ref f23) = true)
    (a24 : PySem.W.nsIn K mainGlobals "_law_name_refused" = some (some (.ref f24)))
    (l24 : K.lookup f24 = some ⟨oc24, od24, .func (PySem.W.fnOf "_law_name_refused" "_law_name_refused" (defArgs s_name_refused) (defBody s_name_refused) (defScope s_name_refused) .none kV24 dc24 pm24 an24 cd24 ct24), sl24⟩)
    (c24 : PySem.W.codeIn K cd24 "_law_name_refused" = true)
    (k24 : PySem.W.keepIn K (.ref f24) = true)
    (a25 : PySem.W.nsIn K mainGlobals "_law_kind_refused" = some (some (.ref f25)))
    (l25 : K.lookup f25 = some ⟨oc25, od25, .func (PySem.W.fnOf "_law_kind_refused" "_law_kind_refused" (defArgs s_kind_refused) (defBody s_kind_refused) (defScope s_kind_refused) .none kV25 dc25 pm25 an25 cd25 ct25), sl25⟩)
    (c25 : PySem.W.codeIn K cd25 "_law_kind_refused" = true)
    (k25 : PySem.W.keepIn K (.ref f25) = true)
    (a26 : PySem.W.nsIn K mainGlobals "_law_refused_at_all" = some (some (.ref f26)))
    (l26 : K.lookup f26 = some ⟨oc26, od26, .func (PySem.W.fnOf "_law_refused_at_all" "_law_refused_at_all" (defArgs s_refused_at_all) (defBody s_refused_at_all) (defScope s_refused_at_all) .none kV26 dc26 pm26 an26 cd26 ct26), sl26⟩)
    (c26 : PySem.W.codeIn K cd26 "_law_refused_at_all" = true)
    (k26 : PySem.W.keepIn K (.ref f26) = true)
    (a27 : PySem.W.nsIn K mainGlobals "law" = some (some (.ref f27)))
    (l27 : K.lookup f27 = some ⟨oc27, od27, .func (PySem.W.fnOf "law" "law" (defArgs s_law) (defBody s_law) (defScope s_law) .none kV27 dc27 pm27 an27 cd27 ct27), sl27⟩)
    (c27 : PySem.W.codeIn K cd27 "law" = true)
    (k27 : PySem.W.keepIn K (.ref f27) = true)
    (a28 : PySem.W.nsIn K mainGlobals "trade" = some (some (.ref f28)))
    (l28 : K.lookup f28 = some ⟨oc28, od28, .func (PySem.W.fnOf "trade" "trade" (defArgs s_trade) (defBody s_trade) (defScope s_trade) .none (.ref D28) dc28 pm28 an28 cd28 ct28), sl28⟩)
    (c28 : PySem.W.codeIn K cd28 "trade" = true)
    (k28 : PySem.W.keepIn K (.ref f28) = true)
    (d28 : PySem.W.nsIn K D28 "kind" = some (some (.str "once" tk28)))
    (nL : PySem.W.nsIn K mainGlobals "NAME_LENGTH" = some (some (.int 12 tN)))
    (mCB : PySem.W.nsIn K mainGlobals "BadKind" = some (some (.ref CB)))
    (mCN : PySem.W.nsIn K mainGlobals "BadName" = some (some (.ref CN)))
    (mCT : PySem.W.nsIn K mainGlobals "NameTaken" = some (some (.ref CT)))
    (mCU : PySem.W.nsIn K mainGlobals "UnknownName" = some (some (.ref CU)))
    (mCX : PySem.W.nsIn K mainGlobals "TextError" = some (some (.ref CX)))
    (mCS : PySem.W.nsIn K mainGlobals "NotSimple" = some (some (.ref CS)))
    (mCH : PySem.W.nsIn K mainGlobals "HeldError" = some (some (.ref CH)))
    (xLCB : K.lookup CB = some (excClassObj nmCB qnCB CB NaCB bsCB [.ref CH, .type "ValueError", .type "Exception", .type "BaseException", .type "object"] true snCB subCB abCB colCB ddCB x0CB x1CB x2CB x3CB x5CB "ValueError.__new__"))
    (a29 : PySem.W.findIn K (.ref CB) "__init__" = some (some (.ref f29)))
    (i29 : PySem.W.isFn K (.ref f29) = true)
    (l29 : K.lookup f29 = some ⟨oc29, od29, .func (PySem.W.fnOf "__init__" "BadKind.__init__" (defArgs s_BadKind___init) (defBody s_BadKind___init) (defScope s_BadKind___init) .none kV29 dc29 pm29 an29 cd29 ct29), sl29⟩)
    (c29 : PySem.W.codeIn K cd29 "BadKind.__init__" = true)
    (k29 : PySem.W.keepIn K (.ref f29) = true)
    (saCB : PySem.W.findIn K (.ref CB) "__setattr__" = some (some (.builtin "object.__setattr__")))
    (gaCB : PySem.W.findIn K (.ref CB) "__getattribute__" = some (some (.builtin "BaseException.__getattribute__")))
    (ggCB : PySem.W.findIn K (.ref CB) "__getattr__" = some none)
    (nkCB : PySem.W.findIn K (.ref CB) "kind" = some none)
    (kCCB : PySem.W.keepIn K (.ref CB) = true)
    (eCCB : PySem.W.subIn K (.ref CB) (.type "BaseException") = some true)
    (tCCB : PySem.W.typeIn K (.ref CB) = some (.type "type"))
    (hCCB : PySem.W.hasDictIn K CB = true)
    (haCB : PySem.W.findIn K (.ref CB) "__class__" = some (some (.builtin "object.__class__")))
    (hmCB : PySem.W.mroIn K CB (.type "object") = some true)
    (sVCB : PySem.W.subIn K (.ref CB) (.type "ValueError") = some true)
    (sICB : PySem.W.subIn K (.ref CB) (.ref CB) = some true)
    (sHCB : PySem.W.subIn K (.ref CB) (.ref CH) = some true)
    (sCBCN : PySem.W.subIn K (.ref CB) (.ref CN) = some false)
    (sCBCT : PySem.W.subIn K (.ref CB) (.ref CT) = some false)
    (sCBCU : PySem.W.subIn K (.ref CB) (.ref CU) = some false)
    (sCBCX : PySem.W.subIn K (.ref CB) (.ref CX) = some false)
    (sCBCS : PySem.W.subIn K (.ref CB) (.ref CS) = some false)
    (xLCN : K.lookup CN = some (excClassObj nmCN qnCN CN NaCN bsCN [.ref CH, .type "ValueError", .type "Exception", .type "BaseException", .type "object"] true snCN subCN abCN colCN ddCN x0CN x1CN x2CN x3CN x5CN "ValueError.__new__"))
    (a30 : PySem.W.findIn K (.ref CN) "__init__" = some (some (.ref f30)))
    (i30 : PySem.W.isFn K (.ref f30) = true)
    (l30 : K.lookup f30 = some ⟨oc30, od30, .func (PySem.W.fnOf "__init__" "BadName.__init__" (defArgs s_BadName___init) (defBody s_BadName___init) (defScope s_BadName___init) .none kV30 dc30 pm30 an30 cd30 ct30), sl30⟩)
    (c30 : PySem.W.codeIn K cd30 "BadName.__init__" = true)
    (k30 : PySem.W.keepIn K (.ref f30) = true)
    (saCN : PySem.W.findIn K (.ref CN) "__setattr__" = some (some (.builtin "object.__setattr__")))
    (gaCN : PySem.W.findIn K (.ref CN) "__getattribute__" = some (some (.builtin "BaseException.__getattribute__")))
    (ggCN : PySem.W.findIn K (.ref CN) "__getattr__" = some none)
    (nkCN : PySem.W.findIn K (.ref CN) "name" = some none)
    (kCCN : PySem.W.keepIn K (.ref CN) = true)
    (eCCN : PySem.W.subIn K (.ref CN) (.type "BaseException") = some true)
    (tCCN : PySem.W.typeIn K (.ref CN) = some (.type "type"))
    (hCCN : PySem.W.hasDictIn K CN = true)
    (haCN : PySem.W.findIn K (.ref CN) "__class__" = some (some (.builtin "object.__class__")))
    (hmCN : PySem.W.mroIn K CN (.type "object") = some true)
    (sVCN : PySem.W.subIn K (.ref CN) (.type "ValueError") = some true)
    (sICN : PySem.W.subIn K (.ref CN) (.ref CN) = some true)
    (sHCN : PySem.W.subIn K (.ref CN) (.ref CH) = some true)
    (sCNCB : PySem.W.subIn K (.ref CN) (.ref CB) = some false)
    (sCNCT : PySem.W.subIn K (.ref CN) (.ref CT) = some false)
    (sCNCU : PySem.W.subIn K (.ref CN) (.ref CU) = some false)
    (sCNCX : PySem.W.subIn K (.ref CN) (.ref CX) = some false)
    (sCNCS : PySem.W.subIn K (.ref CN) (.ref CS) = some false)
    (hn : PySem.W.specialIn K (.builtin "object.__class__") "__get__" = some (some (.builtin "getset_descriptor.__get__")))
    (ht : PySem.W.takesIn K (.builtin "object.__class__") = some true)
    (eH : PySem.W.subIn K (.ref CH) (.type "BaseException") = some true)
    (tCT : PySem.W.typeIn K (.ref CT) = some (.type "type"))
    (dCT : PySem.W.hasDictIn K CT = true)
    (tCU : PySem.W.typeIn K (.ref CU) = some (.type "type"))
    (dCU : PySem.W.hasDictIn K CU = true)
    (tCX : PySem.W.typeIn K (.ref CX) = some (.type "type"))
    (dCX : PySem.W.hasDictIn K CX = true)
    (tCS : PySem.W.typeIn K (.ref CS) = some (.type "type"))
    (dCS : PySem.W.hasDictIn K CS = true)
    (tCH : PySem.W.typeIn K (.ref CH) = some (.type "type"))
    (dCH : PySem.W.hasDictIn K CH = true)
    (z_isinstance : PySem.W.nsIn K mainGlobals "isinstance" = some none)
    (z_int : PySem.W.nsIn K mainGlobals "int" = some none)
    (z_bool : PySem.W.nsIn K mainGlobals "bool" = some none)
    (z_str : PySem.W.nsIn K mainGlobals "str" = some none)
    (z_tuple : PySem.W.nsIn K mainGlobals "tuple" = some none)
    (z_list : PySem.W.nsIn K mainGlobals "list" = some none)
    (z_len : PySem.W.nsIn K mainGlobals "len" = some none)
    (z_range : PySem.W.nsIn K mainGlobals "range" = some none)
    (z_abs : PySem.W.nsIn K mainGlobals "abs" = some none)
    (z_max : PySem.W.nsIn K mainGlobals "max" = some none)
    (z_min : PySem.W.nsIn K mainGlobals "min" = some none)
    (z_ValueError : PySem.W.nsIn K mainGlobals "ValueError" = some none) :
    ∃ fd : FuncData, (∀ (s : Shared) (v : Value), BindsTo s fd ⟨[v], []⟩ [("_law_script", v)]) ∧ ∀ base : Heap, K.In base → base.Ns mainGlobals mg → FnOk l.prog w K mg base CX0 31 fa fd ["_law_script"] (spLaw K) := by
  have e := hfa.symm.trans (PySem.W.mg_of X G a27)
  cases e
  have B : BOk mg := ⟨(PySem.W.mg_none_of X G z_isinstance), (PySem.W.mg_none_of X G z_int), (PySem.W.mg_none_of X G z_bool), (PySem.W.mg_none_of X G z_str), (PySem.W.mg_none_of X G z_tuple), (PySem.W.mg_none_of X G z_list), (PySem.W.mg_none_of X G z_len), (PySem.W.mg_none_of X G z_range)⟩
  have mAbs := (PySem.W.mg_none_of X G z_abs)
  have mMax := (PySem.W.mg_none_of X G z_max)
  have mNL := PySem.W.mg_of X G nL
  have FL := fun_mk (st := s_law) l27 c27 k27
  have cB_CB : (PySem.W.clsIn K CB).isSome = true := by
    obtain ⟨cd, hc, _⟩ := PySem.W.any_some hCCB
    rw [hc]
    rfl
  have cB_CN : (PySem.W.clsIn K CN).isSome = true := by
    obtain ⟨cd, hc, _⟩ := PySem.W.any_some hCCN
    rw [hc]
    rfl
  have OB : OexC K CB := ⟨⟨_, _, _, _, _, _, _, _, _, _, _, _, _, _, _, xLCB, by first | rfl | simp [PySem.HandSPX.refsVE]⟩, saCB, eCCB, tCCB, kCCB⟩
  have ON : OexC K CN := ⟨⟨_, _, _, _, _, _, _, _, _, _, _, _, _, _, _, xLCN, by first | rfl | simp [PySem.HandSPX.refsVE]⟩, saCN, eCCN, tCCN, kCCN⟩
  have R : Errs K mg CB CN CT CU CX CS CH := ⟨PySem.W.mg_of X G mCB, PySem.W.mg_of X G mCN, PySem.W.mg_of X G mCT, PySem.W.mg_of X G mCU, PySem.W.mg_of X G mCX, PySem.W.mg_of X G mCS, PySem.W.mg_of X G mCH, (PySem.W.mg_none_of X G z_ValueError), ⟨cB_CB, gaCB, ggCB, eCCB, haCB, hn, ht, hmCB⟩, ⟨gaCB, ggCB, eCCB, hCCB⟩, nkCB, PySem.W.exm_ref eCCB hCCB tCCB sICB, PySem.W.exm_ref eH dCH tCH sHCB, kit_sub hCCB tCCB sICB, kit_sub dCH tCH sHCB, kit_typ sVCB, kitAny_cons (kit_not hCCN tCCN sCBCN sICB) (fun _ => kitAny_cons (kit_not dCT tCT sCBCT sICB) (fun _ => kitAny_cons (kit_not dCU tCU sCBCU sICB) (fun _ => kitAny_cons (kit_not dCX tCX sCBCX sICB) (fun _ => kitAny_cons (kit_not dCS tCS sCBCS sICB) (fun _ => rfl) (fun z => nomatch z)) (fun z => nomatch z)) (fun z => nomatch z)) (fun z => nomatch z)) (fun z => nomatch z), ⟨cB_CN, gaCN, ggCN, eCCN, haCN, hn, ht, hmCN⟩, ⟨gaCN, ggCN, eCCN, hCCN⟩, nkCN, PySem.W.exm_ref eCCN hCCN tCCN sICN, PySem.W.exm_ref eH dCH tCH sHCN, kit_sub hCCN tCCN sICN, kit_sub dCH tCH sHCN, kit_typ sVCN, kitAny_cons (kit_not hCCB tCCB sCNCB sICN) (fun _ => kitAny_cons (kit_not dCT tCT sCNCT sICN) (fun _ => kitAny_cons (kit_not dCU tCU sCNCU sICN) (fun _ => kitAny_cons (kit_not dCX tCX sCNCX sICN) (fun _ => kitAny_cons (kit_not dCS tCS sCNCS sICN) (fun _ => rfl) (fun z => nomatch z)) (fun z => nomatch z)) (fun z => nomatch z)) (fun z => nomatch z)) (fun z => nomatch z)⟩
  refine ⟨PySem.W.fnOf "law" "law" (defArgs s_law) (defBody s_law) (defScope s_law) .none kV27 dc27 pm27 an27 cd27 ct27, fun s v => .of_eq rfl, fun base _ _ => ?_⟩
  have Flet : Fn l.prog w K mg base 1 "is_letter" (spLet let1) := ok_letter (top_mk X G a2 l2 c2 k2)
  have Fdig : Fn l.prog w K mg base 1 "is_digit" (spLet dig1) := ok_digit (top_mk X G a3 l3 c3 k3)
  have Fname := ok_name (top_mk X G a4 l4 c4 k4) B.len mNL Flet Fdig
  have Fcell : Fn l.prog w K mg base 1 "_law_cell" (spCell K) := ok_cell (top_mk X G a11 l11 c11 k11) B.len mAbs
  have Fpool := ok_pool (top_mk X G a12 l12 c12 k12) Fcell B.int
  have Fnext : Fn l.prog w K mg base 1 "_law_next" spNext := ok_next (top_mk X G a13 l13 c13 k13) B.int
  have Fsame : Fn l.prog w K mg base 29 "_law_same" (spSame 28) := ok_same (top_mk X G a14 l14 c14 k14) B 28
  have FsameH : FnHt l.prog w K mg base 4 "_law_same" (spSame 3) := ok_sameH (top_mk X G a14 l14 c14 k14) B 3
  have Fwh : Fn l.prog w K mg base 1 "is_number_from" (spWh K) := ok_whole (top_mk X G a0 l0 c0 k0) B
  have Fkind := ok_kind (top_mk X G a1 l1 c1 k1) B Fwh
  have Fnw : Fn l.prog w K mg base 1 "names_within" spNames := ok_names_within (top_mk X G a7 l7 c7 k7)
  have Flw : Fn l.prog w K mg base 1 "_law_words" spNames := ok_words (top_mk X G a21 l21 c21 k21)
  have Flegs : Fn l.prog w K mg base 23 "legs" (spLegs 22) := ok_legs (top_mk X G a10 l10 c10 k10) 22
  have Fll : Fn l.prog w K mg base 1 "_law_legs" spLLegs := ok_llegs (top_mk X G a20 l20 c20 k20) B.list
  have Fsize := ok_size (top_mk X G a8 l8 c8 k8) B.len Fnw
  have Fwin := ok_words_in (top_mk X G a9 l9 c9 k9) B.list Fnw
  have ERB : Er l.prog w K mg base "BadKind" CB "kind" := ok_bk (topM_mk a29 i29 l29 c29 k29) OB nkCB R.mB
  have ERN : Er l.prog w K mg base "BadName" CN "name" := ok_bn (topM_mk a30 i30 l30 c30 k30) ON nkCN R.mN
  have Fword := ok_word (top_mk X G a5 l5 c5 k5) ERN Fname
  have Fmenu : Fn l.prog w K mg base 1 "menu" spMenu := ok_menu (top_mk X G a6 l6 c6 k6)
  have Ftrade := ok_trade (Wk.topK_mk X G a28 l28 c28 k28 d28 ⟨tk28, rfl⟩) ERB Fkind
  have Fthr := ok_through (top_mk X G a23 l23 c23 k23) Fword Fmenu Ftrade 22
  have Fmode := ok_mode (top_mk X G a17 l17 c17 k17) Fnext
  have Flname := ok_lname (top_mk X G a15 l15 c15 k15) B.len mMax B.range Fnext
  have Fbad := ok_bad (top_mk X G a16 l16 c16 k16) B.len B.str Fnext
  have Fdeep := ok_deep (top_mk X G a18 l18 c18 k18) B.len Fnext Fmode 4
  have Fsent := ok_sent (top_mk X G a19 l19 c19 k19) B.len B.range Fnext Fmode Fdeep
  have Ftells := ok_tells (top_mk X G a22 l22 c22 k22) B.len Fll Flw Flegs Fwin Fsize Fsame
  have Fnref := ok_nref (top_mk X G a24 l24 c24 k24) B R Fword FsameH
  have Fkref := ok_kref (top_mk X G a25 l25 c25 k25) B R Ftrade FsameH
  have Frall := ok_rall (top_mk X G a26 l26 c26 k26) B R Fword Ftrade
  exact ok_law FL B.range Fpool Fnext Flname Fmode Fsent Ftells Fsame Fthr Ftrade Fbad Fnref Frall Fkref Fword
theorem walk {l : PySem.W.OpenLaw} {q : Program} {loose : List Str} {XP : (Str → Option Value) → Heap → Prop} {YP : World → Heap → Prop} {d : DefRec} {K : Params → PySem.W.Frag} (hn : l.most = some 63) (hdf : d.params.defaults = [])
    (hY : ∀ (w : World) (h : Heap), YP w h → (K w.params).In h)
    (F : ∀ (w : World) (mg : Str → Option Value) (fa : Addr) (h : Heap), (K w.params).In h → h.Ns mainGlobals mg → mg d.name = some (.ref fa) →
      ∃ fd : FuncData, (∀ (s : Shared) (u : Value), BindsTo s fd ⟨[u], []⟩ [("_law_script", u)]) ∧ ∀ base : Heap, (K w.params).In base → base.Ns mainGlobals mg → FnOk l.prog w (K w.params) mg base CX0 31 fa fd ["_law_script"] (spLaw (K w.params))) :
    PySem.W.WalkO q loose XP YP l.row.toRowW d [] (fun f vs => PySem.call f vs) :=
  L2.walk_of (n := 63) (k := 31) (x := "_law_script") (CX := fun _ => CX0) (sp := fun w => spLaw (K w.params)) hn (by decide) hdf ⟨rfl, by decide, by decide⟩ hY F (fun _ _ a ns hl _ hS => ⟨a, ns, rfl, hS, hl, fun _ => rfl⟩) fun _ _ _ _ _ z => z
end
end K02
open PySem PySem.W PyProof.Rows
set_option maxRecDepth 100000 in
set_option maxHeartbeats 0 in
theorem PySem.Challenge.cw_heldproofs_k02_sentences_and_legs_holds : PySem.Challenge.rw_heldproofs_k02_sentences_and_legs.Holds := by
  w_on; o_law; k_head; (case hw => w_witness2)
  k_fill
  refine K02.walk (l := PySem.Challenge.rw_heldproofs_k02_sentences_and_legs) rfl rfl (fun w h Y => PySem.W.kIn_of Y) ?F
  case F =>
    intro w mg fa h KX G hmg
    refine' K02.all_mk KX G hmg ?a0 ?l0 ?c0 ?k0 ?a1 ?l1 ?c1 ?k1 ?a2 ?l2 ?c2 ?k2 ?a3 ?l3 ?c3 ?k3 ?a4 ?l4 ?c4 ?k4 ?a5 ?l5 ?c5 ?k5 ?a6 ?l6 ?c6 ?k6 ?a7 ?l7 ?c7 ?k7 ?a8 ?l8 ?c8 ?k8 ?a9 ?l9 ?c9 ?k9 ?a10 ?l10 ?c10 ?k10 ?a11 ?l11 ?c11 ?k11 ?a12 ?l12 ?c12 ?k12 ?a13 ?l13 ?c13 ?k13 ?a14 ?l14 ?c14 ?k14 ?a15 ?l15 ?c15 ?k15 ?a16 ?l16 ?c16 ?k16 ?a17 ?l17 ?c17 ?k17 ?a18 ?l18 ?c18 ?k18 ?a19 ?l19 ?c19 ?k19 ?a20 ?l20 ?c20 ?k20 ?a21 ?l21 ?c21 ?k21 ?a22 ?l22 ?c22 ?k22 ?a23 ?l23 ?c23 ?k23 ?a24 ?l24 ?c24 ?k24 ?a25 ?l25 ?c25 ?k25 ?a26 ?l26 ?c26 ?k26 ?a27 ?l27 ?c27 ?k27 ?a28 ?l28 ?c28 ?k28 ?d28 ?nL ?mCB ?mCN ?mCT ?mCU ?mCX ?mCS ?mCH ?xLCB ?a29 ?i29 ?l29 ?c29 ?k29 ?saCB ?gaCB ?ggCB ?nkCB ?kCCB ?eCCB ?tCCB ?hCCB ?haCB ?hmCB ?sVCB ?sICB ?sHCB ?sCBCN ?sCBCT ?sCBCU ?sCBCX ?sCBCS ?xLCN ?a30 ?i30 ?l30 ?c30 ?k30 ?saCN ?gaCN ?ggCN ?nkCN ?kCCN ?eCCN ?tCCN ?hCCN ?haCN ?hmCN ?sVCN ?sICN ?sHCN ?sCNCB ?sCNCT ?sCNCU ?sCNCX ?sCNCS ?hn ?ht ?eH ?tCT ?dCT ?tCU ?dCU ?tCX ?dCX ?tCS ?dCS ?tCH ?dCH ?z_isinstance ?z_int ?z_bool ?z_str ?z_tuple ?z_list ?z_len ?z_range ?z_abs ?z_max ?z_min ?z_ValueError
    (case a0 => k_is)
    (case l0 => k_is)
    (case c0 => k_is)
    (case k0 => k_is)
    (case a1 => k_is)
    (case l1 => k_is)
    (case c1 => k_is)
    (case k1 => k_is)
    (case a2 => k_is)
    (case l2 => k_is)
    (case c2 => k_is)
    (case k2 => k_is)
    (case a3 => k_is)
    (case l3 => k_is)
    (case c3 => k_is)
    (case k3 => k_is)
    (case a4 => k_is)
    (case l4 => k_is)
    (case c4 => k_is)
    (case k4 => k_is)
    (case a5 => k_is)
    (case l5 => k_is)
    (case c5 => k_is)
    (case k5 => k_is)
    (case a6 => k_is)
    (case l6 => k_is)
    (case c6 => k_is)
    (case k6 => k_is)
    (case a7 => k_is)
    (case l7 => k_is)
    (case c7 => k_is)
    (case k7 => k_is)
    (case a8 => k_is)
    (case l8 => k_is)
    (case c8 => k_is)
    (case k8 => k_is)
    (case a9 => k_is)
    (case l9 => k_is)
    (case c9 => k_is)
    (case k9 => k_is)
    (case a10 => k_is)
    (case l10 => k_is)
    (case c10 => k_is)
    (case k10 => k_is)
    (case a11 => k_is)
    (case l11 => k_is)
    (case c11 => k_is)
    (case k11 => k_is)
    (case a12 => k_is)
    (case l12 => k_is)
    (case c12 => k_is)
    (case k12 => k_is)
    (case a13 => k_is)
    (case l13 => k_is)
    (case c13 => k_is)
    (case k13 => k_is)
    (case a14 => k_is)
    (case l14 => k_is)
    (case c14 => k_is)
    (case k14 => k_is)
    (case a15 => k_is)
    (case l15 => k_is)
    (case c15 => k_is)
    (case k15 => k_is)
    (case a16 => k_is)
    (case l16 => k_is)
    (case c16 => k_is)
    (case k16 => k_is)
    (case a17 => k_is)
    (case l17 => k_is)
    (case c17 => k_is)
    (case k17 => k_is)
    (case a18 => k_is)
    (case l18 => k_is)
    (case c18 => k_is)
    (case k18 => k_is)
    (case a19 => k_is)
    (case l19 => k_is)
    (case c19 => k_is)
    (case k19 => k_is)
    (case a20 => k_is)
    (case l20 => k_is)
    (case c20 => k_is)
    (case k20 => k_is)
    (case a21 => k_is)
    (case l21 => k_is)
    (case c21 => k_is)
    (case k21 => k_is)
    (case a22 => k_is)
    (case l22 => k_is)
    (case c22 => k_is)
    (case k22 => k_is)
    (case a23 => k_is)
    (case l23 => k_is)
    (case c23 => k_is)
    (case k23 => k_is)
    (case a24 => k_is)
    (case l24 => k_is)
    (case c24 => k_is)
    (case k24 => k_is)
    (case a25 => k_is)
    (case l25 => k_is)
    (case c25 => k_is)
    (case k25 => k_is)
    (case a26 => k_is)
    (case l26 => k_is)
    (case c26 => k_is)
    (case k26 => k_is)
    (case a27 => k_is)
    (case l27 => k_is)
    (case c27 => k_is)
    (case k27 => k_is)
    (case a28 => k_is)
    (case l28 => k_is)
    (case c28 => k_is)
    (case k28 => k_is)
    (case d28 => k_is)
    (case nL => k_is)
    (case mCB => k_is)
    (case mCN => k_is)
    (case mCT => k_is)
    (case mCU => k_is)
    (case mCX => k_is)
    (case mCS => k_is)
    (case mCH => k_is)
    (case xLCB => k_is)
    (case a29 => k_is)
    (case i29 => k_is)
    (case l29 => k_is)
    (case c29 => k_is)
    (case k29 => k_is)
    (case saCB => k_is)
    (case gaCB => k_is)
    (case ggCB => k_is)
    (case nkCB => k_is)
    (case kCCB => k_is)
    (case eCCB => k_is)
    (case tCCB => k_is)
    (case hCCB => k_is)
    (case haCB => k_is)
    (case hmCB => k_is)
    (case sVCB => k_is)
    (case sICB => first | rfl | k_is)
    (case sHCB => k_is)
    (case sCBCN => k_is)
    (case sCBCT => k_is)
    (case sCBCU => k_is)
    (case sCBCX => k_is)
    (case sCBCS => k_is)
    (case xLCN => k_is)
    (case a30 => k_is)
    (case i30 => k_is)
    (case l30 => k_is)
    (case c30 => k_is)
    (case k30 => k_is)
    (case saCN => k_is)
    (case gaCN => k_is)
    (case ggCN => k_is)
    (case nkCN => k_is)
    (case kCCN => k_is)
    (case eCCN => k_is)
    (case tCCN => k_is)
    (case hCCN => k_is)
    (case haCN => k_is)
    (case hmCN => k_is)
    (case sVCN => k_is)
    (case sICN => first | rfl | k_is)
    (case sHCN => k_is)
    (case sCNCB => k_is)
    (case sCNCT => k_is)
    (case sCNCU => k_is)
    (case sCNCX => k_is)
    (case sCNCS => k_is)
    (case hn => k_is)
    (case ht => k_is)
    (case eH => k_is)
    (case tCT => k_is)
    (case dCT => k_is)
    (case tCU => k_is)
    (case dCU => k_is)
    (case tCX => k_is)
    (case dCX => k_is)
    (case tCS => k_is)
    (case dCS => k_is)
    (case tCH => k_is)
    (case dCH => k_is)
    (case z_isinstance => k_is)
    (case z_int => k_is)
    (case z_bool => k_is)
    (case z_str => k_is)
    (case z_tuple => k_is)
    (case z_list => k_is)
    (case z_len => k_is)
    (case z_range => k_is)
    (case z_abs => k_is)
    (case z_max => k_is)
    (case z_min => k_is)
    (case z_ValueError => k_is)
