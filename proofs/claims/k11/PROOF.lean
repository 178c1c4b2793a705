import PyProof.Rows.All
import Wide.All
import OpenK.AllK
import Wide.FinOn
import HandS.ForMost
import HandS.IsInst
import HandS.Codes
import HandS.Wide
import PySem.Challenge.RW_heldproofs_k11_tallies_computed
set_option Elab.async false
set_option linter.all false
set_option maxRecDepth 100000
/-! My own layer over the hand layer: the weakest reading of a piece of syntax, and a rule a construct, chosen where the values are known. -/
namespace Wk
open PySem PySem.Spec PyProof.Rows L2
section
variable (X : Cx)
@[irreducible] def wE (e : Expr) : TE := fun σ H Q => ∀ (pins : List (Addr × Obj)) (s : Shared), Inv X pins σ H s → wpAny (model X.prog X.w) X.A (eval e X.env) (EP X pins σ Q) X.xe s
@[irreducible] def wT (e : Expr) : TT := fun σ H Q => ∀ (pins : List (Addr × Obj)) (s : Shared), Inv X pins σ H s → wpAny (model X.prog X.w) X.A (isTrue e X.env (eval e X.env)) (TP X pins σ Q) X.xe s
@[irreducible] def wW (e : Expr) : TT := fun σ H Q => ∀ (whole : Sem Value) (pins : List (Addr × Obj)) (s : Shared), Inv X pins σ H s → wpAny (model X.prog X.w) X.A (isTrue e X.env whole) (TP X pins σ Q) X.xe s
@[irreducible] def wA (es : List Expr) : TA := fun σ H Q => ∀ (pos : Pos) (pins : List (Addr × Obj)) (s : Shared), Inv X pins σ H s → wpAny (model X.prog X.w) X.A (spliced (backTo pos (starEach es X.env))) (AP X pins σ Q) X.xe s
@[irreducible] def wS (st : Stmt) : TS := fun D σ H => ∀ (pins : List (Addr × Obj)) (s : Shared), Inv X pins σ H s → wpAny (model X.prog X.w) X.A (exec st X.env) (SP X pins D) X.xe s
@[irreducible] def wL (st : List Stmt) : TS := fun D σ H => ∀ (pins : List (Addr × Obj)) (s : Shared), Inv X pins σ H s → wpAny (model X.prog X.w) X.A (execs st X.env) (SP X pins D) X.xe s
@[irreducible] def wO (f : Value → Value → Sem Value) : R2 := fun x y H Q => ∀ (pins : List (Addr × Obj)) (s : Shared) (σ : L2.St) (v u : Value), Inv X pins σ H s → RelV x v → RelV y u → wpAny (model X.prog X.w) X.A (f v u) (EP X pins σ Q) X.xe s
@[irreducible] def wB (op : Operator) : R2 := fun x y H Q => wO X (binaryOp op) x y H Q
@[irreducible] def wK (op : CmpOp) : R2 := fun x y H Q => wO X (compareOp op) x y H Q
@[irreducible] def wIx : R2 := fun x y H Q => ∀ (value slice : Expr) (pins : List (Addr × Obj)) (s : Shared) (σ : L2.St) (v u : Value), Inv X pins σ H s → RelV x v → RelV y u → subscripted slice false v u = operate [v, u] (getItem v u) → wpAny (model X.prog X.w) X.A (subscriptTail value slice v u) (EP X pins σ Q) X.xe s
@[irreducible] def wC (f : Value) : List V → Hp → VK → Prop := fun xs H Q => ∀ (pins : List (Addr × Obj)) (s : Shared) (σ : L2.St) (us : List Value), Inv X pins σ H s → Vals xs us → wpAny (model X.prog X.w) X.A (call f us) (EP X pins σ Q) X.xe s
@[irreducible] def wSet : V → V → V → Hp → (Hp → Prop) → Prop := fun o i v H Q => ∀ (pins : List (Addr × Obj)) (s : Shared) (σ : L2.St) (ov iv u : Value), Inv X pins σ H s → RelV o ov → RelV i iv → RelV v u → wpAny (model X.prog X.w) X.A (setItem ov iv u) (fun _ s' => ∃ H', Inv X pins σ H' s' ∧ Q H') X.xe s
end
section
variable {X : Cx} {e a b c : Expr} {es rest : List Expr} {st : Stmt} {sts : List Stmt} {σ : L2.St} {H : Hp} {Q : VK} {D : Ends} {pos p0 : Pos} {QT : Bool → Hp → Prop}
theorem pe : PE X e (wE X e) := ⟨fun pins s _ _ _ I h => by unfold wE at h; exact h pins s I⟩
theorem pt : PT X e (wT X e) := ⟨fun pins s _ _ _ I h => by unfold wT at h; exact h pins s I⟩
theorem pw : PW X e (wW X e) := ⟨fun wh pins s _ _ _ I h => by unfold wW at h; exact h wh pins s I⟩
theorem pa : PA X es (wA X es) := ⟨fun p pins s _ _ _ I h => by unfold wA at h; exact h p pins s I⟩
theorem ps : PS X st (wS X st) := ⟨fun pins s _ _ _ I h => by unfold wS at h; exact h pins s I⟩
theorem pl : PSs X sts (wL X sts) := ⟨fun pins s _ _ _ I h => by unfold wL at h; exact h pins s I⟩
theorem opr {f : Value → Value → Sem Value} : OpR X f (wO X f) := fun pins s σ _ _ _ v u _ I rx ry h => by unfold wO at h; exact h pins s σ v u I rx ry
theorem opb {op : Operator} : OpR X (binaryOp op) (wB X op) := fun pins s σ _ _ _ v u _ I rx ry h => by unfold wB at h; exact opr pins s σ _ _ _ v u _ I rx ry h
theorem opk {op : CmpOp} : OpR X (compareOp op) (wK X op) := fun pins s σ _ _ _ v u _ I rx ry h => by unfold wK at h; exact opr pins s σ _ _ _ v u _ I rx ry h
theorem ixr : IxR X (wIx X) := fun va sl pins s σ _ _ _ v u _ I rx ry h hs => by unfold wIx at h; exact h va sl pins s σ v u I rx ry hs
theorem cr {f : Value} : CallR X f (wC X f) := fun pins s σ _ _ us _ I r h => by unfold wC at h; exact h pins s σ us I r
theorem pset : PSet X (wSet X) := fun pins s σ _ _ _ _ ov iv u _ I ro ri rv h => by unfold wSet at h; exact h pins s σ ov iv u I ro ri rv
theorem e_of {t : TE} (h : PE X e t) (q : t σ H Q) : wE X e σ H Q := by unfold wE; exact fun pins s I => h.run pins s σ H Q I q
theorem t_of {t : TT} (h : PT X e t) (q : t σ H QT) : wT X e σ H QT := by unfold wT; exact fun pins s I => h.run pins s σ H QT I q
theorem w_of {t : TT} (h : PW X e t) (q : t σ H QT) : wW X e σ H QT := by unfold wW; exact fun wh pins s I => h.run wh pins s σ H QT I q
theorem a_of {t : TA} {QA : List V → Hp → Prop} (h : PA X es t) (q : t σ H QA) : wA X es σ H QA := by unfold wA; exact fun p pins s I => h.run p pins s σ H QA I q
theorem s_of {t : TS} (h : PS X st t) (q : t D σ H) : wS X st D σ H := by unfold wS; exact fun pins s I => h.run pins s σ H D I q
theorem l_of {t : TS} (h : PSs X sts t) (q : t D σ H) : wL X sts D σ H := by unfold wL; exact fun pins s I => h.run pins s σ H D I q
theorem o_of {f : Value → Value → Sem Value} {r : R2} {x y : V} (h : OpR X f r) (q : r x y H Q) : wO X f x y H Q := by unfold wO; exact fun pins s σ v u I rx ry => h pins s σ H x y v u Q I rx ry q
theorem b_of {op : Operator} {r : R2} {x y : V} (h : OpR X (binaryOp op) r) (q : r x y H Q) : wB X op x y H Q := by unfold wB; exact o_of h q
theorem k_of {op : CmpOp} {r : R2} {x y : V} (h : OpR X (compareOp op) r) (q : r x y H Q) : wK X op x y H Q := by unfold wK; exact o_of h q
theorem ix_of {r : R2} {x y : V} (h : IxR X r) (q : r x y H Q) : wIx X x y H Q := by unfold wIx; exact fun va sl pins s σ v u I rx ry hs => h va sl pins s σ H x y v u Q I rx ry q hs
theorem c_of {f : Value} {r : List V → Hp → VK → Prop} {xs : List V} (h : CallR X f r) (q : r xs H Q) : wC X f xs H Q := by unfold wC; exact fun pins s σ us I r => h pins s σ H xs us Q I r q
theorem set_of {t : V → V → V → Hp → (Hp → Prop) → Prop} {o i v : V} {QH : Hp → Prop} (h : PSet X t) (q : t o i v H QH) : wSet X o i v H QH := by unfold wSet; exact fun pins s σ ov iv u I ro ri rv => h pins s σ H o i v ov iv u QH I ro ri rv q

theorem e_mono {Q' : VK} (q : wE X e σ H Q) (h : ∀ v H1, Q v H1 → Q' v H1) : wE X e σ H Q' := by
  unfold wE at q ⊢
  exact fun pins s I => wpAny_mono (q pins s I) (fun _ _ ⟨v, H1, I1, r, z⟩ => ⟨v, H1, I1, r, h v H1 z⟩) fun _ _ z => z
theorem a_mono {QA QA' : List V → Hp → Prop} (q : wA X es σ H QA) (h : ∀ v H1, QA v H1 → QA' v H1) : wA X es σ H QA' := by
  unfold wA at q ⊢
  exact fun pp pins s I => wpAny_mono (q pp pins s I) (fun _ _ ⟨v, H1, I1, r, z⟩ => ⟨v, H1, I1, r, h v H1 z⟩) fun _ _ z => z

end
/-- where a name stands in a list; found by its spelling -/
inductive At {α : Type} : List α → Nat → α → Prop where
  | z {x : α} {l : List α} : At (x :: l) 0 x
  | s {x y : α} {l : List α} {i : Nat} (h : At l i x) : At (y :: l) (i + 1) x
theorem At.get {α : Type} {l : List α} {i : Nat} {x : α} (h : At l i x) : l[i]? = some x := by
  induction h with
  | z => rfl
  | s _ ih => simpa using ih
theorem At.mem {α : Type} {l : List α} {i : Nat} {x : α} (h : At l i x) : x ∈ l := List.mem_of_getElem? h.get
instance locDec {sc : Scope} {x : Str} : Decidable (Loc sc x) := inferInstanceAs (Decidable (_ ∨ _))
/-- a def's names: its own, in their slots, and the global ones -/
structure ScOk (N G : List Str) (sc : Scope) : Prop where
  nd : N.Nodup
  lo : ∀ x ∈ N, Loc sc x ∧ (x == ("__debug__" : Str)) = false ∧ (x == ("__classdict__" : Str)) = false
  gl : ∀ x ∈ G, sc.names.lookup x = some .globalImplicit ∧ (x == ("__debug__" : Str)) = false ∧ x ≠ "__name__"
/-- the body that the proof stands in -/
structure In (X : Cx) (N G : List Str) (sc : Scope) : Prop where
  ok : ScOk N G sc
  n : ∃ C, X.N = N ++ C
  nd : X.N.Nodup
  sc : X.env.scope = sc
  fn : X.fn = fun _ => true
  nev : PassesOwn (model X.prog X.w) X.A X.env X.xe
section
variable {X : Cx} {e a b c : Expr} {es rest : List Expr} {st : Stmt} {sts : List Stmt} {σ : L2.St} {H : Hp} {Q : VK} {D : Ends} {pos p0 : Pos} {QT : Bool → Hp → Prop} {N G : List Str} {sc : Scope}
theorem In.loc (I : In X N G sc) {i : Nat} {x : Str} (h : At N i x) : Loc X.env.scope x := by rw [I.sc]; exact (I.ok.lo x h.mem).1
theorem In.vis (I : In X N G sc) {i : Nat} {x : Str} (h : At N i x) : Vis X.env.scope x := by
  rcases I.loc h with z | z
  · exact .inl z
  · exact .inr (.inl z)
theorem In.hi (I : In X N G sc) {i : Nat} {x : Str} (h : At N i x) : X.N[i]? = some x := by
  obtain ⟨C, e⟩ := I.n
  have hl : i < N.length := by
    have := h.get
    exact (List.getElem?_eq_some_iff.mp this).1
  rw [e, List.getElem?_append_left hl]
  exact h.get
theorem In.f (I : In X N G sc) {x : Str} : X.fn x = true ∨ X.env.scope.names.lookup x = some .local := .inl (by rw [I.fn])
theorem In.g (I : In X N G sc) {i : Nat} {x : Str} (h : At G i x) : Gl X x := by
  show X.env.scope.names.lookup x = _
  rw [I.sc]
  exact (I.ok.gl x h.mem).1
theorem In.gd (I : In X N G sc) {i : Nat} {x : Str} (h : At G i x) : (x == ("__debug__" : Str)) = false := (I.ok.gl x h.mem).2.1
theorem In.gn (I : In X N G sc) {i : Nat} {x : Str} (h : At G i x) : x ≠ "__name__" := (I.ok.gl x h.mem).2.2
theorem In.never (I : In X N G sc) : PassesOwn (model X.prog X.w) X.A X.env X.xe := I.nev

/-! ### statements -/
theorem l_nil {nx : L2.St → Hp → Prop} {rt : VK} {bk ct : L2.St → Hp → Prop} (q : nx σ H) : wL X [] ⟨nx, rt, bk, ct⟩ σ H := l_of pss_nil q
theorem l_cons {nx : L2.St → Hp → Prop} {rt : VK} {bk ct : L2.St → Hp → Prop} (q : wS X st ⟨fun σ' H' => wL X sts ⟨nx, rt, bk, ct⟩ σ' H', rt, bk, ct⟩ σ H) : wL X (st :: sts) ⟨nx, rt, bk, ct⟩ σ H := l_of (pss_cons ps pl) q
theorem s_set {nx : L2.St → Hp → Prop} {rt : VK} {bk ct : L2.St → Hp → Prop} {i : Nat} {x : Str} {pos' : Pos} (q : wE X e σ H fun v H' => nx (σ.set i (some v)) H') (I : In X N G sc := by assumption) (hA : At N i x := by repeat (first | with_reducible apply At.z | with_reducible apply At.s)) (hs : swapsWith e (some (.Name x pos')) pos.line X.env = pure false := by rfl) :
    wS X (.Assign [.Name x pos'] e pos) ⟨nx, rt, bk, ct⟩ σ H := s_of (ps_set I.nd (I.hi hA) (I.loc hA) pe hs I.f) q
theorem s_ret {nx : L2.St → Hp → Prop} {rt : VK} {bk ct : L2.St → Hp → Prop} (q : wE X e σ H rt) : wS X (.Return (some e) pos) ⟨nx, rt, bk, ct⟩ σ H := s_of (ps_ret pe) q
theorem s_retN {nx : L2.St → Hp → Prop} {rt : VK} {bk ct : L2.St → Hp → Prop} (q : rt .non H) : wS X (.Return none pos) ⟨nx, rt, bk, ct⟩ σ H := s_of ps_retN q
theorem s_pass {nx : L2.St → Hp → Prop} {rt : VK} {bk ct : L2.St → Hp → Prop} (q : nx σ H) : wS X (.Pass pos) ⟨nx, rt, bk, ct⟩ σ H := s_of ps_pass q
theorem s_brk {nx : L2.St → Hp → Prop} {rt : VK} {bk ct : L2.St → Hp → Prop} (q : bk σ H) : wS X (.Break pos) ⟨nx, rt, bk, ct⟩ σ H := s_of ps_break q
theorem s_cnt {nx : L2.St → Hp → Prop} {rt : VK} {bk ct : L2.St → Hp → Prop} (q : ct σ H) : wS X (.Continue pos) ⟨nx, rt, bk, ct⟩ σ H := s_of ps_continue q
theorem s_expr {nx : L2.St → Hp → Prop} {rt : VK} {bk ct : L2.St → Hp → Prop} (q : wE X e σ H fun _ H' => nx σ H') (hs : swapsWith e none pos.line X.env = pure false := by rfl) : wS X (.Expr e pos) ⟨nx, rt, bk, ct⟩ σ H := s_of (ps_expr pe hs) q
theorem s_if {nx : L2.St → Hp → Prop} {rt : VK} {bk ct : L2.St → Hp → Prop} {A B : List Stmt} (q : wT X c σ H fun k H1 => if k = true then wL X A ⟨nx, rt, bk, ct⟩ σ H1 else wL X B ⟨nx, rt, bk, ct⟩ σ H1) : wS X (.If c A B pos) ⟨nx, rt, bk, ct⟩ σ H := s_of (ps_if pt pl pl) q
theorem s_fld {nx : L2.St → Hp → Prop} {rt : VK} {bk ct : L2.St → Hp → Prop} {o value : Expr} {f : Str} {pos' : Pos} (q : wE X value σ H fun y H1 => wE X o σ H1 fun x H2 => ∃ a C dx fs, x = .ref a ∧ H2 a = some (.ins C dx fs) ∧ Cls X.K C ∧ NoAttr X.K C f ∧ fs.length < 1000 ∧ nx σ (upd H2 a (.ins C dx (putF f y fs))))
    (hs : swapsWith value (some (.Attribute o f pos')) pos.line X.env = pure false := by rfl) : wS X (.Assign [.Attribute o f pos'] value pos) ⟨nx, rt, bk, ct⟩ σ H := s_of (ps_fld pe pe hs) q
/-- o[i] = v -/
theorem s_sub {nx : L2.St → Hp → Prop} {rt : VK} {bk ct : L2.St → Hp → Prop} {o i value : Expr} {pos' : Pos} (q : wE X value σ H fun v H1 => wE X o σ H1 fun x H2 => wE X i σ H2 fun y H3 => wSet X x y v H3 fun H4 => nx σ H4)
    (hs : swapsWithSole [.Subscript o i pos'] value pos.line X.env = pure false := by rfl) (hw : swappedStores [.Subscript o i pos'] value X.env = pure none := by rfl) (h1 : (assignEach [.Subscript o i pos'] X.env).map (·.2) = [assign (.Subscript o i pos') X.env] := by rfl)
    (ha : ∀ v, assign (.Subscript o i pos') X.env v = (do let ov ← holding [v] (eval o X.env); let iv ← holding [v, ov] (eval i X.env); standAt pos'; holding [v, ov, iv] (setItem ov iv v); release [v, ov, iv] []) := by intro _; rfl) : wS X (.Assign [.Subscript o i pos'] value pos) ⟨nx, rt, bk, ct⟩ σ H := s_of (ps_asg pe (pg_sub pe pe pset ha) hs hw h1) q
/-- two names from a tuple -/
theorem s_tup2 {nx : L2.St → Hp → Prop} {rt : VK} {bk ct : L2.St → Hp → Prop} {i j : Nat} {x y : Str} {k : Nat} {px py pt : Pos} (q : wE X e σ H fun v H1 => ∃ a u w, v = .ref a ∧ SqT X.K H1 a [u, w] ∧ nx ((σ.set i (some u)).set j (some w)) H1)
    (I : In X N G sc := by assumption) (hc : X.calm = true := by rfl) (hA : At N i x := by repeat (first | with_reducible apply At.z | with_reducible apply At.s)) (hB : At N j y := by repeat (first | with_reducible apply At.z | with_reducible apply At.s))
    (hs : swapsWithSole [.Tuple [.Name x px, .Name y py] k pt] e pos.line X.env = pure false := by rfl) (hw : swappedStores [.Tuple [.Name x px, .Name y py] k pt] e X.env = pure none := by rfl) (h1 : (assignEach [.Tuple [.Name x px, .Name y py] k pt] X.env).map (·.2) = [assign (.Tuple [.Name x px, .Name y py] k pt) X.env] := by rfl) :
    wS X (.Assign [.Tuple [.Name x px, .Name y py] k pt] e pos) ⟨nx, rt, bk, ct⟩ σ H := by
  refine s_of (ps_asg pe (pg_tup hc (pgs_cons (pg_name I.nd (I.hi hA) (I.loc hA) I.f) (pgs_cons (pg_name I.nd (I.hi hB) (I.loc hB) I.f) pgs_nil))) hs hw h1) (e_mono q fun v H1 q1 => ?_)
  obtain ⟨ad, u, w, ev, hq, q2⟩ := q1
  exact ⟨ad, [u, w], ev, hq, rfl, u, [w], rfl, w, [], rfl, rfl, q2⟩
/-! ### expressions -/
theorem e_var {i : Nat} {x : Str} {v : V} (q : Q v H) (I : In X N G sc := by assumption) (hA : At N i x := by repeat (first | with_reducible apply At.z | with_reducible apply At.s)) (hσ : σ[i]? = some (some v) := by exact rfl) : wE X (.Name x pos) σ H Q :=
  e_of (pe_var (I.hi hA) (I.vis hA) (I.ok.lo x hA.mem).2.1 (I.ok.lo x hA.mem).2.2) ⟨v, hσ, q⟩
theorem e_int {i : Int} {j} (q : Q (.int i) H) : wE X (.Constant (.int i) j pos) σ H Q := e_of pe_int q
theorem e_bl {k : Bool} {j} (q : Q (.bl k) H) : wE X (.Constant (.bool k) j pos) σ H Q := e_of pe_bl q
theorem e_non {j} (q : Q .non H) : wE X (.Constant .none j pos) σ H Q := e_of pe_non q
theorem e_str {x : Str} {j} (q : Q (.str x) H) : wE X (.Constant (.str x) j pos) σ H Q := e_of pe_str q
theorem e_bin {op : Operator} (q : wE X a σ H fun x H1 => wE X b σ H1 fun y H2 => wB X op x y H2 Q) : wE X (.BinOp a op b pos) σ H Q := e_of (pe_op opb pe pe) q
theorem e_cmp {op : CmpOp} (q : wE X a σ H fun x H1 => wE X b σ H1 fun y H2 => wK X op x y H2 Q) (hm : behindInMarks op b = false := by first | exact nomark _ | rfl) : wE X (.Compare a [op] [b] pos) σ H Q := e_of (pe_cmpR opk pe pe hm) q
theorem t_cmp {op : CmpOp} (q : wE X a σ H fun x H1 => wE X b σ H1 fun y H2 => wK X op x y H2 fun z H3 => ∃ k, z = .bl k ∧ QT k H3) (hm : behindInMarks op b = false := by first | exact nomark _ | rfl) : wT X (.Compare a [op] [b] pos) σ H QT := t_of (pt_cmpR opk pe pe hm) q
theorem t_val (q : wE X e σ H fun z H3 => ∃ k, z = .bl k ∧ QT k H3) (he : ∀ whole, isTrue e X.env whole = (do let v ← whole; standAt e.pos; holding [v] (truthy v)) := by intro _; rfl) : wT X e σ H QT := t_of (pt_val pe he) q
theorem t_not (q : wT X a σ H fun k H1 => QT (!k) H1) : wT X (.UnaryOp .Not a pos) σ H QT := t_of (pt_not pt) q
theorem t_w (q : wW X e σ H QT) : wT X e σ H QT := t_of pw.pt q
theorem w_and1 (q : wT X a σ H QT) : wW X (.BoolOp .And [a] pos) σ H QT := w_of (pw_and1 pt) q
theorem w_or1 (q : wT X a σ H QT) : wW X (.BoolOp .Or [a] pos) σ H QT := w_of (pw_or1 pt) q
theorem w_and (q : wT X a σ H fun k H1 => if k = true then wW X (.BoolOp .And (b :: rest) pos) σ H1 QT else QT false H1) : wW X (.BoolOp .And (a :: b :: rest) pos) σ H QT := w_of (pw_and pt pw) q
theorem w_or (q : wT X a σ H fun k H1 => if k = true then QT true H1 else wW X (.BoolOp .Or (b :: rest) pos) σ H1 QT) : wW X (.BoolOp .Or (a :: b :: rest) pos) σ H QT := w_of (pw_or pt pw) q
theorem e_one {op} (q : wE X a σ H Q) : wE X (.BoolOp op [a] pos) σ H Q := e_of (pe_one pe) q
theorem e_and (q : wE X a σ H fun x H1 => ∃ k, x = .bl k ∧ if k = true then wE X (.BoolOp .And (b :: rest) pos) σ H1 Q else Q (.bl false) H1) : wE X (.BoolOp .And (a :: b :: rest) pos) σ H Q := e_of (pe_and pe pe) q
theorem e_or (q : wE X a σ H fun x H1 => ∃ k, x = .bl k ∧ if k = true then Q (.bl true) H1 else wE X (.BoolOp .Or (b :: rest) pos) σ H1 Q) : wE X (.BoolOp .Or (a :: b :: rest) pos) σ H Q := e_of (pe_or pe pe) q
theorem e_not (q : wE X a σ H fun x H1 => ∃ k, x = .bl k ∧ Q (.bl (!k)) H1) : wE X (.UnaryOp .Not a pos) σ H Q := e_of (pe_not pe) q
theorem e_ifExp (q : wT X c σ H fun k H1 => if k = true then wE X a σ H1 Q else wE X b σ H1 Q) : wE X (.IfExp c a b pos) σ H Q := e_of (pe_ifExp pt pe pe) q
theorem e_ix (q : wE X a σ H fun x H1 => wE X b σ H1 fun y H2 => wIx X x y H2 Q) (hs : PlainIx b := by intro _ _; rfl) : wE X (.Subscript a b pos) σ H Q := e_of (pe_ix ixr pe pe hs) q
theorem e_fld {f : Str} (q : wE X e σ H fun x H1 => ∃ a C dx fs v, x = .ref a ∧ H1 a = some (.ins C dx fs) ∧ Cls X.K C ∧ NoAttr X.K C f ∧ fs.lookup f = some v ∧ Q v H1) (hb : attributeBase e f X.env (eval e X.env) = eval e X.env := by rfl) : wE X (.Attribute e f pos) σ H Q := e_of (pe_fld pe hb) q
theorem a_nil {QA : List V → Hp → Prop} (q : QA [] H) : wA X [] σ H QA := a_of pa_nil q
theorem a_cons {QA : List V → Hp → Prop} (q : wE X e σ H fun x H1 => wA X es σ H1 fun xs H2 => QA (x :: xs) H2) (hs : starEach (e :: es) X.env = (false, eval e X.env) :: starEach es X.env := by rfl) : wA X (e :: es) σ H QA := a_of (pa_cons pe pa hs) q
theorem e_tup {k} (q : wA X es σ H fun xs H1 => xs.length ≤ sizeLine ∧ ∀ p H2, Same H1 H2 → H1 p = none → H2 p = some (.tup xs) → Q (.ref p) H2) : wE X (.Tuple es k pos) σ H Q :=
  e_of (pe_tup pa) (a_mono q fun xs H1 z => ⟨z.1, fun p np => z.2 p _ (fun b o eo => by rw [upd_ne (ne_of_none eo np)]; exact eo) np upd_same⟩)
theorem e_lst (q : wA X es σ H fun xs H1 => xs.length ≤ sizeLine ∧ ∀ p H2, Same H1 H2 → H1 p = none → H2 p = some (.lst xs) → Q (.ref p) H2) : wE X (.List es pos) σ H Q :=
  e_of (pe_lst pa) (a_mono q fun xs H1 z => ⟨z.1, fun p np => z.2 p _ (fun b o eo => by rw [upd_ne (ne_of_none eo np)]; exact eo) np upd_same⟩)
/-! ### calls -/
/-- a def of the module that no exception leaves -/
structure Fn (P : Program) (w : World) (K : PySem.W.Frag) (mg : Str → Option Value) (base : Heap) (k : Nat) (x : Str) (sp : Sp) : Prop where
  ex : ∃ (f : Addr) (fd : FuncData) (ps : List Str), FnOk P w K mg base CX0 k f fd ps sp ∧ mg x = some (.ref f) ∧ PySem.W.keepIn K (.ref f) = true ∧ Binds K fd ps []
theorem e_call {g : Nat} {k n : Nat} {x : Str} {sp : Sp} (F : Fn X.prog X.w X.K X.mg X.base k x sp) (hr : Room n X.A) (hk : k ≤ n) (q : wA X (e :: es) σ H fun vs H1 => sp vs H1 Q E0) (I : In X N G sc := by assumption) (hG : At G g x := by repeat (first | with_reducible apply At.z | with_reducible apply At.s))
    (he : starEach (e :: es) X.env = (false, eval e X.env) :: starEach es X.env := by rfl) (hpl : (backTo pos (starEach es X.env)).any (·.1) = false := by rfl) : wE X (.Call (.Name x p0) (e :: es) [] pos) σ H Q := by
  obtain ⟨f, fd, ps, F0, hm, hkp, hb⟩ := F.ex
  refine e_of (pe_call F0 (hr.mono hk) (I.g hG) hm hkp hb .nil pass0 pa (I.gd hG) he hpl) ?_
  show wA X (e :: es) σ H fun vs H1 => sp (vs ++ []) H1 Q E0
  simp only [List.append_nil]
  exact q
theorem e_call0 {g : Nat} {k n : Nat} {x : Str} {sp : Sp} (F : Fn X.prog X.w X.K X.mg X.base k x sp) (hr : Room n X.A) (hk : k ≤ n) (q : sp [] H Q E0) (I : In X N G sc := by assumption) (hG : At G g x := by repeat (first | with_reducible apply At.z | with_reducible apply At.s)) : wE X (.Call (.Name x p0) [] [] pos) σ H Q := by
  obtain ⟨f, fd, ps, F0, hm, hkp, hb⟩ := F.ex
  exact e_of (pe_call0 F0 (hr.mono hk) (I.g hG) hm hkp hb .nil pass0 (I.gd hG)) q
theorem e_callB {g : Nat} {x : Str} {id : String} (hm : X.mg x = none) (hv : bootBuiltins x = some (.builtin id)) (q : wA X (e :: es) σ H fun vs H1 => wC X (.builtin id) vs H1 Q) (I : In X N G sc := by assumption) (hG : At G g x := by repeat (first | with_reducible apply At.z | with_reducible apply At.s))
    (he : starEach (e :: es) X.env = (false, eval e X.env) :: starEach es X.env := by rfl) (hpl : (backTo pos (starEach es X.env)).any (·.1) = false := by rfl) : wE X (.Call (.Name x p0) (e :: es) [] pos) σ H Q := e_of (pe_callB cr (I.g hG) hm hv pa (I.gn hG) (I.gd hG) he hpl) q
theorem e_callTy {g : Nat} {x : Str} {T : String} (hm : X.mg x = none) (hv : bootBuiltins x = some (.type T)) (q : wA X (e :: es) σ H fun vs H1 => wC X (.type T) vs H1 Q) (I : In X N G sc := by assumption) (hG : At G g x := by repeat (first | with_reducible apply At.z | with_reducible apply At.s))
    (he : starEach (e :: es) X.env = (false, eval e X.env) :: starEach es X.env := by rfl) (hpl : (backTo pos (starEach es X.env)).any (·.1) = false := by rfl) : wE X (.Call (.Name x p0) (e :: es) [] pos) σ H Q := e_of (pe_callTy cr (I.g hG) hm hv pa (I.gn hG) (I.gd hG) he hpl) q
theorem e_glob {g : Nat} {x : Str} {v : V} {u : Value} (hm : X.mg x = some u) (r : RelV v u) (q : Q v H) (I : In X N G sc := by assumption) (hG : At G g x := by repeat (first | with_reducible apply At.z | with_reducible apply At.s)) : wE X (.Name x pos) σ H Q := e_of (pe_glob (I.g hG) hm r (I.gd hG)) q
theorem e_bltn {g : Nat} {x : Str} {v : V} {u : Value} (hm : X.mg x = none) (hv : bootBuiltins x = some u) (r : RelV v u) (q : Q v H) (I : In X N G sc := by assumption) (hG : At G g x := by repeat (first | with_reducible apply At.z | with_reducible apply At.s)) : wE X (.Name x pos) σ H Q := e_of (pe_bltn (I.g hG) hm hv r (I.gn hG) (I.gd hG)) q
/-- a method of a class that no exception leaves -/
structure Mt (P : Program) (w : World) (K : PySem.W.Frag) (mg : Str → Option Value) (base : Heap) (k : Nat) (C : Addr) (m : Str) (sp : Sp) : Prop where
  ex : ∃ (f : Addr) (fd : FuncData) (ps : List Str), FnOk P w K mg base CX0 k f fd ps sp ∧ Meth K C m f ∧ Binds K fd ps [] ∧ Cls K C
theorem e_meth {k n : Nat} {o : Expr} {m : Str} {C : Addr} {apos : Pos} {pl : Sem Bool} {sp : Sp} (F : Mt X.prog X.w X.K X.mg X.base k C m sp) (hr : Room n X.A) (hk : k ≤ n)
    (q : wE X o σ H fun x H1 => ∃ a dx fs, x = .ref a ∧ H1 a = some (.ins C dx fs) ∧ fs.lookup m = none ∧ wA X (e :: es) σ H1 fun vs H2 => sp (x :: vs) H2 Q E0)
    (hst : starEach (e :: es) X.env = (false, eval e X.env) :: starEach es X.env := by rfl) (hpl : (backTo pos (starEach es X.env)).any (·.1) = false := by rfl)
    (ht : eval (.Call (.Attribute o m apos) (e :: es) [] pos) X.env = (do let ov ← eval o X.env; standAt apos.atName; let (f, first) ← holding [ov] (getMethod ov m pl); callWith pos f first (backTo pos (starEach (e :: es) X.env)) (backToKw pos (keywordEach [] X.env))) := by rfl) :
    wE X (.Call (.Attribute o m apos) (e :: es) [] pos) σ H Q := by
  obtain ⟨f, fd, ps, F0, M, hb, c⟩ := F.ex
  refine e_of (pe_meth (pl := pl) pe c M F0 (hr.mono hk) hb .nil pass0 pa hst hpl ht) ?_
  show wE X o σ H fun x H1 => ∃ a dx fs, x = .ref a ∧ H1 a = some (.ins C dx fs) ∧ fs.lookup m = none ∧ wA X (e :: es) σ H1 fun vs H2 => sp (x :: (vs ++ [])) H2 Q E0
  simp only [List.append_nil]
  exact q
theorem e_meth0 {k n : Nat} {o : Expr} {m : Str} {C : Addr} {apos : Pos} {pl : Sem Bool} {sp : Sp} (F : Mt X.prog X.w X.K X.mg X.base k C m sp) (hr : Room n X.A) (hk : k ≤ n)
    (q : wE X o σ H fun x H1 => ∃ a dx fs, x = .ref a ∧ H1 a = some (.ins C dx fs) ∧ fs.lookup m = none ∧ sp [x] H1 Q E0)
    (ht : eval (.Call (.Attribute o m apos) [] [] pos) X.env = (do let ov ← eval o X.env; standAt apos.atName; let (f, first) ← holding [ov] (getMethod ov m pl); callWith pos f first (backTo pos (starEach [] X.env)) (backToKw pos (keywordEach [] X.env))) := by rfl) :
    wE X (.Call (.Attribute o m apos) [] [] pos) σ H Q := by
  obtain ⟨f, fd, ps, F0, M, hb, c⟩ := F.ex
  exact e_of (pe_meth0 (pl := pl) pe c M F0 (hr.mono hk) hb .nil pass0 ht) q
/-- an own class whose __init__ no exception leaves -/
structure Kl (P : Program) (w : World) (K : PySem.W.Frag) (mg : Str → Option Value) (base : Heap) (k : Nat) (x : Str) (C : Addr) (sp : Sp) : Prop where
  ex : ∃ (f : Addr) (fd : FuncData) (ps : List Str), FnOk P w K mg base CX0 k f fd ps sp ∧ mg x = some (.ref C) ∧ Mk K C f ∧ Binds K fd ps []
theorem e_make {g : Nat} {k n : Nat} {x : Str} {C : Addr} {sp : Sp} (F : Kl X.prog X.w X.K X.mg X.base k x C sp) (hr : Room n X.A) (hk : k + 1 ≤ n)
    (q : wA X (e :: es) σ H fun vs H1 => ∀ x dx, H1 x = none → H1 dx = none → dx ≠ x → sp (.ref x :: vs) (upd (upd H1 dx (.own x)) x (.ins C dx [])) (fun v H2 => v = .non ∧ Q (.ref x) H2) E0)
    (I : In X N G sc := by assumption) (hG : At G g x := by repeat (first | with_reducible apply At.z | with_reducible apply At.s)) (he : starEach (e :: es) X.env = (false, eval e X.env) :: starEach es X.env := by rfl) (hpl : (backTo pos (starEach es X.env)).any (·.1) = false := by rfl) : wE X (.Call (.Name x p0) (e :: es) [] pos) σ H Q := by
  obtain ⟨f, fd, ps, F0, hm, M, hb⟩ := F.ex
  refine e_of (pe_make M F0 (hr.mono hk) (I.g hG) hm hb .nil pass0 pa (I.gd hG) he hpl) ?_
  show wA X (e :: es) σ H fun vs H1 => ∀ x dx, H1 x = none → H1 dx = none → dx ≠ x → sp (.ref x :: (vs ++ [])) (upd (upd H1 dx (.own x)) x (.ins C dx [])) (fun v H2 => v = .non ∧ Q (.ref x) H2) E0
  simp only [List.append_nil]
  exact q
end
/-! ### values -/
section
variable {X : Cx} {H : Hp} {Q : VK} {i j : Int} {σ : L2.St} {D : Ends}
theorem o_add (q : Q (.int (i + j)) H) : wB X .Add (.int i) (.int j) H Q := b_of op_add ⟨i, j, rfl, rfl, q⟩
theorem o_sub (q : Q (.int (i - j)) H) : wB X .Sub (.int i) (.int j) H Q := b_of op_sub ⟨i, j, rfl, rfl, q⟩
theorem o_mul (c : CMul i j) (q : Q (.int (i * j)) H) : wB X .Mult (.int i) (.int j) H Q := b_of op_mul ⟨i, j, rfl, rfl, c, q⟩
theorem o_mod (c : 0 < j) (q : Q (.int (i % j)) H) : wB X .Mod (.int i) (.int j) H Q := b_of op_mod ⟨i, j, rfl, rfl, c, q⟩
theorem o_fdiv (c : 0 < j ∧ j < 1073741824) (q : Q (.int (i / j)) H) : wB X .FloorDiv (.int i) (.int j) H Q := b_of op_fdiv ⟨i, j, rfl, rfl, c, q⟩
theorem o_pow (c : CPow i j) (q : Q (.int (i ^ j.toNat)) H) : wB X .Pow (.int i) (.int j) H Q := b_of op_pow ⟨i, j, rfl, rfl, c, q⟩
theorem o_lt (q : Q (.bl (decide (i < j))) H) : wK X .Lt (.int i) (.int j) H Q := k_of op_lt ⟨i, j, rfl, rfl, q⟩
theorem o_le (q : Q (.bl (decide (i ≤ j))) H) : wK X .LtE (.int i) (.int j) H Q := k_of op_le ⟨i, j, rfl, rfl, q⟩
theorem o_gt (q : Q (.bl (decide (j < i))) H) : wK X .Gt (.int i) (.int j) H Q := k_of op_gt ⟨i, j, rfl, rfl, q⟩
theorem o_ge (q : Q (.bl (decide (j ≤ i))) H) : wK X .GtE (.int i) (.int j) H Q := k_of op_ge ⟨i, j, rfl, rfl, q⟩
theorem dint {i j : Int} : decide (V.int i = V.int j) = decide (i = j) := by simp
theorem dbl {i j : Bool} : decide (V.bl i = V.bl j) = decide (i = j) := by simp
theorem dstr {i j : Str} : decide (V.str i = V.str j) = decide (i = j) := by simp
theorem o_eqI (q : Q (.bl (decide (i = j))) H) : wK X .Eq (.int i) (.int j) H Q := k_of op_eq ⟨rfl, dint ▸ q⟩
theorem o_neI (q : Q (.bl (!decide (i = j))) H) : wK X .NotEq (.int i) (.int j) H Q := k_of op_ne ⟨rfl, dint ▸ q⟩
theorem o_eqB {i j : Bool} (q : Q (.bl (decide (i = j))) H) : wK X .Eq (.bl i) (.bl j) H Q := k_of op_eq ⟨rfl, dbl ▸ q⟩
theorem o_neB {i j : Bool} (q : Q (.bl (!decide (i = j))) H) : wK X .NotEq (.bl i) (.bl j) H Q := k_of op_ne ⟨rfl, dbl ▸ q⟩
theorem o_eqS {i j : Str} (q : Q (.bl (decide (i = j))) H) : wK X .Eq (.str i) (.str j) H Q := k_of op_eq ⟨rfl, dstr ▸ q⟩
theorem o_neS {i j : Str} (q : Q (.bl (!decide (i = j))) H) : wK X .NotEq (.str i) (.str j) H Q := k_of op_ne ⟨rfl, dstr ▸ q⟩
/-- a pair of ints beside a text -/
theorem o_eqPS {n : Nat} {a : Addr} {u v : Int} {z : Str} (hr : Room n X.A) (h : H a = some (.tup [.int u, .int v])) (hz : SeqAt.shaped (.str z) = true) (q : Q (.bl false) H) : wK X .Eq (.ref a) (.str z) H Q :=
  k_of (op_eqD hr.units) ⟨.tuple [.int u, .int v], .str z, .tup (SqT.of h) (.cons (.int u) (.cons (.int v) .nil)), .str z, rfl, hz, q⟩
theorem ix_l {a : Addr} {xs : List V} {v : V} (h : SqL X.K H a xs) (e : atI xs i = some v) (q : Q v H) : wIx X (.ref a) (.int i) H Q := ix_of ix_list ⟨a, xs, i, v, rfl, rfl, h, e, q⟩
theorem ix_t {a : Addr} {xs : List V} {v : V} (h : SqT X.K H a xs) (e : atI xs i = some v) (q : Q v H) : wIx X (.ref a) (.int i) H Q := ix_of ix_tup ⟨a, xs, i, v, rfl, rfl, h, e, q⟩
theorem set_l {a : Addr} {xs : List V} {v : V} {k : Nat} {QH : Hp → Prop} (h : H a = some (.lst xs)) (e : ixN xs.length i = some k) (q : QH (upd H a (.lst (xs.set k v)))) : wSet X (.ref a) (.int i) v H QH := set_of set_list ⟨a, xs, i, k, rfl, rfl, h, e, q⟩
theorem c_int (q : Q (.int i) H) : wC X (.type "int") [.int i] H Q := c_of call_int1 (.inl ⟨i, rfl, q⟩)
theorem c_abs (q : Q (.int (if i < 0 then -i else i)) H) : wC X (.builtin "abs") [.int i] H Q := c_of call_abs ⟨i, rfl, q⟩
theorem c_max (hc : X.calm = true) (q : Q (.int (if j > i then j else i)) H) : wC X (.builtin "max") [.int i, .int j] H Q := c_of (call_max2 hc) ⟨i, j, rfl, q⟩
theorem c_min (hc : X.calm = true) (q : Q (.int (if j < i then j else i)) H) : wC X (.builtin "min") [.int i, .int j] H Q := c_of (call_min2 hc) ⟨i, j, rfl, q⟩
theorem c_lenL {a : Addr} {xs : List V} (h : SqL X.K H a xs) (q : Q (.int xs.length) H) : wC X (.builtin "len") [.ref a] H Q := c_of call_len_seq ⟨a, xs, rfl, .inl h, q⟩
theorem c_lenT {a : Addr} {xs : List V} (h : SqT X.K H a xs) (q : Q (.int xs.length) H) : wC X (.builtin "len") [.ref a] H Q := c_of call_len_seq ⟨a, xs, rfl, .inr h, q⟩
theorem c_isi {x c : V} {t u : Value} {b : Bool} (ty : TyX X.K H x t) (k : ClsV c u) (e : PySem.W.kitOne X.K t u = some b) (q : Q (.bl b) H) : wC X (.builtin "isinstance") [x, c] H Q := c_of call_isi ⟨x, c, t, u, b, rfl, k, ty, e, q⟩
theorem c_isiT {x : V} {tp : Addr} {cs : List V} {t : Value} {us : List Value} {b : Bool} (ty : TyX X.K H x t) (h : H tp = some (.tup cs)) (k : Paired ClsV cs us) (e : PySem.W.kitAny X.K t us = some b) (q : Q (.bl b) H) : wC X (.builtin "isinstance") [x, .ref tp] H Q :=
  c_of call_isiT ⟨x, tp, cs, t, us, b, rfl, h, k, ty, e, q⟩
theorem ty_non : TyX X.K H .non (.type "NoneType") := .base .non
theorem ty_bl {b : Bool} : TyX X.K H (.bl b) (.type "bool") := .base (.bl b)
theorem ty_int : TyX X.K H (.int i) (.type "int") := .base (.int i)
theorem ty_str {z : Str} : TyX X.K H (.str z) (.type "str") := .base (.str z)
theorem ty_tup {a : Addr} {xs : List V} (h : H a = some (.tup xs)) : TyX X.K H (.ref a) (.type "tuple") := .base (.tup h)
theorem ty_lst {a : Addr} {xs : List V} (h : H a = some (.lst xs)) : TyX X.K H (.ref a) (.type "list") := .base (.lst h)
theorem two_ty {a b : String} : Paired ClsV [.ty a, .ty b] [.type a, .type b] := .cons (.ty a) (.cons (.ty b) .nil)
theorem kit2 {K : PySem.W.Frag} {t a b : String} {x y : Bool} (h1 : kitB t a = some x) (h2 : kitB t b = some y) : PySem.W.kitAny K (.type t) [.type a, .type b] = some (x || y) := by
  cases x with
  | true => exact kitAny_cons (kit_ty h1) (fun z => nomatch z) fun _ => rfl
  | false =>
    refine kitAny_cons (kit_ty h1) (fun _ => ?_) (fun z => nomatch z)
    cases y with
    | true => exact kitAny_cons (kit_ty h2) (fun z => nomatch z) fun _ => rfl
    | false => exact kitAny_cons (kit_ty h2) (fun _ => rfl) (fun z => nomatch z)
theorem kb_int_tuple : kitB "int" "tuple" = some false := by decide +kernel
theorem kb_int_list : kitB "int" "list" = some false := by decide +kernel
theorem kb_int_int : kitB "int" "int" = some true := by decide +kernel
theorem kb_int_bool : kitB "int" "bool" = some false := by decide +kernel
theorem kb_int_str : kitB "int" "str" = some false := by decide +kernel
theorem kb_tuple_tuple : kitB "tuple" "tuple" = some true := by decide +kernel
theorem kb_tuple_list : kitB "tuple" "list" = some false := by decide +kernel
theorem kb_tuple_str : kitB "tuple" "str" = some false := by decide +kernel
theorem kb_tuple_int : kitB "tuple" "int" = some false := by decide +kernel
theorem kb_tuple_bool : kitB "tuple" "bool" = some false := by decide +kernel
theorem kb_list_tuple : kitB "list" "tuple" = some false := by decide +kernel
theorem kb_list_list : kitB "list" "list" = some true := by decide +kernel
theorem kb_list_str : kitB "list" "str" = some false := by decide +kernel
theorem kb_list_int : kitB "list" "int" = some false := by decide +kernel
theorem kb_list_bool : kitB "list" "bool" = some false := by decide +kernel
theorem kb_bool_bool : kitB "bool" "bool" = some true := by decide +kernel
theorem kb_bool_int : kitB "bool" "int" = some true := by decide +kernel
theorem kb_bool_str : kitB "bool" "str" = some false := by decide +kernel
theorem kb_bool_tuple : kitB "bool" "tuple" = some false := by decide +kernel
theorem kb_bool_list : kitB "bool" "list" = some false := by decide +kernel
theorem kb_str_str : kitB "str" "str" = some true := by decide +kernel
theorem kb_str_bool : kitB "str" "bool" = some false := by decide +kernel
theorem kb_str_int : kitB "str" "int" = some false := by decide +kernel
theorem kb_str_tuple : kitB "str" "tuple" = some false := by decide +kernel
theorem kb_str_list : kitB "str" "list" = some false := by decide +kernel
theorem kb_non_bool : kitB "NoneType" "bool" = some false := by decide +kernel
theorem kb_non_int : kitB "NoneType" "int" = some false := by decide +kernel
theorem kb_non_str : kitB "NoneType" "str" = some false := by decide +kernel
theorem kb_non_tuple : kitB "NoneType" "tuple" = some false := by decide +kernel
theorem kb_non_list : kitB "NoneType" "list" = some false := by decide +kernel
theorem b_int : bootBuiltins "int" = some (.type "int") := by decide +kernel
theorem b_bool : bootBuiltins "bool" = some (.type "bool") := by decide +kernel
theorem b_str : bootBuiltins "str" = some (.type "str") := by decide +kernel
theorem b_tuple : bootBuiltins "tuple" = some (.type "tuple") := by decide +kernel
theorem b_list : bootBuiltins "list" = some (.type "list") := by decide +kernel
theorem b_isi : bootBuiltins "isinstance" = some (.builtin "isinstance") := by decide +kernel
theorem b_len : bootBuiltins "len" = some (.builtin "len") := by decide +kernel
theorem b_abs : bootBuiltins "abs" = some (.builtin "abs") := by decide +kernel
theorem b_max : bootBuiltins "max" = some (.builtin "max") := by decide +kernel
theorem b_min : bootBuiltins "min" = some (.builtin "min") := by decide +kernel
/-! ### loops -/
theorem s_forR {nx : L2.St → Hp → Prop} {rt : VK} {bk ct : L2.St → Hp → Prop} {g : Nat} {N G : List Str} {sc : Scope} {x : Str} {i : Nat} {a : Expr} {body : List Stmt} {px p cp pos : Pos} (hm : X.mg "range" = none)
    (q : wE X a σ H fun v H1 => ∃ n : Nat, v = .int n ∧ n < 2 ^ 62 ∧ ∃ Pv : Nat → L2.St → Hp → Prop, Pv 0 σ H1 ∧ (∀ k σ H, k < n → Pv k σ H → wL X body ⟨Pv (k + 1), rt, nx, Pv (k + 1)⟩ (σ.set i (some (.int (k : Int)))) H) ∧ ∀ σ H, Pv n σ H → nx σ H)
    (I : In X N G sc := by assumption) (hc : X.calm = true := by rfl) (hA : At N i x := by repeat (first | with_reducible apply At.z | with_reducible apply At.s))
    (hG : At G g ("range" : Str) := by repeat (first | with_reducible apply At.z | with_reducible apply At.s)) (hs : starEach [a] X.env = [(false, eval a X.env)] := by rfl) (hs2 : ∀ z, foldedSetIterable (.Call (.Name "range" p) [a] [] cp) X.env z = pure z := by intro _; rfl)
    (hs1 : starEach (a :: []) X.env = (false, eval a X.env) :: starEach [] X.env := by rfl) :
    wS X (.For (.Name x px) (.Call (.Name "range" p) [a] [] cp) body [] pos) ⟨nx, rt, bk, ct⟩ σ H := by
  refine s_of (ps_for I.never hc (pi_range1 (I.g hG) hm (pa_cons pe pa_nil hs1) hs) (pg_name I.nd (I.hi hA) (I.loc hA) I.f) pl hs2) (e_mono q fun v H1 q1 => ?_)
  obtain ⟨n, rfl, hn, Pv, h0, hb, hd⟩ := q1
  refine ⟨(n : Int), rfl, by omega, by omega, ?_⟩
  rw [Int.toNat_natCast]
  refine for_range (n := n) Pv h0 (fun k σ H hk p => ?_) hd
  rw [Int.zero_add]
  exact hb k σ H hk p
theorem s_forL {nx : L2.St → Hp → Prop} {rt : VK} {bk ct : L2.St → Hp → Prop} {N G : List Str} {sc : Scope} {x : Str} {i : Nat} {a : Expr} {body : List Stmt} {px pos : Pos}
    (q : wE X a σ H fun v H1 => ∃ ad xs, v = .ref ad ∧ SqL X.K H1 ad xs ∧ ∃ Pv : Nat → L2.St → Hp → Prop, Pv 0 σ H1 ∧ (∀ k σ H, k ≤ xs.length → Pv k σ H → SqL X.K H ad xs) ∧ (∀ k y σ H, xs[k]? = some y → Pv k σ H → wL X body ⟨Pv (k + 1), rt, nx, Pv (k + 1)⟩ (σ.set i (some y)) H) ∧ ∀ σ H, Pv xs.length σ H → nx σ H)
    (I : In X N G sc := by assumption) (hc : X.calm = true := by rfl) (hA : At N i x := by repeat (first | with_reducible apply At.z | with_reducible apply At.s))
    (hs2 : ∀ z, foldedSetIterable a X.env z = pure z := by intro _; rfl) :
    wS X (.For (.Name x px) a body [] pos) ⟨nx, rt, bk, ct⟩ σ H := by
  refine s_of (ps_for I.never hc (pi_list pe) (pg_name I.nd (I.hi hA) (I.loc hA) I.f) pl hs2) (e_mono q fun v H1 q1 => ?_)
  obtain ⟨ad, xs, rfl, hl, Pv, h0, hk, hb, hd⟩ := q1
  exact ⟨ad, rfl, ⟨xs, hl⟩, for_list Pv h0 hk hb hd⟩
theorem s_forT {nx : L2.St → Hp → Prop} {rt : VK} {bk ct : L2.St → Hp → Prop} {N G : List Str} {sc : Scope} {x : Str} {i : Nat} {a : Expr} {body : List Stmt} {px pos : Pos}
    (q : wE X a σ H fun v H1 => ∃ ad xs, v = .ref ad ∧ SqT X.K H1 ad xs ∧ ∃ Pv : Nat → L2.St → Hp → Prop, Pv 0 σ H1 ∧ (∀ k σ H, k ≤ xs.length → Pv k σ H → SqT X.K H ad xs) ∧ (∀ k y σ H, xs[k]? = some y → Pv k σ H → wL X body ⟨Pv (k + 1), rt, nx, Pv (k + 1)⟩ (σ.set i (some y)) H) ∧ ∀ σ H, Pv xs.length σ H → nx σ H)
    (I : In X N G sc := by assumption) (hc : X.calm = true := by rfl) (hA : At N i x := by repeat (first | with_reducible apply At.z | with_reducible apply At.s))
    (hs2 : ∀ z, foldedSetIterable a X.env z = pure z := by intro _; rfl) :
    wS X (.For (.Name x px) a body [] pos) ⟨nx, rt, bk, ct⟩ σ H := by
  refine s_of (ps_for I.never hc (pi_tup pe) (pg_name I.nd (I.hi hA) (I.loc hA) I.f) pl hs2) (e_mono q fun v H1 q1 => ?_)
  obtain ⟨ad, xs, rfl, hl, Pv, h0, hk, hb, hd⟩ := q1
  exact ⟨ad, rfl, ⟨xs, hl⟩, for_tup Pv h0 hk hb hd⟩
/-! ### an own operator of an own class -/
theorem op_own {op : Operator} {k n : Nat} {C f : Addr} {fd : FuncData} {pn : List Str} {sp : Sp} (F : FnOk X.prog X.w X.K X.mg X.base CX0 k f fd pn sp) (hs : PySem.W.findIn X.K (.ref C) (PySem.dunder op.info.2) = some (some (.ref f))) (hf : PySem.W.isFn X.K (.ref f) = true)
    (hc : PySem.W.selfFirst X.K C = true) (hb : Binds X.K fd pn []) (hr : Room n X.A) (hk : k ≤ n) :
    OpR X (binaryOp op) (fun x y H Q => ∃ a b dx dy fs gs, x = .ref a ∧ y = .ref b ∧ H a = some (.ins C dx fs) ∧ H b = some (.ins C dy gs) ∧ sp [x, y] H (fun v H' => (∃ p, v = .ref p) ∧ Q v H') E0) := by
  intro pins s σ H x y u v Q I rx ry h
  obtain ⟨a, b, dx, dy, fs, gs, rfl, rfl, ha, hb', hsp⟩ := h
  cases rx
  cases ry
  obtain ⟨mA, J, _⟩ := ins_get I.hok ha
  obtain ⟨mB, J', _⟩ := ins_get I.hok hb'
  obtain ⟨od, J, _⟩ := J.look
  obtain ⟨od', J', _⟩ := J'.look
  obtain ⟨m, hF⟩ := I.fr
  refine PySem.W.binop_K hF I.ok.mod.kin J J'.type hc hs hf ?_
  refine wpAny_mono (run_fn (E := E0) F (hr.mono hk) hb .nil pass0 I (show Vals [V.ref a, V.ref b] [Value.ref a, Value.ref b] from .cons rfl (.cons rfl .nil)) (by rw [List.append_nil]; exact hsp)) (fun w s' z => ?_) fun _ _ z => z
  obtain ⟨v', H', I', rz, ⟨p, rfl⟩, q⟩ := z
  cases rz
  exact ⟨.ref p, H', I', rfl, q⟩
structure Op2 (P : Program) (w : World) (K : PySem.W.Frag) (mg : Str → Option Value) (base : Heap) (k : Nat) (C : Addr) (op : Operator) (sp : Sp) : Prop where
  ex : ∃ (f : Addr) (fd : FuncData) (pn : List Str), FnOk P w K mg base CX0 k f fd pn sp ∧ PySem.W.findIn K (.ref C) (PySem.dunder op.info.2) = some (some (.ref f)) ∧ PySem.W.isFn K (.ref f) = true ∧ PySem.W.selfFirst K C = true ∧ Binds K fd pn []
theorem o_own {op : Operator} {k n : Nat} {C a b dx dy : Addr} {fs gs : List (Str × V)} {sp : Sp} (F : Op2 X.prog X.w X.K X.mg X.base k C op sp) (hr : Room n X.A) (hk : k ≤ n) (ha : H a = some (.ins C dx fs)) (hb : H b = some (.ins C dy gs))
    (q : sp [.ref a, .ref b] H (fun v H' => (∃ p, v = .ref p) ∧ Q v H') E0) : wB X op (.ref a) (.ref b) H Q := by
  obtain ⟨f, fd, pn, G, hs, hf, hc, hb'⟩ := F.ex
  exact b_of (op_own G hs hf hc hb' hr hk) ⟨a, b, dx, dy, fs, gs, rfl, rfl, ha, hb, q⟩
end
/-! ### heaps -/
/-- all but a stays -/
def But (a : Addr) (H H' : Hp) : Prop := ∀ b o, b ≠ a → H b = some o → H' b = some o
theorem But.refl {a : Addr} {H : Hp} : But a H H := fun _ _ _ h => h
theorem But.trans {a : Addr} {H H1 H2 : Hp} (x : But a H H1) (y : But a H1 H2) : But a H H2 := fun b o n h => y b o n (x b o n h)
theorem But.of {a : Addr} {H H1 : Hp} (x : Same H H1) : But a H H1 := fun b o _ h => x b o h
theorem But.upd {a : Addr} {H H1 : Hp} {o : HO} (x : But a H H1) : But a H (L2.upd H1 a o) := fun b u n h => by
  rw [upd_ne n]
  exact x b u n h
theorem But.tup {a p : Addr} {H H1 : Hp} {l xs : List V} (x : But a H H1) (ha : H a = some (.lst l)) (hp : H p = some (.tup xs)) : H1 p = some (.tup xs) := x p _ (ne_of hp ha (by intro z; cases z)) hp
theorem But.ins {a p C dx : Addr} {H H1 : Hp} {l : List V} {fs : List (Str × V)} (x : But a H H1) (ha : H a = some (.lst l)) (hp : H p = some (.ins C dx fs)) : H1 p = some (.ins C dx fs) := x p _ (ne_of hp ha (by intro z; cases z)) hp
theorem But.frz {a p : Addr} {H H1 : Hp} {l : List V} {o : Obj} {u : HO} (x : But a H H1) (ha : H a = some (.lst l)) (hp : H p = some (.frz o u)) : H1 p = some (.frz o u) := x p _ (ne_of hp ha (by intro z; cases z)) hp
section
variable {P : Program} {w : World} {K : PySem.W.Frag} {mg : Str → Option Value} {base : Heap}
/-- a def of the module where the top has left it -/
structure Top (K : PySem.W.Frag) (mg : Str → Option Value) (x : Str) (st : Stmt) : Prop where
  ex : ∃ (f : Addr) (fd : FuncData), Fun K x x st f fd ∧ mg x = some (.ref f)
theorem top_mk {h : Heap} {x : Str} {st : Stmt} {f : Addr} {oc : Value} {od an : Option Addr} {osl : Array (Option Value)} {kV doc pm cdv ct : Value} (X : K.In h) (G : h.Ns mainGlobals mg) (a : PySem.W.nsIn K mainGlobals x = some (some (.ref f)))
    (l : K.lookup f = some ⟨oc, od, .func (PySem.W.fnOf x x (defArgs st) (defBody st) (defScope st) .none kV doc pm an cdv ct), osl⟩) (c : PySem.W.codeIn K cdv x = true) (k : PySem.W.keepIn K (.ref f) = true) : Top K mg x st :=
  ⟨f, _, fun_mk l c k, PySem.W.mg_of X G a⟩
theorem fn_ok {x : Str} {st : Stmt} {N G ps : List Str} {k : Nat} {sp : Sp} (T : Top K mg x st) (S : FnScope N ps (defScope st)) (O : ScOk N G (defScope st)) (len : ∀ vs H Q E, sp vs H Q E → vs.length = ps.length)
    (hb : ∀ (kV doc pm : Value) (an : Option Addr) (cdv ct : Value) (us : List Value), us.length = ps.length → bindArgs (PySem.W.fnOf x x (defArgs st) (defBody st) (defScope st) .none kV doc pm an cdv ct) ⟨us, []⟩ = pure (ps.zip us))
    (hbody : ∀ (f : Addr) (cdv : Value) (A : Around) (outer : List Env) (s : Shared) (H : Hp) (vs : List V) (Q : VK) (E : XK), Room k (A.deeper (envOfC x (defScope st) s.heap.objs.size f cdv)) → sp vs H Q E → In (cxOf CX0 P w K mg base N x (defScope st) f cdv A outer s H E).nox N G (defScope st) →
      wL (cxOf CX0 P w K mg base N x (defScope st) f cdv A outer s H E).nox (defBody st) { nx := fun _ H' => Q .non H', rt := Q } (start N vs) H) : Fn P w K mg base (k + 1) x sp := by
  obtain ⟨f, fd, F, hm⟩ := T.ex
  exact ⟨f, fd, ps, F.ok S len (fun cdv A outer s H vs Q E hr h => ⟨_, pl, hbody f cdv A outer s H vs Q E hr h ⟨O, ⟨[], (List.append_nil _).symm⟩, S.nd, rfl, rfl, PassesOwn.never⟩⟩), hm, F.kp, F.binds hb⟩
/-- a method where the top has left it -/
structure TopM (K : PySem.W.Frag) (C : Addr) (x qual : Str) (st : Stmt) : Prop where
  ex : ∃ (f : Addr) (fd : FuncData), Fun K x qual st f fd ∧ PySem.W.findIn K (.ref C) x = some (some (.ref f)) ∧ PySem.W.isFn K (.ref f) = true
theorem topM_mk {x qual : Str} {st : Stmt} {C f : Addr} {oc : Value} {od an : Option Addr} {osl : Array (Option Value)} {kV doc pm cdv ct : Value} (a : PySem.W.findIn K (.ref C) x = some (some (.ref f))) (i : PySem.W.isFn K (.ref f) = true)
    (l : K.lookup f = some ⟨oc, od, .func (PySem.W.fnOf x qual (defArgs st) (defBody st) (defScope st) .none kV doc pm an cdv ct), osl⟩) (c : PySem.W.codeIn K cdv qual = true) (k : PySem.W.keepIn K (.ref f) = true) : TopM K C x qual st :=
  ⟨f, _, fun_mk l c k, a, i⟩
theorem me_ok {x qual : Str} {C : Addr} {st : Stmt} {N G ps : List Str} {k : Nat} {sp : Sp} (T : TopM K C x qual st) (S : FnScope N ps (defScope st)) (O : ScOk N G (defScope st)) (len : ∀ vs H Q E, sp vs H Q E → vs.length = ps.length)
    (hb : ∀ (kV doc pm : Value) (an : Option Addr) (cdv ct : Value) (us : List Value), us.length = ps.length → bindArgs (PySem.W.fnOf x qual (defArgs st) (defBody st) (defScope st) .none kV doc pm an cdv ct) ⟨us, []⟩ = pure (ps.zip us))
    (hbody : ∀ (f : Addr) (cdv : Value) (A : Around) (outer : List Env) (s : Shared) (H : Hp) (vs : List V) (Q : VK) (E : XK), Room k (A.deeper (envOfC qual (defScope st) s.heap.objs.size f cdv)) → sp vs H Q E → In (cxOf CX0 P w K mg base N qual (defScope st) f cdv A outer s H E).nox N G (defScope st) →
      wL (cxOf CX0 P w K mg base N qual (defScope st) f cdv A outer s H E).nox (defBody st) { nx := fun _ H' => Q .non H', rt := Q } (start N vs) H) :
    ∃ (f : Addr) (fd : FuncData), FnOk P w K mg base CX0 (k + 1) f fd ps sp ∧ Binds K fd ps [] ∧ PySem.W.findIn K (.ref C) x = some (some (.ref f)) ∧ PySem.W.isFn K (.ref f) = true ∧ PySem.W.keepIn K (.ref f) = true := by
  obtain ⟨f, fd, F, hf, hi⟩ := T.ex
  exact ⟨f, fd, F.ok S len (fun cdv A outer s H vs Q E hr h => ⟨_, pl, hbody f cdv A outer s H vs Q E hr h ⟨O, ⟨[], (List.append_nil _).symm⟩, S.nd, rfl, rfl, PassesOwn.never⟩⟩), F.binds hb, hf, hi, F.kp⟩
end
/-- a bool test that is decided by a fact -/
theorem ifT {c A B : Prop} [Decidable c] (hc : c) (h : A) : if decide c = true then A else B := by
  rw [decide_eq_true hc]
  exact iteT h
theorem ifF {c A B : Prop} [Decidable c] (hc : ¬ c) (h : B) : if decide c = true then A else B := by
  rw [decide_eq_false hc]
  exact iteF h
theorem if2 {c A B : Prop} [Decidable c] (h1 : c → A) (h2 : ¬ c → B) : if decide c = true then A else B := by
  by_cases h : c
  · exact ifT h (h1 h)
  · exact ifF h (h2 h)
theorem ite_t {c : Bool} {A B : Prop} (hc : c = true) (h : A) : if c = true then A else B := by
  rw [hc]
  exact iteT h
theorem ite_f {c : Bool} {A B : Prop} (hc : c = false) (h : B) : if c = true then A else B := by
  rw [hc]
  exact iteF h
section
variable {P : Program} {w : World} {K : PySem.W.Frag} {mg : Str → Option Value} {base : Heap}
theorem run_ok {x qual : Str} {st : Stmt} {N G ps : List Str} {k : Nat} {sp : Sp} {f : Addr} {fd : FuncData} (F : Fun K x qual st f fd) (S : FnScope N ps (defScope st)) (O : ScOk N G (defScope st)) (len : ∀ vs H Q E, sp vs H Q E → vs.length = ps.length)
    (hbody : ∀ (f : Addr) (cdv : Value) (A : Around) (outer : List Env) (s : Shared) (H : Hp) (vs : List V) (Q : VK) (E : XK), Room k (A.deeper (envOfC qual (defScope st) s.heap.objs.size f cdv)) → sp vs H Q E → In (cxOf CX0 P w K mg base N qual (defScope st) f cdv A outer s H E).nox N G (defScope st) →
      wL (cxOf CX0 P w K mg base N qual (defScope st) f cdv A outer s H E).nox (defBody st) { nx := fun _ H' => Q .non H', rt := Q } (start N vs) H) : FnOk P w K mg base CX0 (k + 1) f fd ps sp :=
  F.ok S len (fun cdv A outer s H vs Q E hr h => ⟨_, pl, hbody f cdv A outer s H vs Q E hr h ⟨O, ⟨[], (List.append_nil _).symm⟩, S.nd, rfl, rfl, PassesOwn.never⟩⟩)
end
end Wk

/-! My own layer, comprehensions with their own names, and ground terms: what only makes new objects, over facts that last. -/
namespace Wk
open PySem PySem.Spec PyProof.Rows L2
section
variable {P : Program} {w : World} {K : PySem.W.Frag} {mg : Str → Option Value} {base : Heap}
/-- a def with further slots C for the names of its comprehensions -/
theorem fn_okC {x : Str} {st : Stmt} {N C G ps : List Str} {k : Nat} {sp : Sp} (T : Top K mg x st) (S : FnScope (N ++ C) ps (defScope st)) (O : ScOk N G (defScope st)) (len : ∀ vs H Q E, sp vs H Q E → vs.length = ps.length)
    (hb : ∀ (kV doc pm : Value) (an : Option Addr) (cdv ct : Value) (us : List Value), us.length = ps.length → bindArgs (PySem.W.fnOf x x (defArgs st) (defBody st) (defScope st) .none kV doc pm an cdv ct) ⟨us, []⟩ = pure (ps.zip us))
    (hbody : ∀ (f : Addr) (cdv : Value) (A : Around) (outer : List Env) (s : Shared) (H : Hp) (vs : List V) (Q : VK) (E : XK), Room k (A.deeper (envOfC x (defScope st) s.heap.objs.size f cdv)) → sp vs H Q E → In (cxOf CX0 P w K mg base (N ++ C) x (defScope st) f cdv A outer s H E).nox N G (defScope st) →
      wL (cxOf CX0 P w K mg base (N ++ C) x (defScope st) f cdv A outer s H E).nox (defBody st) { nx := fun _ H' => Q .non H', rt := Q } (start (N ++ C) vs) H) : Fn P w K mg base (k + 1) x sp := by
  obtain ⟨f, fd, F, hm⟩ := T.ex
  exact ⟨f, fd, ps, F.ok S len (fun cdv A outer s H vs Q E hr h => ⟨_, pl, hbody f cdv A outer s H vs Q E hr h ⟨O, ⟨C, rfl⟩, S.nd, rfl, rfl, PassesOwn.never⟩⟩), hm, F.kp, F.binds hb⟩
end
/-! ### blocks -/
instance visDec {sc : Scope} {x : Str} : Decidable (Vis sc x) := inferInstanceAs (Decidable (_ ∨ _))
/-- the names of a comprehension's block: the seen ones with their slots, the global ones, its own at slot i -/
structure BkOk (N : List Str) (Vn : List (Nat × Str)) (G : List Str) (i : Nat) (x : Str) (sc scope : Scope) : Prop where
  lo : ∀ p ∈ Vn, N[p.1]? = some p.2 ∧ Vis (relS scope sc) p.2 ∧ (p.2 == ("__debug__" : Str)) = false ∧ (p.2 == ("__classdict__" : Str)) = false
  gl : ∀ x ∈ G, (relS scope sc).names.lookup x = some .globalImplicit ∧ (x == ("__debug__" : Str)) = false ∧ x ≠ "__name__"
  own : N[i]? = some x ∧ (relS scope sc).names.lookup x = some .local
  blk : blkC N sc scope [(x, i)] = true
structure InB (X : Cx) (Vn : List (Nat × Str)) (G : List Str) : Prop where
  nd : X.N.Nodup
  lo : ∀ p ∈ Vn, X.N[p.1]? = some p.2 ∧ Vis X.env.scope p.2 ∧ (p.2 == ("__debug__" : Str)) = false ∧ (p.2 == ("__classdict__" : Str)) = false
  gl : ∀ x ∈ G, Gl X x ∧ (x == ("__debug__" : Str)) = false ∧ x ≠ "__name__"
abbrev Bk (X : Cx) (s : Shared) (H : Hp) (scope : Scope) (C : Addr) (cl : List (Str × Addr)) (fp : List Addr) : Cx := X.blk s H scope (compEnvC scope cl C X.env) fp
section
variable {X : Cx} {e a b c elt : Expr} {es rest : List Expr} {σ : L2.St} {H : Hp} {Q : VK} {pos p0 : Pos} {N G G' : List Str} {Vn : List (Nat × Str)} {sc scope : Scope}
theorem rel_eq (h : X.env.scope = sc) (C : Addr) (cl : List (Str × Addr)) : (compEnvC scope cl C X.env).scope = relS scope sc := by
  subst h
  rfl
theorem BkOk.inB {i : Nat} {x : Str} (B : BkOk X.N Vn G' i x sc scope) (I : In X N G sc) (s : Shared) (H : Hp) (C : Addr) (cl : List (Str × Addr)) (fp : List Addr) : InB (Bk X s H scope C cl fp) Vn G' := by
  have e : (compEnvC scope cl C X.env).scope = relS scope sc := rel_eq I.sc C cl
  refine ⟨I.nd, fun p hp => ?_, fun y hy => ?_⟩
  · obtain ⟨h1, h2, h3, h4⟩ := B.lo p hp
    exact ⟨h1, by show Vis (compEnvC scope cl C X.env).scope p.2; rw [e]; exact h2, h3, h4⟩
  · obtain ⟨h1, h2, h3⟩ := B.gl y hy
    exact ⟨by show (compEnvC scope cl C X.env).scope.names.lookup y = _; rw [e]; exact h1, h2, h3⟩
theorem BkOk.pg {i : Nat} {x : Str} {px : Pos} (B : BkOk X.N Vn G' i x sc scope) (I : In X N G sc) (s : Shared) (H : Hp) (C : Addr) (cl : List (Str × Addr)) (fp : List Addr) : PG (Bk X s H scope C cl fp) (.Name x px) (gName i) := by
  have e : (compEnvC scope cl C X.env).scope = relS scope sc := rel_eq I.sc C cl
  have l : (Bk X s H scope C cl fp).env.scope.names.lookup x = some .local := by
    show (compEnvC scope cl C X.env).scope.names.lookup x = _
    rw [e]
    exact B.own.2
  exact pg_name I.nd B.own.1 (.inl l) (.inr l)
theorem BkOk.ok {i : Nat} {x : Str} (B : BkOk X.N Vn G' i x sc scope) (I : In X N G sc) : BlkOk X.N X.env.scope scope [(x, i)] := by
  rw [I.sc]
  exact blkOk_by B.blk
theorem InB.g (I : InB X Vn G) {i : Nat} {x : Str} (h : At G i x) : Gl X x := (I.gl x h.mem).1
theorem InB.gd (I : InB X Vn G) {i : Nat} {x : Str} (h : At G i x) : (x == ("__debug__" : Str)) = false := (I.gl x h.mem).2.1
theorem InB.gn (I : InB X Vn G) {i : Nat} {x : Str} (h : At G i x) : x ≠ "__name__" := (I.gl x h.mem).2.2
theorem b_var {j i : Nat} {x : Str} {v : V} (q : Q v H) (I : InB X Vn G := by assumption) (hA : At Vn j (i, x) := by repeat (first | with_reducible apply At.z | with_reducible apply At.s)) (hσ : σ[i]? = some (some v) := by exact rfl) : wE X (.Name x pos) σ H Q :=
  e_of (pe_var (I.lo _ hA.mem).1 (I.lo _ hA.mem).2.1 (I.lo _ hA.mem).2.2.1 (I.lo _ hA.mem).2.2.2) ⟨v, hσ, q⟩
theorem b_call {g : Nat} {k n : Nat} {x : Str} {sp : Sp} (F : Fn X.prog X.w X.K X.mg X.base k x sp) (hr : Room n X.A) (hk : k ≤ n) (q : wA X (e :: es) σ H fun vs H1 => sp vs H1 Q E0) (I : InB X Vn G := by assumption) (hG : At G g x := by repeat (first | with_reducible apply At.z | with_reducible apply At.s))
    (he : starEach (e :: es) X.env = (false, eval e X.env) :: starEach es X.env := by rfl) (hpl : (backTo pos (starEach es X.env)).any (·.1) = false := by rfl) : wE X (.Call (.Name x p0) (e :: es) [] pos) σ H Q := by
  obtain ⟨f, fd, ps, F0, hm, hkp, hb⟩ := F.ex
  refine e_of (pe_call F0 (hr.mono hk) (I.g hG) hm hkp hb .nil pass0 pa (I.gd hG) he hpl) ?_
  show wA X (e :: es) σ H fun vs H1 => sp (vs ++ []) H1 Q E0
  simp only [List.append_nil]
  exact q
theorem b_callB {g : Nat} {x : Str} {id : String} (hm : X.mg x = none) (hv : bootBuiltins x = some (.builtin id)) (q : wA X (e :: es) σ H fun vs H1 => wC X (.builtin id) vs H1 Q) (I : InB X Vn G := by assumption) (hG : At G g x := by repeat (first | with_reducible apply At.z | with_reducible apply At.s))
    (he : starEach (e :: es) X.env = (false, eval e X.env) :: starEach es X.env := by rfl) (hpl : (backTo pos (starEach es X.env)).any (·.1) = false := by rfl) : wE X (.Call (.Name x p0) (e :: es) [] pos) σ H Q := e_of (pe_callB cr (I.g hG) hm hv pa (I.gn hG) (I.gd hG) he hpl) q
theorem b_glob {g : Nat} {x : Str} {v : V} {u : Value} (hm : X.mg x = some u) (r : RelV v u) (q : Q v H) (I : InB X Vn G := by assumption) (hG : At G g x := by repeat (first | with_reducible apply At.z | with_reducible apply At.s)) : wE X (.Name x pos) σ H Q := e_of (pe_glob (I.g hG) hm r (I.gd hG)) q
theorem wipe1 (σ : L2.St) (i : Nat) : wipe σ [i] = σ.set i none := rfl
theorem wipe_set (σ : L2.St) (i : Nat) (v : L2.V) : wipe ((wipe σ [i]).set i (some v)) [i] = wipe σ [i] := by
  simp [wipe1, List.set_set]
/-- what the turns of a comprehension ask: over range(n) -/
def LcR (X : Cx) (Vn : List (Nat × Str)) (G' : List Str) (elt : Expr) (scope : Scope) (i n : Nat) (D : Addr) (σ : L2.St) (H1 : Hp) (Qd : Hp → Prop) : Prop := ∃ Pv : Nat → Hp → Prop, Pv 0 (upd H1 D (.lst [])) ∧
  (∀ k H2, k < n → Pv k H2 → ∀ s0 H0 C cl fp, InB (Bk X s0 H0 scope C cl fp) Vn G' → wE (Bk X s0 H0 scope C cl fp) elt ((wipe σ [i]).set i (some (.int (k : Int)))) H2 fun y H4 => ∃ acc, H4 D = some (.lst acc) ∧ acc.length < sizeLine ∧ Pv (k + 1) (upd H4 D (.lst (acc ++ [y])))) ∧
  ∀ H2, Pv n H2 → Qd H2
/-- .. over a list that stays -/
def LcL (X : Cx) (Vn : List (Nat × Str)) (G' : List Str) (elt : Expr) (scope : Scope) (i : Nat) (ad : Addr) (xs : List L2.V) (D : Addr) (σ : L2.St) (H1 : Hp) (Qd : Hp → Prop) : Prop := ∃ Pv : Nat → Hp → Prop, Pv 0 (upd H1 D (.lst [])) ∧ (∀ k H2, k ≤ xs.length → Pv k H2 → SqL X.K H2 ad xs) ∧
  (∀ k x H2, xs[k]? = some x → Pv k H2 → ∀ s0 H0 C cl fp, InB (Bk X s0 H0 scope C cl fp) Vn G' → wE (Bk X s0 H0 scope C cl fp) elt ((wipe σ [i]).set i (some x)) H2 fun y H4 => ∃ acc, H4 D = some (.lst acc) ∧ acc.length < sizeLine ∧ Pv (k + 1) (upd H4 D (.lst (acc ++ [y])))) ∧
  ∀ H2, Pv xs.length H2 → Qd H2
/-- the turn's reading, where the block may run anywhere -/
@[irreducible] def wBk (X : Cx) (Vn : List (Nat × Str)) (G' : List Str) (elt : Expr) (scope : Scope) : TE := fun σ H Q => ∀ s0 H0 C cl fp, InB (Bk X s0 H0 scope C cl fp) Vn G' → wE (Bk X s0 H0 scope C cl fp) elt σ H Q
theorem pe_bk {s0 : Shared} {H0 : Hp} {C : Addr} {cl : List (Str × Addr)} {fp : List Addr} (I : InB (Bk X s0 H0 scope C cl fp) Vn G') : PE (Bk X s0 H0 scope C cl fp) elt (wBk X Vn G' elt scope) :=
  ⟨fun pins s σ H Q Iv h => by unfold wBk at h; exact pe.run pins s σ H Q Iv (h s0 H0 C cl fp I)⟩
theorem lcR_of {i n : Nat} {D : Addr} {H1 : Hp} {Qd : Hp → Prop} (q : LcR X Vn G' elt scope i n D σ H1 Qd) : ∃ W : Nat → Nat → Hp → Prop, (∃ m, W 0 m (upd H1 D (.lst []))) ∧ ∀ k m H, W k m H →
    ((Itr 0 n).stop k H ∧ Qd H) ∨ ((Itr 0 n).go k H ∧ ∃ Nx : Hp → Prop, (∀ H', Nx H' → ∃ m', m' < m ∧ W (k + 1) m' H') ∧ ∀ x H', (Itr 0 n).yld k H x H' → gName i x (wipe σ [i]) H' fun σ2 H2 => wipe σ2 [i] = wipe σ [i] ∧ tYes σ2 H2 fun b H3 =>
      if b = true then wBk X Vn G' elt scope σ2 H3 fun y H4 => ∃ acc, H4 D = some (.lst acc) ∧ acc.length < sizeLine ∧ Nx (upd H4 D (.lst (acc ++ [y]))) else Nx H3) := by
  obtain ⟨Pv, h0, hs, hd⟩ := q
  refine lc_range Pv h0 (fun k H hk p => ?_) hd
  refine ⟨wipe_set σ i _, ?_⟩
  unfold tYes
  refine iteT ?_
  unfold wBk
  intro s0 H0 C cl fp I
  rw [Int.zero_add]
  exact hs k H hk p s0 H0 C cl fp I
theorem lcL_of {i : Nat} {ad : Addr} {xs : List L2.V} {D : Addr} {H1 : Hp} {Qd : Hp → Prop} (q : LcL X Vn G' elt scope i ad xs D σ H1 Qd) : ∃ W : Nat → Nat → Hp → Prop, (∃ m, W 0 m (upd H1 D (.lst []))) ∧ ∀ k m H, W k m H →
    ((Itl X.K ad).stop k H ∧ Qd H) ∨ ((Itl X.K ad).go k H ∧ ∃ Nx : Hp → Prop, (∀ H', Nx H' → ∃ m', m' < m ∧ W (k + 1) m' H') ∧ ∀ x H', (Itl X.K ad).yld k H x H' → gName i x (wipe σ [i]) H' fun σ2 H2 => wipe σ2 [i] = wipe σ [i] ∧ tYes σ2 H2 fun b H3 =>
      if b = true then wBk X Vn G' elt scope σ2 H3 fun y H4 => ∃ acc, H4 D = some (.lst acc) ∧ acc.length < sizeLine ∧ Nx (upd H4 D (.lst (acc ++ [y]))) else Nx H3) := by
  obtain ⟨Pv, h0, hl, hs, hd⟩ := q
  refine lc_list Pv h0 hl (fun k x H hk p => ?_) hd
  refine ⟨wipe_set σ i _, ?_⟩
  unfold tYes
  refine iteT ?_
  unfold wBk
  intro s0 H0 C cl fp I
  exact hs k x H hk p s0 H0 C cl fp I
/-- [elt for x in range(a)] -/
theorem e_lcR {i g : Nat} {x : Str} {px p cp : Pos} (B : BkOk X.N Vn G' i x sc scope) (hm : X.mg "range" = none)
    (q : wE X a σ H fun v H1 => ∃ n : Nat, v = .int n ∧ n < 2 ^ 62 ∧ ∀ D, H1 D = none → LcR X Vn G' elt scope i n D σ H1 fun H2 => Q (.ref D) H2)
    (I : In X N G sc := by assumption) (hc : X.calm = true := by rfl) (hG : At G g ("range" : Str) := by repeat (first | with_reducible apply At.z | with_reducible apply At.s)) (hs : starEach [a] X.env = [(false, eval a X.env)] := by rfl) (hs2 : ∀ z, foldedSetIterable (.Call (.Name "range" p) [a] [] cp) X.env z = pure z := by intro _; rfl)
    (hs1 : starEach (a :: []) X.env = (false, eval a X.env) :: starEach [] X.env := by rfl) :
    wE X (.ListComp elt [⟨.Name x px, .Call (.Name "range" p) [a] [] cp, [], 0⟩] scope pos) σ H Q := by
  refine e_of (pe_lc (own := [(x, i)]) (g := gName i) (tt := tYes) (te := wBk X Vn G' elt scope) hc I.nd (pi_range1 (I.g hG) hm (pa_cons pe pa_nil hs1) hs) (B.ok I) (fun s H C cl fp => B.pg I s H C cl fp) (fun _ _ _ _ _ => pts_nil) (fun s H C cl fp => pe_bk (B.inB I s H C cl fp)) hs2) (e_mono q fun v H1 q1 => ?_)
  obtain ⟨n, rfl, hn, q2⟩ := q1
  refine ⟨(n : Int), rfl, by omega, by omega, ?_⟩
  rw [Int.toNat_natCast]
  exact fun D hD => lcR_of (q2 D hD)
/-- [elt for x in a], a list -/
theorem e_lcL {i : Nat} {x : Str} {px : Pos} (B : BkOk X.N Vn G' i x sc scope)
    (q : wE X a σ H fun v H1 => ∃ ad xs, v = .ref ad ∧ SqL X.K H1 ad xs ∧ ∀ D, H1 D = none → LcL X Vn G' elt scope i ad xs D σ H1 fun H2 => Q (.ref D) H2)
    (I : In X N G sc := by assumption) (hc : X.calm = true := by rfl) (hs2 : ∀ z, foldedSetIterable a X.env z = pure z := by intro _; rfl) :
    wE X (.ListComp elt [⟨.Name x px, a, [], 0⟩] scope pos) σ H Q := by
  refine e_of (pe_lc (own := [(x, i)]) (g := gName i) (tt := tYes) (te := wBk X Vn G' elt scope) hc I.nd (pi_list pe) (B.ok I) (fun s H C cl fp => B.pg I s H C cl fp) (fun _ _ _ _ _ => pts_nil) (fun s H C cl fp => pe_bk (B.inB I s H C cl fp)) hs2) (e_mono q fun v H1 q1 => ?_)
  obtain ⟨ad, xs, rfl, hl, q2⟩ := q1
  exact ⟨ad, rfl, ⟨xs, hl⟩, fun D hD => lcL_of (q2 D hD)⟩
theorem s_lcR {nx : L2.St → Hp → Prop} {rt : VK} {bk ct : L2.St → Hp → Prop} {i j g : Nat} {x y : Str} {px py p cp spos : Pos} (B : BkOk X.N Vn G' i x sc scope) (hm : X.mg "range" = none)
    (q : wE X a σ H fun v H1 => ∃ n : Nat, v = .int n ∧ n < 2 ^ 62 ∧ ∀ D, H1 D = none → LcR X Vn G' elt scope i n D σ H1 fun H2 => nx (σ.set j (some (.ref D))) H2)
    (I : In X N G sc := by assumption) (hc : X.calm = true := by rfl) (hA : At N j y := by repeat (first | with_reducible apply At.z | with_reducible apply At.s)) (hG : At G g ("range" : Str) := by repeat (first | with_reducible apply At.z | with_reducible apply At.s))
    (hk : X.env.scope.kind = .function := by rfl) (hy : X.env.scope.names.lookup y = some .local := by rfl) (hl : (py.line == pos.line) = true := by rfl) (ha : (scope.names.any fun (n, k) => n == y && (k == .local || k == .cell)) = false := by decide +kernel)
    (hs : starEach [a] X.env = [(false, eval a X.env)] := by rfl) (hs2 : ∀ z, foldedSetIterable (.Call (.Name "range" p) [a] [] cp) X.env z = pure z := by intro _; rfl) (hs1 : starEach (a :: []) X.env = (false, eval a X.env) :: starEach [] X.env := by rfl) :
    wS X (.Assign [.Name y py] (.ListComp elt [⟨.Name x px, .Call (.Name "range" p) [a] [] cp, [], 0⟩] scope pos) spos) ⟨nx, rt, bk, ct⟩ σ H := by
  refine s_of (ps_setLc (own := [(x, i)]) (g := gName i) (tt := tYes) (te := wBk X Vn G' elt scope) hc I.nd (I.hi hA) hy (sw_true hk hy hl ha) (pi_range1 (I.g hG) hm (pa_cons pe pa_nil hs1) hs) (B.ok I) (fun s H C cl fp => B.pg I s H C cl fp) (fun _ _ _ _ _ => pts_nil) (fun s H C cl fp => pe_bk (B.inB I s H C cl fp)) hs2) (e_mono q fun v H1 q1 => ?_)
  obtain ⟨n, rfl, hn, q2⟩ := q1
  refine ⟨(n : Int), rfl, by omega, by omega, ?_⟩
  rw [Int.toNat_natCast]
  exact fun D hD => lcR_of (q2 D hD)
theorem s_lcL {nx : L2.St → Hp → Prop} {rt : VK} {bk ct : L2.St → Hp → Prop} {i j : Nat} {x y : Str} {px py spos : Pos} (B : BkOk X.N Vn G' i x sc scope)
    (q : wE X a σ H fun v H1 => ∃ ad xs, v = .ref ad ∧ SqL X.K H1 ad xs ∧ ∀ D, H1 D = none → LcL X Vn G' elt scope i ad xs D σ H1 fun H2 => nx (σ.set j (some (.ref D))) H2)
    (I : In X N G sc := by assumption) (hc : X.calm = true := by rfl) (hA : At N j y := by repeat (first | with_reducible apply At.z | with_reducible apply At.s))
    (hk : X.env.scope.kind = .function := by rfl) (hy : X.env.scope.names.lookup y = some .local := by rfl) (hl : (py.line == pos.line) = true := by rfl) (ha : (scope.names.any fun (n, k) => n == y && (k == .local || k == .cell)) = false := by decide +kernel) (hs2 : ∀ z, foldedSetIterable a X.env z = pure z := by intro _; rfl) :
    wS X (.Assign [.Name y py] (.ListComp elt [⟨.Name x px, a, [], 0⟩] scope pos) spos) ⟨nx, rt, bk, ct⟩ σ H := by
  refine s_of (ps_setLc (own := [(x, i)]) (g := gName i) (tt := tYes) (te := wBk X Vn G' elt scope) hc I.nd (I.hi hA) hy (sw_true hk hy hl ha) (pi_list pe) (B.ok I) (fun s H C cl fp => B.pg I s H C cl fp) (fun _ _ _ _ _ => pts_nil) (fun s H C cl fp => pe_bk (B.inB I s H C cl fp)) hs2) (e_mono q fun v H1 q1 => ?_)
  obtain ⟨ad, xs, rfl, hl, q2⟩ := q1
  exact ⟨ad, rfl, ⟨xs, hl⟩, fun D hD => lcL_of (q2 D hD)⟩
end
/-! ### ground terms: they make new objects and change none -/
abbrev Rl := Hp → L2.V → Prop
class Lasts (Γ : Hp → Prop) : Prop where
  up : ∀ H H', Same H H' → Γ H → Γ H'
class LastR (R : Rl) : Prop where
  up : ∀ H H' v, Same H H' → R H v → R H' v
def All2 : List Rl → Hp → List L2.V → Prop
  | [], _, vs => vs = []
  | R :: Rs, H, vs => ∃ v us, vs = v :: us ∧ R H v ∧ All2 Rs H us
@[irreducible] def Ev (X : Cx) (e : Expr) (σ : L2.St) (H : Hp) (R : Rl) : Prop := ∀ Q : VK, (∀ v H', Same H H' → R H' v → Q v H') → wE X e σ H Q
@[irreducible] def EvA (X : Cx) (es : List Expr) (σ : L2.St) (H : Hp) (Rs : List Rl) : Prop := ∀ Q : List L2.V → Hp → Prop, (∀ vs H', Same H H' → All2 Rs H' vs → Q vs H') → wA X es σ H Q
/-- a promise of a def that makes new objects alone -/
def spG {α : Type} (A : α → List Rl) (R : α → Rl) : Sp := fun vs H Q _ => ∃ x, All2 (A x) H vs ∧ ∀ v H', Same H H' → R x H' v → Q v H'
section
variable {X : Cx} {e a b c : Expr} {es : List Expr} {σ : L2.St} {H : Hp} {Q : VK} {pos p0 : Pos} {N G : List Str} {sc : Scope} {R R1 R2 : Rl} {Rs : List Rl}
theorem ev_e (h : Ev X e σ H R) (q : ∀ v H', Same H H' → R H' v → Q v H') : wE X e σ H Q := by unfold Ev at h; exact h Q q
theorem ev_of (h : ∀ Q : VK, (∀ v H', Same H H' → R H' v → Q v H') → wE X e σ H Q) : Ev X e σ H R := by unfold Ev; exact h
theorem ev_a {QA : List L2.V → Hp → Prop} (h : EvA X es σ H Rs) (q : ∀ vs H', Same H H' → All2 Rs H' vs → QA vs H') : wA X es σ H QA := by unfold EvA at h; exact h QA q
theorem ev_up {H0 : Hp} (h : Ev X e σ H R) : Ev X e σ H R := h
theorem g_var {i : Nat} {x : Str} {v : V} (r : R H v) (I : In X N G sc := by assumption) (hA : At N i x := by repeat (first | with_reducible apply At.z | with_reducible apply At.s)) (hσ : σ[i]? = some (some v) := by exact rfl) : Ev X (.Name x pos) σ H R :=
  ev_of fun Q q => e_var (q v H (Same.refl H) r) I hA hσ
theorem g_nil : EvA X [] σ H [] := by unfold EvA; exact fun Q q => a_nil (q [] H (Same.refl H) rfl)
theorem g_cons [LastR R] (h1 : Ev X e σ H R) (h2 : ∀ H', Same H H' → EvA X es σ H' Rs) (hs : starEach (e :: es) X.env = (false, eval e X.env) :: starEach es X.env := by rfl) : EvA X (e :: es) σ H (R :: Rs) := by
  unfold EvA
  exact fun Q q => a_cons (ev_e h1 fun v H1 s1 r1 => ev_a (h2 H1 s1) fun vs H2 s2 r2 => q (v :: vs) H2 (s1.trans s2) ⟨v, vs, rfl, LastR.up H1 H2 v s2 r1, r2⟩) hs
theorem g_call {α : Type} {A : α → List Rl} {R : α → Rl} {g k n : Nat} {x : Str} {z : α} (F : Fn X.prog X.w X.K X.mg X.base k x (spG A R)) (hr : Room n X.A) (hk : k ≤ n) (h : EvA X (e :: es) σ H (A z)) (I : In X N G sc := by assumption) (hG : At G g x := by repeat (first | with_reducible apply At.z | with_reducible apply At.s))
    (he : starEach (e :: es) X.env = (false, eval e X.env) :: starEach es X.env := by rfl) (hpl : (backTo pos (starEach es X.env)).any (·.1) = false := by rfl) : Ev X (.Call (.Name x p0) (e :: es) [] pos) σ H (R z) :=
  ev_of fun Q q => e_call F hr hk (ev_a h fun vs H1 s1 r1 => ⟨z, r1, fun v H2 s2 r2 => q v H2 (s1.trans s2) r2⟩) I hG he hpl
theorem g_test {QT : Bool → Hp → Prop} (h : Ev X e σ H fun _ v => v = .bl true) (q : ∀ H', Same H H' → QT true H') (he : ∀ whole, isTrue e X.env whole = (do let v ← whole; standAt e.pos; holding [v] (truthy v)) := by intro _; rfl) : wT X e σ H QT :=
  t_val (ev_e h fun v H' s r => by
    cases (show v = .bl true from r)
    exact ⟨true, rfl, q H' s⟩) he
/-- if not a or not b: return False -/
theorem s_no2 {nx : L2.St → Hp → Prop} {rt : VK} {bk ct : L2.St → Hp → Prop} {body : List Stmt} {p1 p2 p3 p4 : Pos} (h1 : Ev X a σ H fun _ v => v = .bl true) (h2 : ∀ H', Same H H' → Ev X b σ H' fun _ v => v = .bl true) (q : ∀ H', Same H H' → nx σ H')
    (he : ∀ whole, isTrue a X.env whole = (do let v ← whole; standAt a.pos; holding [v] (truthy v)) := by intro _; rfl) (he2 : ∀ whole, isTrue b X.env whole = (do let v ← whole; standAt b.pos; holding [v] (truthy v)) := by intro _; rfl) :
    wS X (.If (.BoolOp .Or [.UnaryOp .Not a p1, .UnaryOp .Not b p2] p3) body [] p4) ⟨nx, rt, bk, ct⟩ σ H := by
  refine s_if (t_w (w_or (t_not (g_test h1 (fun H1 s1 => ?_) he))))
  refine iteF (w_or1 (t_not (g_test (h2 H1 s1) (fun H2 s2 => ?_) he2)))
  exact iteF (l_nil (q H2 (s1.trans s2)))
theorem s_no1 {nx : L2.St → Hp → Prop} {rt : VK} {bk ct : L2.St → Hp → Prop} {body : List Stmt} {p1 p4 : Pos} (h1 : Ev X a σ H fun _ v => v = .bl true) (q : ∀ H', Same H H' → nx σ H')
    (he : ∀ whole, isTrue a X.env whole = (do let v ← whole; standAt a.pos; holding [v] (truthy v)) := by intro _; rfl) :
    wS X (.If (.UnaryOp .Not a p1) body [] p4) ⟨nx, rt, bk, ct⟩ σ H := by
  refine s_if (t_not (g_test h1 (fun H1 s1 => ?_) he))
  exact iteF (l_nil (q H1 s1))
theorem g_and2 (h1 : Ev X a σ H fun _ v => v = .bl true) (h2 : ∀ H', Same H H' → Ev X b σ H' fun _ v => v = .bl true) : Ev X (.BoolOp .And [a, b] pos) σ H fun _ v => v = .bl true :=
  ev_of fun Q q => e_and (ev_e h1 fun v H1 s1 r1 => by
    cases (show v = .bl true from r1)
    exact ⟨true, rfl, iteT (e_one (ev_e (h2 H1 s1) fun v H2 s2 r2 => q v H2 (s1.trans s2) r2))⟩)
theorem g_and3 (h1 : Ev X a σ H fun _ v => v = .bl true) (h2 : ∀ H', Same H H' → Ev X b σ H' fun _ v => v = .bl true) (h3 : ∀ H', Same H H' → Ev X c σ H' fun _ v => v = .bl true) : Ev X (.BoolOp .And [a, b, c] pos) σ H fun _ v => v = .bl true :=
  ev_of fun Q q => e_and (ev_e h1 fun v H1 s1 r1 => by
    cases (show v = .bl true from r1)
    refine ⟨true, rfl, iteT (e_and (ev_e (h2 H1 s1) fun v H2 s2 r2 => ?_))⟩
    cases (show v = .bl true from r2)
    exact ⟨true, rfl, iteT (e_one (ev_e (h3 H2 (s1.trans s2)) fun v H3 s3 r3 => q v H3 ((s1.trans s2).trans s3) r3))⟩)
end
section
variable {X : Cx} {H : Hp} {Q : VK} {i j : Int}
theorem o_mulW (c : CMulW i j) (q : Q (.int (i * j)) H) : wB X .Mult (.int i) (.int j) H Q := b_of op_mulW ⟨i, j, rfl, rfl, c, q⟩
end
end Wk
namespace Wk
open PySem PySem.Spec
/-- the value of a return or of an assignment, a comprehension's scope -/
def valE : Stmt → Expr
  | .Return (some e) _ => e
  | .Assign _ e _ => e
  | .Expr e _ => e
  | _ => .Name "" ⟨0, 0, 0, 0⟩
def lcSc : Expr → Scope
  | .ListComp _ _ sc _ => sc
  | _ => { kind := .function, names := [], isGenerator := false, isCoroutine := false }
end Wk
namespace Wk
open PySem PySem.Spec PyProof.Rows L2
section
variable {X : Cx} {c e : Expr} {body : List Stmt} {σ : L2.St} {H : Hp} {pos : Pos} {N G : List Str} {sc : Scope} {QT QT' : Bool → Hp → Prop}
theorem t_mono (q : wT X c σ H QT) (h : ∀ b H1, QT b H1 → QT' b H1) : wT X c σ H QT' := by
  unfold wT at q ⊢
  exact fun pins s I => wpAny_mono (q pins s I) (fun _ _ ⟨H1, I1, z⟩ => ⟨H1, I1, h _ _ z⟩) fun _ _ z => z
theorem s_while {nx : L2.St → Hp → Prop} {rt : VK} {bk ct : L2.St → Hp → Prop} (Pv : L2.St → Hp → Prop) (μ : L2.St → Hp → Nat) (h0 : Pv σ H)
    (hs : ∀ σ H, Pv σ H → wT X c σ H fun b H1 => if b = true then wL X body ⟨fun σ' H' => Pv σ' H' ∧ μ σ' H' < μ σ H, rt, nx, fun σ' H' => Pv σ' H' ∧ μ σ' H' < μ σ H⟩ σ H1 else nx σ H1)
    (I : In X N G sc := by assumption) : wS X (.While c body [] pos) ⟨nx, rt, bk, ct⟩ σ H :=
  s_of (ps_while I.never pt pl) (while_by Pv μ h0 hs fun _ _ _ _ h q => t_mono q h)
end
end Wk
namespace Wk
open PySem PySem.Spec PyProof.Rows L2
section
variable {X : Cx} {o e : Expr} {σ : L2.St} {H : Hp} {Q : VK} {pos apos : Pos}
/-- o.append(e) -/
theorem e_app (q : wE X o σ H fun x H1 => ∃ l xs0, x = .ref l ∧ SqL X.K H1 l xs0 ∧ wE X e σ H1 fun y H2 => ∃ xs, H2 l = some (.lst xs) ∧ xs.length < sizeLine ∧ Q .non (upd H2 l (.lst (xs ++ [y]))))
    (hbase : attributeBase o "append" X.env (eval o X.env) = eval o X.env := by rfl)
    (hfew : ((backTo pos (starEach (e :: []) X.env)).all (fun x => !x.1) && (backToKw pos (keywordEach [] X.env)).all (fun x => x.1.isSome)
      && decide ((e :: []).length + ([] : List Keyword).length + (if ([] : List Keyword).isEmpty then 0 else 1) < 30)) = true := by rfl)
    (hline : (apos.endLine == pos.line) = true := by rfl) (hs : starEach (e :: []) X.env = (false, eval e X.env) :: starEach [] X.env := by rfl) (hplain : (backTo pos (starEach [] X.env)).any (·.1) = false := by rfl) :
    wE X (.Call (.Attribute o "append" apos) [e] [] pos) σ H Q := by
  refine e_of (pe_bm PySem.F.plainAttrs_list PySem.F.slot_list_append PySem.F.type_list_append mt_append pe (pa_cons pe pa_nil hs) hbase hfew hline hs hplain) (e_mono q fun x H1 z => ?_)
  obtain ⟨l, xs0, rfl, hl, z⟩ := z
  refine ⟨.inl ⟨rfl, _, hl⟩, e_mono z fun y H2 z2 => ?_⟩
  obtain ⟨xs, h1, h2, h3⟩ := z2
  exact ⟨l, xs, y, rfl, rfl, h1, h2, h3⟩
end
end Wk
namespace Wk
open PySem PySem.Spec PyProof.Rows L2
theorem All2.len {Rs : List Rl} {H : Hp} : ∀ {vs : List L2.V}, All2 Rs H vs → vs.length = Rs.length := by
  induction Rs with
  | nil => intro vs h; cases (show vs = [] from h); rfl
  | cons R Rs ih => intro vs h; obtain ⟨v, us, rfl, _, h⟩ := h; simp [ih h]
end Wk
namespace Wk
open PySem PySem.Spec PyProof.Rows L2
/-- from the heap H on -/
def EvS (X : Cx) (e : Expr) (σ : L2.St) (H : Hp) (R : Rl) : Prop := ∀ H', Same H H' → Ev X e σ H' R
def EvSA (X : Cx) (es : List Expr) (σ : L2.St) (H : Hp) (Rs : List Rl) : Prop := ∀ H', Same H H' → EvA X es σ H' Rs
abbrev IsT : Rl := fun _ v => v = .bl true
section
variable {X : Cx} {e a b c : Expr} {es : List Expr} {σ : L2.St} {H H0 : Hp} {Q : VK} {pos p0 : Pos} {N G : List Str} {sc : Scope} {R R1 R2 : Rl} {Rs : List Rl}
theorem EvS.up {H1 : Hp} (h : EvS X e σ H R) (s : Same H H1) : EvS X e σ H1 R := fun H' t => h H' (s.trans t)
theorem EvS.get (h : EvS X e σ H R) (q : ∀ v H', Same H H' → R H' v → Q v H') : wE X e σ H Q := ev_e (h H (Same.refl H)) q
theorem gs_var [LastR R] {i : Nat} {x : Str} {v : L2.V} (r : R H v) (I : In X N G sc := by assumption) (hA : At N i x := by repeat (first | with_reducible apply At.z | with_reducible apply At.s)) (hσ : σ[i]? = some (some v) := by exact rfl) : EvS X (.Name x pos) σ H R :=
  fun H' s => g_var (LastR.up H H' v s r) I hA hσ
theorem gs_int {i : Int} {j} : EvS X (.Constant (.int i) j pos) σ H (fun _ v => v = .int i) := fun H' _ => ev_of fun Q q => e_int (q _ H' (Same.refl H') rfl)
theorem gs_nil : EvSA X [] σ H [] := fun _ _ => g_nil
theorem gs_cons [LastR R] (h1 : EvS X e σ H R) (h2 : EvSA X es σ H Rs) (hs : starEach (e :: es) X.env = (false, eval e X.env) :: starEach es X.env := by rfl) : EvSA X (e :: es) σ H (R :: Rs) := fun H' s => g_cons (h1 H' s) (fun H2 s2 => h2 H2 (s.trans s2)) hs
theorem gs_call {α : Type} {A : α → List Rl} {R : α → Rl} {g k n : Nat} {x : Str} {z : α} (F : Fn X.prog X.w X.K X.mg X.base k x (spG A R)) (hr : Room n X.A) (hk : k ≤ n) (h : EvSA X (e :: es) σ H (A z)) (I : In X N G sc := by assumption) (hG : At G g x := by repeat (first | with_reducible apply At.z | with_reducible apply At.s))
    (he : starEach (e :: es) X.env = (false, eval e X.env) :: starEach es X.env := by rfl) (hpl : (backTo pos (starEach es X.env)).any (·.1) = false := by rfl) : EvS X (.Call (.Name x p0) (e :: es) [] pos) σ H (R z) := fun H' s => g_call F hr hk (h H' s) I hG he hpl
/-- if not a or not b: return False; both hold -/
theorem s_nn {nx : L2.St → Hp → Prop} {rt : VK} {bk ct : L2.St → Hp → Prop} {body : List Stmt} {p1 p2 p3 p4 : Pos} (s0 : Same H0 H) (h1 : EvS X a σ H0 IsT) (h2 : EvS X b σ H0 IsT) (q : ∀ H', Same H0 H' → nx σ H')
    (he : ∀ whole, isTrue a X.env whole = (do let v ← whole; standAt a.pos; holding [v] (truthy v)) := by intro _; rfl) (he2 : ∀ whole, isTrue b X.env whole = (do let v ← whole; standAt b.pos; holding [v] (truthy v)) := by intro _; rfl) :
    wS X (.If (.BoolOp .Or [.UnaryOp .Not a p1, .UnaryOp .Not b p2] p3) body [] p4) ⟨nx, rt, bk, ct⟩ σ H := s_no2 (h1 H s0) (fun H1 s1 => h2 H1 (s0.trans s1)) (fun H1 s1 => q H1 (s0.trans s1)) he he2
theorem s_n {nx : L2.St → Hp → Prop} {rt : VK} {bk ct : L2.St → Hp → Prop} {body : List Stmt} {p1 p4 : Pos} (s0 : Same H0 H) (h1 : EvS X a σ H0 IsT) (q : ∀ H', Same H0 H' → nx σ H')
    (he : ∀ whole, isTrue a X.env whole = (do let v ← whole; standAt a.pos; holding [v] (truthy v)) := by intro _; rfl) :
    wS X (.If (.UnaryOp .Not a p1) body [] p4) ⟨nx, rt, bk, ct⟩ σ H := s_no1 (h1 H s0) (fun H1 s1 => q H1 (s0.trans s1)) he
theorem gs_and2 (h1 : EvS X a σ H IsT) (h2 : EvS X b σ H IsT) : EvS X (.BoolOp .And [a, b] pos) σ H IsT := fun H' s => g_and2 (h1 H' s) fun H2 s2 => h2 H2 (s.trans s2)
theorem gs_and3 (h1 : EvS X a σ H IsT) (h2 : EvS X b σ H IsT) (h3 : EvS X c σ H IsT) : EvS X (.BoolOp .And [a, b, c] pos) σ H IsT := fun H' s => g_and3 (h1 H' s) (fun H2 s2 => h2 H2 (s.trans s2)) fun H2 s2 => h3 H2 (s.trans s2)
theorem s_let {nx : L2.St → Hp → Prop} {rt : VK} {bk ct : L2.St → Hp → Prop} {i : Nat} {x : Str} {pos' : Pos} (s0 : Same H0 H) (h : EvS X e σ H0 R) (q : ∀ v H', Same H0 H' → R H' v → nx (σ.set i (some v)) H')
    (I : In X N G sc := by assumption) (hA : At N i x := by repeat (first | with_reducible apply At.z | with_reducible apply At.s)) (hs : swapsWith e (some (.Name x pos')) pos.line X.env = pure false := by rfl) :
    wS X (.Assign [.Name x pos'] e pos) ⟨nx, rt, bk, ct⟩ σ H := s_set ((h.up s0).get fun v H' s r => q v H' (s0.trans s) r) I hA hs
theorem s_retS {nx : L2.St → Hp → Prop} {rt : VK} {bk ct : L2.St → Hp → Prop} (s0 : Same H0 H) (h : EvS X e σ H0 R) (q : ∀ v H', Same H0 H' → R H' v → rt v H') : wS X (.Return (some e) pos) ⟨nx, rt, bk, ct⟩ σ H := s_ret ((h.up s0).get fun v H' s r => q v H' (s0.trans s) r)
end
end Wk

set_option maxHeartbeats 4000000
namespace K11
open PySem PySem.Spec PyProof.Rows L2 Wk
def topS (i : Nat) : Stmt := PySem.Challenge.pw_heldproofs_k11_tallies_computed.main.body.getD i (.Pass ⟨0, 0, 0, 0⟩)
abbrev s_Tally___init : Stmt := inClass (topS 1) 0
abbrev N_Tally___init : List Str := ["self", "plays", "rows", "load"]
abbrev P_Tally___init : List Str := ["self", "plays", "rows", "load"]
abbrev G_Tally___init : List Str := []
theorem so_Tally___init : ScOk N_Tally___init G_Tally___init (defScope s_Tally___init) := ⟨by decide +kernel, by decide +kernel, by decide +kernel⟩
theorem sc_Tally___init : FnScope N_Tally___init P_Tally___init (defScope s_Tally___init) := ⟨rfl, rfl, rfl, by decide +kernel, rfl, by decide +kernel, by decide +kernel⟩
abbrev s_Tally___add : Stmt := inClass (topS 1) 1
abbrev N_Tally___add : List Str := ["self", "other"]
abbrev P_Tally___add : List Str := ["self", "other"]
abbrev G_Tally___add : List Str := ["Tally"]
theorem so_Tally___add : ScOk N_Tally___add G_Tally___add (defScope s_Tally___add) := ⟨by decide +kernel, by decide +kernel, by decide +kernel⟩
theorem sc_Tally___add : FnScope N_Tally___add P_Tally___add (defScope s_Tally___add) := ⟨rfl, rfl, rfl, by decide +kernel, rfl, by decide +kernel, by decide +kernel⟩
abbrev s_Tally___mul : Stmt := inClass (topS 1) 2
abbrev N_Tally___mul : List Str := ["self", "other", "rows", "load"]
abbrev P_Tally___mul : List Str := ["self", "other"]
abbrev G_Tally___mul : List Str := ["Tally"]
theorem so_Tally___mul : ScOk N_Tally___mul G_Tally___mul (defScope s_Tally___mul) := ⟨by decide +kernel, by decide +kernel, by decide +kernel⟩
theorem sc_Tally___mul : FnScope N_Tally___mul P_Tally___mul (defScope s_Tally___mul) := ⟨rfl, rfl, rfl, by decide +kernel, rfl, by decide +kernel, by decide +kernel⟩
abbrev s_Tally_copied : Stmt := inClass (topS 1) 3
abbrev N_Tally_copied : List Str := ["self", "n"]
abbrev P_Tally_copied : List Str := ["self", "n"]
abbrev G_Tally_copied : List Str := ["power", "Tally"]
theorem so_Tally_copied : ScOk N_Tally_copied G_Tally_copied (defScope s_Tally_copied) := ⟨by decide +kernel, by decide +kernel, by decide +kernel⟩
theorem sc_Tally_copied : FnScope N_Tally_copied P_Tally_copied (defScope s_Tally_copied) := ⟨rfl, rfl, rfl, by decide +kernel, rfl, by decide +kernel, by decide +kernel⟩
abbrev s_Tally_taller : Stmt := inClass (topS 1) 4
abbrev N_Tally_taller : List Str := ["self", "k"]
abbrev P_Tally_taller : List Str := ["self", "k"]
abbrev G_Tally_taller : List Str := ["Tally"]
theorem so_Tally_taller : ScOk N_Tally_taller G_Tally_taller (defScope s_Tally_taller) := ⟨by decide +kernel, by decide +kernel, by decide +kernel⟩
theorem sc_Tally_taller : FnScope N_Tally_taller P_Tally_taller (defScope s_Tally_taller) := ⟨rfl, rfl, rfl, by decide +kernel, rfl, by decide +kernel, by decide +kernel⟩
abbrev s_Tally_loaded : Stmt := inClass (topS 1) 5
abbrev N_Tally_loaded : List Str := ["self", "k"]
abbrev P_Tally_loaded : List Str := ["self", "k"]
abbrev G_Tally_loaded : List Str := ["Tally"]
theorem so_Tally_loaded : ScOk N_Tally_loaded G_Tally_loaded (defScope s_Tally_loaded) := ⟨by decide +kernel, by decide +kernel, by decide +kernel⟩
theorem sc_Tally_loaded : FnScope N_Tally_loaded P_Tally_loaded (defScope s_Tally_loaded) := ⟨rfl, rfl, rfl, by decide +kernel, rfl, by decide +kernel, by decide +kernel⟩
abbrev s_Tally_cut : Stmt := inClass (topS 1) 6
abbrev N_Tally_cut : List Str := ["self", "factor"]
abbrev P_Tally_cut : List Str := ["self", "factor"]
abbrev G_Tally_cut : List Str := ["Tally"]
theorem so_Tally_cut : ScOk N_Tally_cut G_Tally_cut (defScope s_Tally_cut) := ⟨by decide +kernel, by decide +kernel, by decide +kernel⟩
theorem sc_Tally_cut : FnScope N_Tally_cut P_Tally_cut (defScope s_Tally_cut) := ⟨rfl, rfl, rfl, by decide +kernel, rfl, by decide +kernel, by decide +kernel⟩
abbrev s_Tally_triple : Stmt := inClass (topS 1) 7
abbrev N_Tally_triple : List Str := ["self"]
abbrev P_Tally_triple : List Str := ["self"]
abbrev G_Tally_triple : List Str := []
theorem so_Tally_triple : ScOk N_Tally_triple G_Tally_triple (defScope s_Tally_triple) := ⟨by decide +kernel, by decide +kernel, by decide +kernel⟩
theorem sc_Tally_triple : FnScope N_Tally_triple P_Tally_triple (defScope s_Tally_triple) := ⟨rfl, rfl, rfl, by decide +kernel, rfl, by decide +kernel, by decide +kernel⟩
abbrev s_power : Stmt := topS 2
abbrev N_power : List Str := ["base", "n", "one", "made", "square", "left"]
abbrev P_power : List Str := ["base", "n", "one"]
abbrev G_power : List Str := []
theorem so_power : ScOk N_power G_power (defScope s_power) := ⟨by decide +kernel, by decide +kernel, by decide +kernel⟩
theorem sc_power : FnScope N_power P_power (defScope s_power) := ⟨rfl, rfl, rfl, by decide +kernel, rfl, by decide +kernel, by decide +kernel⟩
abbrev s_cell : Stmt := topS 4
abbrev N_cell : List Str := ["_law_script", "_law_k"]
abbrev P_cell : List Str := ["_law_script", "_law_k"]
abbrev G_cell : List Str := ["len", "abs"]
theorem so_cell : ScOk N_cell G_cell (defScope s_cell) := ⟨by decide +kernel, by decide +kernel, by decide +kernel⟩
theorem sc_cell : FnScope N_cell P_cell (defScope s_cell) := ⟨rfl, rfl, rfl, by decide +kernel, rfl, by decide +kernel, by decide +kernel⟩
abbrev s_pool : Stmt := topS 5
abbrev N_pool : List Str := ["_law_script", "_law_k", "_law_cell_here"]
abbrev P_pool : List Str := ["_law_script", "_law_k"]
abbrev G_pool : List Str := ["_law_cell", "int"]
theorem so_pool : ScOk N_pool G_pool (defScope s_pool) := ⟨by decide +kernel, by decide +kernel, by decide +kernel⟩
theorem sc_pool : FnScope N_pool P_pool (defScope s_pool) := ⟨rfl, rfl, rfl, by decide +kernel, rfl, by decide +kernel, by decide +kernel⟩
abbrev s_next : Stmt := topS 6
abbrev N_next : List Str := ["_law_pool_here", "_law_many_here", "_law_digit", "_law_mixed"]
abbrev P_next : List Str := ["_law_pool_here", "_law_many_here"]
abbrev G_next : List Str := ["int"]
theorem so_next : ScOk N_next G_next (defScope s_next) := ⟨by decide +kernel, by decide +kernel, by decide +kernel⟩
theorem sc_next : FnScope N_next P_next (defScope s_next) := ⟨rfl, rfl, rfl, by decide +kernel, rfl, by decide +kernel, by decide +kernel⟩
abbrev s_list : Stmt := topS 7
abbrev N_list : List Str := ["_law_pool_here"]
abbrev P_list : List Str := ["_law_pool_here"]
abbrev G_list : List Str := ["range", "_law_next"]
theorem so_list : ScOk N_list G_list (defScope s_list) := ⟨by decide +kernel, by decide +kernel, by decide +kernel⟩
abbrev C_list : List Str := ["_law_k"]
theorem sc_list : FnScope (N_list ++ C_list) P_list (defScope s_list) := ⟨rfl, rfl, rfl, by decide +kernel, rfl, by decide +kernel, by decide +kernel⟩
theorem bk_list0 : BkOk (N_list ++ C_list) [(0, "_law_pool_here")] ["_law_next"] 1 "_law_k" (defScope s_list) (lcSc (valE ((defBody s_list).getD 0 (.Pass ⟨0, 0, 0, 0⟩)))) := ⟨by decide +kernel, by decide +kernel, by decide +kernel, by decide +kernel⟩
abbrev s_triple : Stmt := topS 8
abbrev N_triple : List Str := ["_law_found", "_law_height", "_law_weight", "_law_one_here"]
abbrev P_triple : List Str := ["_law_found"]
abbrev G_triple : List Str := ["len"]
theorem so_triple : ScOk N_triple G_triple (defScope s_triple) := ⟨by decide +kernel, by decide +kernel, by decide +kernel⟩
theorem sc_triple : FnScope N_triple P_triple (defScope s_triple) := ⟨rfl, rfl, rfl, by decide +kernel, rfl, by decide +kernel, by decide +kernel⟩
abbrev s_pairs : Stmt := topS 9
abbrev N_pairs : List Str := ["_law_first", "_law_second", "_law_found", "_law_one_here", "_law_two_here"]
abbrev P_pairs : List Str := ["_law_first", "_law_second"]
abbrev G_pairs : List Str := []
theorem so_pairs : ScOk N_pairs G_pairs (defScope s_pairs) := ⟨by decide +kernel, by decide +kernel, by decide +kernel⟩
theorem sc_pairs : FnScope N_pairs P_pairs (defScope s_pairs) := ⟨rfl, rfl, rfl, by decide +kernel, rfl, by decide +kernel, by decide +kernel⟩
abbrev s_copies : Stmt := topS 10
abbrev N_copies : List Str := ["_law_found", "_law_many_here", "_law_total", "_law_k"]
abbrev P_copies : List Str := ["_law_found", "_law_many_here"]
abbrev G_copies : List Str := ["range", "_law_pairs"]
theorem so_copies : ScOk N_copies G_copies (defScope s_copies) := ⟨by decide +kernel, by decide +kernel, by decide +kernel⟩
theorem sc_copies : FnScope N_copies P_copies (defScope s_copies) := ⟨rfl, rfl, rfl, by decide +kernel, rfl, by decide +kernel, by decide +kernel⟩
abbrev s_room : Stmt := topS 11
abbrev N_room : List Str := ["_law_count", "_law_many_here", "_law_k", "_law_size", "_law_j"]
abbrev P_room : List Str := ["_law_count", "_law_many_here"]
abbrev G_room : List Str := ["range", "max"]
theorem so_room : ScOk N_room G_room (defScope s_room) := ⟨by decide +kernel, by decide +kernel, by decide +kernel⟩
theorem sc_room : FnScope N_room P_room (defScope s_room) := ⟨rfl, rfl, rfl, by decide +kernel, rfl, by decide +kernel, by decide +kernel⟩
abbrev s_large : Stmt := topS 12
abbrev N_large : List Str := ["_law_pool_here", "_law_many_here"]
abbrev P_large : List Str := ["_law_pool_here"]
abbrev G_large : List Str := ["_law_next"]
theorem so_large : ScOk N_large G_large (defScope s_large) := ⟨by decide +kernel, by decide +kernel, by decide +kernel⟩
theorem sc_large : FnScope N_large P_large (defScope s_large) := ⟨rfl, rfl, rfl, by decide +kernel, rfl, by decide +kernel, by decide +kernel⟩
abbrev s_number : Stmt := topS 13
abbrev N_number : List Str := ["_law_pool_here"]
abbrev P_number : List Str := ["_law_pool_here"]
abbrev G_number : List Str := ["_law_next"]
theorem so_number : ScOk N_number G_number (defScope s_number) := ⟨by decide +kernel, by decide +kernel, by decide +kernel⟩
theorem sc_number : FnScope N_number P_number (defScope s_number) := ⟨rfl, rfl, rfl, by decide +kernel, rfl, by decide +kernel, by decide +kernel⟩
abbrev s_sum : Stmt := topS 14
abbrev N_sum : List Str := ["_law_one_here", "_law_two_here"]
abbrev P_sum : List Str := ["_law_one_here", "_law_two_here"]
abbrev G_sum : List Str := []
theorem so_sum : ScOk N_sum G_sum (defScope s_sum) := ⟨by decide +kernel, by decide +kernel, by decide +kernel⟩
theorem sc_sum : FnScope N_sum P_sum (defScope s_sum) := ⟨rfl, rfl, rfl, by decide +kernel, rfl, by decide +kernel, by decide +kernel⟩
abbrev s_product : Stmt := topS 15
abbrev N_product : List Str := ["_law_one_here", "_law_two_here"]
abbrev P_product : List Str := ["_law_one_here", "_law_two_here"]
abbrev G_product : List Str := []
theorem so_product : ScOk N_product G_product (defScope s_product) := ⟨by decide +kernel, by decide +kernel, by decide +kernel⟩
theorem sc_product : FnScope N_product P_product (defScope s_product) := ⟨rfl, rfl, rfl, by decide +kernel, rfl, by decide +kernel, by decide +kernel⟩
abbrev s_is_due : Stmt := topS 16
abbrev N_is_due : List Str := ["_law_told", "_law_due", "_law_triple_here", "_law_fields", "_law_k", "_law_value"]
abbrev P_is_due : List Str := ["_law_told", "_law_due"]
abbrev G_is_due : List Str := ["isinstance", "Tally", "tuple", "len", "range", "int", "bool"]
theorem so_is_due : ScOk N_is_due G_is_due (defScope s_is_due) := ⟨by decide +kernel, by decide +kernel, by decide +kernel⟩
theorem sc_is_due : FnScope N_is_due P_is_due (defScope s_is_due) := ⟨rfl, rfl, rfl, by decide +kernel, rfl, by decide +kernel, by decide +kernel⟩
abbrev s_made : Stmt := topS 17
abbrev N_made : List Str := ["_law_triple_here"]
abbrev P_made : List Str := ["_law_triple_here"]
abbrev G_made : List Str := ["Tally"]
theorem so_made : ScOk N_made G_made (defScope s_made) := ⟨by decide +kernel, by decide +kernel, by decide +kernel⟩
theorem sc_made : FnScope N_made P_made (defScope s_made) := ⟨rfl, rfl, rfl, by decide +kernel, rfl, by decide +kernel, by decide +kernel⟩
abbrev s_one : Stmt := topS 18
abbrev N_one : List Str := ["_law_found", "_law_k", "_law_taller", "_law_loaded", "_law_heavier", "_law_told", "_law_j"]
abbrev P_one : List Str := ["_law_found", "_law_k"]
abbrev G_one : List Str := ["_law_made", "_law_triple", "range", "_law_is_due"]
theorem so_one : ScOk N_one G_one (defScope s_one) := ⟨by decide +kernel, by decide +kernel, by decide +kernel⟩
abbrev C_one : List Str := ["_law_one_here"]
theorem sc_one : FnScope (N_one ++ C_one) P_one (defScope s_one) := ⟨rfl, rfl, rfl, by decide +kernel, rfl, by decide +kernel, by decide +kernel⟩
theorem bk_one0 : BkOk (N_one ++ C_one) [(1, "_law_k"), (7, "_law_one_here")] [] 7 "_law_one_here" (defScope s_one) (lcSc (valE ((defBody s_one).getD 0 (.Pass ⟨0, 0, 0, 0⟩)))) := ⟨by decide +kernel, by decide +kernel, by decide +kernel, by decide +kernel⟩
theorem bk_one1 : BkOk (N_one ++ C_one) [(7, "_law_one_here"), (1, "_law_k")] [] 7 "_law_one_here" (defScope s_one) (lcSc (valE ((defBody s_one).getD 1 (.Pass ⟨0, 0, 0, 0⟩)))) := ⟨by decide +kernel, by decide +kernel, by decide +kernel, by decide +kernel⟩
theorem bk_one2 : BkOk (N_one ++ C_one) [(7, "_law_one_here"), (1, "_law_k")] [] 7 "_law_one_here" (defScope s_one) (lcSc (valE ((defBody s_one).getD 2 (.Pass ⟨0, 0, 0, 0⟩)))) := ⟨by decide +kernel, by decide +kernel, by decide +kernel, by decide +kernel⟩
abbrev s_two : Stmt := topS 19
abbrev N_two : List Str := ["_law_first", "_law_second", "_law_one_here", "_law_two_here", "_law_j"]
abbrev P_two : List Str := ["_law_first", "_law_second"]
abbrev G_two : List Str := ["_law_made", "_law_triple", "range", "_law_is_due", "_law_pairs"]
theorem so_two : ScOk N_two G_two (defScope s_two) := ⟨by decide +kernel, by decide +kernel, by decide +kernel⟩
theorem sc_two : FnScope N_two P_two (defScope s_two) := ⟨rfl, rfl, rfl, by decide +kernel, rfl, by decide +kernel, by decide +kernel⟩
abbrev s_many : Stmt := topS 20
abbrev N_many : List Str := ["_law_triple_here", "_law_many_here", "_law_told", "_law_due", "_law_k", "_law_half"]
abbrev P_many : List Str := ["_law_triple_here", "_law_many_here"]
abbrev G_many : List Str := ["_law_made", "range", "_law_product", "_law_is_due"]
theorem so_many : ScOk N_many G_many (defScope s_many) := ⟨by decide +kernel, by decide +kernel, by decide +kernel⟩
theorem sc_many : FnScope N_many P_many (defScope s_many) := ⟨rfl, rfl, rfl, by decide +kernel, rfl, by decide +kernel, by decide +kernel⟩
abbrev s_three : Stmt := topS 21
abbrev N_three : List Str := ["_law_one_here", "_law_two_here", "_law_last", "_law_k", "_law_a", "_law_b", "_law_c", "_law_both", "_law_joined", "_law_due"]
abbrev P_three : List Str := ["_law_one_here", "_law_two_here", "_law_last", "_law_k"]
abbrev G_three : List Str := ["_law_made", "_law_sum", "_law_is_due", "_law_product"]
theorem so_three : ScOk N_three G_three (defScope s_three) := ⟨by decide +kernel, by decide +kernel, by decide +kernel⟩
theorem sc_three : FnScope N_three P_three (defScope s_three) := ⟨rfl, rfl, rfl, by decide +kernel, rfl, by decide +kernel, by decide +kernel⟩
abbrev s_law : Stmt := topS 22
abbrev N_law : List Str := ["_law_script", "_law_pool_here", "_law_lists", "_law_found", "_law_many_here", "_law_told", "_law_second", "_law_one_here", "_law_two_here", "_law_last"]
abbrev P_law : List Str := ["_law_script"]
abbrev G_law : List Str := ["_law_pool", "range", "_law_one", "_law_number", "_law_room", "len", "_law_next", "_law_made", "_law_triple", "_law_is_due", "_law_copies", "_law_two", "_law_large", "_law_many", "_law_three"]
theorem so_law : ScOk N_law G_law (defScope s_law) := ⟨by decide +kernel, by decide +kernel, by decide +kernel⟩
abbrev C_law : List Str := ["_law_k"]
theorem sc_law : FnScope (N_law ++ C_law) P_law (defScope s_law) := ⟨rfl, rfl, rfl, by decide +kernel, rfl, by decide +kernel, by decide +kernel⟩
theorem bk_law0 : BkOk (N_law ++ C_law) [(1, "_law_pool_here")] ["_law_list"] 10 "_law_k" (defScope s_law) (lcSc (valE ((defBody s_law).getD 1 (.Pass ⟨0, 0, 0, 0⟩)))) := ⟨by decide +kernel, by decide +kernel, by decide +kernel, by decide +kernel⟩
local macro_rules | `(tactic| walk_at "bl") => `(tactic| first
  | refine e_callB (x := "len") (by assumption) b_len ?_
  | refine e_callB (x := "isinstance") (by assumption) b_isi ?_
  | refine e_callB (x := "abs") (by assumption) b_abs ?_
  | refine e_callB (x := "max") (by assumption) b_max ?_
  | refine e_callB (x := "min") (by assumption) b_min ?_
  | refine e_callTy (x := "int") (by assumption) b_int ?_)
local macro_rules | `(tactic| walk_at "gl") => `(tactic| first
  | refine e_bltn (x := "int") (v := .ty "int") (by assumption) b_int rfl ?_
  | refine e_bltn (x := "bool") (v := .ty "bool") (by assumption) b_bool rfl ?_
  | refine e_bltn (x := "str") (v := .ty "str") (by assumption) b_str rfl ?_
  | refine e_bltn (x := "tuple") (v := .ty "tuple") (by assumption) b_tuple rfl ?_
  | refine e_bltn (x := "list") (v := .ty "list") (by assumption) b_list rfl ?_)
local macro_rules | `(tactic| walk_at "st") => `(tactic| first
  | refine l_cons ?_
  | refine s_ret ?_
  | refine s_if ?_
  | refine s_set ?_
  | refine s_sub ?_
  | refine e_var ?_
  | refine e_int ?_
  | refine e_ix ?_
  | refine a_cons ?_
  | refine a_nil ?_
  | refine t_cmp ?_
  | refine t_not ?_
  | refine t_w (w_and ?_)
  | refine t_w (w_or ?_)
  | refine w_and ?_
  | refine w_or ?_
  | refine w_and1 ?_
  | refine w_or1 ?_
  | refine t_val ?_
  | refine e_str ?_
  | refine e_bl ?_
  | refine e_non ?_
  | refine e_bin ?_
  | refine e_cmp ?_
  | refine e_and ?_
  | refine e_or ?_
  | refine e_not ?_
  | refine e_one ?_
  | refine l_nil ?_
  | refine s_expr ?_
  | refine e_tup ?_
  | refine e_lst ?_
  | refine ⟨_, rfl, ?_⟩
  | ((with_reducible refine ite_t ?hc ?_); (case hc => exact rfl))
  | ((with_reducible refine ite_f ?hc ?_); (case hc => exact rfl))
  | refine o_add ?_
  | refine o_sub ?_
  | refine o_lt ?_
  | refine o_le ?_
  | refine o_gt ?_
  | refine o_ge ?_
  | refine o_eqI ?_
  | refine o_neI ?_
  | refine o_eqS ?_
  | refine o_neB ?_
  | refine o_eqB ?_
  | refine c_int ?_
  | refine c_abs ?_
  | refine c_max rfl ?_
  | refine c_min rfl ?_
  | refine a_cons (e_fld ?_)
  | walk_at "bl"
  | walk_at "gl")
local macro_rules | `(tactic| walk_at "sts") => `(tactic| repeat walk_at "st")
section
variable {P : Program} {w : World} {K : PySem.W.Frag} {mg : Str → Option Value} {base : Heap}
def PoolAt (H : Hp) (a : Addr) : Prop := ∃ x y z : Int, H a = some (.lst [.int x, .int y, .int z])
def spCell (K : PySem.W.Frag) : Sp := fun vs H Q _ => ∃ (a : Addr) (ns : List Int) (k : Nat), vs = [.ref a, .int k] ∧ SqL K H a (ns.map V.int) ∧ ∀ z : Int, 0 ≤ z → Q (.int z) H
theorem ok_cell (T : Top K mg "_law_cell" s_cell) (mLen : mg "len" = none) (mAbs : mg "abs" = none) : Fn P w K mg base 1 "_law_cell" (spCell K) := by
  refine fn_ok T sc_cell so_cell (fun vs H Q E h => ?_) (fun _ _ _ _ _ _ us hl => match us, hl with | [_, _], _ => rfl) fun f cdv A outer s H vs Q E hr h nd => ?_
  · obtain ⟨a, ns, k, rfl, _⟩ := h
    rfl
  · obtain ⟨a, ns, k, rfl, hS, q⟩ := h
    walk_at "sts"
    refine c_lenL (by exact hS) ?_
    walk_at "sts"
    refine if2 (fun h => ?_) (fun h => ?_)
    · rw [List.length_map] at h
      have hk : k < ns.length := by omega
      walk_at "sts"
      refine ix_l (by exact hS) (atI_nat (v := .int ns[k]) (by simp [hk])) ?_
      walk_at "sts"
      exact q _ (by split <;> omega)
    · walk_at "sts"
      exact q _ (Int.le_refl _)
def spPool (K : PySem.W.Frag) : Sp := fun vs H Q _ => ∃ (a : Addr) (ns : List Int) (k : Nat), vs = [.ref a, .int k] ∧ SqL K H a (ns.map V.int) ∧ ∀ p H', Same H H' → H p = none → PoolAt H' p → Q (.ref p) H'
theorem ok_pool (T : Top K mg "_law_pool" s_pool) (F : Fn P w K mg base 1 "_law_cell" (spCell K)) (mInt : mg "int" = none) : Fn P w K mg base 2 "_law_pool" (spPool K) := by
  refine fn_ok T sc_pool so_pool (fun vs H Q E h => ?_) (fun _ _ _ _ _ _ us hl => match us, hl with | [_, _], _ => rfl) fun f cdv A outer s H vs Q E hr h nd => ?_
  · obtain ⟨a, ns, k, rfl, _⟩ := h
    rfl
  · obtain ⟨a, ns, k, rfl, hS, q⟩ := h
    walk_at "sts"
    refine e_call (by exact F) (by exact hr) (by decide) ?_
    walk_at "sts"
    refine ⟨a, ns, k, rfl, hS, fun z hz => ?_⟩
    walk_at "sts"
    refine o_pow ⟨by decide, by decide, by decide⟩ ?_
    walk_at "sts"
    refine if2 (fun h => ?_) (fun h => ?_)
    · walk_at "sts"
      refine o_mod (by decide) ?_
      walk_at "sts"
      refine ⟨by show 3 ≤ sizeLine; decide, fun p H2 e np hp => ?_⟩
      exact q p H2 e np ⟨_, _, _, hp⟩
    · walk_at "sts"
      refine ⟨by show 3 ≤ sizeLine; decide, fun p H2 e np hp => ?_⟩
      exact q p H2 e np ⟨_, _, _, hp⟩
def spNext : Sp := fun vs H Q _ => ∃ (a : Addr) (m : Int), vs = [.ref a, .int m] ∧ 0 < m ∧ m < 1073741824 ∧ PoolAt H a ∧ ∀ d H', 0 ≤ d → d < m → But a H H' → PoolAt H' a → Q (.int d) H'
theorem ok_next (T : Top K mg "_law_next" s_next) (mInt : mg "int" = none) : Fn P w K mg base 1 "_law_next" spNext := by
  refine fn_ok T sc_next so_next (fun vs H Q E h => ?_) (fun _ _ _ _ _ _ us hl => match us, hl with | [_, _], _ => rfl) fun f cdv A outer s H vs Q E hr h nd => ?_
  · obtain ⟨a, m, rfl, _⟩ := h
    rfl
  · obtain ⟨a, m, rfl, m0, m1, ⟨x, y, z, hp⟩, q⟩ := h
    walk_at "sts"
    refine ix_l (by exact SqL.of hp) rfl ?_
    walk_at "sts"
    refine if2 (fun h => ?_) (fun h => ?_)
    · walk_at "sts"
      refine ix_l (by exact SqL.of hp) rfl ?_
      walk_at "sts"
      refine o_mod m0 ?_
      walk_at "sts"
      refine ix_l (by exact SqL.of hp) rfl ?_
      walk_at "sts"
      refine o_fdiv ⟨m0, m1⟩ ?_
      walk_at "sts"
      refine set_l hp rfl ?_
      walk_at "sts"
      exact q _ _ (Int.emod_nonneg _ (by omega)) (Int.emod_lt_of_pos _ m0) (But.refl.upd) ⟨_, _, _, upd_same⟩
    · walk_at "sts"
      refine ix_l (by exact SqL.of hp) rfl ?_
      walk_at "sts"
      refine set_l hp rfl ?_
      walk_at "sts"
      refine ix_l (by exact SqL.of upd_same) rfl ?_
      walk_at "sts"
      refine ix_l (by exact SqL.of upd_same) rfl ?_
      walk_at "sts"
      refine o_mul (.inl (by decide)) ?_
      walk_at "sts"
      refine o_mod (by decide) ?_
      walk_at "sts"
      have b1 := Int.emod_nonneg (z + 7919 * (y + 1) + 13) (show (2147483647 : Int) ≠ 0 by decide)
      have b2 := Int.emod_lt_of_pos (z + 7919 * (y + 1) + 13) (show (0 : Int) < 2147483647 by decide)
      refine o_mul (.inl ⟨by omega, by omega⟩) ?_
      walk_at "sts"
      refine o_mod (by decide) ?_
      walk_at "sts"
      generalize (z + 7919 * (y + 1) + 13) % 2147483647 = u at *
      have c1 := Int.emod_nonneg (u * (u + 48271)) (show (2147483629 : Int) ≠ 0 by decide)
      have c2 := Int.emod_lt_of_pos (u * (u + 48271)) (show (0 : Int) < 2147483629 by decide)
      refine o_mul (.inl ⟨by omega, by omega⟩) ?_
      walk_at "sts"
      refine ix_l (by exact SqL.of upd_same) rfl ?_
      walk_at "sts"
      refine o_mul (.inl (by decide)) ?_
      walk_at "sts"
      refine o_mod (by decide) ?_
      walk_at "sts"
      refine o_fdiv (by decide) ?_
      walk_at "sts"
      refine o_mod m0 ?_
      walk_at "sts"
      exact q _ _ (Int.emod_nonneg _ (by omega)) (Int.emod_lt_of_pos _ m0) (But.refl.upd) ⟨_, _, _, upd_same⟩
end


/-! ### three numbers -/
abbrev T3 := Int × Int × Int
def add3 (x y : T3) : T3 := (x.1 + y.1, x.2.1 + y.2.1, x.2.2 + y.2.2)
def mul3 (x y : T3) : T3 := (x.1 * y.1, x.2.1 * y.1 + y.2.1 * x.1, x.2.2 * y.1 + y.2.2 * x.1)
def tall3 (k : Int) (x : T3) : T3 := (x.1, x.2.1 + k * x.1, x.2.2)
def load3 (k : Int) (x : T3) : T3 := (x.1, x.2.1, x.2.2 + k * x.1)
def cut3 (k : Int) (x : T3) : T3 := (x.1, x.2.1, x.2.2 + k * (x.2.1 - x.1))
def one3 : T3 := (1, 0, 0)
def pow3 (x : T3) : Nat → T3
  | 0 => one3
  | n + 1 => mul3 (pow3 x n) x
theorem t3ext {x y : T3} (h1 : x.1 = y.1) (h2 : x.2.1 = y.2.1) (h3 : x.2.2 = y.2.2) : x = y := Prod.ext h1 (Prod.ext h2 h3)
theorem mul3_one (x : T3) : mul3 x one3 = x := t3ext (by simp [mul3, one3]) (by simp [mul3, one3]) (by simp [mul3, one3])
theorem one3_mul (x : T3) : mul3 one3 x = x := t3ext (by simp [mul3, one3]) (by simp [mul3, one3]) (by simp [mul3, one3])
theorem mul3_comm (x y : T3) : mul3 x y = mul3 y x := t3ext (by simp only [mul3]; grind) (by simp only [mul3]; grind) (by simp only [mul3]; grind)
theorem mul3_assoc (x y z : T3) : mul3 (mul3 x y) z = mul3 x (mul3 y z) := t3ext (by simp only [mul3]; grind) (by simp only [mul3]; grind) (by simp only [mul3]; grind)
theorem pow3_add (x : T3) (a b : Nat) : mul3 (pow3 x a) (pow3 x b) = pow3 x (a + b) := by
  induction b with
  | zero => exact mul3_one _
  | succ b ih =>
    show mul3 (pow3 x a) (mul3 (pow3 x b) x) = mul3 (pow3 x (a + b)) x
    rw [← mul3_assoc, ih]
theorem pow3_1 (x : T3) : pow3 x 1 = x := one3_mul x
def Bd (n : Nat) (x : T3) : Prop := x.1.natAbs < 2 ^ n ∧ x.2.1.natAbs < 2 ^ n ∧ x.2.2.natAbs < 2 ^ n
theorem lt_mono {i : Int} {n m : Nat} (h : i.natAbs < 2 ^ n) (l : n ≤ m) : i.natAbs < 2 ^ m := Nat.lt_of_lt_of_le h (Nat.pow_le_pow_right (by decide) l)
theorem add_lt {i j : Int} {n m : Nat} (h : i.natAbs < 2 ^ n) (k : j.natAbs < 2 ^ n) : (i + j).natAbs < 2 ^ (n + 1) := by
  have := Int.natAbs_add_le i j
  rw [Nat.pow_succ]
  omega
theorem sub_lt {i j : Int} {n m : Nat} (h : i.natAbs < 2 ^ n) (k : j.natAbs < 2 ^ n) : (i - j).natAbs < 2 ^ (n + 1) := by
  have := Int.natAbs_sub_le i j
  rw [Nat.pow_succ]
  omega
theorem Bd.mono {n m : Nat} {x : T3} (h : Bd n x) (l : n ≤ m) : Bd m x := ⟨lt_mono h.1 l, lt_mono h.2.1 l, lt_mono h.2.2 l⟩
theorem Bd.add {n m : Nat} {x y : T3} (h : Bd n x) (k : Bd m y) : Bd (max n m + 1) (add3 x y) := by
  have h := h.mono (Nat.le_max_left n m)
  have k := k.mono (Nat.le_max_right n m)
  exact ⟨add_lt (m := 0) h.1 k.1, add_lt (m := 0) h.2.1 k.2.1, add_lt (m := 0) h.2.2 k.2.2⟩
theorem Bd.mul {n m : Nat} {x y : T3} (h : Bd n x) (k : Bd m y) : Bd (n + m + 1) (mul3 x y) := by
  refine ⟨lt_mono (wide_lt h.1 k.1) (Nat.le_succ _), add_lt (m := 0) (wide_lt h.2.1 k.1) ?_, add_lt (m := 0) (wide_lt h.2.2 k.1) ?_⟩
  · rw [Nat.add_comm n m]; exact wide_lt k.2.1 h.1
  · rw [Nat.add_comm n m]; exact wide_lt k.2.2 h.1
theorem Bd.one : Bd 1 one3 := ⟨by decide, by decide, by decide⟩
theorem Bd.tall {n a : Nat} {k : Int} {x : T3} (h : Bd n x) (hk : k.natAbs < 2 ^ a) : Bd (a + n + 1) (tall3 k x) := by
  refine ⟨lt_mono h.1 (by omega), add_lt (m := 0) (lt_mono h.2.1 (by omega)) (wide_lt hk h.1), lt_mono h.2.2 (by omega)⟩
theorem Bd.load {n a : Nat} {k : Int} {x : T3} (h : Bd n x) (hk : k.natAbs < 2 ^ a) : Bd (a + n + 1) (load3 k x) := by
  refine ⟨lt_mono h.1 (by omega), lt_mono h.2.1 (by omega), add_lt (m := 0) (lt_mono h.2.2 (by omega)) (wide_lt hk h.1)⟩
theorem Bd.pow {b : Nat} {x : T3} (h : Bd b x) (n : Nat) : Bd (n * (b + 1) + 1) (pow3 x n) := by
  induction n with
  | zero => exact Bd.one.mono (by omega)
  | succ n ih => exact (Bd.mul ih h).mono (by rw [Nat.succ_mul]; omega)
section
variable {P : Program} {w : World} {K : PySem.W.Frag} {mg : Str → Option Value} {base : Heap}
/-! ### a Tally -/
theorem n_pr : ¬ (("plays" : Str) = "rows") := by decide +kernel
theorem n_pl : ¬ (("plays" : Str) = "load") := by decide +kernel
theorem n_rl : ¬ (("rows" : Str) = "load") := by decide +kernel
def flds (x : T3) : List (Str × V) := putF "load" (.int x.2.2) (putF "rows" (.int x.2.1) (putF "plays" (.int x.1) []))
theorem flds_p (x : T3) : (flds x).lookup ("plays" : Str) = some (.int x.1) := by
  unfold flds
  rw [lookup_putF, if_neg n_pl, lookup_putF, if_neg n_pr, lookup_putF, if_pos rfl]
theorem flds_r (x : T3) : (flds x).lookup ("rows" : Str) = some (.int x.2.1) := by
  unfold flds
  rw [lookup_putF, if_neg n_rl, lookup_putF, if_pos rfl]
theorem flds_l (x : T3) : (flds x).lookup ("load" : Str) = some (.int x.2.2) := by
  unfold flds
  rw [lookup_putF, if_pos rfl]
theorem flds_no (x : T3) {m : Str} (h1 : ¬ m = "load") (h2 : ¬ m = "rows") (h3 : ¬ m = "plays") : (flds x).lookup m = none := by
  unfold flds
  rw [lookup_putF, if_neg h1, lookup_putF, if_neg h2, lookup_putF, if_neg h3]
  all_goals rfl
def TlAt (C : Addr) (H : Hp) (p : Addr) (x : T3) : Prop := ∃ dx, H p = some (.ins C dx (flds x))
def Tl (C : Addr) (x : T3) : Rl := fun H v => ∃ p, v = .ref p ∧ TlAt C H p x
def Tr (x : T3) : Rl := fun H v => ∃ t, v = .ref t ∧ H t = some (.tup [.int x.1, .int x.2.1, .int x.2.2])
def Nm (i : Int) : Rl := fun _ v => v = .int i
def Tt : Rl := fun _ v => v = .bl true
instance {C : Addr} {x : T3} : LastR (Tl C x) := ⟨fun _ _ _ s ⟨p, e, dx, h⟩ => ⟨p, e, dx, s _ _ h⟩⟩
instance {x : T3} : LastR (Tr x) := ⟨fun _ _ _ s ⟨p, e, h⟩ => ⟨p, e, s _ _ h⟩⟩
instance {i : Int} : LastR (Nm i) := ⟨fun _ _ _ _ h => h⟩
structure ClsOk (K : PySem.W.Frag) (mg : Str → Option Value) (C : Addr) : Prop where
  cl : Cls K C
  nP : NoAttr K C "plays"
  nR : NoAttr K C "rows"
  nL : NoAttr K C "load"
  mks : PySem.W.makesIn K C = true
  kp : PySem.W.keepIn K (.ref C) = true
  sf : PySem.W.selfFirst K C = true
  isC : C8.InsC K C
  mg : mg "Tally" = some (.ref C)
def spInit (C : Addr) : Sp := fun vs H Q _ => ∃ (p dx : Addr) (a b c : Int), vs = [.ref p, .int a, .int b, .int c] ∧ H p = some (.ins C dx []) ∧ ∀ H', But p H H' → TlAt C H' p (a, b, c) → Q .non H'
variable {C : Addr}
theorem ok_init (T : TopM K C "__init__" "Tally.__init__" s_Tally___init) (O : ClsOk K mg C) : Kl P w K mg base 1 "Tally" C (spInit C) := by
  obtain ⟨f, fd, F, hb, hf, hi, hk⟩ := me_ok (P := P) (w := w) (mg := mg) (base := base) (k := 0) (sp := spInit C) T sc_Tally___init so_Tally___init (fun vs H Q E h => by obtain ⟨p, dx, a, b, c, rfl, _⟩ := h; rfl) (fun _ _ _ _ _ _ us hl => match us, hl with | [_, _, _, _], _ => rfl) fun f cdv A outer s H vs Q E hr h nd => by
    obtain ⟨p, dx, a, b, c, rfl, hp, q⟩ := h
    refine l_cons (s_fld ?_)
    walk_at "sts"
    refine ⟨p, C, dx, _, rfl, hp, O.cl, O.nP, by show 0 < 1000; decide, ?_⟩
    refine l_cons (s_fld ?_)
    walk_at "sts"
    refine ⟨p, C, dx, _, rfl, upd_same, O.cl, O.nR, by show 1 < 1000; decide, ?_⟩
    refine l_cons (s_fld ?_)
    walk_at "sts"
    refine ⟨p, C, dx, _, rfl, upd_same, O.cl, O.nL, ?_, ?_⟩
    · rw [show (putF ("rows" : Str) (V.int b) (putF ("plays" : Str) (V.int a) [])) = [(("plays" : Str), V.int a), (("rows" : Str), V.int b)] by
        show (if ("plays" : Str) = "rows" then _ else (("plays" : Str), V.int a) :: putF "rows" (V.int b) []) = _
        rw [if_neg n_pr]
        rfl]
      show 2 < 1000
      decide
    · refine l_nil ?_
      exact q _ (But.refl.upd.upd.upd) ⟨dx, upd_same⟩
  exact ⟨f, fd, _, F, O.mg, ⟨O.mks, hf, hi, O.kp⟩, hb⟩
theorem make_of {H : Hp} {Q : VK} {a b c : Int} {z : T3} (e : z = (a, b, c)) (q : ∀ p H', Same H H' → TlAt C H' p z → Q (.ref p) H') : ∀ x dx, H x = none → H dx = none → dx ≠ x → spInit C [.ref x, .int a, .int b, .int c] (upd (upd H dx (.own x)) x (.ins C dx [])) (fun v H2 => v = .non ∧ Q (.ref x) H2) E0 := by
  subst e
  intro x dx nx nd ne
  refine ⟨x, dx, a, b, c, rfl, upd_same, fun H' bt e => ⟨rfl, q x H' (fun y o h => bt y o (ne_of_none h nx) ?_) e⟩⟩
  rw [upd_ne (ne_of_none h nx), upd_ne (ne_of_none h nd)]
  exact h
def spOp (C : Addr) (g : T3 → T3 → T3) (c : T3 → T3 → Prop) : Sp := fun vs H Q _ => ∃ (p r : Addr) (x y : T3), vs = [.ref p, .ref r] ∧ TlAt C H p x ∧ TlAt C H r y ∧ c x y ∧ ∀ u H', Same H H' → TlAt C H' u (g x y) → Q (.ref u) H'
def cAny (_ _ : T3) : Prop := True
def cMul (x y : T3) : Prop := ∃ n m, Bd n x ∧ Bd m y ∧ 0 < n ∧ 0 < m ∧ n + m ≤ 900000
theorem ok_add (T : TopM K C "__add__" "Tally.__add__" s_Tally___add) (O : ClsOk K mg C) (F : Kl P w K mg base 1 "Tally" C (spInit C)) : Op2 P w K mg base 3 C .Add (spOp C add3 cAny) := by
  obtain ⟨f, fd, G, hb, hf, hi, hk⟩ := me_ok (P := P) (w := w) (mg := mg) (base := base) (k := 2) (sp := spOp C add3 cAny) T sc_Tally___add so_Tally___add (fun vs H Q E h => by obtain ⟨p, r, x, y, rfl, _⟩ := h; rfl) (fun _ _ _ _ _ _ us hl => match us, hl with | [_, _], _ => rfl) fun f cdv A outer s H vs Q E hr h nd => by
    obtain ⟨p, r, x, y, rfl, ⟨dx, hp⟩, ⟨dy, hq⟩, _, q⟩ := h
    walk_at "sts"
    refine e_make (by exact F) (by exact hr) (by decide) ?_
    walk_at "sts"
    refine e_fld ?_
    walk_at "sts"
    refine ⟨p, C, dx, _, _, rfl, hp, O.cl, O.nP, flds_p _, ?_⟩
    walk_at "sts"
    refine e_fld ?_
    walk_at "sts"
    refine ⟨r, C, dy, _, _, rfl, hq, O.cl, O.nP, flds_p _, ?_⟩
    walk_at "sts"
    refine e_fld ?_
    walk_at "sts"
    refine ⟨p, C, dx, _, _, rfl, hp, O.cl, O.nR, flds_r _, ?_⟩
    walk_at "sts"
    refine e_fld ?_
    walk_at "sts"
    refine ⟨r, C, dy, _, _, rfl, hq, O.cl, O.nR, flds_r _, ?_⟩
    walk_at "sts"
    refine e_fld ?_
    walk_at "sts"
    refine ⟨p, C, dx, _, _, rfl, hp, O.cl, O.nL, flds_l _, ?_⟩
    walk_at "sts"
    refine e_fld ?_
    walk_at "sts"
    refine ⟨r, C, dy, _, _, rfl, hq, O.cl, O.nL, flds_l _, ?_⟩
    walk_at "sts"
    exact make_of rfl q
  exact ⟨f, fd, _, G, hf, hi, O.sf, hb⟩
theorem ok_mul (T : TopM K C "__mul__" "Tally.__mul__" s_Tally___mul) (O : ClsOk K mg C) (F : Kl P w K mg base 1 "Tally" C (spInit C)) : Op2 P w K mg base 3 C .Mult (spOp C mul3 cMul) := by
  obtain ⟨f, fd, G, hb, hf, hi, hk⟩ := me_ok (P := P) (w := w) (mg := mg) (base := base) (k := 2) (sp := spOp C mul3 cMul) T sc_Tally___mul so_Tally___mul (fun vs H Q E h => by obtain ⟨p, r, x, y, rfl, _⟩ := h; rfl) (fun _ _ _ _ _ _ us hl => match us, hl with | [_, _], _ => rfl) fun f cdv A outer s H vs Q E hr h nd => by
    obtain ⟨p, r, x, y, rfl, ⟨dx, hp⟩, ⟨dy, hq⟩, ⟨n, m, hx, hy, n0, m0, nm⟩, q⟩ := h
    walk_at "sts"
    refine e_fld ?_
    walk_at "sts"
    refine ⟨p, C, dx, _, _, rfl, hp, O.cl, O.nR, flds_r _, ?_⟩
    walk_at "sts"
    refine e_fld ?_
    walk_at "sts"
    refine ⟨r, C, dy, _, _, rfl, hq, O.cl, O.nP, flds_p _, ?_⟩
    walk_at "sts"
    refine o_mulW (wide_mul hx.2.1 hy.1 n0 m0 (by omega)) ?_
    walk_at "sts"
    refine e_fld ?_
    walk_at "sts"
    refine ⟨r, C, dy, _, _, rfl, hq, O.cl, O.nR, flds_r _, ?_⟩
    walk_at "sts"
    refine e_fld ?_
    walk_at "sts"
    refine ⟨p, C, dx, _, _, rfl, hp, O.cl, O.nP, flds_p _, ?_⟩
    walk_at "sts"
    refine o_mulW (wide_mul hy.2.1 hx.1 m0 n0 (by omega)) ?_
    walk_at "sts"
    refine e_fld ?_
    walk_at "sts"
    refine ⟨p, C, dx, _, _, rfl, hp, O.cl, O.nL, flds_l _, ?_⟩
    walk_at "sts"
    refine e_fld ?_
    walk_at "sts"
    refine ⟨r, C, dy, _, _, rfl, hq, O.cl, O.nP, flds_p _, ?_⟩
    walk_at "sts"
    refine o_mulW (wide_mul hx.2.2 hy.1 n0 m0 (by omega)) ?_
    walk_at "sts"
    refine e_fld ?_
    walk_at "sts"
    refine ⟨r, C, dy, _, _, rfl, hq, O.cl, O.nL, flds_l _, ?_⟩
    walk_at "sts"
    refine e_fld ?_
    walk_at "sts"
    refine ⟨p, C, dx, _, _, rfl, hp, O.cl, O.nP, flds_p _, ?_⟩
    walk_at "sts"
    refine o_mulW (wide_mul hy.2.2 hx.1 m0 n0 (by omega)) ?_
    walk_at "sts"
    refine e_make (by exact F) (by exact hr) (by decide) ?_
    walk_at "sts"
    refine e_fld ?_
    walk_at "sts"
    refine ⟨p, C, dx, _, _, rfl, hp, O.cl, O.nP, flds_p _, ?_⟩
    walk_at "sts"
    refine e_fld ?_
    walk_at "sts"
    refine ⟨r, C, dy, _, _, rfl, hq, O.cl, O.nP, flds_p _, ?_⟩
    walk_at "sts"
    refine o_mulW (wide_mul hx.1 hy.1 n0 m0 (by omega)) ?_
    walk_at "sts"
    exact make_of rfl q
  exact ⟨f, fd, _, G, hf, hi, O.sf, hb⟩
/-- a method with one number -/
def spM (C : Addr) (g : Int → T3 → T3) : Sp := fun vs H Q _ => ∃ (p : Addr) (k : Int) (x : T3) (n a : Nat), vs = [.ref p, .int k] ∧ TlAt C H p x ∧ Bd n x ∧ k.natAbs < 2 ^ a ∧ 0 < n ∧ 0 < a ∧ n + a ≤ 900000 ∧ ∀ u H', Same H H' → TlAt C H' u (g k x) → Q (.ref u) H'
theorem ok_tall (T : TopM K C "taller" "Tally.taller" s_Tally_taller) (O : ClsOk K mg C) (F : Kl P w K mg base 1 "Tally" C (spInit C)) : Mt P w K mg base 3 C "taller" (spM C tall3) := by
  obtain ⟨f, fd, G, hb, hf, hi, hk⟩ := me_ok (P := P) (w := w) (mg := mg) (base := base) (k := 2) (sp := spM C tall3) T sc_Tally_taller so_Tally_taller (fun vs H Q E h => by obtain ⟨p, k, x, n, a, rfl, _⟩ := h; rfl) (fun _ _ _ _ _ _ us hl => match us, hl with | [_, _], _ => rfl) fun f cdv A outer s H vs Q E hr h nd => by
    obtain ⟨p, k, x, n, a, rfl, ⟨dx, hp⟩, hx, ha, n0, a0, na, q⟩ := h
    walk_at "sts"
    refine e_make (by exact F) (by exact hr) (by decide) ?_
    walk_at "sts"
    refine e_fld ?_
    walk_at "sts"
    refine ⟨p, C, dx, _, _, rfl, hp, O.cl, O.nP, flds_p _, ?_⟩
    walk_at "sts"
    refine e_fld ?_
    walk_at "sts"
    refine ⟨p, C, dx, _, _, rfl, hp, O.cl, O.nR, flds_r _, ?_⟩
    walk_at "sts"
    refine e_fld ?_
    walk_at "sts"
    refine ⟨p, C, dx, _, _, rfl, hp, O.cl, O.nP, flds_p _, ?_⟩
    walk_at "sts"
    refine o_mulW (wide_mul ha hx.1 a0 n0 (by omega)) ?_
    walk_at "sts"
    refine e_fld ?_
    walk_at "sts"
    refine ⟨p, C, dx, _, _, rfl, hp, O.cl, O.nL, flds_l _, ?_⟩
    walk_at "sts"
    exact make_of rfl q
  exact ⟨f, fd, _, G, ⟨hf, hi, hk⟩, hb, O.cl⟩
theorem ok_load (T : TopM K C "loaded" "Tally.loaded" s_Tally_loaded) (O : ClsOk K mg C) (F : Kl P w K mg base 1 "Tally" C (spInit C)) : Mt P w K mg base 3 C "loaded" (spM C load3) := by
  obtain ⟨f, fd, G, hb, hf, hi, hk⟩ := me_ok (P := P) (w := w) (mg := mg) (base := base) (k := 2) (sp := spM C load3) T sc_Tally_loaded so_Tally_loaded (fun vs H Q E h => by obtain ⟨p, k, x, n, a, rfl, _⟩ := h; rfl) (fun _ _ _ _ _ _ us hl => match us, hl with | [_, _], _ => rfl) fun f cdv A outer s H vs Q E hr h nd => by
    obtain ⟨p, k, x, n, a, rfl, ⟨dx, hp⟩, hx, ha, n0, a0, na, q⟩ := h
    walk_at "sts"
    refine e_make (by exact F) (by exact hr) (by decide) ?_
    walk_at "sts"
    refine e_fld ?_
    walk_at "sts"
    refine ⟨p, C, dx, _, _, rfl, hp, O.cl, O.nP, flds_p _, ?_⟩
    walk_at "sts"
    refine e_fld ?_
    walk_at "sts"
    refine ⟨p, C, dx, _, _, rfl, hp, O.cl, O.nR, flds_r _, ?_⟩
    walk_at "sts"
    refine e_fld ?_
    walk_at "sts"
    refine ⟨p, C, dx, _, _, rfl, hp, O.cl, O.nL, flds_l _, ?_⟩
    walk_at "sts"
    refine e_fld ?_
    walk_at "sts"
    refine ⟨p, C, dx, _, _, rfl, hp, O.cl, O.nP, flds_p _, ?_⟩
    walk_at "sts"
    refine o_mulW (wide_mul ha hx.1 a0 n0 (by omega)) ?_
    walk_at "sts"
    exact make_of rfl q
  exact ⟨f, fd, _, G, ⟨hf, hi, hk⟩, hb, O.cl⟩
theorem ok_cut (T : TopM K C "cut" "Tally.cut" s_Tally_cut) (O : ClsOk K mg C) (F : Kl P w K mg base 1 "Tally" C (spInit C)) : Mt P w K mg base 3 C "cut" (spM C cut3) := by
  obtain ⟨f, fd, G, hb, hf, hi, hk⟩ := me_ok (P := P) (w := w) (mg := mg) (base := base) (k := 2) (sp := spM C cut3) T sc_Tally_cut so_Tally_cut (fun vs H Q E h => by obtain ⟨p, k, x, n, a, rfl, _⟩ := h; rfl) (fun _ _ _ _ _ _ us hl => match us, hl with | [_, _], _ => rfl) fun f cdv A outer s H vs Q E hr h nd => by
    obtain ⟨p, k, x, n, a, rfl, ⟨dx, hp⟩, hx, ha, n0, a0, na, q⟩ := h
    walk_at "sts"
    refine e_make (by exact F) (by exact hr) (by decide) ?_
    walk_at "sts"
    refine e_fld ?_
    walk_at "sts"
    refine ⟨p, C, dx, _, _, rfl, hp, O.cl, O.nP, flds_p _, ?_⟩
    walk_at "sts"
    refine e_fld ?_
    walk_at "sts"
    refine ⟨p, C, dx, _, _, rfl, hp, O.cl, O.nR, flds_r _, ?_⟩
    walk_at "sts"
    refine e_fld ?_
    walk_at "sts"
    refine ⟨p, C, dx, _, _, rfl, hp, O.cl, O.nL, flds_l _, ?_⟩
    walk_at "sts"
    refine e_fld ?_
    walk_at "sts"
    refine ⟨p, C, dx, _, _, rfl, hp, O.cl, O.nR, flds_r _, ?_⟩
    walk_at "sts"
    refine e_fld ?_
    walk_at "sts"
    refine ⟨p, C, dx, _, _, rfl, hp, O.cl, O.nP, flds_p _, ?_⟩
    walk_at "sts"
    refine o_mulW (wide_mul ha (sub_lt (m := 0) hx.2.1 hx.1) a0 (Nat.succ_pos _) (by omega)) ?_
    walk_at "sts"
    exact make_of rfl q
  exact ⟨f, fd, _, G, ⟨hf, hi, hk⟩, hb, O.cl⟩
def spTri (C : Addr) : Sp := fun vs H Q _ => ∃ (p : Addr) (x : T3), vs = [.ref p] ∧ TlAt C H p x ∧ ∀ u H', Same H H' → H' u = some (.tup [.int x.1, .int x.2.1, .int x.2.2]) → Q (.ref u) H'
theorem ok_tri (T : TopM K C "triple" "Tally.triple" s_Tally_triple) (O : ClsOk K mg C) : Mt P w K mg base 1 C "triple" (spTri C) := by
  obtain ⟨f, fd, G, hb, hf, hi, hk⟩ := me_ok (P := P) (w := w) (mg := mg) (base := base) (k := 0) (sp := spTri C) T sc_Tally_triple so_Tally_triple (fun vs H Q E h => by obtain ⟨p, x, rfl, _⟩ := h; rfl) (fun _ _ _ _ _ _ us hl => match us, hl with | [_], _ => rfl) fun f cdv A outer s H vs Q E hr h nd => by
    obtain ⟨p, x, rfl, ⟨dx, hp⟩, q⟩ := h
    walk_at "sts"
    refine e_fld ?_
    walk_at "sts"
    refine ⟨p, C, dx, _, _, rfl, hp, O.cl, O.nP, flds_p _, ?_⟩
    walk_at "sts"
    refine e_fld ?_
    walk_at "sts"
    refine ⟨p, C, dx, _, _, rfl, hp, O.cl, O.nR, flds_r _, ?_⟩
    walk_at "sts"
    refine e_fld ?_
    walk_at "sts"
    refine ⟨p, C, dx, _, _, rfl, hp, O.cl, O.nL, flds_l _, ?_⟩
    walk_at "sts"
    exact ⟨by show 3 ≤ sizeLine; decide, fun u H2 e _ hu => q u H2 e hu⟩
  exact ⟨f, fd, _, G, ⟨hf, hi, hk⟩, hb, O.cl⟩
/-- power -/
def spPow (C : Addr) : Sp := fun vs H Q _ => ∃ (p r : Addr) (x : T3) (n b : Nat), vs = [.ref p, .int n, .ref r] ∧ TlAt C H p x ∧ TlAt C H r one3 ∧ Bd b x ∧ n ≤ 64 ∧ b ≤ 100 ∧ ∀ u H', Same H H' → TlAt C H' u (pow3 x n) → Q (.ref u) H'
theorem mul_ok {x : T3} {b a c n : Nat} (h : Bd b x) (hb : b ≤ 100) (ha : a ≤ n) (hc : c ≤ n) (hn : n ≤ 65) : cMul (pow3 x a) (pow3 x c) := by
  have f : ∀ m, m ≤ n → m * (b + 1) + 1 ≤ 65 * 101 + 1 := fun m hm => Nat.succ_le_succ (Nat.mul_le_mul (by omega) (by omega))
  exact ⟨_, _, (h.pow a).mono (f a ha), (h.pow c).mono (f c hc), by decide, by decide, by decide⟩
theorem ok_pow (T : Top K mg "power" s_power) (OM : Op2 P w K mg base 3 C .Mult (spOp C mul3 cMul)) : Fn P w K mg base 4 "power" (spPow C) := by
  refine fn_ok T sc_power so_power (fun vs H Q E h => by obtain ⟨p, r, x, n, b, rfl, _⟩ := h; rfl) (fun _ _ _ _ _ _ us hl => match us, hl with | [_, _, _], _ => rfl) fun f cdv A outer s H vs Q E hr h nd => ?_
  obtain ⟨p, r, x, n, b, rfl, hp, hq, hx, hn, hb, q⟩ := h
  walk_at "sts"
  refine s_while (fun σ H' => ∃ (m k : Addr) (a c l : Nat), σ = [some (.ref p), some (.int n), some (.ref r), some (.ref m), some (.ref k), some (.int l)] ∧ Same H H' ∧ TlAt C H' m (pow3 x a) ∧ TlAt C H' k (pow3 x c) ∧ a + c * l = n ∧ c ≤ n + 1) (fun σ _ => match σ with | [_, _, _, _, _, some (.int l)] => l.toNat | _ => 0)
    ⟨r, p, 0, 1, n, rfl, Same.refl H, hq, by rw [pow3_1]; exact hp, by omega, by omega⟩ (fun σ H1 hW => ?_)
  obtain ⟨m, k, a, c, l, rfl, e1, hm, hk, hac, hc⟩ := hW
  walk_at "sts"
  refine if2 (fun hl => ?_) (fun hl => ?_)
  · obtain ⟨dm, hm⟩ := hm
    obtain ⟨dk, hk⟩ := hk
    have hl0 : 0 < l := by omega
    have hal : a ≤ n := by omega
    have hcl : c ≤ n := by
      have := Nat.mul_le_mul_left c hl0
      omega
    walk_at "sts"
    refine o_mod (by decide) ?_
    walk_at "sts"
    refine if2 (fun ho => ?_) (fun ho => ?_)
    · walk_at "sts"
      refine o_own (by exact OM) (by exact hr) (by decide) (by exact hm) (by exact hk) ?_
      refine ⟨m, k, pow3 x a, pow3 x c, rfl, ⟨_, hm⟩, ⟨_, hk⟩, mul_ok hx hb hal hcl (by omega), fun u H2 e2 hu => ⟨⟨u, rfl⟩, ?_⟩⟩
      rw [pow3_add] at hu
      have hk2 := e2 _ _ hk
      have e12 := e1.trans e2
      have lo : l = 2 * (l / 2) + 1 := by omega
      have hac' : a + c + (c + c) * (l / 2) = n := by rw [lo, Nat.mul_add] at hac; grind
      walk_at "sts"
      refine o_fdiv ⟨by decide, by decide⟩ ?_
      walk_at "sts"
      refine if2 (fun h2 => ?_) (fun h2 => ?_)
      · walk_at "sts"
        refine o_own (by exact OM) (by exact hr) (by decide) (by exact hk2) (by exact hk2) ?_
        refine ⟨k, k, pow3 x c, pow3 x c, rfl, ⟨_, hk2⟩, ⟨_, hk2⟩, mul_ok hx hb hcl hcl (by omega), fun s H3 e3 hs => ⟨⟨s, rfl⟩, ?_⟩⟩
        rw [pow3_add] at hs
        walk_at "sts"
        obtain ⟨du, hu⟩ := hu
        exact ⟨⟨u, s, a + c, c + c, l / 2, rfl, e12.trans e3, ⟨du, e3 _ _ hu⟩, hs, by exact hac', by (have h3 : 0 < l / 2 := by omega); have := Nat.mul_le_mul_left (c + c) h3; omega⟩, by show (((l / 2 : Nat) : Int)).toNat < ((l : Int)).toNat; omega⟩
      · walk_at "sts"
        exact ⟨⟨u, k, a + c, c, l / 2, rfl, e12, hu, ⟨dk, hk2⟩, by (have h3 : l / 2 = 0 := by omega); rw [h3] at hac' ⊢; omega, hc⟩, by show (((l / 2 : Nat) : Int)).toNat < ((l : Int)).toNat; omega⟩
    · have hu : TlAt C H1 m (pow3 x a) := ⟨_, hm⟩
      have hk2 := hk
      have e12 := e1
      have lo : l = 2 * (l / 2) := by omega
      have hac' : a + (c + c) * (l / 2) = n := by rw [lo] at hac; grind
      walk_at "sts"
      refine o_fdiv ⟨by decide, by decide⟩ ?_
      walk_at "sts"
      refine if2 (fun h2 => ?_) (fun h2 => ?_)
      · walk_at "sts"
        refine o_own (by exact OM) (by exact hr) (by decide) (by exact hk2) (by exact hk2) ?_
        refine ⟨k, k, pow3 x c, pow3 x c, rfl, ⟨_, hk2⟩, ⟨_, hk2⟩, mul_ok hx hb hcl hcl (by omega), fun s H3 e3 hs => ⟨⟨s, rfl⟩, ?_⟩⟩
        rw [pow3_add] at hs
        walk_at "sts"
        obtain ⟨du, hu⟩ := hu
        exact ⟨⟨m, s, a, c + c, l / 2, rfl, e12.trans e3, ⟨du, e3 _ _ hu⟩, hs, by exact hac', by (have h3 : 0 < l / 2 := by omega); have := Nat.mul_le_mul_left (c + c) h3; omega⟩, by show (((l / 2 : Nat) : Int)).toNat < ((l : Int)).toNat; omega⟩
      · walk_at "sts"
        exact ⟨⟨m, k, a, c, l / 2, rfl, e12, hu, ⟨dk, hk2⟩, by (have h3 : l / 2 = 0 := by omega); rw [h3] at hac' ⊢; omega, hc⟩, by show (((l / 2 : Nat) : Int)).toNat < ((l : Int)).toNat; omega⟩
  · walk_at "sts"
    have hl0 : l = 0 := by omega
    subst hl0
    have : a = n := by omega
    subst this
    exact q m H1 e1 hm
end


/-! ### lists of plays -/
abbrev Pl := List (Int × Int)
def PrV (H : Hp) (v : V) (p : Int × Int) : Prop := ∃ t, v = .ref t ∧ H t = some (.tup [.int p.1, .int p.2])
def Prs (H : Hp) : List V → Pl → Prop
  | [], [] => True
  | v :: vs, p :: ps => PrV H v p ∧ Prs H vs ps
  | _, _ => False
theorem Prs.up {H H' : Hp} (s : Same H H') : ∀ {xs : List V} {ps : Pl}, Prs H xs ps → Prs H' xs ps
  | [], [], _ => trivial
  | _ :: _, _ :: _, ⟨⟨t, e, h⟩, r⟩ => ⟨⟨t, e, s _ _ h⟩, r.up s⟩
theorem Prs.upd {H : Hp} {l : Addr} {zs : List V} {o : HO} (hl : H l = some (.lst zs)) : ∀ {xs : List V} {ps : Pl}, Prs H xs ps → Prs (L2.upd H l o) xs ps
  | [], [], _ => trivial
  | _ :: _, _ :: _, ⟨⟨t, e, h⟩, r⟩ => ⟨⟨t, e, by rw [upd_ne (ne_of h hl (by intro z; cases z))]; exact h⟩, r.upd hl⟩
theorem Prs.but {H H' : Hp} {a : Addr} {zs : List V} (ha : H a = some (.lst zs)) (b : But a H H') : ∀ {xs : List V} {ps : Pl}, Prs H xs ps → Prs H' xs ps
  | [], [], _ => trivial
  | _ :: _, _ :: _, ⟨⟨t, e, h⟩, r⟩ => ⟨⟨t, e, b.tup ha h⟩, r.but ha b⟩
theorem Prs.len {H : Hp} : ∀ {xs : List V} {ps : Pl}, Prs H xs ps → xs.length = ps.length
  | [], [], _ => rfl
  | _ :: _, _ :: _, ⟨_, r⟩ => by simp [r.len]
theorem Prs.app {H : Hp} {v : V} {p : Int × Int} (h : PrV H v p) : ∀ {xs : List V} {ps : Pl}, Prs H xs ps → Prs H (xs ++ [v]) (ps ++ [p])
  | [], [], _ => ⟨h, trivial⟩
  | _ :: _, _ :: _, ⟨a, r⟩ => ⟨a, r.app h⟩
theorem Prs.get {H : Hp} : ∀ {xs : List V} {ps : Pl} {k : Nat} {v : V}, Prs H xs ps → xs[k]? = some v → ∃ p, ps[k]? = some p ∧ PrV H v p
  | _ :: _, p :: _, 0, v, ⟨a, r⟩, e => by
    cases (Option.some.inj e)
    exact ⟨p, rfl, a⟩
  | _ :: _, _ :: _, k + 1, v, ⟨a, r⟩, e => by
    have e2 : (_ : List V)[k]? = some v := e
    obtain ⟨p, h1, h2⟩ := r.get e2
    exact ⟨p, h1, h2⟩
def PlL (ps : Pl) : Rl := fun H v => ∃ l xs, v = .ref l ∧ H l = some (.lst xs) ∧ Prs H xs ps
instance {ps : Pl} : LastR (PlL ps) := ⟨fun _ _ _ s ⟨l, xs, e, h, r⟩ => ⟨l, xs, e, s _ _ h, r.up s⟩⟩
def s1 (ps : Pl) : Int := (ps.map (·.1)).sum
def s2 (ps : Pl) : Int := (ps.map (·.2)).sum
def tri (ps : Pl) : T3 := ((ps.length : Int), s1 ps, s2 ps)
theorem tri_app (xs ys : Pl) : tri (xs ++ ys) = add3 (tri xs) (tri ys) := t3ext (by simp [tri, add3]) (by simp [tri, add3, s1]) (by simp [tri, add3, s2])
theorem take1 {ps : Pl} {k : Nat} {p : Int × Int} (h : ps[k]? = some p) : ps.take (k + 1) = ps.take k ++ [p] := by
  rw [List.take_add_one, h]
  rfl
def shift (a : Int × Int) (ys : Pl) : Pl := ys.map fun b => (a.1 + b.1, a.2 + b.2)
def pairsL (xs ys : Pl) : Pl := xs.flatMap fun a => shift a ys
theorem tri_shift (a : Int × Int) (ys : Pl) : tri (shift a ys) = mul3 (1, a.1, a.2) (tri ys) := by
  induction ys with
  | nil => refine t3ext ?_ ?_ ?_ <;> simp [tri, shift, mul3, s1, s2]
  | cons b ys ih =>
    have e : shift a (b :: ys) = [(a.1 + b.1, a.2 + b.2)] ++ shift a ys := rfl
    have e2 : (b :: ys) = [b] ++ ys := rfl
    rw [e, tri_app, ih, e2, tri_app]
    refine t3ext ?_ ?_ ?_ <;> simp only [tri, mul3, add3, s1, s2, List.length_cons, List.length_nil, List.map_cons, List.map_nil, List.sum_cons, List.sum_nil] <;> grind
theorem tri_pairs (xs ys : Pl) : tri (pairsL xs ys) = mul3 (tri xs) (tri ys) := by
  induction xs with
  | nil =>
    refine t3ext ?_ ?_ ?_ <;> simp [tri, mul3, pairsL, s1, s2]
  | cons a xs ih =>
    have e : pairsL (a :: xs) ys = shift a ys ++ pairsL xs ys := rfl
    have e2 : (a :: xs) = [a] ++ xs := rfl
    rw [e, tri_app, ih, tri_shift, e2, tri_app]
    refine t3ext ?_ ?_ ?_ <;> simp only [tri, mul3, add3, s1, s2, List.length_cons, List.length_nil, List.map_cons, List.map_nil, List.sum_cons, List.sum_nil] <;> grind
theorem len_pairs (xs ys : Pl) : (pairsL xs ys).length = xs.length * ys.length := by
  induction xs with
  | nil => simp [pairsL]
  | cons a xs ih =>
    have e : pairsL (a :: xs) ys = shift a ys ++ pairsL xs ys := rfl
    rw [e, List.length_append, ih]
    simp [shift, Nat.succ_mul, Nat.add_comm]
def cops (ps : Pl) : Nat → Pl
  | 0 => [(0, 0)]
  | n + 1 => pairsL (cops ps n) ps
theorem tri_cops (ps : Pl) (n : Nat) : tri (cops ps n) = pow3 (tri ps) n := by
  induction n with
  | zero => rfl
  | succ n ih => show tri (pairsL (cops ps n) ps) = mul3 _ _; rw [tri_pairs, ih]
theorem len_cops {ps : Pl} (h : ps.length ≤ 4) (n : Nat) : (cops ps n).length ≤ 4 ^ n := by
  induction n with
  | zero => exact Nat.le_refl _
  | succ n ih => show (pairsL (cops ps n) ps).length ≤ _; rw [len_pairs, Nat.pow_succ]; exact Nat.mul_le_mul ih h
theorem Same.updN {H H1 : Hp} {f : Addr} {o : HO} (s : Same H H1) (n : H f = none) : Same H (upd H1 f o) := fun x u h => by
  rw [upd_ne (ne_of_none h n)]
  exact s x u h
section
variable {P : Program} {w : World} {K : PySem.W.Frag} {mg : Str → Option Value} {base : Heap} {C : Addr}
theorem e_mk {X : Cx} {N G : List Str} {sc : Scope} {e : Expr} {es : List Expr} {σ : L2.St} {H : Hp} {Q : VK} {p0 pos : Pos} {g k n : Nat} {x : Str} {C : Addr} (F : Kl X.prog X.w X.K X.mg X.base k x C (spInit C)) (hr : Room n X.A) (hk : k + 1 ≤ n)
    (q : wA X (e :: es) σ H fun vs H1 => ∃ z : T3, vs = [.int z.1, .int z.2.1, .int z.2.2] ∧ ∀ p H', Same H1 H' → TlAt C H' p z → Q (.ref p) H')
    (I : Wk.In X N G sc := by assumption) (hG : At G g x := by repeat (first | with_reducible apply At.z | with_reducible apply At.s)) (he : starEach (e :: es) X.env = (false, eval e X.env) :: starEach es X.env := by rfl) (hpl : (backTo pos (starEach es X.env)).any (·.1) = false := by rfl) :
    wE X (.Call (.Name x p0) (e :: es) [] pos) σ H Q :=
  e_make F hr hk (a_mono q fun vs H1 z => by
    obtain ⟨z, rfl, q⟩ := z
    exact make_of rfl q) I hG he hpl
def spCop (C : Addr) : Sp := fun vs H Q _ => ∃ (p : Addr) (x : T3) (n b : Nat), vs = [.ref p, .int n] ∧ TlAt C H p x ∧ Bd b x ∧ n ≤ 64 ∧ b ≤ 100 ∧ ∀ u H', Same H H' → TlAt C H' u (pow3 x n) → Q (.ref u) H'
theorem ok_copied (T : TopM K C "copied" "Tally.copied" s_Tally_copied) (O : ClsOk K mg C) (F : Kl P w K mg base 1 "Tally" C (spInit C)) (FP : Fn P w K mg base 4 "power" (spPow C)) : Mt P w K mg base 5 C "copied" (spCop C) := by
  obtain ⟨f, fd, G, hb, hf, hi, hk⟩ := me_ok (P := P) (w := w) (mg := mg) (base := base) (k := 4) (sp := spCop C) T sc_Tally_copied so_Tally_copied (fun vs H Q E h => by obtain ⟨p, x, n, b, rfl, _⟩ := h; rfl) (fun _ _ _ _ _ _ us hl => match us, hl with | [_, _], _ => rfl) fun f cdv A outer s H vs Q E hr h nd => by
    obtain ⟨p, x, n, b, rfl, ⟨dx, hp⟩, hx, hn, hb, q⟩ := h
    walk_at "sts"
    refine e_call (by exact FP) (by exact hr) (by decide) ?_
    walk_at "sts"
    refine e_mk (by exact F) (by exact hr) (by decide) ?_
    walk_at "sts"
    refine ⟨one3, rfl, fun r H1 e1 h1 => ?_⟩
    walk_at "sts"
    exact ⟨p, r, x, n, b, rfl, ⟨dx, e1 _ _ hp⟩, h1, hx, hn, hb, fun u H2 e2 h2 => q u H2 (e1.trans e2) h2⟩
  exact ⟨f, fd, _, G, ⟨hf, hi, hk⟩, hb, O.cl⟩
/-- a drawn list, apart from the pool -/
def LsAt (a : Addr) (H : Hp) (v : V) (ps : Pl) : Prop := ∃ l xs, v = .ref l ∧ l ≠ a ∧ H l = some (.lst xs) ∧ Prs H xs ps
theorem LsAt.pl {a : Addr} {H : Hp} {v : V} {ps : Pl} (h : LsAt a H v ps) : PlL ps H v := let ⟨l, xs, e, _, h, r⟩ := h; ⟨l, xs, e, h, r⟩
theorem LsAt.up {a : Addr} {H H' : Hp} {v : V} {ps : Pl} (s : Same H H') (h : LsAt a H v ps) : LsAt a H' v ps := let ⟨l, xs, e, n, h, r⟩ := h; ⟨l, xs, e, n, s _ _ h, r.up s⟩
theorem LsAt.but {a : Addr} {H H' : Hp} {v : V} {ps : Pl} (b : But a H H') (hp : PoolAt H a) (h : LsAt a H v ps) : LsAt a H' v ps := by
  obtain ⟨l, xs, e, n, h, r⟩ := h
  obtain ⟨x, y, z, hp⟩ := hp
  exact ⟨l, xs, e, n, b l _ n h, r.but hp b⟩
def Fine (ps : Pl) : Prop := ps.length ≤ 4 ∧ ∀ p ∈ ps, 0 ≤ p.1 ∧ p.1 ≤ 60 ∧ 0 ≤ p.2 ∧ p.2 ≤ 1000
theorem Fine.bd {ps : Pl} (h : Fine ps) : Bd 13 (tri ps) := by
  obtain ⟨h1, h2⟩ := h
  match ps, h1, h2 with
  | [], _, _ => exact ⟨by decide, by decide, by decide⟩
  | [a], _, h => 
    have ha := h a (by simp)
    refine ⟨?_, ?_, ?_⟩ <;> simp [tri, s1, s2] <;> omega
  | [a, b], _, h => 
    have ha := h a (by simp)
    have hb := h b (by simp)
    refine ⟨?_, ?_, ?_⟩ <;> simp [tri, s1, s2] <;> omega
  | [a, b, c], _, h => 
    have ha := h a (by simp)
    have hb := h b (by simp)
    have hc := h c (by simp)
    refine ⟨?_, ?_, ?_⟩ <;> simp [tri, s1, s2] <;> omega
  | [a, b, c, d], _, h => 
    have ha := h a (by simp)
    have hb := h b (by simp)
    have hc := h c (by simp)
    have hd := h d (by simp)
    refine ⟨?_, ?_, ?_⟩ <;> simp [tri, s1, s2] <;> omega
def spList : Sp := fun vs H Q _ => ∃ a, vs = [.ref a] ∧ PoolAt H a ∧ ∀ v ps H', But a H H' → PoolAt H' a → LsAt a H' v ps → Fine ps → (∀ l, v = .ref l → H l = none) → Q v H'
theorem ok_list (T : Top K mg "_law_list" s_list) (F : Fn P w K mg base 1 "_law_next" spNext) (mR : mg "range" = none) : Fn P w K mg base 2 "_law_list" spList := by
  refine fn_okC T sc_list so_list (fun vs H Q E h => by obtain ⟨a, rfl, _⟩ := h; rfl) (fun _ _ _ _ _ _ us hl => match us, hl with | [_], _ => rfl) fun f cdv A outer s H vs Q E hr h nd => ?_
  obtain ⟨a, rfl, hp, q⟩ := h
  refine l_cons (s_ret (e_lcR (by exact bk_list0) (by exact mR) ?_))
  refine e_call (by exact F) (by exact hr) (by decide) ?_
  walk_at "sts"
  refine ⟨a, 5, rfl, by decide, by decide, hp, fun d H1 d0 d1 b1 p1 => ?_⟩
  refine ⟨d.toNat, by rw [Int.toNat_of_nonneg d0], by omega, fun D hD => ?_⟩
  have hDa : D ≠ a := by
    intro e
    subst e
    obtain ⟨x, y, z, p1⟩ := p1
    rw [p1] at hD
    cases hD
  refine ⟨fun k H2 => ∃ acc ps, H2 D = some (.lst acc) ∧ Prs H2 acc ps ∧ ps.length = k ∧ (∀ p ∈ ps, 0 ≤ p.1 ∧ p.1 ≤ 60 ∧ 0 ≤ p.2 ∧ p.2 ≤ 1000) ∧ But a H H2 ∧ PoolAt H2 a, ?_, fun k H2 hk hW s0 H0 C cl fp IB => ?_, fun H2 hW => ?_⟩
  · refine ⟨[], [], upd_same, trivial, rfl, by simp, ?_, ?_⟩
    · intro x o n h
      rw [upd_ne (ne_of_none (b1 x o n h) hD)]
      exact b1 x o n h
    · obtain ⟨x, y, z, p1⟩ := p1
      exact ⟨x, y, z, by rw [upd_ne hDa.symm]; exact p1⟩
  · obtain ⟨acc, ps, hD2, hps, hl, hb, b2, p2⟩ := hW
    refine e_tup (a_cons (e_bin (e_int (b_call (by exact F) (by exact hr) (by decide) (a_cons (b_var (a_cons (e_int (a_nil ?_)))))))))
    refine ⟨a, 60, rfl, by decide, by decide, p2, fun d2 H3 e0 e1 b3 p3 => ?_⟩
    refine o_add (a_cons (b_call (by exact F) (by exact hr) (by decide) (a_cons (b_var (a_cons (e_int (a_nil ?_)))))))
    refine ⟨a, 1000, rfl, by decide, by decide, p3, fun d3 H4 f0 f1 b4 p4 => ?_⟩
    refine a_nil ⟨by show 2 ≤ sizeLine; decide, fun t H5 e5 nt ht => ?_⟩
    have hD3 := b3 D _ hDa hD2
    have hD4 := b4 D _ hDa hD3
    have hD5 := e5 _ _ hD4
    have hs3 : Prs H3 acc ps := by obtain ⟨x, y, z, p2⟩ := p2; exact hps.but p2 b3
    have hs4 : Prs H4 acc ps := by obtain ⟨x, y, z, p3⟩ := p3; exact hs3.but p3 b4
    have hs5 := hs4.up e5
    refine ⟨acc, hD5, ?_, acc ++ [.ref t], ps ++ [(1 + d2, d3)], upd_same, ?_, by simp [hl], ?_, ?_, ?_⟩
    · rw [hs5.len, hl]
      show k < 2 ^ 24
      omega
    · refine Prs.app ?_ (hs5.upd hD5)
      exact ⟨t, rfl, by rw [upd_ne (ne_of ht hD5 (by intro z; cases z))]; exact ht⟩
    · intro p hp
      rcases List.mem_append.mp hp with h | h
      · exact hb p h
      · simp only [List.mem_singleton] at h
        subst h
        exact ⟨by show 0 ≤ 1 + d2; omega, by show 1 + d2 ≤ 60; omega, f0, by show d3 ≤ 1000; omega⟩
    · intro x o n h
      have h5 := e5 _ _ (b4 x o n (b3 x o n (b2 x o n h)))
      by_cases hx : x = D
      · subst hx
        exact absurd (b1 x o n h) (by rw [hD]; intro z; cases z)
      · rw [upd_ne hx]
        exact h5
    · obtain ⟨x, y, z, p4⟩ := p4
      exact ⟨x, y, z, by rw [upd_ne hDa.symm]; exact e5 _ _ p4⟩
  · obtain ⟨acc, ps, hD2, hps, hl, hb, b2, p2⟩ := hW
    refine q _ ps H2 b2 p2 ⟨D, acc, rfl, hDa, hD2, hps⟩ ⟨by omega, hb⟩ fun l e => ?_
    cases e
    cases hz : H D with
    | none => rfl
    | some o => exact absurd (b1 D o hDa hz) (by rw [hD]; intro z; cases z)
theorem ok_triple (T : Top K mg "_law_triple" s_triple) (mLen : mg "len" = none) : Fn P w K mg base 1 "_law_triple" (spG (fun ps : Pl => [PlL ps]) fun ps => Tr (tri ps)) := by
  refine fn_ok T sc_triple so_triple (fun vs H Q E h => by obtain ⟨_, h, _⟩ := h; exact h.len) (fun _ _ _ _ _ _ us hl => match us, hl with | [_], _ => rfl) fun f cdv A outer s H vs Q E hr h nd => ?_
  obtain ⟨ps, ⟨v, _, rfl, ⟨l, xs, rfl, hl, hps⟩, rfl⟩, q⟩ := h
  walk_at "sts"
  refine s_forL ?_
  walk_at "sts"
  refine ⟨l, xs, rfl, SqL.of hl, fun k σ H' => ∃ y, σ = [some (.ref l), some (.int (s1 (ps.take k))), some (.int (s2 (ps.take k))), y] ∧ H' = H, ⟨_, rfl, rfl⟩, fun k σ H' _ hW => ?_, fun k m σ H' hk hW => ?_, fun σ H' hW => ?_⟩
  · obtain ⟨y, rfl, rfl⟩ := hW
    exact SqL.of hl
  · obtain ⟨y, rfl, rfl⟩ := hW
    obtain ⟨p, hp, t, rfl, ht⟩ := hps.get hk
    walk_at "sts"
    refine ix_t (by exact SqT.of (ht)) rfl ?_
    walk_at "sts"
    refine ix_t (by exact SqT.of (ht)) rfl ?_
    walk_at "sts"
    refine ⟨some (.ref t), ?_, rfl⟩
    rw [take1 hp]
    simp only [s1, s2, List.map_append, List.sum_append, List.map_cons, List.map_nil, List.sum_cons, List.sum_nil, Int.add_zero]
    rfl
  · obtain ⟨y, rfl, rfl⟩ := hW
    rw [hps.len, List.take_length]
    walk_at "sts"
    refine c_lenL (by exact SqL.of hl) ?_
    rw [hps.len]
    walk_at "sts"
    exact ⟨by show 3 ≤ sizeLine; decide, fun u H2 e _ hu => q _ H2 e ⟨u, rfl, hu⟩⟩
/-- the pairs of two lists; the length is bounded -/
def spPairs : Sp := fun vs H Q _ => ∃ v u xs ys, vs = [v, u] ∧ PlL xs H v ∧ PlL ys H u ∧ xs.length * ys.length ≤ 100000 ∧ ∀ r H', Same H H' → PlL (pairsL xs ys) H' r → Q r H'
theorem ok_pairs (T : Top K mg "_law_pairs" s_pairs) : Fn P w K mg base 1 "_law_pairs" spPairs := by
  refine fn_ok T sc_pairs so_pairs (fun vs H Q E h => by obtain ⟨v, u, xs, ys, rfl, _⟩ := h; rfl) (fun _ _ _ _ _ _ us hl => match us, hl with | [_, _], _ => rfl) fun f cdv A outer s H vs Q E hr h nd => ?_
  obtain ⟨v, u, ps, qs, rfl, ⟨l, xs, rfl, hl, hps⟩, ⟨m, ys, rfl, hm, hqs⟩, hz, q⟩ := h
  walk_at "sts"
  refine ⟨by show 0 ≤ sizeLine; decide, fun f H1 e1 nf hf => ?_⟩
  walk_at "sts"
  refine s_forL ?_
  walk_at "sts"
  have fm : f ≠ m := fun e => by subst e; rw [hm] at nf; cases nf
  have fl : f ≠ l := fun e => by subst e; rw [hl] at nf; cases nf
  refine ⟨l, xs, rfl, SqL.of (e1 _ _ hl), fun k σ H' => ∃ y z acc, σ = [some (.ref l), some (.ref m), some (.ref f), y, z] ∧ Same H H' ∧ H' f = some (.lst acc) ∧ Prs H' acc (pairsL (ps.take k) qs), ⟨_, _, _, rfl, e1, hf, trivial⟩, fun k σ H' _ hW => ?_, fun k a σ H' hk hW => ?_, fun σ H' hW => ?_⟩
  · obtain ⟨y, z, acc, rfl, e2, _⟩ := hW
    exact SqL.of (e2 _ _ hl)
  · obtain ⟨y, z, acc, rfl, e2, hf2, hacc⟩ := hW
    obtain ⟨p, hp, t, rfl, ht⟩ := (hps.up e2).get hk
    have kl : k < ps.length := (List.getElem?_eq_some_iff.mp hp).1
    walk_at "sts"
    refine s_forL ?_
    walk_at "sts"
    refine ⟨m, ys, rfl, SqL.of (e2 _ _ hm), fun j σ H3 => ∃ z acc, σ = [some (.ref l), some (.ref m), some (.ref f), some (.ref t), z] ∧ Same H H3 ∧ H3 t = some (.tup [.int p.1, .int p.2]) ∧ H3 f = some (.lst acc) ∧ Prs H3 acc (pairsL (ps.take k) qs ++ shift p (qs.take j)), ⟨_, _, rfl, e2, ht, hf2, by rw [List.take_zero]; simpa [shift] using hacc⟩, fun j σ H3 _ hW => ?_, fun j b σ H3 hj hW => ?_, fun σ H3 hW => ?_⟩
    · obtain ⟨z, acc, rfl, e3, _⟩ := hW
      exact SqL.of (e3 _ _ hm)
    · obtain ⟨z, acc, rfl, e3, ht3, hf3, hacc⟩ := hW
      obtain ⟨p2, hp2, t2, rfl, ht2⟩ := (hqs.up e3).get hj
      have jl : j < qs.length := (List.getElem?_eq_some_iff.mp hp2).1
      refine l_cons (s_expr (e_app ?_))
      walk_at "sts"
      refine ⟨f, acc, rfl, SqL.of hf3, ?_⟩
      walk_at "sts"
      refine ix_t (by exact SqT.of (ht3)) rfl ?_
      walk_at "sts"
      refine ix_t (by exact SqT.of (ht2)) rfl ?_
      walk_at "sts"
      refine ix_t (by exact SqT.of (ht3)) rfl ?_
      walk_at "sts"
      refine ix_t (by exact SqT.of (ht2)) rfl ?_
      walk_at "sts"
      refine ⟨by show 2 ≤ sizeLine; decide, fun r H4 e4 nr hr4 => ?_⟩
      have hf4 := e4 _ _ hf3
      have hlen : acc.length < 100000 := by
        rw [hacc.len, List.length_append, len_pairs]
        simp only [shift, List.length_map, List.length_take]
        have h1 : min k ps.length = k := Nat.min_eq_left (Nat.le_of_lt kl)
        have h2 : min j qs.length = j := Nat.min_eq_left (Nat.le_of_lt jl)
        rw [h1, h2]
        have h3 : (k + 1) * qs.length ≤ ps.length * qs.length := Nat.mul_le_mul_right _ kl
        rw [Nat.succ_mul] at h3
        omega
      refine ⟨acc, hf4, by show acc.length < 2 ^ 24; omega, ?_⟩
      refine l_nil ⟨_, _, rfl, Same.updN (e3.trans e4) nf, ?_, upd_same, ?_⟩
      · rw [upd_ne (ne_of ht3 hf3 (by intro z; cases z))]
        exact e4 _ _ ht3
      · rw [take1 hp2]
        have := Prs.app (p := (p.1 + p2.1, p.2 + p2.2)) ⟨r, rfl, by rw [upd_ne (ne_of hr4 hf4 (by intro z; cases z))]; exact hr4⟩ ((hacc.up e4).upd (o := .lst (acc ++ [.ref r])) hf4)
        simpa [shift, List.append_assoc] using this
    · obtain ⟨z, acc, rfl, e3, ht3, hf3, hacc⟩ := hW
      refine l_nil ⟨_, _, acc, rfl, e3, hf3, ?_⟩
      rw [hqs.len, List.take_length] at hacc
      rw [take1 hp]
      simpa [pairsL] using hacc
  · obtain ⟨y, z, acc, rfl, e2, hf2, hacc⟩ := hW
    rw [hps.len, List.take_length] at hacc
    walk_at "sts"
    exact q _ H' e2 ⟨f, acc, rfl, hf2, hacc⟩
end


section
variable {P : Program} {w : World} {K : PySem.W.Frag} {mg : Str → Option Value} {base : Heap} {C : Addr}
theorem ok_copies (T : Top K mg "_law_copies" s_copies) (F : Fn P w K mg base 1 "_law_pairs" spPairs) (mR : mg "range" = none) : Fn P w K mg base 2 "_law_copies" (fun vs H Q _ => ∃ v ps, ∃ n : Nat, vs = [v, .int n] ∧ PlL ps H v ∧ ps.length ≤ 4 ∧ n ≤ 8 ∧ ∀ r H', Same H H' → PlL (cops ps n) H' r → Q r H') := by
  refine fn_ok T sc_copies so_copies (fun vs H Q E h => by obtain ⟨v, ps, n, rfl, _⟩ := h; rfl) (fun _ _ _ _ _ _ us hl => match us, hl with | [_, _], _ => rfl) fun f cdv A outer s H vs Q E hr h nd => ?_
  obtain ⟨v, ps, n, rfl, hv, h4, hn, q⟩ := h
  walk_at "sts"
  refine ⟨by show 2 ≤ sizeLine; decide, fun t H1 e1 _ ht => ?_⟩
  walk_at "sts"
  refine ⟨by show 1 ≤ sizeLine; decide, fun l H2 e2 _ hl => ?_⟩
  have e12 := e1.trans e2
  walk_at "sts"
  refine s_forR (by assumption) ?_
  walk_at "sts"
  refine ⟨by omega, fun k σ H' => ∃ r y, σ = [some v, some (.int n), some r, y] ∧ Same H H' ∧ PlL (cops ps k) H' r, ⟨_, _, rfl, e12, l, _, rfl, hl, ⟨t, rfl, e2 _ _ ht⟩, trivial⟩, fun k σ H3 hk hW => ?_, fun σ H3 hW => ?_⟩
  · obtain ⟨r, y, rfl, e3, hr3⟩ := hW
    walk_at "sts"
    refine e_call (by exact F) (by exact hr) (by decide) ?_
    walk_at "sts"
    have hle : (cops ps k).length * ps.length ≤ 100000 := by
      have h1 := len_cops h4 k
      have h2 : 4 ^ k ≤ 4 ^ 8 := Nat.pow_le_pow_right (by decide) (by omega)
      have h3 := Nat.mul_le_mul (Nat.le_trans h1 h2) h4
      have : (4 : Nat) ^ 8 * 4 = 262144 := by decide
      have h5 : 4 ^ k ≤ 4 ^ 7 := Nat.pow_le_pow_right (by decide) (by omega)
      have h6 := Nat.mul_le_mul (Nat.le_trans h1 h5) h4
      have : (4 : Nat) ^ 7 * 4 = 65536 := by decide
      omega
    refine ⟨r, v, cops ps k, ps, rfl, hr3, LastR.up _ _ _ e3 hv, hle, fun r' H4 e4 h4 => ?_⟩
    walk_at "sts"
    exact ⟨r', _, rfl, e3.trans e4, h4⟩
  · obtain ⟨r, y, rfl, e3, hr3⟩ := hW
    walk_at "sts"
    exact q r H3 e3 hr3
def spRoom : Sp := fun vs H Q _ => ∃ c m : Nat, vs = [.int c, .int m] ∧ c ≤ 4 ∧ m ≤ 8 ∧ ∀ m' : Nat, m' ≤ 8 → Q (.int m') H
theorem ok_room (T : Top K mg "_law_room" s_room) (mR : mg "range" = none) (mMax : mg "max" = none) : Fn P w K mg base 1 "_law_room" spRoom := by
  refine fn_ok T sc_room so_room (fun vs H Q E h => by obtain ⟨c, m, rfl, _⟩ := h; rfl) (fun _ _ _ _ _ _ us hl => match us, hl with | [_, _], _ => rfl) fun f cdv A outer s H vs Q E hr h nd => ?_
  obtain ⟨c, m, rfl, hc, hm, q⟩ := h
  walk_at "sts"
  refine s_forR (by assumption) ?_
  walk_at "sts"
  refine ⟨by decide, fun k σ H' => ∃ m' : Nat, ∃ y z u, σ = [some (.int c), some (.int m'), y, z, u] ∧ H' = H ∧ m' ≤ 8, ⟨m, _, _, _, rfl, rfl, hm⟩, fun k σ H3 hk hW => ?_, fun σ H3 hW => ?_⟩
  · obtain ⟨m', y, z, u, rfl, rfl, hm'⟩ := hW
    walk_at "sts"
    refine s_forR (by assumption) ?_
    walk_at "sts"
    refine ⟨by omega, fun j σ H4 => ∃ (i : Int) (u : Option V), σ = [some (.int c), some (.int m'), some (.int k), some (.int i), u] ∧ H4 = H3 ∧ (j = 0 → i = 1), ⟨1, _, rfl, rfl, fun _ => rfl⟩, fun j σ H4 hj hW => ?_, fun σ H4 hW => ?_⟩
    · obtain ⟨i, u, rfl, rfl, hi⟩ := hW
      walk_at "sts"
      refine o_mul (.inr ⟨by split <;> omega, by split <;> omega⟩) ?_
      walk_at "sts"
      exact ⟨_, _, rfl, rfl, fun h => absurd h (Nat.succ_ne_zero j)⟩
    · obtain ⟨i, u, rfl, rfl, hi⟩ := hW
      walk_at "sts"
      refine if2 (fun h => ?_) (fun h => ?_)
      · walk_at "sts"
        refine s_brk ?_
        walk_at "sts"
        exact q m' hm'
      · walk_at "sts"
        have hm0 : m' ≠ 0 := fun e => h (by rw [hi e]; decide)
        obtain ⟨m2, rfl⟩ := Nat.exists_eq_succ_of_ne_zero hm0
        refine ⟨m2, some (.int k), some (.int i), u, ?_, rfl, by omega⟩
        have e : ((Nat.succ m2 : Nat) : Int) - 1 = (m2 : Int) := by omega
        rw [e]
        rfl
  · obtain ⟨m', y, z, u, rfl, rfl, hm'⟩ := hW
    walk_at "sts"
    exact q m' hm'
def spLarge : Sp := fun vs H Q _ => ∃ a, vs = [.ref a] ∧ PoolAt H a ∧ ∀ v x H', But a H H' → PoolAt H' a → Tr x H' v → Bd 22 x → Q v H'
theorem Tr.but {H H' : Hp} {a : Addr} {v : V} {x : T3} (hp : PoolAt H a) (b : But a H H') (h : Tr x H v) : Tr x H' v := by
  obtain ⟨i, j, k, hp⟩ := hp
  obtain ⟨t, e, ht⟩ := h
  exact ⟨t, e, b.tup hp ht⟩
theorem PoolAt.up {H H' : Hp} {a : Addr} (e : Same H H') (h : PoolAt H a) : PoolAt H' a := let ⟨x, y, z, p⟩ := h; ⟨x, y, z, e _ _ p⟩
theorem bd22 {a b c : Int} (h1 : 0 ≤ a) (h2 : a ≤ 2000001) (h3 : 0 ≤ b) (h4 : b ≤ 2000001) (h5 : 0 ≤ c) (h6 : c ≤ 2000001) : Bd 22 (a, b, c) := ⟨by show a.natAbs < 4194304; omega, by show b.natAbs < 4194304; omega, by show c.natAbs < 4194304; omega⟩
theorem ok_large (T : Top K mg "_law_large" s_large) (F : Fn P w K mg base 1 "_law_next" spNext) : Fn P w K mg base 2 "_law_large" spLarge := by
  refine fn_ok T sc_large so_large (fun vs H Q E h => by obtain ⟨a, rfl, _⟩ := h; rfl) (fun _ _ _ _ _ _ us hl => match us, hl with | [_], _ => rfl) fun f cdv A outer s H vs Q E hr h nd => ?_
  obtain ⟨a, rfl, hp, q⟩ := h
  have fin : ∀ (H1 : Hp) (m d : Int), But a H H1 → PoolAt H1 a → ∀ d2 H2 d3 H3, 0 ≤ m → m ≤ 1000000 → 0 ≤ d2 → d2 < 1000001 → But a H1 H2 → PoolAt H2 a → 0 ≤ d3 → d3 < 1000001 → But a H2 H3 → PoolAt H3 a → ∀ p H4, Same H3 H4 → H4 p = some (.tup [.int m, .int (m + d2), .int d3]) → Q (.ref p) H4 := by
    intro H1 m d b1 p1 d2 H2 d3 H3 m0 m1 d20 d21 b2 p2 d30 d31 b3 p3 p H4 e4 hp4
    exact q (.ref p) (m, m + d2, d3) H4 (((b1.trans b2).trans b3).trans (But.of e4)) (p3.up e4) ⟨p, rfl, hp4⟩ (bd22 m0 (by omega) (by omega) (by omega) d30 (by omega))
  have zero : ∀ (H1 : Hp), But a H H1 → PoolAt H1 a → ∀ p H4, Same H1 H4 → H4 p = some (.tup [.int 0, .int 0, .int 0]) → Q (.ref p) H4 := by
    intro H1 b1 p1 p H4 e4 hp4
    exact q (.ref p) (0, 0, 0) H4 (b1.trans (But.of e4)) (p1.up e4) ⟨p, rfl, hp4⟩ (bd22 (by decide) (by decide) (by decide) (by decide) (by decide) (by decide))
  walk_at "sts"
  refine e_call (by exact F) (by exact hr) (by decide) ?_
  walk_at "sts"
  refine ⟨a, 1000001, rfl, by decide, by decide, hp, fun d H1 d0 d1 b1 p1 => ?_⟩
  walk_at "sts"
  refine e_call (by exact F) (by exact hr) (by decide) ?_
  walk_at "sts"
  refine ⟨a, 3, rfl, by decide, by decide, p1, fun d' H2 c0 c1 b2 p2 => ?_⟩
  walk_at "sts"
  refine if2 (fun _ => ?_) (fun _ => ?_)
  · walk_at "sts"
    refine e_call (by exact F) (by exact hr) (by decide) ?_
    walk_at "sts"
    refine ⟨a, 3, rfl, by decide, by decide, p2, fun m H3 m0 m1 b3 p3 => ?_⟩
    walk_at "sts"
    refine if2 (fun h => ?_) (fun h => ?_)
    · walk_at "sts"
      exact ⟨by show 3 ≤ sizeLine; decide, fun p H4 e4 _ hp4 => zero H3 ((b1.trans b2).trans b3) p3 p H4 e4 hp4⟩
    · walk_at "sts"
      refine e_call (by exact F) (by exact hr) (by decide) ?_
      walk_at "sts"
      refine ⟨a, 1000001, rfl, by decide, by decide, p3, fun d2 H4 f0 f1 b4 p4 => ?_⟩
      walk_at "sts"
      refine e_call (by exact F) (by exact hr) (by decide) ?_
      walk_at "sts"
      refine ⟨a, 1000001, rfl, by decide, by decide, p4, fun d3 H5 g0 g1 b5 p5 => ?_⟩
      walk_at "sts"
      exact ⟨by show 3 ≤ sizeLine; decide, fun p H6 e6 _ hp6 => fin H3 m d ((b1.trans b2).trans b3) p3 d2 H4 d3 H5 m0 (by omega) f0 f1 b4 p4 g0 g1 b5 p5 p H6 e6 hp6⟩
  · walk_at "sts"
    refine if2 (fun h => ?_) (fun h => ?_)
    · walk_at "sts"
      exact ⟨by show 3 ≤ sizeLine; decide, fun p H4 e4 _ hp4 => zero H2 (b1.trans b2) p2 p H4 e4 hp4⟩
    · walk_at "sts"
      refine e_call (by exact F) (by exact hr) (by decide) ?_
      walk_at "sts"
      refine ⟨a, 1000001, rfl, by decide, by decide, p2, fun d2 H4 f0 f1 b4 p4 => ?_⟩
      walk_at "sts"
      refine e_call (by exact F) (by exact hr) (by decide) ?_
      walk_at "sts"
      refine ⟨a, 1000001, rfl, by decide, by decide, p4, fun d3 H5 g0 g1 b5 p5 => ?_⟩
      walk_at "sts"
      exact ⟨by show 3 ≤ sizeLine; decide, fun p H6 e6 _ hp6 => fin H2 d d (b1.trans b2) p2 d2 H4 d3 H5 d0 (by omega) f0 f1 b4 p4 g0 g1 b5 p5 p H6 e6 hp6⟩
def spNumber : Sp := fun vs H Q _ => ∃ a, vs = [.ref a] ∧ PoolAt H a ∧ ∀ d H', 0 ≤ d → d < 1000001 → But a H H' → PoolAt H' a → Q (.int d) H'
theorem ok_number (T : Top K mg "_law_number" s_number) (F : Fn P w K mg base 1 "_law_next" spNext) : Fn P w K mg base 2 "_law_number" spNumber := by
  refine fn_ok T sc_number so_number (fun vs H Q E h => by obtain ⟨a, rfl, _⟩ := h; rfl) (fun _ _ _ _ _ _ us hl => match us, hl with | [_], _ => rfl) fun f cdv A outer s H vs Q E hr h nd => ?_
  obtain ⟨a, rfl, hp, q⟩ := h
  walk_at "sts"
  refine e_call (by exact F) (by exact hr) (by decide) ?_
  walk_at "sts"
  refine ⟨a, 4, rfl, by decide, by decide, hp, fun d H1 d0 d1 b1 p1 => ?_⟩
  walk_at "sts"
  refine if2 (fun _ => ?_) (fun _ => ?_)
  · walk_at "sts"
    refine e_call (by exact F) (by exact hr) (by decide) ?_
    walk_at "sts"
    refine ⟨a, 1000001, rfl, by decide, by decide, p1, fun d2 H2 f0 f1 b2 p2 => ?_⟩
    exact q d2 H2 f0 f1 (b1.trans b2) p2
  · walk_at "sts"
    refine e_call (by exact F) (by exact hr) (by decide) ?_
    walk_at "sts"
    refine ⟨a, 61, rfl, by decide, by decide, p1, fun d2 H2 f0 f1 b2 p2 => ?_⟩
    exact q d2 H2 f0 (by omega) (b1.trans b2) p2
theorem ok_sum (T : Top K mg "_law_sum" s_sum) : Fn P w K mg base 1 "_law_sum" (spG (fun z : T3 × T3 => [Tr z.1, Tr z.2]) fun z => Tr (add3 z.1 z.2)) := by
  refine fn_ok T sc_sum so_sum (fun vs H Q E h => by obtain ⟨_, h, _⟩ := h; exact h.len) (fun _ _ _ _ _ _ us hl => match us, hl with | [_, _], _ => rfl) fun f cdv A outer s H vs Q E hr h nd => ?_
  obtain ⟨⟨x, y⟩, ⟨v, _, rfl, ⟨t, rfl, ht⟩, u, _, rfl, ⟨r, rfl, hr'⟩, rfl⟩, q⟩ := h
  have ht : H t = some (.tup [.int x.1, .int x.2.1, .int x.2.2]) := ht
  have hr' : H r = some (.tup [.int y.1, .int y.2.1, .int y.2.2]) := hr'
  walk_at "sts"
  refine ix_t (by exact SqT.of (ht)) rfl ?_
  walk_at "sts"
  refine ix_t (by exact SqT.of (hr')) rfl ?_
  walk_at "sts"
  refine ix_t (by exact SqT.of (ht)) rfl ?_
  walk_at "sts"
  refine ix_t (by exact SqT.of (hr')) rfl ?_
  walk_at "sts"
  refine ix_t (by exact SqT.of (ht)) rfl ?_
  walk_at "sts"
  refine ix_t (by exact SqT.of (hr')) rfl ?_
  walk_at "sts"
  exact ⟨by show 3 ≤ sizeLine; decide, fun p H2 e _ hp => q (.ref p) H2 e ⟨p, rfl, hp⟩⟩
/-- the law's own product; the factors are bounded -/
def spProd : Sp := fun vs H Q _ => ∃ v u x y, vs = [v, u] ∧ Tr x H v ∧ Tr y H u ∧ cMul x y ∧ ∀ r H', Same H H' → Tr (mul3 x y) H' r → Q r H'
theorem ok_prod (T : Top K mg "_law_product" s_product) : Fn P w K mg base 1 "_law_product" spProd := by
  refine fn_ok T sc_product so_product (fun vs H Q E h => by obtain ⟨v, u, x, y, rfl, _⟩ := h; rfl) (fun _ _ _ _ _ _ us hl => match us, hl with | [_, _], _ => rfl) fun f cdv A outer s H vs Q E hr h nd => ?_
  obtain ⟨v, u, x, y, rfl, ⟨t, rfl, ht⟩, ⟨r, rfl, hr'⟩, ⟨n, m, hx, hy, n0, m0, nm⟩, q⟩ := h
  walk_at "sts"
  refine ix_t (by exact SqT.of (ht)) rfl ?_
  walk_at "sts"
  refine ix_t (by exact SqT.of (hr')) rfl ?_
  walk_at "sts"
  refine o_mulW (wide_mul hx.1 hy.1 n0 m0 (by omega)) ?_
  walk_at "sts"
  refine ix_t (by exact SqT.of (ht)) rfl ?_
  walk_at "sts"
  refine ix_t (by exact SqT.of (hr')) rfl ?_
  walk_at "sts"
  refine o_mulW (wide_mul hx.2.1 hy.1 n0 m0 (by omega)) ?_
  walk_at "sts"
  refine ix_t (by exact SqT.of (hr')) rfl ?_
  walk_at "sts"
  refine ix_t (by exact SqT.of (ht)) rfl ?_
  walk_at "sts"
  refine o_mulW (wide_mul hy.2.1 hx.1 m0 n0 (by omega)) ?_
  walk_at "sts"
  refine ix_t (by exact SqT.of (ht)) rfl ?_
  walk_at "sts"
  refine ix_t (by exact SqT.of (hr')) rfl ?_
  walk_at "sts"
  refine o_mulW (wide_mul hx.2.2 hy.1 n0 m0 (by omega)) ?_
  walk_at "sts"
  refine ix_t (by exact SqT.of (hr')) rfl ?_
  walk_at "sts"
  refine ix_t (by exact SqT.of (ht)) rfl ?_
  walk_at "sts"
  refine o_mulW (wide_mul hy.2.2 hx.1 m0 n0 (by omega)) ?_
  walk_at "sts"
  exact ⟨by show 3 ≤ sizeLine; decide, fun p H2 e _ hp => q (.ref p) H2 e ⟨p, rfl, hp⟩⟩
theorem ok_made (T : Top K mg "_law_made" s_made) (F : Kl P w K mg base 1 "Tally" C (spInit C)) : Fn P w K mg base 3 "_law_made" (spG (fun x : T3 => [Tr x]) fun x => Tl C x) := by
  refine fn_ok T sc_made so_made (fun vs H Q E h => by obtain ⟨_, h, _⟩ := h; exact h.len) (fun _ _ _ _ _ _ us hl => match us, hl with | [_], _ => rfl) fun f cdv A outer s H vs Q E hr h nd => ?_
  obtain ⟨x, ⟨v, _, rfl, ⟨t, rfl, ht⟩, rfl⟩, q⟩ := h
  walk_at "sts"
  refine e_mk (by exact F) (by exact hr) (by decide) ?_
  walk_at "sts"
  refine ix_t (by exact SqT.of (ht)) rfl ?_
  walk_at "sts"
  refine ix_t (by exact SqT.of (ht)) rfl ?_
  walk_at "sts"
  refine ix_t (by exact SqT.of (ht)) rfl ?_
  walk_at "sts"
  exact fun p H' e h => q _ H' e ⟨p, rfl, h⟩
/-! ### what is due -/
structure BOk (mg : Str → Option Value) : Prop where
  isi : mg "isinstance" = none
  int : mg "int" = none
  bool : mg "bool" = none
  tuple : mg "tuple" = none
  len : mg "len" = none
  range : mg "range" = none
def nth3 (x : T3) : Nat → Int
  | 0 => x.1
  | 1 => x.2.1
  | _ => x.2.2
theorem nth3_eq (x : T3) {k : Nat} (h : k < 3) : ([V.int x.1, V.int x.2.1, V.int x.2.2] : List V)[k]? = some (.int (nth3 x k)) := by
  match k, h with
  | 0, _ => rfl
  | 1, _ => rfl
  | 2, _ => rfl
theorem ok_due (T : Top K mg "_law_is_due" s_is_due) (B : BOk mg) (O : ClsOk K mg C) (M : Mt P w K mg base 1 C "triple" (spTri C)) : Fn P w K mg base 2 "_law_is_due" (spG (fun x : T3 => [Tl C x, Tr x]) fun _ => Tt) := by
  refine fn_ok T sc_is_due so_is_due (fun vs H Q E h => by obtain ⟨_, h, _⟩ := h; exact h.len) (fun _ _ _ _ _ _ us hl => match us, hl with | [_, _], _ => rfl) fun f cdv A outer s H vs Q E hr h nd => ?_
  obtain ⟨x, ⟨v, _, rfl, ⟨p, rfl, dx, hp⟩, u, _, rfl, ⟨t, rfl, ht⟩, rfl⟩, q⟩ := h
  obtain ⟨bi, bt, bb, btu, bn, br⟩ := B
  walk_at "sts"
  refine e_glob (v := .ref C) (by exact O.mg) rfl ?_
  walk_at "sts"
  refine c_of (C8.call_isC O.isC) ⟨p, dx, _, rfl, hp, ?_⟩
  walk_at "sts"
  refine e_meth0 (pl := _) (by exact M) (by exact hr) (by decide) ?_
  walk_at "sts"
  refine ⟨p, dx, _, rfl, hp, flds_no _ (by decide +kernel) (by decide +kernel) (by decide +kernel), ?_⟩
  refine ⟨p, x, rfl, ⟨dx, hp⟩, fun u H1 e1 hu => ?_⟩
  have hp1 := e1 _ _ hp
  have ht1 := e1 _ _ ht
  walk_at "sts"
  refine c_isi (ty_tup hu) (.ty _) (kit_ty kb_tuple_tuple) ?_
  walk_at "sts"
  refine c_lenT (by exact SqT.of hu) ?_
  walk_at "sts"
  refine e_fld ?_
  walk_at "sts"
  refine ⟨p, C, dx, _, _, rfl, hp1, O.cl, O.nP, flds_p _, ?_⟩
  walk_at "sts"
  refine e_fld ?_
  walk_at "sts"
  refine ⟨p, C, dx, _, _, rfl, hp1, O.cl, O.nR, flds_r _, ?_⟩
  walk_at "sts"
  refine e_fld ?_
  walk_at "sts"
  refine ⟨p, C, dx, _, _, rfl, hp1, O.cl, O.nL, flds_l _, ?_⟩
  walk_at "sts"
  refine ⟨by show 3 ≤ sizeLine; decide, fun l H2 e2 _ hl => ?_⟩
  have hu2 := e2 _ _ hu
  have ht2 := e2 _ _ ht1
  have e02 := e1.trans e2
  walk_at "sts"
  refine s_forR (by assumption) ?_
  walk_at "sts"
  refine ⟨by decide, fun k σ H' => ∃ y z, σ = [some (.ref p), some (.ref t), some (.ref u), some (.ref l), y, z] ∧ Same H2 H', ⟨_, _, rfl, Same.refl _⟩, fun k σ H3 hk hW => ?_, fun σ H3 hW => ?_⟩
  · obtain ⟨y, z, rfl, e3⟩ := hW
    refine l_cons (s_forT ?_)
    walk_at "sts"
    refine ix_t (by exact SqT.of (e3 _ _ hu2)) (atI_nat (nth3_eq x hk)) ?_
    walk_at "sts"
    refine ix_l (by exact SqL.of (e3 _ _ hl)) (atI_nat (nth3_eq x hk)) ?_
    walk_at "sts"
    refine ⟨by show 2 ≤ sizeLine; decide, fun tt H4 e4 _ htt => ?_⟩
    refine ⟨tt, _, rfl, SqT.of htt, fun j σ H5 => ∃ z, σ = [some (.ref p), some (.ref t), some (.ref u), some (.ref l), some (.int k), z] ∧ Same H4 H5, ⟨_, rfl, Same.refl _⟩, fun j σ H5 _ hW => ?_, fun j b σ H5 hj hW => ?_, fun σ H5 hW => ?_⟩
    · obtain ⟨z, rfl, e5⟩ := hW
      exact SqT.of (e5 _ _ htt)
    · obtain ⟨z, rfl, e5⟩ := hW
      have hb : b = .int (nth3 x k) := by
        match j, hj with
        | 0, hj => exact (Option.some.inj hj).symm
        | 1, hj => exact (Option.some.inj hj).symm
      subst hb
      walk_at "sts"
      refine c_isi ty_int (.ty _) (kit_ty kb_int_int) ?_
      walk_at "sts"
      refine c_isi ty_int (.ty _) (kit_ty kb_int_bool) ?_
      walk_at "sts"
      refine ix_t (by exact SqT.of (e5 _ _ (e4 _ _ (e3 _ _ ht2)))) (atI_nat (nth3_eq x hk)) ?_
      walk_at "sts"
      rw [decide_eq_true (rfl : nth3 x k = nth3 x k)]
      walk_at "sts"
      exact e5
    · obtain ⟨z, rfl, e5⟩ := hW
      refine l_nil ?_
      exact ⟨_, _, rfl, (e3.trans e4).trans e5⟩
  · obtain ⟨y, z, rfl, e3⟩ := hW
    walk_at "sts"
    exact q _ H3 (e02.trans e3) rfl
end


section
variable {X : Cx} {e o a b c : Expr} {es : List Expr} {σ : L2.St} {H H0 : Hp} {Q : VK} {pos p0 apos : Pos} {N G : List Str} {sc : Scope} {C : Addr} {x y : T3} {k : Int} {n : Nat}
theorem gs_op {op : Operator} {g : T3 → T3 → T3} {cnd : T3 → T3 → Prop} (F : Op2 X.prog X.w X.K X.mg X.base 3 C op (spOp C g cnd)) (hr : Room n X.A) (hk : 3 ≤ n) (h1 : EvS X a σ H (Tl C x)) (h2 : EvS X b σ H (Tl C y)) (hc : cnd x y) : EvS X (.BinOp a op b pos) σ H (Tl C (g x y)) := fun H' s =>
  ev_of fun Q q => e_bin (ev_e (h1 H' s) fun v1 H1 s1 r1 => ev_e (h2 H1 (s.trans s1)) fun v2 H2 s2 r2 => by
    obtain ⟨p, rfl, dx, hp⟩ := r1
    obtain ⟨r, rfl, dy, hq⟩ := r2
    exact o_own F hr hk (s2 _ _ hp) hq ⟨p, r, x, y, rfl, ⟨dx, s2 _ _ hp⟩, ⟨dy, hq⟩, hc, fun u H3 s3 h3 => ⟨⟨u, rfl⟩, q _ H3 ((s1.trans s2).trans s3) ⟨u, rfl, h3⟩⟩⟩)
theorem gs_add (F : Op2 X.prog X.w X.K X.mg X.base 3 C .Add (spOp C add3 cAny)) (hr : Room n X.A) (hk : 3 ≤ n) (h1 : EvS X a σ H (Tl C x)) (h2 : EvS X b σ H (Tl C y)) : EvS X (.BinOp a .Add b pos) σ H (Tl C (add3 x y)) := gs_op F hr hk h1 h2 trivial
theorem gs_mul (F : Op2 X.prog X.w X.K X.mg X.base 3 C .Mult (spOp C mul3 cMul)) (hr : Room n X.A) (hk : 3 ≤ n) (h1 : EvS X a σ H (Tl C x)) (h2 : EvS X b σ H (Tl C y)) (hc : cMul x y) : EvS X (.BinOp a .Mult b pos) σ H (Tl C (mul3 x y)) := gs_op F hr hk h1 h2 hc
theorem gs_m {m : Str} {g : Int → T3 → T3} {pl : Sem Bool} {d f : Nat} (F : Mt X.prog X.w X.K X.mg X.base 3 C m (spM C g)) (hr : Room n X.A) (hk : 3 ≤ n) (h1 : EvS X o σ H (Tl C x)) (h2 : EvS X e σ H (Nm k)) (hx : Bd d x) (hb : k.natAbs < 2 ^ f) (d0 : 0 < d) (f0 : 0 < f) (df : d + f ≤ 900000)
    (m1 : ¬ m = "load" := by decide +kernel) (m2 : ¬ m = "rows" := by decide +kernel) (m3 : ¬ m = "plays" := by decide +kernel)
    (hst : starEach (e :: []) X.env = (false, eval e X.env) :: starEach [] X.env := by rfl) (hpl : (backTo pos (starEach [] X.env)).any (·.1) = false := by rfl)
    (ht : eval (.Call (.Attribute o m apos) (e :: []) [] pos) X.env = (do let ov ← eval o X.env; standAt apos.atName; let (f, first) ← holding [ov] (getMethod ov m pl); callWith pos f first (backTo pos (starEach (e :: []) X.env)) (backToKw pos (keywordEach [] X.env))) := by rfl) :
    EvS X (.Call (.Attribute o m apos) [e] [] pos) σ H (Tl C (g k x)) := fun H' s =>
  ev_of fun Q q => e_meth (pl := pl) F hr hk (ev_e (h1 H' s) fun v1 H1 s1 r1 => by
    obtain ⟨p, rfl, dx, hp⟩ := r1
    refine ⟨p, dx, _, rfl, hp, flds_no _ m1 m2 m3, a_cons (ev_e (h2 H1 (s.trans s1)) fun v2 H2 s2 r2 => a_nil ?_) hst⟩
    cases (show v2 = .int k from r2)
    exact ⟨p, k, x, d, f, rfl, ⟨dx, s2 _ _ hp⟩, hx, hb, d0, f0, df, fun u H3 s3 h3 => q _ H3 ((s1.trans s2).trans s3) ⟨u, rfl, h3⟩⟩) hst hpl ht
theorem gs_cop {pl : Sem Bool} {d m : Nat} (F : Mt X.prog X.w X.K X.mg X.base 5 C "copied" (spCop C)) (hr : Room n X.A) (hk : 5 ≤ n) (h1 : EvS X o σ H (Tl C x)) (h2 : EvS X e σ H (Nm m)) (hx : Bd d x) (hm : m ≤ 64) (d0 : d ≤ 100)
    (hst : starEach (e :: []) X.env = (false, eval e X.env) :: starEach [] X.env := by rfl) (hpl : (backTo pos (starEach [] X.env)).any (·.1) = false := by rfl)
    (ht : eval (.Call (.Attribute o "copied" apos) (e :: []) [] pos) X.env = (do let ov ← eval o X.env; standAt apos.atName; let (f, first) ← holding [ov] (getMethod ov "copied" pl); callWith pos f first (backTo pos (starEach (e :: []) X.env)) (backToKw pos (keywordEach [] X.env))) := by rfl) :
    EvS X (.Call (.Attribute o "copied" apos) [e] [] pos) σ H (Tl C (pow3 x m)) := fun H' s =>
  ev_of fun Q q => e_meth (pl := pl) F hr hk (ev_e (h1 H' s) fun v1 H1 s1 r1 => by
    obtain ⟨p, rfl, dx, hp⟩ := r1
    refine ⟨p, dx, _, rfl, hp, flds_no _ (by decide +kernel) (by decide +kernel) (by decide +kernel), a_cons (ev_e (h2 H1 (s.trans s1)) fun v2 H2 s2 r2 => a_nil ?_) hst⟩
    cases (show v2 = .int m from r2)
    exact ⟨p, x, m, d, rfl, ⟨dx, s2 _ _ hp⟩, hx, hm, d0, fun u H3 s3 h3 => q _ H3 ((s1.trans s2).trans s3) ⟨u, rfl, h3⟩⟩) hst hpl ht
theorem gs_prod {g n : Nat} (F : Fn X.prog X.w X.K X.mg X.base 1 "_law_product" spProd) (hr : Room n X.A) (hk : 1 ≤ n) (h1 : EvS X a σ H (Tr x)) (h2 : EvS X b σ H (Tr y)) (hc : cMul x y) (I : Wk.In X N G sc := by assumption) (hG : At G g "_law_product" := by repeat (first | with_reducible apply At.z | with_reducible apply At.s))
    (he : starEach (a :: [b]) X.env = (false, eval a X.env) :: starEach [b] X.env := by rfl) (he2 : starEach (b :: []) X.env = (false, eval b X.env) :: starEach [] X.env := by rfl) (hpl : (backTo pos (starEach [b] X.env)).any (·.1) = false := by rfl) : EvS X (.Call (.Name "_law_product" p0) [a, b] [] pos) σ H (Tr (mul3 x y)) := fun H' s =>
  ev_of fun Q q => e_call F hr hk (a_cons (ev_e (h1 H' s) fun v1 H1 s1 r1 => a_cons (ev_e (h2 H1 (s.trans s1)) fun v2 H2 s2 r2 => a_nil
    ⟨v1, v2, x, y, rfl, LastR.up H1 H2 v1 s2 r1, r2, hc, fun r H3 s3 h3 => q r H3 ((s1.trans s2).trans s3) h3⟩) he2) he) I hG he hpl
theorem gs_pairs {g n : Nat} {ps qs : Pl} (F : Fn X.prog X.w X.K X.mg X.base 1 "_law_pairs" spPairs) (hr : Room n X.A) (hk : 1 ≤ n) (h1 : EvS X a σ H (PlL ps)) (h2 : EvS X b σ H (PlL qs)) (hc : ps.length * qs.length ≤ 100000) (I : Wk.In X N G sc := by assumption) (hG : At G g "_law_pairs" := by repeat (first | with_reducible apply At.z | with_reducible apply At.s))
    (he : starEach (a :: [b]) X.env = (false, eval a X.env) :: starEach [b] X.env := by rfl) (he2 : starEach (b :: []) X.env = (false, eval b X.env) :: starEach [] X.env := by rfl) (hpl : (backTo pos (starEach [b] X.env)).any (·.1) = false := by rfl) : EvS X (.Call (.Name "_law_pairs" p0) [a, b] [] pos) σ H (PlL (pairsL ps qs)) := fun H' s =>
  ev_of fun Q q => e_call F hr hk (a_cons (ev_e (h1 H' s) fun v1 H1 s1 r1 => a_cons (ev_e (h2 H1 (s.trans s1)) fun v2 H2 s2 r2 => a_nil
    ⟨v1, v2, ps, qs, rfl, LastR.up H1 H2 v1 s2 r1, r2, hc, fun r H3 s3 h3 => q r H3 ((s1.trans s2).trans s3) h3⟩) he2) he) I hG he hpl
theorem gs_sub {i j d : Int} (h1 : EvS X a σ H (Nm i)) (h2 : EvS X b σ H (Nm j)) (e : i - j = d) : EvS X (.BinOp a .Sub b pos) σ H (Nm d) := fun H' s =>
  ev_of fun Q q => e_bin (ev_e (h1 H' s) fun v1 H1 s1 r1 => ev_e (h2 H1 (s.trans s1)) fun v2 H2 s2 r2 => by
    cases (show v1 = .int i from r1)
    cases (show v2 = .int j from r2)
    exact o_sub (q _ H2 (s1.trans s2) (by rw [e]; rfl)))
theorem o_catL {l b : Addr} {xs zs : List V} (h1 : H l = some (.lst xs)) (h2 : H b = some (.lst zs)) (hz : xs.length + zs.length ≤ sizeLine) (q : ∀ p H2, Same H H2 → H2 p = some (.lst (xs ++ zs)) → Q (.ref p) H2) : wB X .Add (.ref l) (.ref b) H Q :=
  b_of op_cat ⟨l, b, xs, zs, rfl, rfl, h1, h2, hz, fun p np => q p _ (fun c u eo => by rw [upd_ne (ne_of_none eo np)]; exact eo) upd_same⟩
theorem Prs.cat {H : Hp} : ∀ {xs : List V} {ps : Pl} {ys : List V} {qs : Pl}, Prs H xs ps → Prs H ys qs → Prs H (xs ++ ys) (ps ++ qs)
  | [], [], _, _, _, h => h
  | _ :: _, _ :: _, _, _, ⟨a, r⟩, h => ⟨a, r.cat h⟩
theorem gs_cat {ps qs : Pl} (h1 : EvS X a σ H (PlL ps)) (h2 : EvS X b σ H (PlL qs)) (hc : ps.length + qs.length ≤ 100000) : EvS X (.BinOp a .Add b pos) σ H (PlL (ps ++ qs)) := fun H' s =>
  ev_of fun Q q => e_bin (ev_e (h1 H' s) fun v1 H1 s1 r1 => ev_e (h2 H1 (s.trans s1)) fun v2 H2 s2 r2 => by
    obtain ⟨l, xs, rfl, hl, hx⟩ := r1
    obtain ⟨m, ys, rfl, hm, hy⟩ := r2
    refine o_catL (s2 _ _ hl) hm (by rw [hx.len, hy.len]; show _ ≤ 2 ^ 24; omega) fun p H3 s3 h3 => ?_
    exact q _ H3 ((s1.trans s2).trans s3) ⟨p, _, rfl, h3, (hx.up (s2.trans s3)).cat (hy.up s3)⟩)
theorem g_due {n : Nat} {g : Nat} {K : PySem.W.Frag} (F : Fn X.prog X.w X.K X.mg X.base 2 "_law_is_due" (spG (fun x : T3 => [Tl C x, Tr x]) fun _ => Tt)) (hr : Room n X.A) (hk : 2 ≤ n) (h1 : EvS X a σ H (Tl C x)) (h2 : EvS X b σ H (Tr y)) (e : x = y) (I : Wk.In X N G sc := by assumption) (hG : At G g "_law_is_due" := by repeat (first | with_reducible apply At.z | with_reducible apply At.s))
    (he : starEach (a :: [b]) X.env = (false, eval a X.env) :: starEach [b] X.env := by rfl) (he2 : starEach (b :: []) X.env = (false, eval b X.env) :: starEach [] X.env := by rfl) (hpl : (backTo pos (starEach [b] X.env)).any (·.1) = false := by rfl) : EvS X (.Call (.Name "_law_is_due" p0) [a, b] [] pos) σ H IsT := by
  subst e
  exact gs_call (z := x) F hr hk (gs_cons h1 (gs_cons h2 gs_nil he2) he) I hG he hpl
end
section
variable {P : Program} {w : World} {K : PySem.W.Frag} {mg : Str → Option Value} {base : Heap} {C : Addr}
abbrev FMade (P : Program) (w : World) (K : PySem.W.Frag) (mg : Str → Option Value) (base : Heap) (C : Addr) := Fn P w K mg base 3 "_law_made" (spG (fun x : T3 => [Tr x]) fun x => Tl C x)
abbrev FDue (P : Program) (w : World) (K : PySem.W.Frag) (mg : Str → Option Value) (base : Heap) (C : Addr) := Fn P w K mg base 2 "_law_is_due" (spG (fun x : T3 => [Tl C x, Tr x]) fun _ => Tt)
abbrev FTri (P : Program) (w : World) (K : PySem.W.Frag) (mg : Str → Option Value) (base : Heap) := Fn P w K mg base 1 "_law_triple" (spG (fun ps : Pl => [PlL ps]) fun ps => Tr (tri ps))
theorem up {R : Rl} [LastR R] {H H' : Hp} {v : V} (s : Same H H') (h : R H v) : R H' v := LastR.up H H' v s h
def spMany (C : Addr) : Sp := fun vs H Q _ => ∃ v x, ∃ n : Nat, vs = [v, .int n] ∧ Tr x H v ∧ Bd 22 x ∧ n ≤ 60 ∧ ∀ H', Same H H' → Q (.bl true) H'
theorem ok_many (T : Top K mg "_law_many" s_many) (FM : FMade P w K mg base C) (FD : FDue P w K mg base C) (FP : Fn P w K mg base 1 "_law_product" spProd) (MC : Mt P w K mg base 5 C "copied" (spCop C)) (OM : Op2 P w K mg base 3 C .Mult (spOp C mul3 cMul)) (mR : mg "range" = none) : Fn P w K mg base 6 "_law_many" (spMany C) := by
  refine fn_ok T sc_many so_many (fun vs H Q E h => by obtain ⟨v, x, n, rfl, _⟩ := h; rfl) (fun _ _ _ _ _ _ us hl => match us, hl with | [_, _], _ => rfl) fun f cdv A outer s H vs Q E hr h nd => ?_
  obtain ⟨v, x, n, rfl, hv, hx, hn, q⟩ := h
  refine l_cons (s_let (R := Tl C x) (Same.refl H) ?_ fun t H1 s1 ht => ?_)
  refine gs_call (A := fun x : T3 => [Tr x]) (R := fun x : T3 => Tl C x) (z := x) (by exact FM) (by exact hr) (by decide) ?_
  refine gs_cons ?_ ?_
  exact gs_var (by exact hv)
  exact gs_nil
  walk_at "sts"
  refine ⟨by show 3 ≤ sizeLine; decide, fun d H2 e2 _ hd => ?_⟩
  have s2 := s1.trans e2
  walk_at "sts"
  refine s_forR (by assumption) ?_
  walk_at "sts"
  refine ⟨by omega, fun k σ H' => ∃ r y, σ = [some v, some (.int n), some t, some r, y, none] ∧ Same H2 H' ∧ Tr (pow3 x k) H' r, ⟨_, _, rfl, Same.refl _, d, rfl, hd⟩, fun k σ H3 hk hW => ?_, fun σ H3 hW => ?_⟩
  · obtain ⟨r, y, rfl, e3, hr3⟩ := hW
    have hv3 : Tr x H3 v := up (s2.trans e3) hv
    have hc : cMul (pow3 x k) x := by
      have h1 := (hx.pow k).mono (show k * 23 + 1 ≤ 60 * 23 + 1 by omega)
      exact ⟨_, _, h1, hx, by decide, by decide, by decide⟩
    refine l_cons (s_let (R := Tr (mul3 (pow3 x k) x)) (Same.refl H3) ?_ fun r' H4 s4 h4 => ?_)
    refine gs_prod (x := (pow3 x k)) (y := x) (by exact FP) (by exact hr) (by decide) ?_ ?_ ?_
    exact gs_var (by exact hr3)
    exact gs_var (by exact hv3)
    exact hc
    exact l_nil ⟨r', _, rfl, e3.trans s4, h4⟩
  · obtain ⟨r, y, rfl, e3, hr3⟩ := hW
    have ht3 : Tl C x H3 t := up (e2.trans e3) ht
    have hv3 : Tr x H3 v := up (s2.trans e3) hv
    refine l_cons (s_nn (Same.refl H3) ?_ ?_ fun H4 s4 => ?_)
    refine g_due (x := (pow3 x (n))) (y := (pow3 x n)) (K := K) (by exact FD) (by exact hr) (by decide) ?_ ?_ ?_
    refine gs_cop (x := x) (pl := _) (d := 22) (m := n) (by exact MC) (by exact hr) (by decide) ?_ ?_ ?_ ?_ (by decide)
    exact gs_var (by exact ht3)
    exact gs_var (R := Nm (n)) (by exact rfl)
    exact hx
    omega
    exact gs_var (by exact hr3)
    exact rfl
    refine g_due (x := x) (y := x) (K := K) (by exact FD) (by exact hr) (by decide) ?_ ?_ ?_
    exact gs_var (by exact ht3)
    exact gs_var (by exact hv3)
    exact rfl
    walk_at "sts"
    refine o_fdiv ⟨by decide, by decide⟩ ?_
    refine l_cons (s_retS (R := IsT) (Same.refl H4) ?_ fun z H5 s5 hz => ?_)
    have ht4 : Tl C x H4 t := up s4 ht3
    have hr4 : Tr (pow3 x n) H4 r := up s4 hr3
    have e1 : ((n : Int) / 2) = ((n / 2 : Nat) : Int) := by omega
    have hc : cMul (pow3 x (n / 2)) (pow3 x (n - n / 2)) := by
      have b1 := (hx.pow (n / 2)).mono (Nat.succ_le_succ (Nat.mul_le_mul_right 23 (show n / 2 ≤ 60 by omega)))
      have b2 := (hx.pow (n - n / 2)).mono (Nat.succ_le_succ (Nat.mul_le_mul_right 23 (show n - n / 2 ≤ 60 by omega)))
      exact ⟨_, _, b1, b2, by decide, by decide, by decide⟩
    refine g_due (x := (mul3 (pow3 x (n / 2)) (pow3 x (n - n / 2)))) (y := (pow3 x n)) (K := K) (by exact FD) (by exact hr) (by decide) ?_ ?_ ?_
    refine gs_mul (x := (pow3 x (n / 2))) (y := (pow3 x (n - n / 2))) (by exact OM) (by exact hr) (by decide) ?_ ?_ ?_
    refine gs_cop (x := x) (pl := _) (d := 22) (m := n / 2) (by exact MC) (by exact hr) (by decide) ?_ ?_ ?_ ?_ (by decide)
    exact gs_var (by exact ht4)
    exact gs_var (R := Nm (((n / 2 : Nat) : Int))) (by exact rfl)
    exact hx
    omega
    refine gs_cop (x := x) (pl := _) (d := 22) (m := n - n / 2) (by exact MC) (by exact hr) (by decide) ?_ ?_ ?_ ?_ (by decide)
    exact gs_var (by exact ht4)
    refine gs_sub (i := (n : Int)) (j := ((n / 2 : Nat) : Int)) ?_ ?_ ?_
    exact gs_var (R := Nm ((n : Int))) (by exact rfl)
    exact gs_var (R := Nm (((n / 2 : Nat) : Int))) (by exact rfl)
    omega
    exact hx
    omega
    exact hc
    exact gs_var (by exact hr4)
    rw [pow3_add]; congr 1; omega
    cases (show z = .bl true from hz)
    exact q H5 (((s2.trans e3).trans s4).trans s5)
end


section
variable {P : Program} {w : World} {K : PySem.W.Frag} {mg : Str → Option Value} {base : Heap} {C : Addr}
def spThree (C : Addr) : Sp := fun vs H Q _ => ∃ v1 v2 v3 x y z, ∃ k : Int, vs = [v1, v2, v3, .int k] ∧ Tr x H v1 ∧ Tr y H v2 ∧ Tr z H v3 ∧ Bd 22 x ∧ Bd 22 y ∧ Bd 22 z ∧ k.natAbs < 2 ^ 20 ∧ ∀ H', Q (.bl true) H'
theorem ok_three (T : Top K mg "_law_three" s_three) (FM : FMade P w K mg base C) (FD : FDue P w K mg base C) (FP : Fn P w K mg base 1 "_law_product" spProd) (FS : Fn P w K mg base 1 "_law_sum" (spG (fun z : T3 × T3 => [Tr z.1, Tr z.2]) fun z => Tr (add3 z.1 z.2)))
    (OA : Op2 P w K mg base 3 C .Add (spOp C add3 cAny)) (OM : Op2 P w K mg base 3 C .Mult (spOp C mul3 cMul)) (MT : Mt P w K mg base 3 C "taller" (spM C tall3)) (ML : Mt P w K mg base 3 C "loaded" (spM C load3)) (MU : Mt P w K mg base 3 C "cut" (spM C cut3)) : Fn P w K mg base 6 "_law_three" (spThree C) := by
  refine fn_ok T sc_three so_three (fun vs H Q E h => by obtain ⟨v1, v2, v3, x, y, z, k, rfl, _⟩ := h; rfl) (fun _ _ _ _ _ _ us hl => match us, hl with | [_, _, _, _], _ => rfl) fun f cdv A outer s H vs Q E hr h nd => ?_
  obtain ⟨v1, v2, v3, x, y, z, k, rfl, h1, h2, h3, hx, hy, hz, hk, q⟩ := h
  have hxy := hx.mul hy
  have hyz := hy.mul hz
  have hsxy : Bd 23 (add3 x y) := hx.add hy
  have hkk : k.natAbs < 1048576 := hk
  refine l_cons (s_let (R := Tl C x) (Same.refl H) ?_ fun v_ha B1 t1 ha => ?_)
  refine gs_call (A := fun x : T3 => [Tr x]) (R := fun x : T3 => Tl C x) (z := x) (by exact FM) (by exact hr) (by decide) ?_
  refine gs_cons ?_ ?_
  exact gs_var (by exact h1)
  exact gs_nil
  replace h1 := up t1 h1
  replace h2 := up t1 h2
  replace h3 := up t1 h3
  show wL _ _ _ [_, _, _, _, _, _, _, _, _, _] _
  refine l_cons (s_let (R := Tl C y) (Same.refl B1) ?_ fun v_hb B2 t2 hb => ?_)
  refine gs_call (A := fun x : T3 => [Tr x]) (R := fun x : T3 => Tl C x) (z := y) (by exact FM) (by exact hr) (by decide) ?_
  refine gs_cons ?_ ?_
  exact gs_var (by exact h2)
  exact gs_nil
  replace h1 := up t2 h1
  replace h2 := up t2 h2
  replace h3 := up t2 h3
  replace ha := up t2 ha
  show wL _ _ _ [_, _, _, _, _, _, _, _, _, _] _
  refine l_cons (s_let (R := Tl C z) (Same.refl B2) ?_ fun v_hc B3 t3 hc => ?_)
  refine gs_call (A := fun x : T3 => [Tr x]) (R := fun x : T3 => Tl C x) (z := z) (by exact FM) (by exact hr) (by decide) ?_
  refine gs_cons ?_ ?_
  exact gs_var (by exact h3)
  exact gs_nil
  replace h1 := up t3 h1
  replace h2 := up t3 h2
  replace h3 := up t3 h3
  replace ha := up t3 ha
  replace hb := up t3 hb
  show wL _ _ _ [_, _, _, _, _, _, _, _, _, _] _
  refine l_cons (s_let (R := Tr (add3 x y)) (Same.refl B3) ?_ fun v_hs B4 t4 hs => ?_)
  refine gs_call (A := fun z : T3 × T3 => [Tr z.1, Tr z.2]) (R := fun z : T3 × T3 => Tr (add3 z.1 z.2)) (z := (x, y)) (by exact FS) (by exact hr) (by decide) ?_
  refine gs_cons ?_ ?_
  exact gs_var (by exact h1)
  refine gs_cons ?_ ?_
  exact gs_var (by exact h2)
  exact gs_nil
  replace h1 := up t4 h1
  replace h2 := up t4 h2
  replace h3 := up t4 h3
  replace ha := up t4 ha
  replace hb := up t4 hb
  replace hc := up t4 hc
  show wL _ _ _ [_, _, _, _, _, _, _, _, _, _] _
  refine l_cons (s_nn (Same.refl B4) ?_ ?_ fun B5 t5 => ?_)
  refine g_due (x := (add3 x y)) (y := (add3 x y)) (K := K) (by exact FD) (by exact hr) (by decide) ?_ ?_ ?_
  refine gs_add (x := x) (y := y) (by exact OA) (by exact hr) (by decide) ?_ ?_
  exact gs_var (by exact ha)
  exact gs_var (by exact hb)
  exact gs_var (by exact hs)
  exact rfl
  refine g_due (x := (add3 y x)) (y := (add3 x y)) (K := K) (by exact FD) (by exact hr) (by decide) ?_ ?_ ?_
  refine gs_add (x := y) (y := x) (by exact OA) (by exact hr) (by decide) ?_ ?_
  exact gs_var (by exact hb)
  exact gs_var (by exact ha)
  exact gs_var (by exact hs)
  (refine t3ext ?_ ?_ ?_ <;> simp only [add3, mul3, tall3, load3, cut3] <;> grind)
  refine l_cons (s_nn t5 ?_ ?_ fun B6 t6 => ?_)
  refine g_due (x := (add3 x x)) (y := (add3 x x)) (K := K) (by exact FD) (by exact hr) (by decide) ?_ ?_ ?_
  refine gs_add (x := x) (y := x) (by exact OA) (by exact hr) (by decide) ?_ ?_
  exact gs_var (by exact ha)
  exact gs_var (by exact ha)
  refine gs_call (A := fun z : T3 × T3 => [Tr z.1, Tr z.2]) (R := fun z : T3 × T3 => Tr (add3 z.1 z.2)) (z := (x, x)) (by exact FS) (by exact hr) (by decide) ?_
  refine gs_cons ?_ ?_
  exact gs_var (by exact h1)
  refine gs_cons ?_ ?_
  exact gs_var (by exact h1)
  exact gs_nil
  exact rfl
  refine g_due (x := (mul3 x x)) (y := (mul3 x x)) (K := K) (by exact FD) (by exact hr) (by decide) ?_ ?_ ?_
  refine gs_mul (x := x) (y := x) (by exact OM) (by exact hr) (by decide) ?_ ?_ ?_
  exact gs_var (by exact ha)
  exact gs_var (by exact ha)
  exact ⟨_, _, hx, hx, by decide, by decide, by decide⟩
  refine gs_prod (x := x) (y := x) (by exact FP) (by exact hr) (by decide) ?_ ?_ ?_
  exact gs_var (by exact h1)
  exact gs_var (by exact h1)
  exact ⟨_, _, hx, hx, by decide, by decide, by decide⟩
  exact rfl
  refine l_cons (s_nn t6 ?_ ?_ fun B7 t7 => ?_)
  refine g_due (x := (add3 (add3 x y) z)) (y := (add3 (add3 x y) z)) (K := K) (by exact FD) (by exact hr) (by decide) ?_ ?_ ?_
  refine gs_add (x := (add3 x y)) (y := z) (by exact OA) (by exact hr) (by decide) ?_ ?_
  refine gs_add (x := x) (y := y) (by exact OA) (by exact hr) (by decide) ?_ ?_
  exact gs_var (by exact ha)
  exact gs_var (by exact hb)
  exact gs_var (by exact hc)
  refine gs_call (A := fun z : T3 × T3 => [Tr z.1, Tr z.2]) (R := fun z : T3 × T3 => Tr (add3 z.1 z.2)) (z := ((add3 x y), z)) (by exact FS) (by exact hr) (by decide) ?_
  refine gs_cons ?_ ?_
  exact gs_var (by exact hs)
  refine gs_cons ?_ ?_
  exact gs_var (by exact h3)
  exact gs_nil
  exact rfl
  refine g_due (x := (add3 x (add3 y z))) (y := (add3 (add3 x y) z)) (K := K) (by exact FD) (by exact hr) (by decide) ?_ ?_ ?_
  refine gs_add (x := x) (y := (add3 y z)) (by exact OA) (by exact hr) (by decide) ?_ ?_
  exact gs_var (by exact ha)
  refine gs_add (x := y) (y := z) (by exact OA) (by exact hr) (by decide) ?_ ?_
  exact gs_var (by exact hb)
  exact gs_var (by exact hc)
  refine gs_call (A := fun z : T3 × T3 => [Tr z.1, Tr z.2]) (R := fun z : T3 × T3 => Tr (add3 z.1 z.2)) (z := ((add3 x y), z)) (by exact FS) (by exact hr) (by decide) ?_
  refine gs_cons ?_ ?_
  exact gs_var (by exact hs)
  refine gs_cons ?_ ?_
  exact gs_var (by exact h3)
  exact gs_nil
  (refine t3ext ?_ ?_ ?_ <;> simp only [add3, mul3, tall3, load3, cut3] <;> grind)
  replace h1 := up t7 h1
  replace h2 := up t7 h2
  replace h3 := up t7 h3
  replace ha := up t7 ha
  replace hb := up t7 hb
  replace hc := up t7 hc
  replace hs := up t7 hs
  refine l_cons (s_let (R := Tr (mul3 x y)) (Same.refl B7) ?_ fun v_hj B8 t8 hj => ?_)
  refine gs_prod (x := x) (y := y) (by exact FP) (by exact hr) (by decide) ?_ ?_ ?_
  exact gs_var (by exact h1)
  exact gs_var (by exact h2)
  exact ⟨_, _, hx, hy, by decide, by decide, by decide⟩
  replace h1 := up t8 h1
  replace h2 := up t8 h2
  replace h3 := up t8 h3
  replace ha := up t8 ha
  replace hb := up t8 hb
  replace hc := up t8 hc
  replace hs := up t8 hs
  show wL _ _ _ [_, _, _, _, _, _, _, _, _, _] _
  refine l_cons (s_nn (Same.refl B8) ?_ ?_ fun B9 t9 => ?_)
  refine g_due (x := (mul3 x y)) (y := (mul3 x y)) (K := K) (by exact FD) (by exact hr) (by decide) ?_ ?_ ?_
  refine gs_mul (x := x) (y := y) (by exact OM) (by exact hr) (by decide) ?_ ?_ ?_
  exact gs_var (by exact ha)
  exact gs_var (by exact hb)
  exact ⟨_, _, hx, hy, by decide, by decide, by decide⟩
  exact gs_var (by exact hj)
  exact rfl
  refine g_due (x := (mul3 y x)) (y := (mul3 x y)) (K := K) (by exact FD) (by exact hr) (by decide) ?_ ?_ ?_
  refine gs_mul (x := y) (y := x) (by exact OM) (by exact hr) (by decide) ?_ ?_ ?_
  exact gs_var (by exact hb)
  exact gs_var (by exact ha)
  exact ⟨_, _, hy, hx, by decide, by decide, by decide⟩
  exact gs_var (by exact hj)
  (refine t3ext ?_ ?_ ?_ <;> simp only [add3, mul3, tall3, load3, cut3] <;> grind)
  replace h1 := up t9 h1
  replace h2 := up t9 h2
  replace h3 := up t9 h3
  replace ha := up t9 ha
  replace hb := up t9 hb
  replace hc := up t9 hc
  replace hs := up t9 hs
  replace hj := up t9 hj
  refine l_cons (s_let (R := Tr (mul3 (mul3 x y) z)) (Same.refl B9) ?_ fun v_hd B10 t10 hd => ?_)
  refine gs_prod (x := (mul3 x y)) (y := z) (by exact FP) (by exact hr) (by decide) ?_ ?_ ?_
  exact gs_var (by exact hj)
  exact gs_var (by exact h3)
  exact ⟨_, _, hxy, hz, by decide, by decide, by decide⟩
  replace h1 := up t10 h1
  replace h2 := up t10 h2
  replace h3 := up t10 h3
  replace ha := up t10 ha
  replace hb := up t10 hb
  replace hc := up t10 hc
  replace hs := up t10 hs
  replace hj := up t10 hj
  show wL _ _ _ [_, _, _, _, _, _, _, _, _, _] _
  refine l_cons (s_nn (Same.refl B10) ?_ ?_ fun B11 t11 => ?_)
  refine g_due (x := (mul3 (mul3 x y) z)) (y := (mul3 (mul3 x y) z)) (K := K) (by exact FD) (by exact hr) (by decide) ?_ ?_ ?_
  refine gs_mul (x := (mul3 x y)) (y := z) (by exact OM) (by exact hr) (by decide) ?_ ?_ ?_
  refine gs_mul (x := x) (y := y) (by exact OM) (by exact hr) (by decide) ?_ ?_ ?_
  exact gs_var (by exact ha)
  exact gs_var (by exact hb)
  exact ⟨_, _, hx, hy, by decide, by decide, by decide⟩
  exact gs_var (by exact hc)
  exact ⟨_, _, hxy, hz, by decide, by decide, by decide⟩
  exact gs_var (by exact hd)
  exact rfl
  refine g_due (x := (mul3 x (mul3 y z))) (y := (mul3 (mul3 x y) z)) (K := K) (by exact FD) (by exact hr) (by decide) ?_ ?_ ?_
  refine gs_mul (x := x) (y := (mul3 y z)) (by exact OM) (by exact hr) (by decide) ?_ ?_ ?_
  exact gs_var (by exact ha)
  refine gs_mul (x := y) (y := z) (by exact OM) (by exact hr) (by decide) ?_ ?_ ?_
  exact gs_var (by exact hb)
  exact gs_var (by exact hc)
  exact ⟨_, _, hy, hz, by decide, by decide, by decide⟩
  exact ⟨_, _, hx, hyz, by decide, by decide, by decide⟩
  exact gs_var (by exact hd)
  (rw [mul3_assoc])
  replace h1 := up t11 h1
  replace h2 := up t11 h2
  replace h3 := up t11 h3
  replace ha := up t11 ha
  replace hb := up t11 hb
  replace hc := up t11 hc
  replace hs := up t11 hs
  replace hj := up t11 hj
  replace hd := up t11 hd
  clear hd
  refine l_cons (s_let (R := Tr (mul3 (add3 x y) z)) (Same.refl B11) ?_ fun v_hd B12 t12 hd => ?_)
  refine gs_prod (x := (add3 x y)) (y := z) (by exact FP) (by exact hr) (by decide) ?_ ?_ ?_
  exact gs_var (by exact hs)
  exact gs_var (by exact h3)
  exact ⟨_, _, hsxy, hz, by decide, by decide, by decide⟩
  replace h1 := up t12 h1
  replace h2 := up t12 h2
  replace h3 := up t12 h3
  replace ha := up t12 ha
  replace hb := up t12 hb
  replace hc := up t12 hc
  replace hs := up t12 hs
  replace hj := up t12 hj
  show wL _ _ _ [_, _, _, _, _, _, _, _, _, _] _
  refine l_cons (s_nn (Same.refl B12) ?_ ?_ fun B13 t13 => ?_)
  refine g_due (x := (mul3 (add3 x y) z)) (y := (mul3 (add3 x y) z)) (K := K) (by exact FD) (by exact hr) (by decide) ?_ ?_ ?_
  refine gs_mul (x := (add3 x y)) (y := z) (by exact OM) (by exact hr) (by decide) ?_ ?_ ?_
  refine gs_add (x := x) (y := y) (by exact OA) (by exact hr) (by decide) ?_ ?_
  exact gs_var (by exact ha)
  exact gs_var (by exact hb)
  exact gs_var (by exact hc)
  exact ⟨_, _, hsxy, hz, by decide, by decide, by decide⟩
  exact gs_var (by exact hd)
  exact rfl
  refine g_due (x := (add3 (mul3 x z) (mul3 y z))) (y := (mul3 (add3 x y) z)) (K := K) (by exact FD) (by exact hr) (by decide) ?_ ?_ ?_
  refine gs_add (x := (mul3 x z)) (y := (mul3 y z)) (by exact OA) (by exact hr) (by decide) ?_ ?_
  refine gs_mul (x := x) (y := z) (by exact OM) (by exact hr) (by decide) ?_ ?_ ?_
  exact gs_var (by exact ha)
  exact gs_var (by exact hc)
  exact ⟨_, _, hx, hz, by decide, by decide, by decide⟩
  refine gs_mul (x := y) (y := z) (by exact OM) (by exact hr) (by decide) ?_ ?_ ?_
  exact gs_var (by exact hb)
  exact gs_var (by exact hc)
  exact ⟨_, _, hy, hz, by decide, by decide, by decide⟩
  exact gs_var (by exact hd)
  (refine t3ext ?_ ?_ ?_ <;> simp only [add3, mul3, tall3, load3, cut3] <;> grind)
  replace h1 := up t13 h1
  replace h2 := up t13 h2
  replace h3 := up t13 h3
  replace ha := up t13 ha
  replace hb := up t13 hb
  replace hc := up t13 hc
  replace hs := up t13 hs
  replace hj := up t13 hj
  replace hd := up t13 hd
  clear hd
  obtain ⟨tt13, et, hq13⟩ := id hs
  cases et
  refine l_cons (s_set ?_)
  walk_at "sts"
  refine ix_t (by exact SqT.of hq13) rfl ?_
  walk_at "sts"
  refine ix_t (by exact SqT.of hq13) rfl ?_
  walk_at "sts"
  refine ix_t (by exact SqT.of hq13) rfl ?_
  walk_at "sts"
  refine o_mul (.inl ⟨by omega, by omega⟩) ?_
  walk_at "sts"
  refine ix_t (by exact SqT.of hq13) rfl ?_
  walk_at "sts"
  refine ⟨by show 3 ≤ sizeLine; decide, fun d14 B14 t14 _ hd => ?_⟩
  have hd : Tr (tall3 k (add3 x y)) B14 (.ref d14) := ⟨d14, rfl, hd⟩
  replace h1 := up t14 h1
  replace h2 := up t14 h2
  replace h3 := up t14 h3
  replace ha := up t14 ha
  replace hb := up t14 hb
  replace hc := up t14 hc
  replace hs := up t14 hs
  replace hj := up t14 hj
  show wL _ _ _ [_, _, _, _, _, _, _, _, _, _] _
  refine l_cons (s_nn (Same.refl B14) ?_ ?_ fun B15 t15 => ?_)
  refine g_due (x := (tall3 (k) (add3 x y))) (y := (tall3 k (add3 x y))) (K := K) (by exact FD) (by exact hr) (by decide) ?_ ?_ ?_
  refine gs_m (x := (add3 x y)) (k := k) (pl := _) (d := 23) (f := 20) (by exact MT) (by exact hr) (by decide) ?_ ?_ ?_ ?_ (by decide) (by decide) (by decide)
  refine gs_add (x := x) (y := y) (by exact OA) (by exact hr) (by decide) ?_ ?_
  exact gs_var (by exact ha)
  exact gs_var (by exact hb)
  exact gs_var (R := Nm (k)) (by exact rfl)
  exact hsxy
  exact hk
  exact gs_var (by exact hd)
  exact rfl
  refine g_due (x := (add3 (tall3 (k) x) (tall3 (k) y))) (y := (tall3 k (add3 x y))) (K := K) (by exact FD) (by exact hr) (by decide) ?_ ?_ ?_
  refine gs_add (x := (tall3 (k) x)) (y := (tall3 (k) y)) (by exact OA) (by exact hr) (by decide) ?_ ?_
  refine gs_m (x := x) (k := k) (pl := _) (d := 22) (f := 20) (by exact MT) (by exact hr) (by decide) ?_ ?_ ?_ ?_ (by decide) (by decide) (by decide)
  exact gs_var (by exact ha)
  exact gs_var (R := Nm (k)) (by exact rfl)
  exact hx
  exact hk
  refine gs_m (x := y) (k := k) (pl := _) (d := 22) (f := 20) (by exact MT) (by exact hr) (by decide) ?_ ?_ ?_ ?_ (by decide) (by decide) (by decide)
  exact gs_var (by exact hb)
  exact gs_var (R := Nm (k)) (by exact rfl)
  exact hy
  exact hk
  exact gs_var (by exact hd)
  (refine t3ext ?_ ?_ ?_ <;> simp only [add3, mul3, tall3, load3, cut3] <;> grind)
  replace h1 := up t15 h1
  replace h2 := up t15 h2
  replace h3 := up t15 h3
  replace ha := up t15 ha
  replace hb := up t15 hb
  replace hc := up t15 hc
  replace hs := up t15 hs
  replace hj := up t15 hj
  replace hd := up t15 hd
  clear hd
  obtain ⟨tt15, et, hq15⟩ := id hs
  cases et
  refine l_cons (s_set ?_)
  walk_at "sts"
  refine ix_t (by exact SqT.of hq15) rfl ?_
  walk_at "sts"
  refine ix_t (by exact SqT.of hq15) rfl ?_
  walk_at "sts"
  refine ix_t (by exact SqT.of hq15) rfl ?_
  walk_at "sts"
  refine ix_t (by exact SqT.of hq15) rfl ?_
  walk_at "sts"
  refine ix_t (by exact SqT.of hq15) rfl ?_
  walk_at "sts"
  refine o_mul (.inl ⟨by omega, by omega⟩) ?_
  walk_at "sts"
  refine ⟨by show 3 ≤ sizeLine; decide, fun d16 B16 t16 _ hd => ?_⟩
  have hd : Tr (cut3 k (add3 x y)) B16 (.ref d16) := ⟨d16, rfl, hd⟩
  replace h1 := up t16 h1
  replace h2 := up t16 h2
  replace h3 := up t16 h3
  replace ha := up t16 ha
  replace hb := up t16 hb
  replace hc := up t16 hc
  replace hs := up t16 hs
  replace hj := up t16 hj
  show wL _ _ _ [_, _, _, _, _, _, _, _, _, _] _
  refine l_cons (s_nn (Same.refl B16) ?_ ?_ fun B17 t17 => ?_)
  refine g_due (x := (cut3 (k) (add3 x y))) (y := (cut3 k (add3 x y))) (K := K) (by exact FD) (by exact hr) (by decide) ?_ ?_ ?_
  refine gs_m (x := (add3 x y)) (k := k) (pl := _) (d := 23) (f := 20) (by exact MU) (by exact hr) (by decide) ?_ ?_ ?_ ?_ (by decide) (by decide) (by decide)
  refine gs_add (x := x) (y := y) (by exact OA) (by exact hr) (by decide) ?_ ?_
  exact gs_var (by exact ha)
  exact gs_var (by exact hb)
  exact gs_var (R := Nm (k)) (by exact rfl)
  exact hsxy
  exact hk
  exact gs_var (by exact hd)
  exact rfl
  refine g_due (x := (add3 (cut3 (k) x) (cut3 (k) y))) (y := (cut3 k (add3 x y))) (K := K) (by exact FD) (by exact hr) (by decide) ?_ ?_ ?_
  refine gs_add (x := (cut3 (k) x)) (y := (cut3 (k) y)) (by exact OA) (by exact hr) (by decide) ?_ ?_
  refine gs_m (x := x) (k := k) (pl := _) (d := 22) (f := 20) (by exact MU) (by exact hr) (by decide) ?_ ?_ ?_ ?_ (by decide) (by decide) (by decide)
  exact gs_var (by exact ha)
  exact gs_var (R := Nm (k)) (by exact rfl)
  exact hx
  exact hk
  refine gs_m (x := y) (k := k) (pl := _) (d := 22) (f := 20) (by exact MU) (by exact hr) (by decide) ?_ ?_ ?_ ?_ (by decide) (by decide) (by decide)
  exact gs_var (by exact hb)
  exact gs_var (R := Nm (k)) (by exact rfl)
  exact hy
  exact hk
  exact gs_var (by exact hd)
  (refine t3ext ?_ ?_ ?_ <;> simp only [add3, mul3, tall3, load3, cut3] <;> grind)
  replace h1 := up t17 h1
  replace h2 := up t17 h2
  replace h3 := up t17 h3
  replace ha := up t17 ha
  replace hb := up t17 hb
  replace hc := up t17 hc
  replace hs := up t17 hs
  replace hj := up t17 hj
  replace hd := up t17 hd
  clear hd
  obtain ⟨tt17, et, hq17⟩ := id hj
  cases et
  refine l_cons (s_set ?_)
  walk_at "sts"
  refine ix_t (by exact SqT.of hq17) rfl ?_
  walk_at "sts"
  refine ix_t (by exact SqT.of hq17) rfl ?_
  walk_at "sts"
  refine ix_t (by exact SqT.of hq17) rfl ?_
  walk_at "sts"
  refine o_mul (.inl ⟨by omega, by omega⟩) ?_
  walk_at "sts"
  refine ix_t (by exact SqT.of hq17) rfl ?_
  walk_at "sts"
  refine ⟨by show 3 ≤ sizeLine; decide, fun d18 B18 t18 _ hd => ?_⟩
  have hd : Tr (tall3 k (mul3 x y)) B18 (.ref d18) := ⟨d18, rfl, hd⟩
  replace h1 := up t18 h1
  replace h2 := up t18 h2
  replace h3 := up t18 h3
  replace ha := up t18 ha
  replace hb := up t18 hb
  replace hc := up t18 hc
  replace hs := up t18 hs
  replace hj := up t18 hj
  show wL _ _ _ [_, _, _, _, _, _, _, _, _, _] _
  refine l_cons (s_nn (Same.refl B18) ?_ ?_ fun B19 t19 => ?_)
  refine g_due (x := (tall3 (k) (mul3 x y))) (y := (tall3 k (mul3 x y))) (K := K) (by exact FD) (by exact hr) (by decide) ?_ ?_ ?_
  refine gs_m (x := (mul3 x y)) (k := k) (pl := _) (d := 45) (f := 20) (by exact MT) (by exact hr) (by decide) ?_ ?_ ?_ ?_ (by decide) (by decide) (by decide)
  refine gs_mul (x := x) (y := y) (by exact OM) (by exact hr) (by decide) ?_ ?_ ?_
  exact gs_var (by exact ha)
  exact gs_var (by exact hb)
  exact ⟨_, _, hx, hy, by decide, by decide, by decide⟩
  exact gs_var (R := Nm (k)) (by exact rfl)
  exact hxy
  exact hk
  exact gs_var (by exact hd)
  exact rfl
  refine g_due (x := (mul3 (tall3 (k) x) y)) (y := (tall3 k (mul3 x y))) (K := K) (by exact FD) (by exact hr) (by decide) ?_ ?_ ?_
  refine gs_mul (x := (tall3 (k) x)) (y := y) (by exact OM) (by exact hr) (by decide) ?_ ?_ ?_
  refine gs_m (x := x) (k := k) (pl := _) (d := 22) (f := 20) (by exact MT) (by exact hr) (by decide) ?_ ?_ ?_ ?_ (by decide) (by decide) (by decide)
  exact gs_var (by exact ha)
  exact gs_var (R := Nm (k)) (by exact rfl)
  exact hx
  exact hk
  exact gs_var (by exact hb)
  exact ⟨_, _, (hx.tall hk), hy, by decide, by decide, by decide⟩
  exact gs_var (by exact hd)
  (refine t3ext ?_ ?_ ?_ <;> simp only [add3, mul3, tall3, load3, cut3] <;> grind)
  replace h1 := up t19 h1
  replace h2 := up t19 h2
  replace h3 := up t19 h3
  replace ha := up t19 ha
  replace hb := up t19 hb
  replace hc := up t19 hc
  replace hs := up t19 hs
  replace hj := up t19 hj
  replace hd := up t19 hd
  clear hd
  obtain ⟨tt19, et, hq19⟩ := id hj
  cases et
  refine l_cons (s_set ?_)
  walk_at "sts"
  refine ix_t (by exact SqT.of hq19) rfl ?_
  walk_at "sts"
  refine ix_t (by exact SqT.of hq19) rfl ?_
  walk_at "sts"
  refine ix_t (by exact SqT.of hq19) rfl ?_
  walk_at "sts"
  refine ix_t (by exact SqT.of hq19) rfl ?_
  walk_at "sts"
  refine o_mul (.inl ⟨by omega, by omega⟩) ?_
  walk_at "sts"
  refine ⟨by show 3 ≤ sizeLine; decide, fun d20 B20 t20 _ hd => ?_⟩
  have hd : Tr (load3 k (mul3 x y)) B20 (.ref d20) := ⟨d20, rfl, hd⟩
  replace h1 := up t20 h1
  replace h2 := up t20 h2
  replace h3 := up t20 h3
  replace ha := up t20 ha
  replace hb := up t20 hb
  replace hc := up t20 hc
  replace hs := up t20 hs
  replace hj := up t20 hj
  show wL _ _ _ [_, _, _, _, _, _, _, _, _, _] _
  refine l_cons (s_nn (Same.refl B20) ?_ ?_ fun B21 t21 => ?_)
  refine g_due (x := (load3 (k) (mul3 x y))) (y := (load3 k (mul3 x y))) (K := K) (by exact FD) (by exact hr) (by decide) ?_ ?_ ?_
  refine gs_m (x := (mul3 x y)) (k := k) (pl := _) (d := 45) (f := 20) (by exact ML) (by exact hr) (by decide) ?_ ?_ ?_ ?_ (by decide) (by decide) (by decide)
  refine gs_mul (x := x) (y := y) (by exact OM) (by exact hr) (by decide) ?_ ?_ ?_
  exact gs_var (by exact ha)
  exact gs_var (by exact hb)
  exact ⟨_, _, hx, hy, by decide, by decide, by decide⟩
  exact gs_var (R := Nm (k)) (by exact rfl)
  exact hxy
  exact hk
  exact gs_var (by exact hd)
  exact rfl
  refine g_due (x := (mul3 x (load3 (k) y))) (y := (load3 k (mul3 x y))) (K := K) (by exact FD) (by exact hr) (by decide) ?_ ?_ ?_
  refine gs_mul (x := x) (y := (load3 (k) y)) (by exact OM) (by exact hr) (by decide) ?_ ?_ ?_
  exact gs_var (by exact ha)
  refine gs_m (x := y) (k := k) (pl := _) (d := 22) (f := 20) (by exact ML) (by exact hr) (by decide) ?_ ?_ ?_ ?_ (by decide) (by decide) (by decide)
  exact gs_var (by exact hb)
  exact gs_var (R := Nm (k)) (by exact rfl)
  exact hy
  exact hk
  exact ⟨_, _, hx, (hy.load hk), by decide, by decide, by decide⟩
  exact gs_var (by exact hd)
  (refine t3ext ?_ ?_ ?_ <;> simp only [add3, mul3, tall3, load3, cut3] <;> grind)
  replace h1 := up t21 h1
  replace h2 := up t21 h2
  replace h3 := up t21 h3
  replace ha := up t21 ha
  replace hb := up t21 hb
  replace hc := up t21 hc
  replace hs := up t21 hs
  replace hj := up t21 hj
  replace hd := up t21 hd
  refine l_cons (s_retS (R := IsT) (Same.refl B21) ?_ fun zz BZ tz hz2 => ?_)
  refine gs_and3 ?_ ?_ ?_
  refine g_due (x := x) (y := x) (K := K) (by exact FD) (by exact hr) (by decide) ?_ ?_ ?_
  exact gs_var (by exact ha)
  exact gs_var (by exact h1)
  exact rfl
  refine g_due (x := y) (y := y) (K := K) (by exact FD) (by exact hr) (by decide) ?_ ?_ ?_
  exact gs_var (by exact hb)
  exact gs_var (by exact h2)
  exact rfl
  refine g_due (x := z) (y := z) (K := K) (by exact FD) (by exact hr) (by decide) ?_ ?_ ?_
  exact gs_var (by exact hc)
  exact gs_var (by exact h3)
  exact rfl
  cases (show zz = .bl true from hz2)
  exact q BZ
end


theorem map_take1 {f : Int × Int → Int × Int} {ps : Pl} {k : Nat} {p : Int × Int} (h : ps[k]? = some p) : (ps.take (k + 1)).map f = (ps.take k).map f ++ [f p] := by
  rw [take1 h]
  simp
def m1 (k : Int) (ps : Pl) : Pl := ps.map fun p => (p.1 + k, p.2)
def m2 (k : Int) (ps : Pl) : Pl := ps.map fun p => (p.1, p.2 + k)
def m3 (k : Int) (ps : Pl) : Pl := ps.map fun p => (p.1, p.2 + k * (p.1 - 1))
theorem tri_map1 (k : Int) (ps : Pl) : tri (ps.map fun p => (p.1 + k, p.2)) = tall3 k (tri ps) := by
  induction ps with
  | nil => refine t3ext ?_ ?_ ?_ <;> simp [tri, tall3, s1, s2]
  | cons b ys ih =>
    have e2 : (b :: ys) = [b] ++ ys := rfl
    rw [e2, List.map_append, tri_app, ih, tri_app]
    refine t3ext ?_ ?_ ?_ <;> simp only [tri, tall3, add3, s1, s2, List.length_cons, List.length_nil, List.map_cons, List.map_nil, List.sum_cons, List.sum_nil] <;> grind
theorem tri_map2 (k : Int) (ps : Pl) : tri (ps.map fun p => (p.1, p.2 + k)) = load3 k (tri ps) := by
  induction ps with
  | nil => refine t3ext ?_ ?_ ?_ <;> simp [tri, load3, s1, s2]
  | cons b ys ih =>
    have e2 : (b :: ys) = [b] ++ ys := rfl
    rw [e2, List.map_append, tri_app, ih, tri_app]
    refine t3ext ?_ ?_ ?_ <;> simp only [tri, load3, add3, s1, s2, List.length_cons, List.length_nil, List.map_cons, List.map_nil, List.sum_cons, List.sum_nil] <;> grind
theorem tri_map3 (k : Int) (ps : Pl) : tri (ps.map fun p => (p.1, p.2 + k * (p.1 - 1))) = cut3 k (tri ps) := by
  induction ps with
  | nil => refine t3ext ?_ ?_ ?_ <;> simp [tri, cut3, s1, s2]
  | cons b ys ih =>
    have e2 : (b :: ys) = [b] ++ ys := rfl
    rw [e2, List.map_append, tri_app, ih, tri_app]
    refine t3ext ?_ ?_ ?_ <;> simp only [tri, cut3, add3, s1, s2, List.length_cons, List.length_nil, List.map_cons, List.map_nil, List.sum_cons, List.sum_nil] <;> grind
/-- a comprehension that makes a pair of each pair -/
theorem lc_prs {X : Cx} {Vn : List (Nat × Str)} {G' : List Str} {elt : Expr} {scope : Scope} {i : Nat} {l D : Addr} {xs : List V} {ps : Pl} {σ : L2.St} {H : Hp} {Qd : Hp → Prop} (f : Int × Int → Int × Int) (hl : H l = some (.lst xs)) (hps : Prs H xs ps) (hz : ps.length ≤ 1000) (hD : H D = none)
    (hs : ∀ p t H2, Same H H2 → H2 t = some (.tup [.int p.1, .int p.2]) → ∀ s0 H0 C cl fp, InB (Bk X s0 H0 scope C cl fp) Vn G' → ∀ Q : VK, (∀ r H3, Same H2 H3 → H3 r = some (.tup [.int (f p).1, .int (f p).2]) → Q (.ref r) H3) → wE (Bk X s0 H0 scope C cl fp) elt ((wipe σ [i]).set i (some (.ref t))) H2 Q)
    (hq : ∀ H2, Same H H2 → PlL (ps.map f) H2 (.ref D) → Qd H2) : LcL X Vn G' elt scope i l xs D σ H Qd := by
  refine ⟨fun k H2 => ∃ acc, H2 D = some (.lst acc) ∧ Prs H2 acc ((ps.take k).map f) ∧ Same H H2, ⟨[], upd_same, trivial, Same.updN (Same.refl H) hD⟩, fun k H2 _ hW => ?_, fun k x H2 hk hW s0 H0 C cl fp IB => ?_, fun H2 hW => ?_⟩
  · obtain ⟨acc, _, _, e⟩ := hW
    exact SqL.of (e _ _ hl)
  · obtain ⟨acc, h2, hacc, e⟩ := hW
    obtain ⟨p, hp, t, rfl, ht⟩ := (hps.up e).get hk
    have kl : k < ps.length := (List.getElem?_eq_some_iff.mp hp).1
    refine hs p t H2 e ht s0 H0 C cl fp IB _ fun r H3 e3 hr3 => ?_
    have h3 := e3 _ _ h2
    refine ⟨acc, h3, ?_, acc ++ [.ref r], upd_same, ?_, Same.updN (e.trans e3) hD⟩
    · rw [hacc.len, List.length_map, List.length_take]
      show min k ps.length < 2 ^ 24
      have : min k ps.length ≤ ps.length := Nat.min_le_right _ _
      omega
    · rw [map_take1 hp]
      exact Prs.app ⟨r, rfl, by rw [upd_ne (ne_of hr3 h3 (by intro z; cases z))]; exact hr3⟩ ((hacc.up e3).upd h3)
  · obtain ⟨acc, h2, hacc, e⟩ := hW
    rw [hps.len, List.take_length] at hacc
    exact hq H2 e ⟨D, acc, rfl, h2, hacc⟩
section
variable {P : Program} {w : World} {K : PySem.W.Frag} {mg : Str → Option Value} {base : Heap} {C : Addr}
def spOne (C : Addr) : Sp := fun vs H Q _ => ∃ v ps, ∃ k : Int, vs = [v, .int k] ∧ PlL ps H v ∧ Fine ps ∧ k.natAbs < 2 ^ 20 ∧ ∀ H', Same H H' → Q (.bl true) H'
theorem ok_one (T : Top K mg "_law_one" s_one) (FM : FMade P w K mg base C) (FD : FDue P w K mg base C) (FT : FTri P w K mg base) (MT : Mt P w K mg base 3 C "taller" (spM C tall3)) (ML : Mt P w K mg base 3 C "loaded" (spM C load3)) (MU : Mt P w K mg base 3 C "cut" (spM C cut3)) (mR : mg "range" = none) : Fn P w K mg base 6 "_law_one" (spOne C) := by
  refine fn_okC T sc_one so_one (fun vs H Q E h => by obtain ⟨v, ps, k, rfl, _⟩ := h; rfl) (fun _ _ _ _ _ _ us hl => match us, hl with | [_, _], _ => rfl) fun f cdv A outer s H vs Q E hr h nd => ?_
  obtain ⟨v, ps, k, rfl, ⟨l, xs, rfl, hl, hps⟩, hf, hk, q⟩ := h
  have hkk : k.natAbs < 1048576 := hk
  have hz : ps.length ≤ 1000 := by have := hf.1; omega
  refine l_cons (s_lcL (by exact bk_one0) ?_)
  walk_at "sts"
  refine ⟨l, xs, rfl, SqL.of hl, fun D1 hD1 => lc_prs (fun p => (p.1 + k, p.2)) hl hps hz hD1 (fun p t H2 e ht s0 H0 C cl fp IB Q q => ?_) fun H1 e1 g1 => ?_⟩
  · refine e_tup (a_cons (e_bin (e_ix (b_var (e_int (ix_t (by exact SqT.of ht) rfl (b_var ?_)))))))
    refine o_add (a_cons (e_ix (b_var (e_int (ix_t (by exact SqT.of ht) rfl (a_nil ?_))))))
    exact ⟨by show 2 ≤ sizeLine; decide, fun r H3 e3 _ hr3 => q r H3 e3 hr3⟩
  have hl1 := e1 _ _ hl
  have hp1 := hps.up e1
  refine l_cons (s_lcL (by exact bk_one1) ?_)
  walk_at "sts"
  refine ⟨l, xs, rfl, SqL.of hl1, fun D2 hD2 => lc_prs (fun p => (p.1, p.2 + k)) hl1 hp1 hz hD2 (fun p t H2 e ht s0 H0 C cl fp IB Q q => ?_) fun H2 e2 g2 => ?_⟩
  · refine e_tup (a_cons (e_ix (b_var (e_int (ix_t (by exact SqT.of ht) rfl ?_)))))
    refine a_cons (e_bin (e_ix (b_var (e_int (ix_t (by exact SqT.of ht) rfl (b_var ?_))))))
    refine o_add (a_nil ?_)
    exact ⟨by show 2 ≤ sizeLine; decide, fun r H3 e3 _ hr3 => q r H3 e3 hr3⟩
  have hl2 := e2 _ _ hl1
  have hp2 := hp1.up e2
  refine l_cons (s_lcL (by exact bk_one2) ?_)
  walk_at "sts"
  refine ⟨l, xs, rfl, SqL.of hl2, fun D3 hD3 => lc_prs (fun p => (p.1, p.2 + k * (p.1 - 1))) hl2 hp2 hz hD3 (fun p t H2 e ht s0 H0 C cl fp IB Q q => ?_) fun H3 e3 g3 => ?_⟩
  · refine e_tup (a_cons (e_ix (b_var (e_int (ix_t (by exact SqT.of ht) rfl ?_)))))
    refine a_cons (e_bin (e_ix (b_var (e_int (ix_t (by exact SqT.of ht) rfl (e_bin (b_var (e_bin (e_ix (b_var (e_int (ix_t (by exact SqT.of ht) rfl (e_int ?_)))))))))))))
    refine o_sub (o_mul (.inl ⟨by omega, by omega⟩) (o_add (a_nil ?_)))
    exact ⟨by show 2 ≤ sizeLine; decide, fun r H3 e3 _ hr3 => q r H3 e3 hr3⟩
  have h0 : PlL ps H3 (.ref l) := ⟨l, xs, rfl, e3 _ _ hl2, hp2.up e3⟩
  have g1 : PlL (m1 k ps) H1 (.ref D1) := g1
  have g2 : PlL (m2 k ps) H2 (.ref D2) := g2
  have g3 : PlL (m3 k ps) H3 (.ref D3) := g3
  replace g1 := up (e2.trans e3) g1
  replace g2 := up e3 g2
  have E3 := (e1.trans e2).trans e3
  refine l_cons (s_let (R := Tl C (tri ps)) (Same.refl H3) ?_ fun pa H4 s4 ha => ?_)
  refine gs_call (A := fun x : T3 => [Tr x]) (R := fun x : T3 => Tl C x) (z := (tri ps)) (by exact FM) (by exact hr) (by decide) ?_
  refine gs_cons ?_ ?_
  refine gs_call (A := fun ps : Pl => [PlL ps]) (R := fun ps : Pl => Tr (tri ps)) (z := ps) (by exact FT) (by exact hr) (by decide) ?_
  refine gs_cons ?_ ?_
  exact gs_var (by exact h0)
  exact gs_nil
  exact gs_nil
  replace g1 := up s4 g1
  replace g2 := up s4 g2
  replace g3 := up s4 g3
  replace h0 := up s4 h0
  have hx := hf.bd
  refine l_cons (s_forR (by assumption) ?_)
  walk_at "sts"
  refine ⟨by decide, fun j σ H' => ∃ y z, σ = [some (.ref l), some (.int k), some (.ref D1), some (.ref D2), some (.ref D3), some pa, y, z] ∧ Same H4 H', ⟨_, _, rfl, Same.refl _⟩, fun j σ H5 hj hW => ?_, fun σ H5 hW => ?_⟩
  · obtain ⟨y, z, rfl, e5⟩ := hW
    refine l_cons (s_nn e5 ?_ ?_ fun H6 e6 => ?_)
    refine g_due (x := (tall3 (k) (tri ps))) (y := (tri (m1 k ps))) (K := K) (by exact FD) (by exact hr) (by decide) ?_ ?_ ?_
    refine gs_m (x := (tri ps)) (k := k) (pl := _) (d := 13) (f := 20) (by exact MT) (by exact hr) (by decide) ?_ ?_ ?_ ?_ (by decide) (by decide) (by decide)
    exact gs_var (by exact ha)
    exact gs_var (R := Nm (k)) (by exact rfl)
    exact hx
    exact hk
    refine gs_call (A := fun ps : Pl => [PlL ps]) (R := fun ps : Pl => Tr (tri ps)) (z := (m1 k ps)) (by exact FT) (by exact hr) (by decide) ?_
    refine gs_cons ?_ ?_
    exact gs_var (by exact g1)
    exact gs_nil
    exact (tri_map1 k ps).symm
    refine g_due (x := (load3 (k) (tri ps))) (y := (tri (m2 k ps))) (K := K) (by exact FD) (by exact hr) (by decide) ?_ ?_ ?_
    refine gs_m (x := (tri ps)) (k := k) (pl := _) (d := 13) (f := 20) (by exact ML) (by exact hr) (by decide) ?_ ?_ ?_ ?_ (by decide) (by decide) (by decide)
    exact gs_var (by exact ha)
    exact gs_var (R := Nm (k)) (by exact rfl)
    exact hx
    exact hk
    refine gs_call (A := fun ps : Pl => [PlL ps]) (R := fun ps : Pl => Tr (tri ps)) (z := (m2 k ps)) (by exact FT) (by exact hr) (by decide) ?_
    refine gs_cons ?_ ?_
    exact gs_var (by exact g2)
    exact gs_nil
    exact (tri_map2 k ps).symm
    refine l_cons (s_nn e6 ?_ ?_ fun H7 e7 => ?_)
    refine g_due (x := (cut3 (k) (tri ps))) (y := (tri (m3 k ps))) (K := K) (by exact FD) (by exact hr) (by decide) ?_ ?_ ?_
    refine gs_m (x := (tri ps)) (k := k) (pl := _) (d := 13) (f := 20) (by exact MU) (by exact hr) (by decide) ?_ ?_ ?_ ?_ (by decide) (by decide) (by decide)
    exact gs_var (by exact ha)
    exact gs_var (R := Nm (k)) (by exact rfl)
    exact hx
    exact hk
    refine gs_call (A := fun ps : Pl => [PlL ps]) (R := fun ps : Pl => Tr (tri ps)) (z := (m3 k ps)) (by exact FT) (by exact hr) (by decide) ?_
    refine gs_cons ?_ ?_
    exact gs_var (by exact g3)
    exact gs_nil
    exact (tri_map3 k ps).symm
    refine g_due (x := (tri ps)) (y := (tri ps)) (K := K) (by exact FD) (by exact hr) (by decide) ?_ ?_ ?_
    exact gs_var (by exact ha)
    refine gs_call (A := fun ps : Pl => [PlL ps]) (R := fun ps : Pl => Tr (tri ps)) (z := ps) (by exact FT) (by exact hr) (by decide) ?_
    refine gs_cons ?_ ?_
    exact gs_var (by exact h0)
    exact gs_nil
    exact rfl
    exact l_nil ⟨_, _, rfl, e7⟩
  · obtain ⟨y, z, rfl, e5⟩ := hW
    walk_at "sts"
    exact q H5 ((E3.trans s4).trans e5)
def spTwoL (C : Addr) : Sp := fun vs H Q _ => ∃ v u ps qs, vs = [v, u] ∧ PlL ps H v ∧ PlL qs H u ∧ Fine ps ∧ Fine qs ∧ ∀ H', Same H H' → Q (.bl true) H'
theorem ok_two (T : Top K mg "_law_two" s_two) (FM : FMade P w K mg base C) (FD : FDue P w K mg base C) (FT : FTri P w K mg base) (FPa : Fn P w K mg base 1 "_law_pairs" spPairs) (OA : Op2 P w K mg base 3 C .Add (spOp C add3 cAny)) (OM : Op2 P w K mg base 3 C .Mult (spOp C mul3 cMul)) (mR : mg "range" = none) : Fn P w K mg base 6 "_law_two" (spTwoL C) := by
  refine fn_ok T sc_two so_two (fun vs H Q E h => by obtain ⟨v, u, ps, qs, rfl, _⟩ := h; rfl) (fun _ _ _ _ _ _ us hl => match us, hl with | [_, _], _ => rfl) fun f cdv A outer s H vs Q E hr h nd => ?_
  obtain ⟨v, u, ps, qs, rfl, h1, h2, f1, f2, q⟩ := h
  refine l_cons (s_let (R := Tl C (tri ps)) (Same.refl H) ?_ fun pa H1 s1 ha => ?_)
  refine gs_call (A := fun x : T3 => [Tr x]) (R := fun x : T3 => Tl C x) (z := (tri ps)) (by exact FM) (by exact hr) (by decide) ?_
  refine gs_cons ?_ ?_
  refine gs_call (A := fun ps : Pl => [PlL ps]) (R := fun ps : Pl => Tr (tri ps)) (z := ps) (by exact FT) (by exact hr) (by decide) ?_
  refine gs_cons ?_ ?_
  exact gs_var (by exact h1)
  exact gs_nil
  exact gs_nil
  replace h1 := up s1 h1
  replace h2 := up s1 h2
  refine l_cons (s_let (R := Tl C (tri qs)) (Same.refl H1) ?_ fun pb H2 s2 hb => ?_)
  refine gs_call (A := fun x : T3 => [Tr x]) (R := fun x : T3 => Tl C x) (z := (tri qs)) (by exact FM) (by exact hr) (by decide) ?_
  refine gs_cons ?_ ?_
  refine gs_call (A := fun ps : Pl => [PlL ps]) (R := fun ps : Pl => Tr (tri ps)) (z := qs) (by exact FT) (by exact hr) (by decide) ?_
  refine gs_cons ?_ ?_
  exact gs_var (by exact h2)
  exact gs_nil
  exact gs_nil
  replace h1 := up s2 h1
  replace h2 := up s2 h2
  replace ha := up s2 ha
  have hlen : ps.length * qs.length ≤ 4 * 4 := Nat.mul_le_mul f1.1 f2.1
  have hl1 := f1.1
  have hl2 := f2.1
  refine l_cons (s_forR (by assumption) ?_)
  walk_at "sts"
  refine ⟨by decide, fun j σ H' => ∃ y, σ = [some v, some u, some pa, some pb, y] ∧ Same H2 H', ⟨_, rfl, Same.refl _⟩, fun j σ H5 hj hW => ?_, fun σ H5 hW => ?_⟩
  · obtain ⟨y, rfl, e5⟩ := hW
    refine l_cons (s_n e5 ?_ fun H6 e6 => ?_)
    refine g_due (x := (add3 (tri ps) (tri qs))) (y := (tri (ps ++ qs))) (K := K) (by exact FD) (by exact hr) (by decide) ?_ ?_ ?_
    refine gs_add (x := (tri ps)) (y := (tri qs)) (by exact OA) (by exact hr) (by decide) ?_ ?_
    exact gs_var (by exact ha)
    exact gs_var (by exact hb)
    refine gs_call (A := fun ps : Pl => [PlL ps]) (R := fun ps : Pl => Tr (tri ps)) (z := (ps ++ qs)) (by exact FT) (by exact hr) (by decide) ?_
    refine gs_cons ?_ ?_
    refine gs_cat (ps := ps) (qs := qs) ?_ ?_ ?_
    exact gs_var (by exact h1)
    exact gs_var (by exact h2)
    omega
    exact gs_nil
    exact (tri_app ps qs).symm
    refine l_cons (s_n e6 ?_ fun H7 e7 => ?_)
    refine g_due (x := (mul3 (tri ps) (tri qs))) (y := (tri (pairsL ps qs))) (K := K) (by exact FD) (by exact hr) (by decide) ?_ ?_ ?_
    refine gs_mul (x := (tri ps)) (y := (tri qs)) (by exact OM) (by exact hr) (by decide) ?_ ?_ ?_
    exact gs_var (by exact ha)
    exact gs_var (by exact hb)
    exact ⟨_, _, f1.bd, f2.bd, by decide, by decide, by decide⟩
    refine gs_call (A := fun ps : Pl => [PlL ps]) (R := fun ps : Pl => Tr (tri ps)) (z := (pairsL ps qs)) (by exact FT) (by exact hr) (by decide) ?_
    refine gs_cons ?_ ?_
    refine gs_pairs (ps := ps) (qs := qs) (by exact FPa) (by exact hr) (by decide) ?_ ?_ ?_
    exact gs_var (by exact h1)
    exact gs_var (by exact h2)
    omega
    exact gs_nil
    exact (tri_pairs ps qs).symm
    exact l_nil ⟨_, rfl, e7⟩
  · obtain ⟨y, rfl, e5⟩ := hW
    refine l_cons (s_retS (R := IsT) e5 ?_ fun z H6 e6 hz => ?_)
    refine gs_and2 ?_ ?_
    refine g_due (x := (tri ps)) (y := (tri ps)) (K := K) (by exact FD) (by exact hr) (by decide) ?_ ?_ ?_
    exact gs_var (by exact ha)
    refine gs_call (A := fun ps : Pl => [PlL ps]) (R := fun ps : Pl => Tr (tri ps)) (z := ps) (by exact FT) (by exact hr) (by decide) ?_
    refine gs_cons ?_ ?_
    exact gs_var (by exact h1)
    exact gs_nil
    exact rfl
    refine g_due (x := (tri qs)) (y := (tri qs)) (K := K) (by exact FD) (by exact hr) (by decide) ?_ ?_ ?_
    exact gs_var (by exact hb)
    refine gs_call (A := fun ps : Pl => [PlL ps]) (R := fun ps : Pl => Tr (tri ps)) (z := qs) (by exact FT) (by exact hr) (by decide) ?_
    refine gs_cons ?_ ?_
    exact gs_var (by exact h2)
    exact gs_nil
    exact rfl
    cases (show z = .bl true from hz)
    exact q H6 ((s1.trans s2).trans e6)
end


section
variable {P : Program} {w : World} {K : PySem.W.Frag} {mg : Str → Option Value} {base : Heap} {C : Addr}
theorem Same.but {p : Addr} {H0 H1 H2 : Hp} (s : Same H0 H1) (n : H0 p = none) (b : But p H1 H2) : Same H0 H2 := fun x o h => b x o (ne_of_none h n) (s x o h)
/-- the drawn lists -/
def GL (p D : Addr) (H : Hp) (acc : List V) : Prop := ∀ (i : Nat) v, acc[i]? = some v → ∃ ps l xs, v = .ref l ∧ l ≠ p ∧ l ≠ D ∧ H l = some (.lst xs) ∧ Prs H xs ps ∧ Fine ps
theorem GL.but {p D : Addr} {H H' : Hp} {acc : List V} (b : But p H H') (hp : PoolAt H p) (h : GL p D H acc) : GL p D H' acc := fun i v e => by
  obtain ⟨ps, l, xs, e1, n1, n2, hl, hx, hf⟩ := h i v e
  obtain ⟨x, y, z, hp⟩ := hp
  exact ⟨ps, l, xs, e1, n1, n2, b l _ n1 hl, hx.but hp b, hf⟩
theorem GL.app {p D : Addr} {H : Hp} {acc : List V} {v : V} (h : GL p D H acc) (hv : ∃ ps l xs, v = .ref l ∧ l ≠ p ∧ l ≠ D ∧ H l = some (.lst xs) ∧ Prs H xs ps ∧ Fine ps) : GL p D H (acc ++ [v]) := fun i u e => by
  by_cases hi : i < acc.length
  · rw [List.getElem?_append_left hi] at e
    exact h i u e
  · rw [List.getElem?_append_right (by omega)] at e
    have h0 : i - acc.length = 0 := by
      cases hj : i - acc.length with
      | zero => rfl
      | succ j => rw [hj] at e; cases e
    rw [h0] at e
    cases (Option.some.inj e)
    exact hv
theorem GL.upd {p D : Addr} {H : Hp} {acc zs : List V} {o : HO} (hD : H D = some (.lst zs)) (h : GL p D H acc) : GL p D (L2.upd H D o) acc := fun i v e => by
  obtain ⟨ps, l, xs, e1, n1, n2, hl, hx, hf⟩ := h i v e
  exact ⟨ps, l, xs, e1, n1, n2, by rw [upd_ne n2]; exact hl, hx.upd hD, hf⟩
theorem gs_copies {X : Cx} {a b : Expr} {σ : L2.St} {H : Hp} {pos p0 : Pos} {N G : List Str} {sc : Scope} {g n m : Nat} {ps : Pl} (F : Fn X.prog X.w X.K X.mg X.base 2 "_law_copies" (fun vs H Q _ => ∃ v ps, ∃ n : Nat, vs = [v, .int n] ∧ PlL ps H v ∧ ps.length ≤ 4 ∧ n ≤ 8 ∧ ∀ r H', Same H H' → PlL (cops ps n) H' r → Q r H')) (hr : Room n X.A) (hk : 2 ≤ n) (h1 : EvS X a σ H (PlL ps)) (h2 : EvS X b σ H (Nm m)) (hc : ps.length ≤ 4) (hm : m ≤ 8) (I : Wk.In X N G sc := by assumption) (hG : At G g "_law_copies" := by repeat (first | with_reducible apply At.z | with_reducible apply At.s))
    (he : starEach (a :: [b]) X.env = (false, eval a X.env) :: starEach [b] X.env := by rfl) (he2 : starEach (b :: []) X.env = (false, eval b X.env) :: starEach [] X.env := by rfl) (hpl : (backTo pos (starEach [b] X.env)).any (·.1) = false := by rfl) : EvS X (.Call (.Name "_law_copies" p0) [a, b] [] pos) σ H (PlL (cops ps m)) := fun H' s =>
  ev_of fun Q q => e_call F hr hk (a_cons (ev_e (h1 H' s) fun v1 H1 s1 r1 => a_cons (ev_e (h2 H1 (s.trans s1)) fun v2 H2 s2 r2 => a_nil (by
    cases (show v2 = .int m from r2)
    exact ⟨v1, ps, m, rfl, LastR.up H1 H2 v1 s2 r1, hc, hm, fun r H3 s3 h3 => q r H3 ((s1.trans s2).trans s3) h3⟩)) he2) he) I hG he hpl
def spLaw (K : PySem.W.Frag) : Sp := fun vs H Q _ => ∃ (a : Addr) (ns : List Int), vs = [.ref a] ∧ SqL K H a (ns.map V.int) ∧ ns.length ≤ 63 ∧ ∀ H', Q (.bl true) H'
abbrev FCops (P : Program) (w : World) (K : PySem.W.Frag) (mg : Str → Option Value) (base : Heap) := Fn P w K mg base 2 "_law_copies" (fun vs H Q _ => ∃ v ps, ∃ n : Nat, vs = [v, .int n] ∧ PlL ps H v ∧ ps.length ≤ 4 ∧ n ≤ 8 ∧ ∀ r H', Same H H' → PlL (cops ps n) H' r → Q r H')
theorem run_okC {x qual : Str} {st : Stmt} {N C G ps : List Str} {k : Nat} {sp : Sp} {f : Addr} {fd : FuncData} (F : Fun K x qual st f fd) (S : FnScope (N ++ C) ps (defScope st)) (O : ScOk N G (defScope st)) (len : ∀ vs H Q E, sp vs H Q E → vs.length = ps.length)
    (hbody : ∀ (f : Addr) (cdv : Value) (A : Around) (outer : List Env) (s : Shared) (H : Hp) (vs : List V) (Q : VK) (E : XK), Room k (A.deeper (envOfC qual (defScope st) s.heap.objs.size f cdv)) → sp vs H Q E → Wk.In (cxOf CX0 P w K mg base (N ++ C) qual (defScope st) f cdv A outer s H E).nox N G (defScope st) →
      wL (cxOf CX0 P w K mg base (N ++ C) qual (defScope st) f cdv A outer s H E).nox (defBody st) { nx := fun _ H' => Q .non H', rt := Q } (start (N ++ C) vs) H) : FnOk P w K mg base CX0 (k + 1) f fd ps sp :=
  F.ok S len (fun cdv A outer s H vs Q E hr h => ⟨_, pl, hbody f cdv A outer s H vs Q E hr h ⟨O, ⟨C, rfl⟩, S.nd, rfl, rfl, PassesOwn.never⟩⟩)
theorem ok_law {f : Addr} {fd : FuncData} (F : Fun K "law" "law" s_law f fd) (FPo : Fn P w K mg base 2 "_law_pool" (spPool K)) (FX : Fn P w K mg base 1 "_law_next" spNext) (FL : Fn P w K mg base 2 "_law_list" spList) (FN : Fn P w K mg base 2 "_law_number" spNumber) (FG : Fn P w K mg base 2 "_law_large" spLarge)
    (FR : Fn P w K mg base 1 "_law_room" spRoom) (FM : FMade P w K mg base C) (FD : FDue P w K mg base C) (FT : FTri P w K mg base) (FC : FCops P w K mg base) (MC : Mt P w K mg base 5 C "copied" (spCop C)) (F1 : Fn P w K mg base 6 "_law_one" (spOne C)) (F2 : Fn P w K mg base 6 "_law_two" (spTwoL C)) (FM2 : Fn P w K mg base 6 "_law_many" (spMany C)) (F3 : Fn P w K mg base 6 "_law_three" (spThree C)) (mR : mg "range" = none) (mLen : mg "len" = none) : FnOk P w K mg base CX0 7 f fd ["_law_script"] (spLaw K) := by
  refine run_okC (ps := P_law) F sc_law so_law (fun vs H Q E h => by obtain ⟨a, ns, rfl, _⟩ := h; rfl) fun ff cdv A outer s H vs Q E hr h nd => ?_
  obtain ⟨sa, ns, rfl, hS, hlen, q⟩ := h
  walk_at "sts"
  refine e_call (by exact FPo) (by exact hr) (by decide) ?_
  walk_at "sts"
  refine ⟨sa, ns, 0, rfl, hS, fun p H1 f1 np p1 => ?_⟩
  refine l_cons (s_lcR (by exact bk_law0) (by exact mR) ?_)
  walk_at "sts"
  refine ⟨by decide, fun D hD => ⟨fun k H2 => ∃ acc, H2 D = some (.lst acc) ∧ acc.length = k ∧ GL p D H2 acc ∧ Same H H2 ∧ PoolAt H2 p, ⟨[], upd_same, rfl, fun i v e => by simp at e, Same.updN f1 (by
      cases hz : H D with
      | none => rfl
      | some o => exact absurd (f1 D o hz) (by rw [hD]; intro z; cases z)), ?_⟩, fun k H2 hk hW s0 H0 C0 cl fp IB => ?_, fun H2 hW => ?_⟩⟩
  · obtain ⟨x, y, z, p1⟩ := p1
    exact ⟨x, y, z, by rw [upd_ne (ne_of_none p1 hD)]; exact p1⟩
  · have pD : D ≠ p := by
      intro e
      subst e
      obtain ⟨x, y, z, p1⟩ := p1
      rw [p1] at hD
      cases hD
    obtain ⟨acc, hD2, hl, hg, s2, p2⟩ := hW
    refine b_call (by exact FL) (by exact hr) (by decide) (a_cons (b_var (a_nil ?_)))
    refine ⟨p, rfl, p2, fun v ps H3 b3 p3 hv hf hn => ?_⟩
    have hD3 := b3 D _ pD hD2
    refine ⟨acc, hD3, by rw [hl]; show k < 2 ^ 24; have hk' : k < 3 := hk; omega, acc ++ [v], upd_same, by simp [hl], ?_, Same.updN (Same.but s2 np b3) ?_, ?_⟩
    · obtain ⟨l, xs, rfl, n1, h1, h2⟩ := hv
      have nD : l ≠ D := by
        intro e
        subst e
        rw [hn l rfl] at hD2
        cases hD2
      refine GL.app ((hg.but b3 p2).upd hD3) ⟨ps, l, xs, rfl, n1, nD, by rw [upd_ne nD]; exact h1, h2.upd hD3, hf⟩
    · cases hz : H D with
      | none => rfl
      | some o => exact absurd (f1 D o hz) (by rw [hD]; intro z; cases z)
    · obtain ⟨x, y, z, p3⟩ := p3
      exact ⟨x, y, z, by rw [upd_ne pD.symm]; exact p3⟩
  have pD : D ≠ p := by
    intro e
    subst e
    obtain ⟨x, y, z, p1⟩ := p1
    rw [p1] at hD
    cases hD
  obtain ⟨acc, hD2, hl, hg, s2, p2⟩ := hW
  refine l_cons (s_forL ?_)
  walk_at "sts"
  refine ⟨D, acc, rfl, SqL.of hD2, fun k σ H' => ∃ a b c, σ = [some (.ref sa), some (.ref p), some (.ref D), a, b, c, none, none, none, none, none] ∧ But p H2 H' ∧ PoolAt H' p, ⟨_, _, _, rfl, But.refl, p2⟩, fun k σ H' _ hW => ?_, fun k v σ H3 hk hW => ?_, fun σ H3 hW => ?_⟩
  · obtain ⟨a, b, c, rfl, b3, _⟩ := hW
    exact SqL.of (b3 D _ pD hD2)
  · obtain ⟨a, b, c, rfl, b3, p3⟩ := hW
    obtain ⟨ps, l, xs, rfl, n1, n2, hl3, hx3, hf⟩ := (hg.but b3 p2) k v hk
    refine l_cons (s_if (t_not (t_val (e_call (by exact F1) (by exact hr) (by decide) ?_))))
    walk_at "sts"
    refine e_call (by exact FN) (by exact hr) (by decide) ?_
    walk_at "sts"
    refine ⟨p3, fun d H4 d0 d1 b4 p4 => ?_⟩
    have hl4 := b4 l _ n1 hl3
    have hx4 : Prs H4 xs ps := by obtain ⟨x, y, z, p3⟩ := p3; exact hx3.but p3 b4
    refine a_nil ⟨.ref l, ps, d, rfl, ⟨l, xs, rfl, hl4, hx4⟩, hf, by show d.natAbs < 1048576; omega, fun H5 s5 => ⟨true, rfl, iteF (l_nil ?_)⟩⟩
    have hl5 := s5 _ _ hl4
    have hx5 := hx4.up s5
    have p5 := p4.up s5
    refine l_cons (s_set (e_call (by exact FR) (by exact hr) (by decide) ?_))
    walk_at "sts"
    refine c_lenL (by exact SqL.of hl5) ?_
    rw [hx5.len]
    walk_at "sts"
    refine e_call (by exact FX) (by exact hr) (by decide) ?_
    walk_at "sts"
    refine ⟨p, 9, rfl, by decide, by decide, p5, fun m H6 m0 m1 b6 p6 => ?_⟩
    refine a_nil ⟨ps.length, m.toNat, by rw [Int.toNat_of_nonneg m0], hf.1, by omega, fun m' hm' => ?_⟩
    have hl6 := b6 l _ n1 hl5
    have hx6 : Prs H6 xs ps := by obtain ⟨x, y, z, p5⟩ := p5; exact hx5.but p5 b6
    have h0 : PlL ps H6 (.ref l) := ⟨l, xs, rfl, hl6, hx6⟩
    have h4 := hf.1
    refine l_cons (s_let (R := Tl C (tri ps)) (Same.refl H6) ?_ fun pa H7 s7 ha => ?_)
    refine gs_call (A := fun x : T3 => [Tr x]) (R := fun x : T3 => Tl C x) (z := (tri ps)) (by exact FM) (by exact hr) (by decide) ?_
    refine gs_cons ?_ ?_
    refine gs_call (A := fun ps : Pl => [PlL ps]) (R := fun ps : Pl => Tr (tri ps)) (z := ps) (by exact FT) (by exact hr) (by decide) ?_
    refine gs_cons ?_ ?_
    exact gs_var (by exact h0)
    exact gs_nil
    exact gs_nil
    replace h0 := up s7 h0
    refine l_cons (s_n (Same.refl H7) ?_ fun H8 s8 => ?_)
    refine g_due (x := (pow3 (tri ps) (m'))) (y := (tri (cops ps m'))) (K := K) (by exact FD) (by exact hr) (by decide) ?_ ?_ ?_
    refine gs_cop (x := (tri ps)) (pl := _) (d := 13) (m := m') (by exact MC) (by exact hr) (by decide) ?_ ?_ ?_ ?_ (by decide)
    exact gs_var (by exact ha)
    exact gs_var (R := Nm (m')) (by exact rfl)
    exact hf.bd
    omega
    refine gs_call (A := fun ps : Pl => [PlL ps]) (R := fun ps : Pl => Tr (tri ps)) (z := (cops ps m')) (by exact FT) (by exact hr) (by decide) ?_
    refine gs_cons ?_ ?_
    refine gs_copies (ps := ps) (m := m') (by exact FC) (by exact hr) (by decide) ?_ ?_ ?_ ?_
    exact gs_var (by exact h0)
    exact gs_var (R := Nm (m')) (by exact rfl)
    exact h4
    exact hm'
    exact gs_nil
    exact (tri_cops ps m').symm
    refine l_nil ⟨_, _, _, rfl, ?_, (p6.up s7).up s8⟩
    exact ((((b3.trans b4).trans (But.of s5)).trans b6).trans (But.of s7)).trans (But.of s8)
  · obtain ⟨a, b, c, rfl, b3, p3⟩ := hW
    have hg3 := hg.but b3 p2
    have hD3 := b3 D _ pD hD2
    have s3 := Same.but s2 np b3
    obtain ⟨r0, r1, r2, rfl⟩ : ∃ r0 r1 r2, acc = [r0, r1, r2] := by
      match acc, hl with
      | [r0, r1, r2], _ => exact ⟨r0, r1, r2, rfl⟩
    obtain ⟨q0, l0, x0, rfl, _, _, g0, k0, f0⟩ := hg3 0 r0 rfl
    obtain ⟨q1, l1, x1, rfl, _, _, g1, k1, f1'⟩ := hg3 1 r1 rfl
    obtain ⟨q2, l2, x2, rfl, _, _, g2, k2, f2⟩ := hg3 2 r2 rfl
    refine l_cons (s_if (t_w (w_or (t_not (t_val (e_call (by exact F2) (by exact hr) (by decide) ?_))))))
    walk_at "sts"
    refine ix_l (by exact SqL.of hD3) rfl ?_
    walk_at "sts"
    refine ix_l (by exact SqL.of hD3) rfl ?_
    refine a_nil ⟨_, _, q0, q1, rfl, ⟨l0, x0, rfl, g0, k0⟩, ⟨l1, x1, rfl, g1, k1⟩, f0, f1', fun H4 s4 => ⟨true, rfl, iteF ?_⟩⟩
    have hD4 := s4 _ _ hD3
    refine w_or1 (t_not (t_val (e_call (by exact F2) (by exact hr) (by decide) ?_)))
    walk_at "sts"
    refine ix_l (by exact SqL.of hD4) rfl ?_
    walk_at "sts"
    refine ix_l (by exact SqL.of hD4) rfl ?_
    refine a_nil ⟨_, _, q2, q2, rfl, ⟨l2, x2, rfl, s4 _ _ g2, k2.up s4⟩, ⟨l2, x2, rfl, s4 _ _ g2, k2.up s4⟩, f2, f2, fun H5 s5 => ⟨true, rfl, iteF (l_nil ?_)⟩⟩
    have S5 := (s3.trans s4).trans s5
    refine l_cons (s_set ?_)
    refine e_call (by exact FPo) (by exact hr) (by decide) ?_
    walk_at "sts"
    refine ⟨sa, ns, 1, rfl, S5.seq hS, fun p' H6 f6 np6 p6 => ?_⟩
    refine l_cons (s_set ?_)
    refine e_call (by exact FG) (by exact hr) (by decide) ?_
    walk_at "sts"
    refine ⟨p6, fun v1 x H7 b7 p7 h1 hx => ?_⟩
    refine l_cons (s_set ?_)
    refine e_call (by exact FG) (by exact hr) (by decide) ?_
    walk_at "sts"
    refine ⟨p7, fun v2 y H8 b8 p8 h2 hy => ?_⟩
    replace h1 := h1.but p7 b8
    refine l_cons (s_set ?_)
    refine e_call (by exact FG) (by exact hr) (by decide) ?_
    walk_at "sts"
    refine ⟨p8, fun v3 z H9 b9 p9 h3 hz => ?_⟩
    replace h1 := h1.but p8 b9
    replace h2 := h2.but p8 b9
    refine l_cons (s_if (t_w (w_or (t_not (t_val (e_call (by exact FM2) (by exact hr) (by decide) ?_))))))
    walk_at "sts"
    refine e_call (by exact FX) (by exact hr) (by decide) ?_
    walk_at "sts"
    refine ⟨p', 9, rfl, by decide, by decide, p9, fun m H10 m0 m1 b10 p10 => ?_⟩
    replace h1 := h1.but p9 b10
    replace h2 := h2.but p9 b10
    replace h3 := h3.but p9 b10
    refine a_nil ⟨v1, x, m.toNat, by rw [Int.toNat_of_nonneg m0], h1, hx, by omega, fun H11 s11 => ⟨true, rfl, iteF ?_⟩⟩
    replace h1 := up s11 h1
    replace h2 := up s11 h2
    replace h3 := up s11 h3
    replace p10 := p10.up s11
    refine w_or1 (t_not (t_val (e_call (by exact FM2) (by exact hr) (by decide) ?_)))
    walk_at "sts"
    refine e_call (by exact FX) (by exact hr) (by decide) ?_
    walk_at "sts"
    refine ⟨p', 61, rfl, by decide, by decide, p10, fun m2 H12 m20 m21 b12 p12 => ?_⟩
    replace h1 := h1.but p10 b12
    replace h2 := h2.but p10 b12
    replace h3 := h3.but p10 b12
    refine a_nil ⟨v2, y, m2.toNat, by rw [Int.toNat_of_nonneg m20], h2, hy, by omega, fun H13 s13 => ⟨true, rfl, iteF (l_nil ?_)⟩⟩
    replace h1 := up s13 h1
    replace h2 := up s13 h2
    replace h3 := up s13 h3
    replace p12 := p12.up s13
    refine l_cons (s_ret ?_)
    refine e_call (by exact F3) (by exact hr) (by decide) ?_
    walk_at "sts"
    refine e_call (by exact FN) (by exact hr) (by decide) ?_
    walk_at "sts"
    refine ⟨p12, fun d H14 d0 d1 b14 p14 => ?_⟩
    refine a_nil ⟨v1, v2, v3, x, y, z, d, rfl, h1.but p12 b14, h2.but p12 b14, h3.but p12 b14, hx, hy, hz, by show d.natAbs < 1048576; omega, q⟩
end

section
theorem all_mk {l : PySem.W.OpenLaw} {w : World} {K : PySem.W.Frag} {h : Heap} {mg : Str → Option Value} {fa : Addr} (X : K.In h) (G : h.Ns mainGlobals mg) (hfa : mg "law" = some (.ref fa))
    {f0 : Addr} {od0 an0 : Option Addr} {sl0 : Array (Option Value)} {oc0 kV0 dc0 pm0 cd0 ct0 : Value}
    {f1 : Addr} {od1 an1 : Option Addr} {sl1 : Array (Option Value)} {oc1 kV1 dc1 pm1 cd1 ct1 : Value}
    {f2 : Addr} {od2 an2 : Option Addr} {sl2 : Array (Option Value)} {oc2 kV2 dc2 pm2 cd2 ct2 : Value}
    {f3 : Addr} {od3 an3 : Option Addr} {sl3 : Array (Option Value)} {oc3 kV3 dc3 pm3 cd3 ct3 : Value}
    {f4 : Addr} {od4 an4 : Option Addr} {sl4 : Array (Option Value)} {oc4 kV4 dc4 pm4 cd4 ct4 : Value}
    {f5 : Addr} {od5 an5 : Option Addr} {sl5 : Array (Option Value)} {oc5 kV5 dc5 pm5 cd5 ct5 : Value}
    {f6 : Addr} {od6 an6 : Option Addr} {sl6 : Array (Option Value)} {oc6 kV6 dc6 pm6 cd6 ct6 : Value}
    {f7 : Addr} {od7 an7 : Option Addr} {sl7 : Array (Option Value)} {oc7 kV7 dc7 pm7 cd7 ct7 : Value}
    {f8 : Addr} {od8 an8 : Option Addr} {sl8 : Array (Option Value)} {oc8 kV8 dc8 pm8 cd8 ct8 : Value}
    {f9 : Addr} {od9 an9 : Option Addr} {sl9 : Array (Option Value)} {oc9 kV9 dc9 pm9 cd9 ct9 : Value}
    {f10 : Addr} {od10 an10 : Option Addr} {sl10 : Array (Option Value)} {oc10 kV10 dc10 pm10 cd10 ct10 : Value}
    {f11 : Addr} {od11 an11 : Option Addr} {sl11 : Array (Option Value)} {oc11 kV11 dc11 pm11 cd11 ct11 : Value}
    {f12 : Addr} {od12 an12 : Option Addr} {sl12 : Array (Option Value)} {oc12 kV12 dc12 pm12 cd12 ct12 : Value}
    {f13 : Addr} {od13 an13 : Option Addr} {sl13 : Array (Option Value)} {oc13 kV13 dc13 pm13 cd13 ct13 : Value}
    {f14 : Addr} {od14 an14 : Option Addr} {sl14 : Array (Option Value)} {oc14 kV14 dc14 pm14 cd14 ct14 : Value}
    {f15 : Addr} {od15 an15 : Option Addr} {sl15 : Array (Option Value)} {oc15 kV15 dc15 pm15 cd15 ct15 : Value}
    {f16 : Addr} {od16 an16 : Option Addr} {sl16 : Array (Option Value)} {oc16 kV16 dc16 pm16 cd16 ct16 : Value}
    {f17 : Addr} {od17 an17 : Option Addr} {sl17 : Array (Option Value)} {oc17 kV17 dc17 pm17 cd17 ct17 : Value}
    {f18 : Addr} {od18 an18 : Option Addr} {sl18 : Array (Option Value)} {oc18 kV18 dc18 pm18 cd18 ct18 : Value}
    {f19 : Addr} {od19 an19 : Option Addr} {sl19 : Array (Option Value)} {oc19 kV19 dc19 pm19 cd19 ct19 : Value}
    {C : Addr}
    {f20 : Addr} {od20 an20 : Option Addr} {sl20 : Array (Option Value)} {oc20 kV20 dc20 pm20 cd20 ct20 : Value}
    {f21 : Addr} {od21 an21 : Option Addr} {sl21 : Array (Option Value)} {oc21 kV21 dc21 pm21 cd21 ct21 : Value}
    {f22 : Addr} {od22 an22 : Option Addr} {sl22 : Array (Option Value)} {oc22 kV22 dc22 pm22 cd22 ct22 : Value}
    {f23 : Addr} {od23 an23 : Option Addr} {sl23 : Array (Option Value)} {oc23 kV23 dc23 pm23 cd23 ct23 : Value}
    {f24 : Addr} {od24 an24 : Option Addr} {sl24 : Array (Option Value)} {oc24 kV24 dc24 pm24 cd24 ct24 : Value}
    {f25 : Addr} {od25 an25 : Option Addr} {sl25 : Array (Option Value)} {oc25 kV25 dc25 pm25 cd25 ct25 : Value}
    {f26 : Addr} {od26 an26 : Option Addr} {sl26 : Array (Option Value)} {oc26 kV26 dc26 pm26 cd26 ct26 : Value}
    {f27 : Addr} {od27 an27 : Option Addr} {sl27 : Array (Option Value)} {oc27 kV27 dc27 pm27 cd27 ct27 : Value}
    (a0 : PySem.W.nsIn K mainGlobals "power" = some (some (.ref f0)))
    (l0 : K.lookup f0 = some ⟨oc0, od0, .func (PySem.W.fnOf "power" "power" (defArgs s_power) (defBody s_power) (defScope s_power) .none kV0 dc0 pm0 an0 cd0 ct0), sl0⟩)
    (c0 : PySem.W.codeIn K cd0 "power" = true)
    (k0 : PySem.W.keepIn K (.ref f0) = true)
    (a1 : PySem.W.nsIn K mainGlobals "_law_cell" = some (some (.ref f1)))
    (l1 : K.lookup f1 = some ⟨oc1, od1, .func (PySem.W.fnOf "_law_cell" "_law_cell" (defArgs s_cell) (defBody s_cell) (defScope s_cell) .none kV1 dc1 pm1 an1 cd1 ct1), sl1⟩)
    (c1 : PySem.W.codeIn K cd1 "_law_cell" = true)
    (k1 : PySem.W.keepIn K (.ref f1) = true)
    (a2 : PySem.W.nsIn K mainGlobals "_law_pool" = some (some (.ref f2)))
    (l2 : K.lookup f2 = some ⟨oc2, od2, .func (PySem.W.fnOf "_law_pool" "_law_pool" (defArgs s_pool) (defBody s_pool) (defScope s_pool) .none kV2 dc2 pm2 an2 cd2 ct2), sl2⟩)
    (c2 : PySem.W.codeIn K cd2 "_law_pool" = true)
    (k2 : PySem.W.keepIn K (.ref f2) = true)
    (a3 : PySem.W.nsIn K mainGlobals "_law_next" = some (some (.ref f3)))
    (l3 : K.lookup f3 = some ⟨oc3, od3, .func (PySem.W.fnOf "_law_next" "_law_next" (defArgs s_next) (defBody s_next) (defScope s_next) .none kV3 dc3 pm3 an3 cd3 ct3), sl3⟩)
    (c3 : PySem.W.codeIn K cd3 "_law_next" = true)
    (k3 : PySem.W.keepIn K (.ref f3) = true)
    (a4 : PySem.W.nsIn K mainGlobals "_law_list" = some (some (.ref f4)))
    (l4 : K.lookup f4 = some ⟨oc4, od4, .func (PySem.W.fnOf "_law_list" "_law_list" (defArgs s_list) (defBody s_list) (defScope s_list) .none kV4 dc4 pm4 an4 cd4 ct4), sl4⟩)
    (c4 : PySem.W.codeIn K cd4 "_law_list" = true)
    (k4 : PySem.W.keepIn K (.ref f4) = true)
    (a5 : PySem.W.nsIn K mainGlobals "_law_triple" = some (some (.ref f5)))
    (l5 : K.lookup f5 = some ⟨oc5, od5, .func (PySem.W.fnOf "_law_triple" "_law_triple" (defArgs s_triple) (defBody s_triple) (defScope s_triple) .none kV5 dc5 pm5 an5 cd5 ct5), sl5⟩)
    (c5 : PySem.W.codeIn K cd5 "_law_triple" = true)
    (k5 : PySem.W.keepIn K (.ref f5) = true)
    (a6 : PySem.W.nsIn K mainGlobals "_law_pairs" = some (some (.ref f6)))
    (l6 : K.lookup f6 = some ⟨oc6, od6, .func (PySem.W.fnOf "_law_pairs" "_law_pairs" (defArgs s_pairs) (defBody s_pairs) (defScope s_pairs) .none kV6 dc6 pm6 an6 cd6 ct6), sl6⟩)
    (c6 : PySem.W.codeIn K cd6 "_law_pairs" = true)
    (k6 : PySem.W.keepIn K (.ref f6) = true)
    (a7 : PySem.W.nsIn K mainGlobals "_law_copies" = some (some (.ref f7)))
    (l7 : K.lookup f7 = some ⟨oc7, od7, .func (PySem.W.fnOf "_law_copies" "_law_copies" (defArgs s_copies) (defBody s_copies) (defScope s_copies) .none kV7 dc7 pm7 an7 cd7 ct7), sl7⟩)
    (c7 : PySem.W.codeIn K cd7 "_law_copies" = true)
    (k7 : PySem.W.keepIn K (.ref f7) = true)
    (a8 : PySem.W.nsIn K mainGlobals "_law_room" = some (some (.ref f8)))
    (l8 : K.lookup f8 = some ⟨oc8, od8, .func (PySem.W.fnOf "_law_room" "_law_room" (defArgs s_room) (defBody s_room) (defScope s_room) .none kV8 dc8 pm8 an8 cd8 ct8), sl8⟩)
    (c8 : PySem.W.codeIn K cd8 "_law_room" = true)
    (k8 : PySem.W.keepIn K (.ref f8) = true)
    (a9 : PySem.W.nsIn K mainGlobals "_law_large" = some (some (.ref f9)))
    (l9 : K.lookup f9 = some ⟨oc9, od9, .func (PySem.W.fnOf "_law_large" "_law_large" (defArgs s_large) (defBody s_large) (defScope s_large) .none kV9 dc9 pm9 an9 cd9 ct9), sl9⟩)
    (c9 : PySem.W.codeIn K cd9 "_law_large" = true)
    (k9 : PySem.W.keepIn K (.ref f9) = true)
    (a10 : PySem.W.nsIn K mainGlobals "_law_number" = some (some (.ref f10)))
    (l10 : K.lookup f10 = some ⟨oc10, od10, .func (PySem.W.fnOf "_law_number" "_law_number" (defArgs s_number) (defBody s_number) (defScope s_number) .none kV10 dc10 pm10 an10 cd10 ct10), sl10⟩)
    (c10 : PySem.W.codeIn K cd10 "_law_number" = true)
    (k10 : PySem.W.keepIn K (.ref f10) = true)
    (a11 : PySem.W.nsIn K mainGlobals "_law_sum" = some (some (.ref f11)))
    (l11 : K.lookup f11 = some ⟨oc11, od11, .func (PySem.W.fnOf "_law_sum" "_law_sum" (defArgs s_sum) (defBody s_sum) (defScope s_sum) .none kV11 dc11 pm11 an11 cd11 ct11), sl11⟩)
    (c11 : PySem.W.codeIn K cd11 "_law_sum" = true)
    (k11 : PySem.W.keepIn K (.ref f11) = true)
    (a12 : PySem.W.nsIn K mainGlobals "_law_product" = some (some (.ref f12)))
    (l12 : K.lookup f12 = some ⟨oc12, od12, .func (PySem.W.fnOf "_law_product" "_law_product" (defArgs s_product) (defBody s_product) (defScope s_product) .none kV12 dc12 pm12 an12 cd12 ct12), sl12⟩)
    (c12 : PySem.W.codeIn K cd12 "_law_product" = true)
    (k12 : PySem.W.keepIn K (.ref f12) = true)
    (a13 : PySem.W.nsIn K mainGlobals "_law_is_due" = some (some (.ref f13)))
    (l13 : K.lookup f13 = some ⟨oc13, od13, .func (PySem.W.fnOf "_law_is_due" "_law_is_due" (defArgs s_is_due) (defBody s_is_due) (defScope s_is_due) .none kV13 dc13 pm13 an13 cd13 ct13), sl13⟩)
    (c13 : PySem.W.codeIn K cd13 "_law_is_due" = true)
    (k13 : PySem.W.keepIn K (.ref f13) = true)
    (a14 : PySem.W.nsIn K mainGlobals "_law_made" = some (some (.ref f14)))
    (l14 : K.lookup f14 = some ⟨oc14, od14, .func (PySem.W.fnOf "_law_made" "_law_made" (defArgs s_made) (defBody s_made) (defScope s_made) .none kV14 dc14 pm14 an14 cd14 ct14), sl14⟩)
    (c14 : PySem.W.codeIn K cd14 "_law_made" = true)
    (k14 : PySem.W.keepIn K (.ref f14) = true)
    (a15 : PySem.W.nsIn K mainGlobals "_law_one" = some (some (.ref f15)))
    (l15 : K.lookup f15 = some ⟨oc15, od15, .func (PySem.W.fnOf "_law_one" "_law_one" (defArgs s_one) (defBody s_one) (defScope s_one) .none kV15 dc15 pm15 an15 cd15 ct15), sl15⟩)
    (c15 : PySem.W.codeIn K cd15 "_law_one" = true)
    (k15 : PySem.W.keepIn K (.ref f15) = true)
    (a16 : PySem.W.nsIn K mainGlobals "_law_two" = some (some (.ref f16)))
    (l16 : K.lookup f16 = some ⟨oc16, od16, .func (PySem.W.fnOf "_law_two" "_law_two" (defArgs s_two) (defBody s_two) (defScope s_two) .none kV16 dc16 pm16 an16 cd16 ct16), sl16⟩)
    (c16 : PySem.W.codeIn K cd16 "_law_two" = true)
    (k16 : PySem.W.keepIn K (.ref f16) = true)
    (a17 : PySem.W.nsIn K mainGlobals "_law_many" = some (some (.ref f17)))
    (l17 : K.lookup f17 = some ⟨oc17, od17, .func (PySem.W.fnOf "_law_many" "_law_many" (defArgs s_many) (defBody s_many) (defScope s_many) .none kV17 dc17 pm17 an17 cd17 ct17), sl17⟩)
    (c17 : PySem.W.codeIn K cd17 "_law_many" = true)
    (k17 : PySem.W.keepIn K (.ref f17) = true)
    (a18 : PySem.W.nsIn K mainGlobals "_law_three" = some (some (.ref f18)))
    (l18 : K.lookup f18 = some ⟨oc18, od18, .func (PySem.W.fnOf "_law_three" "_law_three" (defArgs s_three) (defBody s_three) (defScope s_three) .none kV18 dc18 pm18 an18 cd18 ct18), sl18⟩)
    (c18 : PySem.W.codeIn K cd18 "_law_three" = true)
    (k18 : PySem.W.keepIn K (.ref f18) = true)
    (a19 : PySem.W.nsIn K mainGlobals "law" = some (some (.ref f19)))
    (l19 : K.lookup f19 = some ⟨oc19, od19, .func (PySem.W.fnOf "law" "law" (defArgs s_law) (defBody s_law) (defScope s_law) .none kV19 dc19 pm19 an19 cd19 ct19), sl19⟩)
    (c19 : PySem.W.codeIn K cd19 "law" = true)
    (k19 : PySem.W.keepIn K (.ref f19) = true)
    (aC : PySem.W.nsIn K mainGlobals "Tally" = some (some (.ref C)))
    (a20 : PySem.W.findIn K (.ref C) "__init__" = some (some (.ref f20)))
    (i20 : PySem.W.isFn K (.ref f20) = true)
    (l20 : K.lookup f20 = some ⟨oc20, od20, .func (PySem.W.fnOf "__init__" "Tally.__init__" (defArgs s_Tally___init) (defBody s_Tally___init) (defScope s_Tally___init) .none kV20 dc20 pm20 an20 cd20 ct20), sl20⟩)
    (c20 : PySem.W.codeIn K cd20 "Tally.__init__" = true)
    (k20 : PySem.W.keepIn K (.ref f20) = true)
    (a21 : PySem.W.findIn K (.ref C) "__add__" = some (some (.ref f21)))
    (i21 : PySem.W.isFn K (.ref f21) = true)
    (l21 : K.lookup f21 = some ⟨oc21, od21, .func (PySem.W.fnOf "__add__" "Tally.__add__" (defArgs s_Tally___add) (defBody s_Tally___add) (defScope s_Tally___add) .none kV21 dc21 pm21 an21 cd21 ct21), sl21⟩)
    (c21 : PySem.W.codeIn K cd21 "Tally.__add__" = true)
    (k21 : PySem.W.keepIn K (.ref f21) = true)
    (a22 : PySem.W.findIn K (.ref C) "__mul__" = some (some (.ref f22)))
    (i22 : PySem.W.isFn K (.ref f22) = true)
    (l22 : K.lookup f22 = some ⟨oc22, od22, .func (PySem.W.fnOf "__mul__" "Tally.__mul__" (defArgs s_Tally___mul) (defBody s_Tally___mul) (defScope s_Tally___mul) .none kV22 dc22 pm22 an22 cd22 ct22), sl22⟩)
    (c22 : PySem.W.codeIn K cd22 "Tally.__mul__" = true)
    (k22 : PySem.W.keepIn K (.ref f22) = true)
    (a23 : PySem.W.findIn K (.ref C) "copied" = some (some (.ref f23)))
    (i23 : PySem.W.isFn K (.ref f23) = true)
    (l23 : K.lookup f23 = some ⟨oc23, od23, .func (PySem.W.fnOf "copied" "Tally.copied" (defArgs s_Tally_copied) (defBody s_Tally_copied) (defScope s_Tally_copied) .none kV23 dc23 pm23 an23 cd23 ct23), sl23⟩)
    (c23 : PySem.W.codeIn K cd23 "Tally.copied" = true)
    (k23 : PySem.W.keepIn K (.ref f23) = true)
    (a24 : PySem.W.findIn K (.ref C) "taller" = some (some (.ref f24)))
    (i24 : PySem.W.isFn K (.ref f24) = true)
    (l24 : K.lookup f24 = some ⟨oc24, od24, .func (PySem.W.fnOf "taller" "Tally.taller" (defArgs s_Tally_taller) (defBody s_Tally_taller) (defScope s_Tally_taller) .none kV24 dc24 pm24 an24 cd24 ct24), sl24⟩)
    (c24 : PySem.W.codeIn K cd24 "Tally.taller" = true)
    (k24 : PySem.W.keepIn K (.ref f24) = true)
    (a25 : PySem.W.findIn K (.ref C) "loaded" = some (some (.ref f25)))
    (i25 : PySem.W.isFn K (.ref f25) = true)
    (l25 : K.lookup f25 = some ⟨oc25, od25, .func (PySem.W.fnOf "loaded" "Tally.loaded" (defArgs s_Tally_loaded) (defBody s_Tally_loaded) (defScope s_Tally_loaded) .none kV25 dc25 pm25 an25 cd25 ct25), sl25⟩)
    (c25 : PySem.W.codeIn K cd25 "Tally.loaded" = true)
    (k25 : PySem.W.keepIn K (.ref f25) = true)
    (a26 : PySem.W.findIn K (.ref C) "cut" = some (some (.ref f26)))
    (i26 : PySem.W.isFn K (.ref f26) = true)
    (l26 : K.lookup f26 = some ⟨oc26, od26, .func (PySem.W.fnOf "cut" "Tally.cut" (defArgs s_Tally_cut) (defBody s_Tally_cut) (defScope s_Tally_cut) .none kV26 dc26 pm26 an26 cd26 ct26), sl26⟩)
    (c26 : PySem.W.codeIn K cd26 "Tally.cut" = true)
    (k26 : PySem.W.keepIn K (.ref f26) = true)
    (a27 : PySem.W.findIn K (.ref C) "triple" = some (some (.ref f27)))
    (i27 : PySem.W.isFn K (.ref f27) = true)
    (l27 : K.lookup f27 = some ⟨oc27, od27, .func (PySem.W.fnOf "triple" "Tally.triple" (defArgs s_Tally_triple) (defBody s_Tally_triple) (defScope s_Tally_triple) .none kV27 dc27 pm27 an27 cd27 ct27), sl27⟩)
    (c27 : PySem.W.codeIn K cd27 "Tally.triple" = true)
    (k27 : PySem.W.keepIn K (.ref f27) = true)
    (pg : PySem.W.plainGet K C Str.empty = true)
    (hd : PySem.W.hasDictIn K C = true)
    (po : PySem.W.plainOver K C = true)
    (sa : PySem.W.findIn K (.ref C) "__setattr__" = some (some (.builtin "object.__setattr__")))
    (mks : PySem.W.makesIn K C = true)
    (kC : PySem.W.keepIn K (.ref C) = true)
    (nP : PySem.W.findIn K (.ref C) "plays" = some none)
    (nR : PySem.W.findIn K (.ref C) "rows" = some none)
    (nL : PySem.W.findIn K (.ref C) "load" = some none)
    (sf : PySem.W.selfFirst K C = true)
    (ha : PySem.W.findIn K (.ref C) "__class__" = some (some (.builtin "object.__class__")))
    (hn : PySem.W.specialIn K (.builtin "object.__class__") "__get__" = some (some (.builtin "getset_descriptor.__get__")))
    (htk : PySem.W.takesIn K (.builtin "object.__class__") = some true)
    (hm : PySem.W.mroIn K C (.type "object") = some true)
    (z_isinstance : PySem.W.nsIn K mainGlobals "isinstance" = some none)
    (z_int : PySem.W.nsIn K mainGlobals "int" = some none)
    (z_bool : PySem.W.nsIn K mainGlobals "bool" = some none)
    (z_str : PySem.W.nsIn K mainGlobals "str" = some none)
    (z_tuple : PySem.W.nsIn K mainGlobals "tuple" = some none)
    (z_list : PySem.W.nsIn K mainGlobals "list" = some none)
    (z_len : PySem.W.nsIn K mainGlobals "len" = some none)
    (z_range : PySem.W.nsIn K mainGlobals "range" = some none)
    (z_abs : PySem.W.nsIn K mainGlobals "abs" = some none)
    (z_max : PySem.W.nsIn K mainGlobals "max" = some none)
    (z_min : PySem.W.nsIn K mainGlobals "min" = some none) :
    ∃ fd : FuncData, (∀ (s : Shared) (v : Value), BindsTo s fd ⟨[v], []⟩ [("_law_script", v)]) ∧ ∀ base : Heap, K.In base → base.Ns mainGlobals mg → FnOk l.prog w K mg base CX0 7 fa fd ["_law_script"] (spLaw K) := by
  have e := hfa.symm.trans (PySem.W.mg_of X G a19)
  cases e
  have B : BOk mg := ⟨(PySem.W.mg_none_of X G z_isinstance), (PySem.W.mg_none_of X G z_int), (PySem.W.mg_none_of X G z_bool), (PySem.W.mg_none_of X G z_tuple), (PySem.W.mg_none_of X G z_len), (PySem.W.mg_none_of X G z_range)⟩
  have mAbs := (PySem.W.mg_none_of X G z_abs)
  have mMax := (PySem.W.mg_none_of X G z_max)
  have CL : Cls K C := ⟨pg, hd, po, sa⟩
  have O : ClsOk K mg C := ⟨CL, nP, nR, nL, mks, kC, sf, ⟨CL, ha, hn, htk, hm, by unfold PySem.W.kitOne; simp⟩, PySem.W.mg_of X G aC⟩
  have FL := fun_mk (st := s_law) l19 c19 k19
  refine ⟨PySem.W.fnOf "law" "law" (defArgs s_law) (defBody s_law) (defScope s_law) .none kV19 dc19 pm19 an19 cd19 ct19, fun s v => .of_eq rfl, fun base _ _ => ?_⟩
  have Fcell : Fn l.prog w K mg base 1 "_law_cell" (spCell K) := ok_cell (top_mk X G a1 l1 c1 k1) B.len mAbs
  have Fpool := ok_pool (top_mk X G a2 l2 c2 k2) Fcell B.int
  have Fnext : Fn l.prog w K mg base 1 "_law_next" spNext := ok_next (top_mk X G a3 l3 c3 k3) B.int
  have KC : Kl l.prog w K mg base 1 "Tally" C (spInit C) := ok_init (topM_mk a20 i20 l20 c20 k20) O
  have OA := ok_add (topM_mk a21 i21 l21 c21 k21) O KC
  have OM := ok_mul (topM_mk a22 i22 l22 c22 k22) O KC
  have MT := ok_tall (topM_mk a24 i24 l24 c24 k24) O KC
  have ML := ok_load (topM_mk a25 i25 l25 c25 k25) O KC
  have MU := ok_cut (topM_mk a26 i26 l26 c26 k26) O KC
  have MR : Mt l.prog w K mg base 1 C "triple" (spTri C) := ok_tri (topM_mk a27 i27 l27 c27 k27) O
  have FP := ok_pow (top_mk X G a0 l0 c0 k0) OM
  have MC := ok_copied (topM_mk a23 i23 l23 c23 k23) O KC FP
  have Flist := ok_list (top_mk X G a4 l4 c4 k4) Fnext B.range
  have Ftri : FTri l.prog w K mg base := ok_triple (top_mk X G a5 l5 c5 k5) B.len
  have Fpairs : Fn l.prog w K mg base 1 "_law_pairs" spPairs := ok_pairs (top_mk X G a6 l6 c6 k6)
  have Fcops := ok_copies (top_mk X G a7 l7 c7 k7) Fpairs B.range
  have Froom : Fn l.prog w K mg base 1 "_law_room" spRoom := ok_room (top_mk X G a8 l8 c8 k8) B.range mMax
  have Flarge := ok_large (top_mk X G a9 l9 c9 k9) Fnext
  have Fnum := ok_number (top_mk X G a10 l10 c10 k10) Fnext
  have Fsum := ok_sum (P := l.prog) (w := w) (base := base) (top_mk X G a11 l11 c11 k11)
  have Fprod : Fn l.prog w K mg base 1 "_law_product" spProd := ok_prod (top_mk X G a12 l12 c12 k12)
  have Fmade := ok_made (top_mk X G a14 l14 c14 k14) KC
  have Fdue := ok_due (top_mk X G a13 l13 c13 k13) B O MR
  have F1 := ok_one (top_mk X G a15 l15 c15 k15) Fmade Fdue Ftri MT ML MU B.range
  have F2 := ok_two (top_mk X G a16 l16 c16 k16) Fmade Fdue Ftri Fpairs OA OM B.range
  have FM2 := ok_many (top_mk X G a17 l17 c17 k17) Fmade Fdue Fprod MC OM B.range
  have F3 := ok_three (top_mk X G a18 l18 c18 k18) Fmade Fdue Fprod Fsum OA OM MT ML MU
  exact ok_law FL Fpool Fnext Flist Fnum Flarge Froom Fmade Fdue Ftri Fcops MC F1 F2 FM2 F3 B.range B.len
theorem walk {l : PySem.W.OpenLaw} {q : Program} {loose : List Str} {XP : (Str → Option Value) → Heap → Prop} {YP : World → Heap → Prop} {d : DefRec} {K : Params → PySem.W.Frag} (hn : l.most = some 63) (hdf : d.params.defaults = [])
    (hY : ∀ (w : World) (h : Heap), YP w h → (K w.params).In h)
    (F : ∀ (w : World) (mg : Str → Option Value) (fa : Addr) (h : Heap), (K w.params).In h → h.Ns mainGlobals mg → mg d.name = some (.ref fa) →
      ∃ fd : FuncData, (∀ (s : Shared) (u : Value), BindsTo s fd ⟨[u], []⟩ [("_law_script", u)]) ∧ ∀ base : Heap, (K w.params).In base → base.Ns mainGlobals mg → FnOk l.prog w (K w.params) mg base CX0 7 fa fd ["_law_script"] (spLaw (K w.params))) :
    PySem.W.WalkO q loose XP YP l.row.toRowW d [] (fun f vs => PySem.call f vs) :=
  L2.walk_of (n := 63) (k := 7) (x := "_law_script") (CX := fun _ => CX0) (sp := fun w => spLaw (K w.params)) hn (by decide) hdf ⟨rfl, by decide, by decide⟩ hY F (fun _ _ a ns hl _ hS => ⟨a, ns, rfl, hS, hl, fun _ => rfl⟩) fun _ _ _ _ _ z => z
end
end K11
open PySem PySem.W PyProof.Rows
set_option maxRecDepth 100000 in
set_option maxHeartbeats 0 in
theorem PySem.Challenge.cw_heldproofs_k11_tallies_computed_holds : PySem.Challenge.rw_heldproofs_k11_tallies_computed.Holds := by
  w_on; o_law; k_head; (case hw => w_witness2)
  k_fill
  refine K11.walk (l := PySem.Challenge.rw_heldproofs_k11_tallies_computed) rfl rfl (fun w h Y => PySem.W.kIn_of Y) ?F
  case F =>
    intro w mg fa h KX G hmg
    refine' K11.all_mk KX G hmg ?a0 ?l0 ?c0 ?k0 ?a1 ?l1 ?c1 ?k1 ?a2 ?l2 ?c2 ?k2 ?a3 ?l3 ?c3 ?k3 ?a4 ?l4 ?c4 ?k4 ?a5 ?l5 ?c5 ?k5 ?a6 ?l6 ?c6 ?k6 ?a7 ?l7 ?c7 ?k7 ?a8 ?l8 ?c8 ?k8 ?a9 ?l9 ?c9 ?k9 ?a10 ?l10 ?c10 ?k10 ?a11 ?l11 ?c11 ?k11 ?a12 ?l12 ?c12 ?k12 ?a13 ?l13 ?c13 ?k13 ?a14 ?l14 ?c14 ?k14 ?a15 ?l15 ?c15 ?k15 ?a16 ?l16 ?c16 ?k16 ?a17 ?l17 ?c17 ?k17 ?a18 ?l18 ?c18 ?k18 ?a19 ?l19 ?c19 ?k19 ?aC ?a20 ?i20 ?l20 ?c20 ?k20 ?a21 ?i21 ?l21 ?c21 ?k21 ?a22 ?i22 ?l22 ?c22 ?k22 ?a23 ?i23 ?l23 ?c23 ?k23 ?a24 ?i24 ?l24 ?c24 ?k24 ?a25 ?i25 ?l25 ?c25 ?k25 ?a26 ?i26 ?l26 ?c26 ?k26 ?a27 ?i27 ?l27 ?c27 ?k27 ?pg ?hd ?po ?sa ?mks ?kC ?nP ?nR ?nL ?sf ?ha ?hn ?htk ?hm ?z_isinstance ?z_int ?z_bool ?z_str ?z_tuple ?z_list ?z_len ?z_range ?z_abs ?z_max ?z_min
    (case a0 => k_is)
    (case l0 => k_is)
    (case c0 => k_is)
    (case k0 => k_is)
    (case a1 => k_is)
    (case l1 => k_is)
    (case c1 => k_is)
    (case k1 => k_is)
    (case a2 => k_is)
    (case l2 => k_is)
    (case c2 => k_is)
    (case k2 => k_is)
    (case a3 => k_is)
    (case l3 => k_is)
    (case c3 => k_is)
    (case k3 => k_is)
    (case a4 => k_is)
    (case l4 => k_is)
    (case c4 => k_is)
    (case k4 => k_is)
    (case a5 => k_is)
    (case l5 => k_is)
    (case c5 => k_is)
    (case k5 => k_is)
    (case a6 => k_is)
    (case l6 => k_is)
    (case c6 => k_is)
    (case k6 => k_is)
    (case a7 => k_is)
    (case l7 => k_is)
    (case c7 => k_is)
    (case k7 => k_is)
    (case a8 => k_is)
    (case l8 => k_is)
    (case c8 => k_is)
    (case k8 => k_is)
    (case a9 => k_is)
    (case l9 => k_is)
    (case c9 => k_is)
    (case k9 => k_is)
    (case a10 => k_is)
    (case l10 => k_is)
    (case c10 => k_is)
    (case k10 => k_is)
    (case a11 => k_is)
    (case l11 => k_is)
    (case c11 => k_is)
    (case k11 => k_is)
    (case a12 => k_is)
    (case l12 => k_is)
    (case c12 => k_is)
    (case k12 => k_is)
    (case a13 => k_is)
    (case l13 => k_is)
    (case c13 => k_is)
    (case k13 => k_is)
    (case a14 => k_is)
    (case l14 => k_is)
    (case c14 => k_is)
    (case k14 => k_is)
    (case a15 => k_is)
    (case l15 => k_is)
    (case c15 => k_is)
    (case k15 => k_is)
    (case a16 => k_is)
    (case l16 => k_is)
    (case c16 => k_is)
    (case k16 => k_is)
    (case a17 => k_is)
    (case l17 => k_is)
    (case c17 => k_is)
    (case k17 => k_is)
    (case a18 => k_is)
    (case l18 => k_is)
    (case c18 => k_is)
    (case k18 => k_is)
    (case a19 => k_is)
    (case l19 => k_is)
    (case c19 => k_is)
    (case k19 => k_is)
    (case aC => k_is)
    (case a20 => k_is)
    (case i20 => k_is)
    (case l20 => k_is)
    (case c20 => k_is)
    (case k20 => k_is)
    (case a21 => k_is)
    (case i21 => k_is)
    (case l21 => k_is)
    (case c21 => k_is)
    (case k21 => k_is)
    (case a22 => k_is)
    (case i22 => k_is)
    (case l22 => k_is)
    (case c22 => k_is)
    (case k22 => k_is)
    (case a23 => k_is)
    (case i23 => k_is)
    (case l23 => k_is)
    (case c23 => k_is)
    (case k23 => k_is)
    (case a24 => k_is)
    (case i24 => k_is)
    (case l24 => k_is)
    (case c24 => k_is)
    (case k24 => k_is)
    (case a25 => k_is)
    (case i25 => k_is)
    (case l25 => k_is)
    (case c25 => k_is)
    (case k25 => k_is)
    (case a26 => k_is)
    (case i26 => k_is)
    (case l26 => k_is)
    (case c26 => k_is)
    (case k26 => k_is)
    (case a27 => k_is)
    (case i27 => k_is)
    (case l27 => k_is)
    (case c27 => k_is)
    (case k27 => k_is)
    (case pg => k_is)
    (case hd => k_is)
    (case po => k_is)
    (case sa => k_is)
    (case mks => k_is)
    (case kC => k_is)
    (case nP => k_is)
    (case nR => k_is)
    (case nL => k_is)
    (case sf => k_is)
    (case ha => k_is)
    (case hn => k_is)
    (case htk => k_is)
    (case hm => k_is)
    (case z_isinstance => k_is)
    (case z_int => k_is)
    (case z_bool => k_is)
    (case z_str => k_is)
    (case z_tuple => k_is)
    (case z_list => k_is)
    (case z_len => k_is)
    (case z_range => k_is)
    (case z_abs => k_is)
    (case z_max => k_is)
    (case z_min => k_is)
