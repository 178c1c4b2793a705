import PyProof.Rows.All
import Wide.All
import OpenK.AllK
import Wide.FinOn
import HandS.ForMost
import HandS.IsInst
import HandS.Codes
import PySem.Challenge.RW_heldproofs_k06_counts_added
set_option Elab.async false
set_option linter.all false
set_option maxRecDepth 100000
/-! My own layer over the hand layer: the weakest reading of a piece of syntax, and a rule a construct, chosen where the values are known. -/
namespace Wk
open PySem PySem.Spec PyProof.Rows L2
section
variable (X : Cx)
@[irreducible] def wE (e : Expr) : TE := fun σ H Q => ∀ (pins : List (Addr × Obj)) (s : Shared), Inv X pins σ H s → wpAny (model X.prog X.w) X.A (eval e X.env) (EP X pins σ Q) X.xe s
@[irreducible] def wT (e : Expr) : TT := fun σ H Q => ∀ (pins : List (Addr × Obj)) (s : Shared), Inv X pins σ H s → wpAny (model X.prog X.w) X.A (isTrue e X.env (eval e X.env)) (TP X pins σ Q) X.xe s
@[irreducible] def wW (e : Expr) : TT := fun σ H Q => ∀ (whole : Sem Value) (pins : List (Addr × Obj)) (s : Shared), Inv X pins σ H s → wpAny (model X.prog X.w) X.A (isTrue e X.env whole) (TP X pins σ Q) X.xe s
@[irreducible] def wA (es : List Expr) : TA := fun σ H Q => ∀ (pos : Pos) (pins : List (Addr × Obj)) (s : Shared), Inv X pins σ H s → wpAny (model X.prog X.w) X.A (spliced (backTo pos (starEach es X.env))) (AP X pins σ Q) X.xe s
@[irreducible] def wS (st : Stmt) : TS := fun D σ H => ∀ (pins : List (Addr × Obj)) (s : Shared), Inv X pins σ H s → wpAny (model X.prog X.w) X.A (exec st X.env) (SP X pins D) X.xe s
@[irreducible] def wL (st : List Stmt) : TS := fun D σ H => ∀ (pins : List (Addr × Obj)) (s : Shared), Inv X pins σ H s → wpAny (model X.prog X.w) X.A (execs st X.env) (SP X pins D) X.xe s
@[irreducible] def wO (f : Value → Value → Sem Value) : R2 := fun x y H Q => ∀ (pins : List (Addr × Obj)) (s : Shared) (σ : L2.St) (v u : Value), Inv X pins σ H s → RelV x v → RelV y u → wpAny (model X.prog X.w) X.A (f v u) (EP X pins σ Q) X.xe s
@[irreducible] def wB (op : Operator) : R2 := fun x y H Q => wO X (binaryOp op) x y H Q
@[irreducible] def wK (op : CmpOp) : R2 := fun x y H Q => wO X (compareOp op) x y H Q
@[irreducible] def wIx : R2 := fun x y H Q => ∀ (value slice : Expr) (pins : List (Addr × Obj)) (s : Shared) (σ : L2.St) (v u : Value), Inv X pins σ H s → RelV x v → RelV y u → subscripted slice false v u = operate [v, u] (getItem v u) → wpAny (model X.prog X.w) X.A (subscriptTail value slice v u) (EP X pins σ Q) X.xe s
@[irreducible] def wC (f : Value) : List V → Hp → VK → Prop := fun xs H Q => ∀ (pins : List (Addr × Obj)) (s : Shared) (σ : L2.St) (us : List Value), Inv X pins σ H s → Vals xs us → wpAny (model X.prog X.w) X.A (call f us) (EP X pins σ Q) X.xe s
@[irreducible] def wSet : V → V → V → Hp → (Hp → Prop) → Prop := fun o i v H Q => ∀ (pins : List (Addr × Obj)) (s : Shared) (σ : L2.St) (ov iv u : Value), Inv X pins σ H s → RelV o ov → RelV i iv → RelV v u → wpAny (model X.prog X.w) X.A (setItem ov iv u) (fun _ s' => ∃ H', Inv X pins σ H' s' ∧ Q H') X.xe s
end
section
variable {X : Cx} {e a b c : Expr} {es rest : List Expr} {st : Stmt} {sts : List Stmt} {σ : L2.St} {H : Hp} {Q : VK} {D : Ends} {pos p0 : Pos} {QT : Bool → Hp → Prop}
theorem pe : PE X e (wE X e) := ⟨fun pins s _ _ _ I h => by unfold wE at h; exact h pins s I⟩
theorem pt : PT X e (wT X e) := ⟨fun pins s _ _ _ I h => by unfold wT at h; exact h pins s I⟩
theorem pw : PW X e (wW X e) := ⟨fun wh pins s _ _ _ I h => by unfold wW at h; exact h wh pins s I⟩
theorem pa : PA X es (wA X es) := ⟨fun p pins s _ _ _ I h => by unfold wA at h; exact h p pins s I⟩
theorem ps : PS X st (wS X st) := ⟨fun pins s _ _ _ I h => by unfold wS at h; exact h pins s I⟩
theorem pl : PSs X sts (wL X sts) := ⟨fun pins s _ _ _ I h => by unfold wL at h; exact h pins s I⟩
theorem opr {f : Value → Value → Sem Value} : OpR X f (wO X f) := fun pins s σ _ _ _ v u _ I rx ry h => by unfold wO at h; exact h pins s σ v u I rx ry
theorem opb {op : Operator} : OpR X (binaryOp op) (wB X op) := fun pins s σ _ _ _ v u _ I rx ry h => by unfold wB at h; exact opr pins s σ _ _ _ v u _ I rx ry h
theorem opk {op : CmpOp} : OpR X (compareOp op) (wK X op) := fun pins s σ _ _ _ v u _ I rx ry h => by unfold wK at h; exact opr pins s σ _ _ _ v u _ I rx ry h
theorem ixr : IxR X (wIx X) := fun va sl pins s σ _ _ _ v u _ I rx ry h hs => by unfold wIx at h; exact h va sl pins s σ v u I rx ry hs
theorem cr {f : Value} : CallR X f (wC X f) := fun pins s σ _ _ us _ I r h => by unfold wC at h; exact h pins s σ us I r
theorem pset : PSet X (wSet X) := fun pins s σ _ _ _ _ ov iv u _ I ro ri rv h => by unfold wSet at h; exact h pins s σ ov iv u I ro ri rv
theorem e_of {t : TE} (h : PE X e t) (q : t σ H Q) : wE X e σ H Q := by unfold wE; exact fun pins s I => h.run pins s σ H Q I q
theorem t_of {t : TT} (h : PT X e t) (q : t σ H QT) : wT X e σ H QT := by unfold wT; exact fun pins s I => h.run pins s σ H QT I q
theorem w_of {t : TT} (h : PW X e t) (q : t σ H QT) : wW X e σ H QT := by unfold wW; exact fun wh pins s I => h.run wh pins s σ H QT I q
theorem a_of {t : TA} {QA : List V → Hp → Prop} (h : PA X es t) (q : t σ H QA) : wA X es σ H QA := by unfold wA; exact fun p pins s I => h.run p pins s σ H QA I q
theorem s_of {t : TS} (h : PS X st t) (q : t D σ H) : wS X st D σ H := by unfold wS; exact fun pins s I => h.run pins s σ H D I q
theorem l_of {t : TS} (h : PSs X sts t) (q : t D σ H) : wL X sts D σ H := by unfold wL; exact fun pins s I => h.run pins s σ H D I q
theorem o_of {f : Value → Value → Sem Value} {r : R2} {x y : V} (h : OpR X f r) (q : r x y H Q) : wO X f x y H Q := by unfold wO; exact fun pins s σ v u I rx ry => h pins s σ H x y v u Q I rx ry q
theorem b_of {op : Operator} {r : R2} {x y : V} (h : OpR X (binaryOp op) r) (q : r x y H Q) : wB X op x y H Q := by unfold wB; exact o_of h q
theorem k_of {op : CmpOp} {r : R2} {x y : V} (h : OpR X (compareOp op) r) (q : r x y H Q) : wK X op x y H Q := by unfold wK; exact o_of h q
theorem ix_of {r : R2} {x y : V} (h : IxR X r) (q : r x y H Q) : wIx X x y H Q := by unfold wIx; exact fun va sl pins s σ v u I rx ry hs => h va sl pins s σ H x y v u Q I rx ry q hs
theorem c_of {f : Value} {r : List V → Hp → VK → Prop} {xs : List V} (h : CallR X f r) (q : r xs H Q) : wC X f xs H Q := by unfold wC; exact fun pins s σ us I r => h pins s σ H xs us Q I r q
theorem set_of {t : V → V → V → Hp → (Hp → Prop) → Prop} {o i v : V} {QH : Hp → Prop} (h : PSet X t) (q : t o i v H QH) : wSet X o i v H QH := by unfold wSet; exact fun pins s σ ov iv u I ro ri rv => h pins s σ H o i v ov iv u QH I ro ri rv q

theorem e_mono {Q' : VK} (q : wE X e σ H Q) (h : ∀ v H1, Q v H1 → Q' v H1) : wE X e σ H Q' := by
  unfold wE at q ⊢
  exact fun pins s I => wpAny_mono (q pins s I) (fun _ _ ⟨v, H1, I1, r, z⟩ => ⟨v, H1, I1, r, h v H1 z⟩) fun _ _ z => z
theorem a_mono {QA QA' : List V → Hp → Prop} (q : wA X es σ H QA) (h : ∀ v H1, QA v H1 → QA' v H1) : wA X es σ H QA' := by
  unfold wA at q ⊢
  exact fun pp pins s I => wpAny_mono (q pp pins s I) (fun _ _ ⟨v, H1, I1, r, z⟩ => ⟨v, H1, I1, r, h v H1 z⟩) fun _ _ z => z

end
/-- where a name stands in a list; found by its spelling -/
inductive At {α : Type} : List α → Nat → α → Prop where
  | z {x : α} {l : List α} : At (x :: l) 0 x
  | s {x y : α} {l : List α} {i : Nat} (h : At l i x) : At (y :: l) (i + 1) x
theorem At.get {α : Type} {l : List α} {i : Nat} {x : α} (h : At l i x) : l[i]? = some x := by
  induction h with
  | z => rfl
  | s _ ih => simpa using ih
theorem At.mem {α : Type} {l : List α} {i : Nat} {x : α} (h : At l i x) : x ∈ l := List.mem_of_getElem? h.get
instance locDec {sc : Scope} {x : Str} : Decidable (Loc sc x) := inferInstanceAs (Decidable (_ ∨ _))
/-- a def's names: its own, in their slots, and the global ones -/
structure ScOk (N G : List Str) (sc : Scope) : Prop where
  nd : N.Nodup
  lo : ∀ x ∈ N, Loc sc x ∧ (x == ("__debug__" : Str)) = false ∧ (x == ("__classdict__" : Str)) = false
  gl : ∀ x ∈ G, sc.names.lookup x = some .globalImplicit ∧ (x == ("__debug__" : Str)) = false ∧ x ≠ "__name__"
/-- the body that the proof stands in -/
structure In (X : Cx) (N G : List Str) (sc : Scope) : Prop where
  ok : ScOk N G sc
  n : X.N = N
  sc : X.env.scope = sc
  calm : X.calm = true
  fn : X.fn = fun _ => true
  xe : X.xe = fun _ _ => False
section
variable {X : Cx} {e a b c : Expr} {es rest : List Expr} {st : Stmt} {sts : List Stmt} {σ : L2.St} {H : Hp} {Q : VK} {D : Ends} {pos p0 : Pos} {QT : Bool → Hp → Prop} {N G : List Str} {sc : Scope}
theorem In.loc (I : In X N G sc) {i : Nat} {x : Str} (h : At N i x) : Loc X.env.scope x := by rw [I.sc]; exact (I.ok.lo x h.mem).1
theorem In.vis (I : In X N G sc) {i : Nat} {x : Str} (h : At N i x) : Vis X.env.scope x := by
  rcases I.loc h with z | z
  · exact .inl z
  · exact .inr (.inl z)
theorem In.nd (I : In X N G sc) : X.N.Nodup := by rw [I.n]; exact I.ok.nd
theorem In.hi (I : In X N G sc) {i : Nat} {x : Str} (h : At N i x) : X.N[i]? = some x := by rw [I.n]; exact h.get
theorem In.f (I : In X N G sc) {x : Str} : X.fn x = true ∨ X.env.scope.names.lookup x = some .local := .inl (by rw [I.fn])
theorem In.g (I : In X N G sc) {i : Nat} {x : Str} (h : At G i x) : Gl X x := by
  show X.env.scope.names.lookup x = _
  rw [I.sc]
  exact (I.ok.gl x h.mem).1
theorem In.gd (I : In X N G sc) {i : Nat} {x : Str} (h : At G i x) : (x == ("__debug__" : Str)) = false := (I.ok.gl x h.mem).2.1
theorem In.gn (I : In X N G sc) {i : Nat} {x : Str} (h : At G i x) : x ≠ "__name__" := (I.ok.gl x h.mem).2.2
theorem In.never (I : In X N G sc) : PassesOwn (model X.prog X.w) X.A X.env X.xe := by rw [I.xe]; exact PassesOwn.never

/-! ### statements -/
theorem l_nil {nx : L2.St → Hp → Prop} {rt : VK} {bk ct : L2.St → Hp → Prop} (q : nx σ H) : wL X [] ⟨nx, rt, bk, ct⟩ σ H := l_of pss_nil q
theorem l_cons {nx : L2.St → Hp → Prop} {rt : VK} {bk ct : L2.St → Hp → Prop} (q : wS X st ⟨fun σ' H' => wL X sts ⟨nx, rt, bk, ct⟩ σ' H', rt, bk, ct⟩ σ H) : wL X (st :: sts) ⟨nx, rt, bk, ct⟩ σ H := l_of (pss_cons ps pl) q
theorem s_set {nx : L2.St → Hp → Prop} {rt : VK} {bk ct : L2.St → Hp → Prop} {i : Nat} {x : Str} {pos' : Pos} (q : wE X e σ H fun v H' => nx (σ.set i (some v)) H') (I : In X N G sc := by assumption) (hA : At N i x := by repeat (first | with_reducible apply At.z | with_reducible apply At.s)) (hs : swapsWith e (some (.Name x pos')) pos.line X.env = pure false := by rfl) :
    wS X (.Assign [.Name x pos'] e pos) ⟨nx, rt, bk, ct⟩ σ H := s_of (ps_set I.nd (I.hi hA) (I.loc hA) pe hs I.f) q
theorem s_ret {nx : L2.St → Hp → Prop} {rt : VK} {bk ct : L2.St → Hp → Prop} (q : wE X e σ H rt) : wS X (.Return (some e) pos) ⟨nx, rt, bk, ct⟩ σ H := s_of (ps_ret pe) q
theorem s_retN {nx : L2.St → Hp → Prop} {rt : VK} {bk ct : L2.St → Hp → Prop} (q : rt .non H) : wS X (.Return none pos) ⟨nx, rt, bk, ct⟩ σ H := s_of ps_retN q
theorem s_pass {nx : L2.St → Hp → Prop} {rt : VK} {bk ct : L2.St → Hp → Prop} (q : nx σ H) : wS X (.Pass pos) ⟨nx, rt, bk, ct⟩ σ H := s_of ps_pass q
theorem s_brk {nx : L2.St → Hp → Prop} {rt : VK} {bk ct : L2.St → Hp → Prop} (q : bk σ H) : wS X (.Break pos) ⟨nx, rt, bk, ct⟩ σ H := s_of ps_break q
theorem s_cnt {nx : L2.St → Hp → Prop} {rt : VK} {bk ct : L2.St → Hp → Prop} (q : ct σ H) : wS X (.Continue pos) ⟨nx, rt, bk, ct⟩ σ H := s_of ps_continue q
theorem s_expr {nx : L2.St → Hp → Prop} {rt : VK} {bk ct : L2.St → Hp → Prop} (q : wE X e σ H fun _ H' => nx σ H') (hs : swapsWith e none pos.line X.env = pure false := by rfl) : wS X (.Expr e pos) ⟨nx, rt, bk, ct⟩ σ H := s_of (ps_expr pe hs) q
theorem s_if {nx : L2.St → Hp → Prop} {rt : VK} {bk ct : L2.St → Hp → Prop} {A B : List Stmt} (q : wT X c σ H fun k H1 => if k = true then wL X A ⟨nx, rt, bk, ct⟩ σ H1 else wL X B ⟨nx, rt, bk, ct⟩ σ H1) : wS X (.If c A B pos) ⟨nx, rt, bk, ct⟩ σ H := s_of (ps_if pt pl pl) q
theorem s_fld {nx : L2.St → Hp → Prop} {rt : VK} {bk ct : L2.St → Hp → Prop} {o value : Expr} {f : Str} {pos' : Pos} (q : wE X value σ H fun y H1 => wE X o σ H1 fun x H2 => ∃ a C dx fs, x = .ref a ∧ H2 a = some (.ins C dx fs) ∧ Cls X.K C ∧ NoAttr X.K C f ∧ fs.length < 1000 ∧ nx σ (upd H2 a (.ins C dx (putF f y fs))))
    (hs : swapsWith value (some (.Attribute o f pos')) pos.line X.env = pure false := by rfl) : wS X (.Assign [.Attribute o f pos'] value pos) ⟨nx, rt, bk, ct⟩ σ H := s_of (ps_fld pe pe hs) q
/-- o[i] = v -/
theorem s_sub {nx : L2.St → Hp → Prop} {rt : VK} {bk ct : L2.St → Hp → Prop} {o i value : Expr} {pos' : Pos} (q : wE X value σ H fun v H1 => wE X o σ H1 fun x H2 => wE X i σ H2 fun y H3 => wSet X x y v H3 fun H4 => nx σ H4)
    (hs : swapsWithSole [.Subscript o i pos'] value pos.line X.env = pure false := by rfl) (hw : swappedStores [.Subscript o i pos'] value X.env = pure none := by rfl) (h1 : (assignEach [.Subscript o i pos'] X.env).map (·.2) = [assign (.Subscript o i pos') X.env] := by rfl)
    (ha : ∀ v, assign (.Subscript o i pos') X.env v = (do let ov ← holding [v] (eval o X.env); let iv ← holding [v, ov] (eval i X.env); standAt pos'; holding [v, ov, iv] (setItem ov iv v); release [v, ov, iv] []) := by intro _; rfl) : wS X (.Assign [.Subscript o i pos'] value pos) ⟨nx, rt, bk, ct⟩ σ H := s_of (ps_asg pe (pg_sub pe pe pset ha) hs hw h1) q
/-- two names from a tuple -/
theorem s_tup2 {nx : L2.St → Hp → Prop} {rt : VK} {bk ct : L2.St → Hp → Prop} {i j : Nat} {x y : Str} {k : Nat} {px py pt : Pos} (q : wE X e σ H fun v H1 => ∃ a u w, v = .ref a ∧ SqT X.K H1 a [u, w] ∧ nx ((σ.set i (some u)).set j (some w)) H1)
    (I : In X N G sc := by assumption) (hA : At N i x := by repeat (first | with_reducible apply At.z | with_reducible apply At.s)) (hB : At N j y := by repeat (first | with_reducible apply At.z | with_reducible apply At.s))
    (hs : swapsWithSole [.Tuple [.Name x px, .Name y py] k pt] e pos.line X.env = pure false := by rfl) (hw : swappedStores [.Tuple [.Name x px, .Name y py] k pt] e X.env = pure none := by rfl) (h1 : (assignEach [.Tuple [.Name x px, .Name y py] k pt] X.env).map (·.2) = [assign (.Tuple [.Name x px, .Name y py] k pt) X.env] := by rfl) :
    wS X (.Assign [.Tuple [.Name x px, .Name y py] k pt] e pos) ⟨nx, rt, bk, ct⟩ σ H := by
  refine s_of (ps_asg pe (pg_tup I.calm (pgs_cons (pg_name I.nd (I.hi hA) (I.loc hA) I.f) (pgs_cons (pg_name I.nd (I.hi hB) (I.loc hB) I.f) pgs_nil))) hs hw h1) (e_mono q fun v H1 q1 => ?_)
  obtain ⟨ad, u, w, ev, hq, q2⟩ := q1
  exact ⟨ad, [u, w], ev, hq, rfl, u, [w], rfl, w, [], rfl, rfl, q2⟩
/-! ### expressions -/
theorem e_var {i : Nat} {x : Str} {v : V} (q : Q v H) (I : In X N G sc := by assumption) (hA : At N i x := by repeat (first | with_reducible apply At.z | with_reducible apply At.s)) (hσ : σ[i]? = some (some v) := by exact rfl) : wE X (.Name x pos) σ H Q :=
  e_of (pe_var (I.hi hA) (I.vis hA) (I.ok.lo x hA.mem).2.1 (I.ok.lo x hA.mem).2.2) ⟨v, hσ, q⟩
theorem e_int {i : Int} {j} (q : Q (.int i) H) : wE X (.Constant (.int i) j pos) σ H Q := e_of pe_int q
theorem e_bl {k : Bool} {j} (q : Q (.bl k) H) : wE X (.Constant (.bool k) j pos) σ H Q := e_of pe_bl q
theorem e_non {j} (q : Q .non H) : wE X (.Constant .none j pos) σ H Q := e_of pe_non q
theorem e_str {x : Str} {j} (q : Q (.str x) H) : wE X (.Constant (.str x) j pos) σ H Q := e_of pe_str q
theorem e_bin {op : Operator} (q : wE X a σ H fun x H1 => wE X b σ H1 fun y H2 => wB X op x y H2 Q) : wE X (.BinOp a op b pos) σ H Q := e_of (pe_op opb pe pe) q
theorem e_cmp {op : CmpOp} (q : wE X a σ H fun x H1 => wE X b σ H1 fun y H2 => wK X op x y H2 Q) (hm : behindInMarks op b = false := by first | exact nomark _ | rfl) : wE X (.Compare a [op] [b] pos) σ H Q := e_of (pe_cmpR opk pe pe hm) q
theorem t_cmp {op : CmpOp} (q : wE X a σ H fun x H1 => wE X b σ H1 fun y H2 => wK X op x y H2 fun z H3 => ∃ k, z = .bl k ∧ QT k H3) (hm : behindInMarks op b = false := by first | exact nomark _ | rfl) : wT X (.Compare a [op] [b] pos) σ H QT := t_of (pt_cmpR opk pe pe hm) q
theorem t_val (q : wE X e σ H fun z H3 => ∃ k, z = .bl k ∧ QT k H3) (he : ∀ whole, isTrue e X.env whole = (do let v ← whole; standAt e.pos; holding [v] (truthy v)) := by intro _; rfl) : wT X e σ H QT := t_of (pt_val pe he) q
theorem t_not (q : wT X a σ H fun k H1 => QT (!k) H1) : wT X (.UnaryOp .Not a pos) σ H QT := t_of (pt_not pt) q
theorem t_w (q : wW X e σ H QT) : wT X e σ H QT := t_of pw.pt q
theorem w_and1 (q : wT X a σ H QT) : wW X (.BoolOp .And [a] pos) σ H QT := w_of (pw_and1 pt) q
theorem w_or1 (q : wT X a σ H QT) : wW X (.BoolOp .Or [a] pos) σ H QT := w_of (pw_or1 pt) q
theorem w_and (q : wT X a σ H fun k H1 => if k = true then wW X (.BoolOp .And (b :: rest) pos) σ H1 QT else QT false H1) : wW X (.BoolOp .And (a :: b :: rest) pos) σ H QT := w_of (pw_and pt pw) q
theorem w_or (q : wT X a σ H fun k H1 => if k = true then QT true H1 else wW X (.BoolOp .Or (b :: rest) pos) σ H1 QT) : wW X (.BoolOp .Or (a :: b :: rest) pos) σ H QT := w_of (pw_or pt pw) q
theorem e_one {op} (q : wE X a σ H Q) : wE X (.BoolOp op [a] pos) σ H Q := e_of (pe_one pe) q
theorem e_and (q : wE X a σ H fun x H1 => ∃ k, x = .bl k ∧ if k = true then wE X (.BoolOp .And (b :: rest) pos) σ H1 Q else Q (.bl false) H1) : wE X (.BoolOp .And (a :: b :: rest) pos) σ H Q := e_of (pe_and pe pe) q
theorem e_or (q : wE X a σ H fun x H1 => ∃ k, x = .bl k ∧ if k = true then Q (.bl true) H1 else wE X (.BoolOp .Or (b :: rest) pos) σ H1 Q) : wE X (.BoolOp .Or (a :: b :: rest) pos) σ H Q := e_of (pe_or pe pe) q
theorem e_not (q : wE X a σ H fun x H1 => ∃ k, x = .bl k ∧ Q (.bl (!k)) H1) : wE X (.UnaryOp .Not a pos) σ H Q := e_of (pe_not pe) q
theorem e_ifExp (q : wT X c σ H fun k H1 => if k = true then wE X a σ H1 Q else wE X b σ H1 Q) : wE X (.IfExp c a b pos) σ H Q := e_of (pe_ifExp pt pe pe) q
theorem e_ix (q : wE X a σ H fun x H1 => wE X b σ H1 fun y H2 => wIx X x y H2 Q) (hs : PlainIx b := by intro _ _; rfl) : wE X (.Subscript a b pos) σ H Q := e_of (pe_ix ixr pe pe hs) q
theorem e_fld {f : Str} (q : wE X e σ H fun x H1 => ∃ a C dx fs v, x = .ref a ∧ H1 a = some (.ins C dx fs) ∧ Cls X.K C ∧ NoAttr X.K C f ∧ fs.lookup f = some v ∧ Q v H1) (hb : attributeBase e f X.env (eval e X.env) = eval e X.env := by rfl) : wE X (.Attribute e f pos) σ H Q := e_of (pe_fld pe hb) q
theorem a_nil {QA : List V → Hp → Prop} (q : QA [] H) : wA X [] σ H QA := a_of pa_nil q
theorem a_cons {QA : List V → Hp → Prop} (q : wE X e σ H fun x H1 => wA X es σ H1 fun xs H2 => QA (x :: xs) H2) (hs : starEach (e :: es) X.env = (false, eval e X.env) :: starEach es X.env := by rfl) : wA X (e :: es) σ H QA := a_of (pa_cons pe pa hs) q
theorem e_tup {k} (q : wA X es σ H fun xs H1 => xs.length ≤ sizeLine ∧ ∀ p H2, Same H1 H2 → H1 p = none → H2 p = some (.tup xs) → Q (.ref p) H2) : wE X (.Tuple es k pos) σ H Q :=
  e_of (pe_tup pa) (a_mono q fun xs H1 z => ⟨z.1, fun p np => z.2 p _ (fun b o eo => by rw [upd_ne (ne_of_none eo np)]; exact eo) np upd_same⟩)
theorem e_lst (q : wA X es σ H fun xs H1 => xs.length ≤ sizeLine ∧ ∀ p H2, Same H1 H2 → H1 p = none → H2 p = some (.lst xs) → Q (.ref p) H2) : wE X (.List es pos) σ H Q :=
  e_of (pe_lst pa) (a_mono q fun xs H1 z => ⟨z.1, fun p np => z.2 p _ (fun b o eo => by rw [upd_ne (ne_of_none eo np)]; exact eo) np upd_same⟩)
/-! ### calls -/
/-- a def of the module that no exception leaves -/
structure Fn (P : Program) (w : World) (K : PySem.W.Frag) (mg : Str → Option Value) (base : Heap) (k : Nat) (x : Str) (sp : Sp) : Prop where
  ex : ∃ (f : Addr) (fd : FuncData) (ps : List Str), FnOk P w K mg base CX0 k f fd ps sp ∧ mg x = some (.ref f) ∧ PySem.W.keepIn K (.ref f) = true ∧ Binds K fd ps []
theorem e_call {g : Nat} {k n : Nat} {x : Str} {sp : Sp} (F : Fn X.prog X.w X.K X.mg X.base k x sp) (hr : Room n X.A) (hk : k ≤ n) (q : wA X (e :: es) σ H fun vs H1 => sp vs H1 Q E0) (I : In X N G sc := by assumption) (hG : At G g x := by repeat (first | with_reducible apply At.z | with_reducible apply At.s))
    (he : starEach (e :: es) X.env = (false, eval e X.env) :: starEach es X.env := by rfl) (hpl : (backTo pos (starEach es X.env)).any (·.1) = false := by rfl) : wE X (.Call (.Name x p0) (e :: es) [] pos) σ H Q := by
  obtain ⟨f, fd, ps, F0, hm, hkp, hb⟩ := F.ex
  refine e_of (pe_call F0 (hr.mono hk) (I.g hG) hm hkp hb .nil pass0 pa (I.gd hG) he hpl) ?_
  show wA X (e :: es) σ H fun vs H1 => sp (vs ++ []) H1 Q E0
  simp only [List.append_nil]
  exact q
theorem e_call0 {g : Nat} {k n : Nat} {x : Str} {sp : Sp} (F : Fn X.prog X.w X.K X.mg X.base k x sp) (hr : Room n X.A) (hk : k ≤ n) (q : sp [] H Q E0) (I : In X N G sc := by assumption) (hG : At G g x := by repeat (first | with_reducible apply At.z | with_reducible apply At.s)) : wE X (.Call (.Name x p0) [] [] pos) σ H Q := by
  obtain ⟨f, fd, ps, F0, hm, hkp, hb⟩ := F.ex
  exact e_of (pe_call0 F0 (hr.mono hk) (I.g hG) hm hkp hb .nil pass0 (I.gd hG)) q
theorem e_callB {g : Nat} {x : Str} {id : String} (hm : X.mg x = none) (hv : bootBuiltins x = some (.builtin id)) (q : wA X (e :: es) σ H fun vs H1 => wC X (.builtin id) vs H1 Q) (I : In X N G sc := by assumption) (hG : At G g x := by repeat (first | with_reducible apply At.z | with_reducible apply At.s))
    (he : starEach (e :: es) X.env = (false, eval e X.env) :: starEach es X.env := by rfl) (hpl : (backTo pos (starEach es X.env)).any (·.1) = false := by rfl) : wE X (.Call (.Name x p0) (e :: es) [] pos) σ H Q := e_of (pe_callB cr (I.g hG) hm hv pa (I.gn hG) (I.gd hG) he hpl) q
theorem e_callTy {g : Nat} {x : Str} {T : String} (hm : X.mg x = none) (hv : bootBuiltins x = some (.type T)) (q : wA X (e :: es) σ H fun vs H1 => wC X (.type T) vs H1 Q) (I : In X N G sc := by assumption) (hG : At G g x := by repeat (first | with_reducible apply At.z | with_reducible apply At.s))
    (he : starEach (e :: es) X.env = (false, eval e X.env) :: starEach es X.env := by rfl) (hpl : (backTo pos (starEach es X.env)).any (·.1) = false := by rfl) : wE X (.Call (.Name x p0) (e :: es) [] pos) σ H Q := e_of (pe_callTy cr (I.g hG) hm hv pa (I.gn hG) (I.gd hG) he hpl) q
theorem e_glob {g : Nat} {x : Str} {v : V} {u : Value} (hm : X.mg x = some u) (r : RelV v u) (q : Q v H) (I : In X N G sc := by assumption) (hG : At G g x := by repeat (first | with_reducible apply At.z | with_reducible apply At.s)) : wE X (.Name x pos) σ H Q := e_of (pe_glob (I.g hG) hm r (I.gd hG)) q
theorem e_bltn {g : Nat} {x : Str} {v : V} {u : Value} (hm : X.mg x = none) (hv : bootBuiltins x = some u) (r : RelV v u) (q : Q v H) (I : In X N G sc := by assumption) (hG : At G g x := by repeat (first | with_reducible apply At.z | with_reducible apply At.s)) : wE X (.Name x pos) σ H Q := e_of (pe_bltn (I.g hG) hm hv r (I.gn hG) (I.gd hG)) q
/-- a method of a class that no exception leaves -/
structure Mt (P : Program) (w : World) (K : PySem.W.Frag) (mg : Str → Option Value) (base : Heap) (k : Nat) (C : Addr) (m : Str) (sp : Sp) : Prop where
  ex : ∃ (f : Addr) (fd : FuncData) (ps : List Str), FnOk P w K mg base CX0 k f fd ps sp ∧ Meth K C m f ∧ Binds K fd ps [] ∧ Cls K C
theorem e_meth {k n : Nat} {o : Expr} {m : Str} {C : Addr} {apos : Pos} {pl : Sem Bool} {sp : Sp} (F : Mt X.prog X.w X.K X.mg X.base k C m sp) (hr : Room n X.A) (hk : k ≤ n)
    (q : wE X o σ H fun x H1 => ∃ a dx fs, x = .ref a ∧ H1 a = some (.ins C dx fs) ∧ fs.lookup m = none ∧ wA X (e :: es) σ H1 fun vs H2 => sp (x :: vs) H2 Q E0)
    (hst : starEach (e :: es) X.env = (false, eval e X.env) :: starEach es X.env := by rfl) (hpl : (backTo pos (starEach es X.env)).any (·.1) = false := by rfl)
    (ht : eval (.Call (.Attribute o m apos) (e :: es) [] pos) X.env = (do let ov ← eval o X.env; standAt apos.atName; let (f, first) ← holding [ov] (getMethod ov m pl); callWith pos f first (backTo pos (starEach (e :: es) X.env)) (backToKw pos (keywordEach [] X.env))) := by rfl) :
    wE X (.Call (.Attribute o m apos) (e :: es) [] pos) σ H Q := by
  obtain ⟨f, fd, ps, F0, M, hb, c⟩ := F.ex
  refine e_of (pe_meth (pl := pl) pe c M F0 (hr.mono hk) hb .nil pass0 pa hst hpl ht) ?_
  show wE X o σ H fun x H1 => ∃ a dx fs, x = .ref a ∧ H1 a = some (.ins C dx fs) ∧ fs.lookup m = none ∧ wA X (e :: es) σ H1 fun vs H2 => sp (x :: (vs ++ [])) H2 Q E0
  simp only [List.append_nil]
  exact q
theorem e_meth0 {k n : Nat} {o : Expr} {m : Str} {C : Addr} {apos : Pos} {pl : Sem Bool} {sp : Sp} (F : Mt X.prog X.w X.K X.mg X.base k C m sp) (hr : Room n X.A) (hk : k ≤ n)
    (q : wE X o σ H fun x H1 => ∃ a dx fs, x = .ref a ∧ H1 a = some (.ins C dx fs) ∧ fs.lookup m = none ∧ sp [x] H1 Q E0)
    (ht : eval (.Call (.Attribute o m apos) [] [] pos) X.env = (do let ov ← eval o X.env; standAt apos.atName; let (f, first) ← holding [ov] (getMethod ov m pl); callWith pos f first (backTo pos (starEach [] X.env)) (backToKw pos (keywordEach [] X.env))) := by rfl) :
    wE X (.Call (.Attribute o m apos) [] [] pos) σ H Q := by
  obtain ⟨f, fd, ps, F0, M, hb, c⟩ := F.ex
  exact e_of (pe_meth0 (pl := pl) pe c M F0 (hr.mono hk) hb .nil pass0 ht) q
/-- an own class whose __init__ no exception leaves -/
structure Kl (P : Program) (w : World) (K : PySem.W.Frag) (mg : Str → Option Value) (base : Heap) (k : Nat) (x : Str) (C : Addr) (sp : Sp) : Prop where
  ex : ∃ (f : Addr) (fd : FuncData) (ps : List Str), FnOk P w K mg base CX0 k f fd ps sp ∧ mg x = some (.ref C) ∧ Mk K C f ∧ Binds K fd ps []
theorem e_make {g : Nat} {k n : Nat} {x : Str} {C : Addr} {sp : Sp} (F : Kl X.prog X.w X.K X.mg X.base k x C sp) (hr : Room n X.A) (hk : k + 1 ≤ n)
    (q : wA X (e :: es) σ H fun vs H1 => ∀ x dx, H1 x = none → H1 dx = none → dx ≠ x → sp (.ref x :: vs) (upd (upd H1 dx (.own x)) x (.ins C dx [])) (fun v H2 => v = .non ∧ Q (.ref x) H2) E0)
    (I : In X N G sc := by assumption) (hG : At G g x := by repeat (first | with_reducible apply At.z | with_reducible apply At.s)) (he : starEach (e :: es) X.env = (false, eval e X.env) :: starEach es X.env := by rfl) (hpl : (backTo pos (starEach es X.env)).any (·.1) = false := by rfl) : wE X (.Call (.Name x p0) (e :: es) [] pos) σ H Q := by
  obtain ⟨f, fd, ps, F0, hm, M, hb⟩ := F.ex
  refine e_of (pe_make M F0 (hr.mono hk) (I.g hG) hm hb .nil pass0 pa (I.gd hG) he hpl) ?_
  show wA X (e :: es) σ H fun vs H1 => ∀ x dx, H1 x = none → H1 dx = none → dx ≠ x → sp (.ref x :: (vs ++ [])) (upd (upd H1 dx (.own x)) x (.ins C dx [])) (fun v H2 => v = .non ∧ Q (.ref x) H2) E0
  simp only [List.append_nil]
  exact q
end
/-! ### values -/
section
variable {X : Cx} {H : Hp} {Q : VK} {i j : Int} {σ : L2.St} {D : Ends}
theorem o_add (q : Q (.int (i + j)) H) : wB X .Add (.int i) (.int j) H Q := b_of op_add ⟨i, j, rfl, rfl, q⟩
theorem o_sub (q : Q (.int (i - j)) H) : wB X .Sub (.int i) (.int j) H Q := b_of op_sub ⟨i, j, rfl, rfl, q⟩
theorem o_mul (c : CMul i j) (q : Q (.int (i * j)) H) : wB X .Mult (.int i) (.int j) H Q := b_of op_mul ⟨i, j, rfl, rfl, c, q⟩
theorem o_mod (c : 0 < j) (q : Q (.int (i % j)) H) : wB X .Mod (.int i) (.int j) H Q := b_of op_mod ⟨i, j, rfl, rfl, c, q⟩
theorem o_fdiv (c : 0 < j ∧ j < 1073741824) (q : Q (.int (i / j)) H) : wB X .FloorDiv (.int i) (.int j) H Q := b_of op_fdiv ⟨i, j, rfl, rfl, c, q⟩
theorem o_pow (c : CPow i j) (q : Q (.int (i ^ j.toNat)) H) : wB X .Pow (.int i) (.int j) H Q := b_of op_pow ⟨i, j, rfl, rfl, c, q⟩
theorem o_lt (q : Q (.bl (decide (i < j))) H) : wK X .Lt (.int i) (.int j) H Q := k_of op_lt ⟨i, j, rfl, rfl, q⟩
theorem o_le (q : Q (.bl (decide (i ≤ j))) H) : wK X .LtE (.int i) (.int j) H Q := k_of op_le ⟨i, j, rfl, rfl, q⟩
theorem o_gt (q : Q (.bl (decide (j < i))) H) : wK X .Gt (.int i) (.int j) H Q := k_of op_gt ⟨i, j, rfl, rfl, q⟩
theorem o_ge (q : Q (.bl (decide (j ≤ i))) H) : wK X .GtE (.int i) (.int j) H Q := k_of op_ge ⟨i, j, rfl, rfl, q⟩
theorem dint {i j : Int} : decide (V.int i = V.int j) = decide (i = j) := by simp
theorem dbl {i j : Bool} : decide (V.bl i = V.bl j) = decide (i = j) := by simp
theorem dstr {i j : Str} : decide (V.str i = V.str j) = decide (i = j) := by simp
theorem o_eqI (q : Q (.bl (decide (i = j))) H) : wK X .Eq (.int i) (.int j) H Q := k_of op_eq ⟨rfl, dint ▸ q⟩
theorem o_neI (q : Q (.bl (!decide (i = j))) H) : wK X .NotEq (.int i) (.int j) H Q := k_of op_ne ⟨rfl, dint ▸ q⟩
theorem o_eqB {i j : Bool} (q : Q (.bl (decide (i = j))) H) : wK X .Eq (.bl i) (.bl j) H Q := k_of op_eq ⟨rfl, dbl ▸ q⟩
theorem o_neB {i j : Bool} (q : Q (.bl (!decide (i = j))) H) : wK X .NotEq (.bl i) (.bl j) H Q := k_of op_ne ⟨rfl, dbl ▸ q⟩
theorem o_eqS {i j : Str} (q : Q (.bl (decide (i = j))) H) : wK X .Eq (.str i) (.str j) H Q := k_of op_eq ⟨rfl, dstr ▸ q⟩
theorem o_neS {i j : Str} (q : Q (.bl (!decide (i = j))) H) : wK X .NotEq (.str i) (.str j) H Q := k_of op_ne ⟨rfl, dstr ▸ q⟩
/-- a pair of ints beside a text -/
theorem o_eqPS {n : Nat} {a : Addr} {u v : Int} {z : Str} (hr : Room n X.A) (h : H a = some (.tup [.int u, .int v])) (hz : SeqAt.shaped (.str z) = true) (q : Q (.bl false) H) : wK X .Eq (.ref a) (.str z) H Q :=
  k_of (op_eqD hr.units) ⟨.tuple [.int u, .int v], .str z, .tup (SqT.of h) (.cons (.int u) (.cons (.int v) .nil)), .str z, rfl, hz, q⟩
theorem ix_l {a : Addr} {xs : List V} {v : V} (h : SqL X.K H a xs) (e : atI xs i = some v) (q : Q v H) : wIx X (.ref a) (.int i) H Q := ix_of ix_list ⟨a, xs, i, v, rfl, rfl, h, e, q⟩
theorem ix_t {a : Addr} {xs : List V} {v : V} (h : SqT X.K H a xs) (e : atI xs i = some v) (q : Q v H) : wIx X (.ref a) (.int i) H Q := ix_of ix_tup ⟨a, xs, i, v, rfl, rfl, h, e, q⟩
theorem set_l {a : Addr} {xs : List V} {v : V} {k : Nat} {QH : Hp → Prop} (h : H a = some (.lst xs)) (e : ixN xs.length i = some k) (q : QH (upd H a (.lst (xs.set k v)))) : wSet X (.ref a) (.int i) v H QH := set_of set_list ⟨a, xs, i, k, rfl, rfl, h, e, q⟩
theorem c_int (q : Q (.int i) H) : wC X (.type "int") [.int i] H Q := c_of call_int1 (.inl ⟨i, rfl, q⟩)
theorem c_abs (q : Q (.int (if i < 0 then -i else i)) H) : wC X (.builtin "abs") [.int i] H Q := c_of call_abs ⟨i, rfl, q⟩
theorem c_max (hc : X.calm = true) (q : Q (.int (if j > i then j else i)) H) : wC X (.builtin "max") [.int i, .int j] H Q := c_of (call_max2 hc) ⟨i, j, rfl, q⟩
theorem c_min (hc : X.calm = true) (q : Q (.int (if j < i then j else i)) H) : wC X (.builtin "min") [.int i, .int j] H Q := c_of (call_min2 hc) ⟨i, j, rfl, q⟩
theorem c_lenL {a : Addr} {xs : List V} (h : SqL X.K H a xs) (q : Q (.int xs.length) H) : wC X (.builtin "len") [.ref a] H Q := c_of call_len_seq ⟨a, xs, rfl, .inl h, q⟩
theorem c_lenT {a : Addr} {xs : List V} (h : SqT X.K H a xs) (q : Q (.int xs.length) H) : wC X (.builtin "len") [.ref a] H Q := c_of call_len_seq ⟨a, xs, rfl, .inr h, q⟩
theorem c_isi {x c : V} {t u : Value} {b : Bool} (ty : TyX X.K H x t) (k : ClsV c u) (e : PySem.W.kitOne X.K t u = some b) (q : Q (.bl b) H) : wC X (.builtin "isinstance") [x, c] H Q := c_of call_isi ⟨x, c, t, u, b, rfl, k, ty, e, q⟩
theorem c_isiT {x : V} {tp : Addr} {cs : List V} {t : Value} {us : List Value} {b : Bool} (ty : TyX X.K H x t) (h : H tp = some (.tup cs)) (k : Paired ClsV cs us) (e : PySem.W.kitAny X.K t us = some b) (q : Q (.bl b) H) : wC X (.builtin "isinstance") [x, .ref tp] H Q :=
  c_of call_isiT ⟨x, tp, cs, t, us, b, rfl, h, k, ty, e, q⟩
theorem ty_non : TyX X.K H .non (.type "NoneType") := .base .non
theorem ty_bl {b : Bool} : TyX X.K H (.bl b) (.type "bool") := .base (.bl b)
theorem ty_int : TyX X.K H (.int i) (.type "int") := .base (.int i)
theorem ty_str {z : Str} : TyX X.K H (.str z) (.type "str") := .base (.str z)
theorem ty_tup {a : Addr} {xs : List V} (h : H a = some (.tup xs)) : TyX X.K H (.ref a) (.type "tuple") := .base (.tup h)
theorem ty_lst {a : Addr} {xs : List V} (h : H a = some (.lst xs)) : TyX X.K H (.ref a) (.type "list") := .base (.lst h)
theorem two_ty {a b : String} : Paired ClsV [.ty a, .ty b] [.type a, .type b] := .cons (.ty a) (.cons (.ty b) .nil)
theorem kit2 {K : PySem.W.Frag} {t a b : String} {x y : Bool} (h1 : kitB t a = some x) (h2 : kitB t b = some y) : PySem.W.kitAny K (.type t) [.type a, .type b] = some (x || y) := by
  cases x with
  | true => exact kitAny_cons (kit_ty h1) (fun z => nomatch z) fun _ => rfl
  | false =>
    refine kitAny_cons (kit_ty h1) (fun _ => ?_) (fun z => nomatch z)
    cases y with
    | true => exact kitAny_cons (kit_ty h2) (fun z => nomatch z) fun _ => rfl
    | false => exact kitAny_cons (kit_ty h2) (fun _ => rfl) (fun z => nomatch z)
theorem kb_int_tuple : kitB "int" "tuple" = some false := by decide +kernel
theorem kb_int_list : kitB "int" "list" = some false := by decide +kernel
theorem kb_int_int : kitB "int" "int" = some true := by decide +kernel
theorem kb_int_bool : kitB "int" "bool" = some false := by decide +kernel
theorem kb_int_str : kitB "int" "str" = some false := by decide +kernel
theorem kb_tuple_tuple : kitB "tuple" "tuple" = some true := by decide +kernel
theorem kb_tuple_list : kitB "tuple" "list" = some false := by decide +kernel
theorem kb_tuple_str : kitB "tuple" "str" = some false := by decide +kernel
theorem kb_tuple_int : kitB "tuple" "int" = some false := by decide +kernel
theorem kb_tuple_bool : kitB "tuple" "bool" = some false := by decide +kernel
theorem kb_list_tuple : kitB "list" "tuple" = some false := by decide +kernel
theorem kb_list_list : kitB "list" "list" = some true := by decide +kernel
theorem kb_list_str : kitB "list" "str" = some false := by decide +kernel
theorem kb_list_int : kitB "list" "int" = some false := by decide +kernel
theorem kb_list_bool : kitB "list" "bool" = some false := by decide +kernel
theorem kb_bool_bool : kitB "bool" "bool" = some true := by decide +kernel
theorem kb_bool_int : kitB "bool" "int" = some true := by decide +kernel
theorem kb_bool_str : kitB "bool" "str" = some false := by decide +kernel
theorem kb_bool_tuple : kitB "bool" "tuple" = some false := by decide +kernel
theorem kb_bool_list : kitB "bool" "list" = some false := by decide +kernel
theorem kb_str_str : kitB "str" "str" = some true := by decide +kernel
theorem kb_str_bool : kitB "str" "bool" = some false := by decide +kernel
theorem kb_str_int : kitB "str" "int" = some false := by decide +kernel
theorem kb_str_tuple : kitB "str" "tuple" = some false := by decide +kernel
theorem kb_str_list : kitB "str" "list" = some false := by decide +kernel
theorem kb_non_bool : kitB "NoneType" "bool" = some false := by decide +kernel
theorem kb_non_int : kitB "NoneType" "int" = some false := by decide +kernel
theorem kb_non_str : kitB "NoneType" "str" = some false := by decide +kernel
theorem kb_non_tuple : kitB "NoneType" "tuple" = some false := by decide +kernel
theorem kb_non_list : kitB "NoneType" "list" = some false := by decide +kernel
theorem b_int : bootBuiltins "int" = some (.type "int") := by decide +kernel
theorem b_bool : bootBuiltins "bool" = some (.type "bool") := by decide +kernel
theorem b_str : bootBuiltins "str" = some (.type "str") := by decide +kernel
theorem b_tuple : bootBuiltins "tuple" = some (.type "tuple") := by decide +kernel
theorem b_list : bootBuiltins "list" = some (.type "list") := by decide +kernel
theorem b_isi : bootBuiltins "isinstance" = some (.builtin "isinstance") := by decide +kernel
theorem b_len : bootBuiltins "len" = some (.builtin "len") := by decide +kernel
theorem b_abs : bootBuiltins "abs" = some (.builtin "abs") := by decide +kernel
theorem b_max : bootBuiltins "max" = some (.builtin "max") := by decide +kernel
theorem b_min : bootBuiltins "min" = some (.builtin "min") := by decide +kernel
/-! ### loops -/
theorem s_forR {nx : L2.St → Hp → Prop} {rt : VK} {bk ct : L2.St → Hp → Prop} {g : Nat} {N G : List Str} {sc : Scope} {x : Str} {i : Nat} {a : Expr} {body : List Stmt} {px p cp pos : Pos} (hm : X.mg "range" = none)
    (q : wE X a σ H fun v H1 => ∃ n : Nat, v = .int n ∧ n < 2 ^ 62 ∧ ∃ Pv : Nat → L2.St → Hp → Prop, Pv 0 σ H1 ∧ (∀ k σ H, k < n → Pv k σ H → wL X body ⟨Pv (k + 1), rt, nx, Pv (k + 1)⟩ (σ.set i (some (.int (k : Int)))) H) ∧ ∀ σ H, Pv n σ H → nx σ H)
    (I : In X N G sc := by assumption) (hA : At N i x := by repeat (first | with_reducible apply At.z | with_reducible apply At.s))
    (hG : At G g ("range" : Str) := by repeat (first | with_reducible apply At.z | with_reducible apply At.s)) (hs : starEach [a] X.env = [(false, eval a X.env)] := by rfl) (hs2 : ∀ z, foldedSetIterable (.Call (.Name "range" p) [a] [] cp) X.env z = pure z := by intro _; rfl)
    (hs1 : starEach (a :: []) X.env = (false, eval a X.env) :: starEach [] X.env := by rfl) :
    wS X (.For (.Name x px) (.Call (.Name "range" p) [a] [] cp) body [] pos) ⟨nx, rt, bk, ct⟩ σ H := by
  refine s_of (ps_for I.never I.calm (pi_range1 (I.g hG) hm (pa_cons pe pa_nil hs1) hs) (pg_name I.nd (I.hi hA) (I.loc hA) I.f) pl hs2) (e_mono q fun v H1 q1 => ?_)
  obtain ⟨n, rfl, hn, Pv, h0, hb, hd⟩ := q1
  refine ⟨(n : Int), rfl, by omega, by omega, ?_⟩
  rw [Int.toNat_natCast]
  refine for_range (n := n) Pv h0 (fun k σ H hk p => ?_) hd
  rw [Int.zero_add]
  exact hb k σ H hk p
theorem s_forL {nx : L2.St → Hp → Prop} {rt : VK} {bk ct : L2.St → Hp → Prop} {N G : List Str} {sc : Scope} {x : Str} {i : Nat} {a : Expr} {body : List Stmt} {px pos : Pos}
    (q : wE X a σ H fun v H1 => ∃ ad xs, v = .ref ad ∧ SqL X.K H1 ad xs ∧ ∃ Pv : Nat → L2.St → Hp → Prop, Pv 0 σ H1 ∧ (∀ k σ H, k ≤ xs.length → Pv k σ H → SqL X.K H ad xs) ∧ (∀ k y σ H, xs[k]? = some y → Pv k σ H → wL X body ⟨Pv (k + 1), rt, nx, Pv (k + 1)⟩ (σ.set i (some y)) H) ∧ ∀ σ H, Pv xs.length σ H → nx σ H)
    (I : In X N G sc := by assumption) (hA : At N i x := by repeat (first | with_reducible apply At.z | with_reducible apply At.s))
    (hs2 : ∀ z, foldedSetIterable a X.env z = pure z := by intro _; rfl) :
    wS X (.For (.Name x px) a body [] pos) ⟨nx, rt, bk, ct⟩ σ H := by
  refine s_of (ps_for I.never I.calm (pi_list pe) (pg_name I.nd (I.hi hA) (I.loc hA) I.f) pl hs2) (e_mono q fun v H1 q1 => ?_)
  obtain ⟨ad, xs, rfl, hl, Pv, h0, hk, hb, hd⟩ := q1
  exact ⟨ad, rfl, ⟨xs, hl⟩, for_list Pv h0 hk hb hd⟩
theorem s_forT {nx : L2.St → Hp → Prop} {rt : VK} {bk ct : L2.St → Hp → Prop} {N G : List Str} {sc : Scope} {x : Str} {i : Nat} {a : Expr} {body : List Stmt} {px pos : Pos}
    (q : wE X a σ H fun v H1 => ∃ ad xs, v = .ref ad ∧ SqT X.K H1 ad xs ∧ ∃ Pv : Nat → L2.St → Hp → Prop, Pv 0 σ H1 ∧ (∀ k σ H, k ≤ xs.length → Pv k σ H → SqT X.K H ad xs) ∧ (∀ k y σ H, xs[k]? = some y → Pv k σ H → wL X body ⟨Pv (k + 1), rt, nx, Pv (k + 1)⟩ (σ.set i (some y)) H) ∧ ∀ σ H, Pv xs.length σ H → nx σ H)
    (I : In X N G sc := by assumption) (hA : At N i x := by repeat (first | with_reducible apply At.z | with_reducible apply At.s))
    (hs2 : ∀ z, foldedSetIterable a X.env z = pure z := by intro _; rfl) :
    wS X (.For (.Name x px) a body [] pos) ⟨nx, rt, bk, ct⟩ σ H := by
  refine s_of (ps_for I.never I.calm (pi_tup pe) (pg_name I.nd (I.hi hA) (I.loc hA) I.f) pl hs2) (e_mono q fun v H1 q1 => ?_)
  obtain ⟨ad, xs, rfl, hl, Pv, h0, hk, hb, hd⟩ := q1
  exact ⟨ad, rfl, ⟨xs, hl⟩, for_tup Pv h0 hk hb hd⟩
/-! ### an own operator of an own class -/
theorem op_own {op : Operator} {k n : Nat} {C f : Addr} {fd : FuncData} {pn : List Str} {sp : Sp} (F : FnOk X.prog X.w X.K X.mg X.base CX0 k f fd pn sp) (hs : PySem.W.findIn X.K (.ref C) (PySem.dunder op.info.2) = some (some (.ref f))) (hf : PySem.W.isFn X.K (.ref f) = true)
    (hc : PySem.W.selfFirst X.K C = true) (hb : Binds X.K fd pn []) (hr : Room n X.A) (hk : k ≤ n) :
    OpR X (binaryOp op) (fun x y H Q => ∃ a b dx dy fs gs, x = .ref a ∧ y = .ref b ∧ H a = some (.ins C dx fs) ∧ H b = some (.ins C dy gs) ∧ sp [x, y] H (fun v H' => (∃ p, v = .ref p) ∧ Q v H') E0) := by
  intro pins s σ H x y u v Q I rx ry h
  obtain ⟨a, b, dx, dy, fs, gs, rfl, rfl, ha, hb', hsp⟩ := h
  cases rx
  cases ry
  obtain ⟨mA, J, _⟩ := ins_get I.hok ha
  obtain ⟨mB, J', _⟩ := ins_get I.hok hb'
  obtain ⟨od, J, _⟩ := J.look
  obtain ⟨od', J', _⟩ := J'.look
  obtain ⟨m, hF⟩ := I.fr
  refine PySem.W.binop_K hF I.ok.mod.kin J J'.type hc hs hf ?_
  refine wpAny_mono (run_fn (E := E0) F (hr.mono hk) hb .nil pass0 I (show Vals [V.ref a, V.ref b] [Value.ref a, Value.ref b] from .cons rfl (.cons rfl .nil)) (by rw [List.append_nil]; exact hsp)) (fun w s' z => ?_) fun _ _ z => z
  obtain ⟨v', H', I', rz, ⟨p, rfl⟩, q⟩ := z
  cases rz
  exact ⟨.ref p, H', I', rfl, q⟩
structure Op2 (P : Program) (w : World) (K : PySem.W.Frag) (mg : Str → Option Value) (base : Heap) (k : Nat) (C : Addr) (op : Operator) (sp : Sp) : Prop where
  ex : ∃ (f : Addr) (fd : FuncData) (pn : List Str), FnOk P w K mg base CX0 k f fd pn sp ∧ PySem.W.findIn K (.ref C) (PySem.dunder op.info.2) = some (some (.ref f)) ∧ PySem.W.isFn K (.ref f) = true ∧ PySem.W.selfFirst K C = true ∧ Binds K fd pn []
theorem o_own {op : Operator} {k n : Nat} {C a b dx dy : Addr} {fs gs : List (Str × V)} {sp : Sp} (F : Op2 X.prog X.w X.K X.mg X.base k C op sp) (hr : Room n X.A) (hk : k ≤ n) (ha : H a = some (.ins C dx fs)) (hb : H b = some (.ins C dy gs))
    (q : sp [.ref a, .ref b] H (fun v H' => (∃ p, v = .ref p) ∧ Q v H') E0) : wB X op (.ref a) (.ref b) H Q := by
  obtain ⟨f, fd, pn, G, hs, hf, hc, hb'⟩ := F.ex
  exact b_of (op_own G hs hf hc hb' hr hk) ⟨a, b, dx, dy, fs, gs, rfl, rfl, ha, hb, q⟩
end
/-! ### heaps -/
/-- all but a stays -/
def But (a : Addr) (H H' : Hp) : Prop := ∀ b o, b ≠ a → H b = some o → H' b = some o
theorem But.refl {a : Addr} {H : Hp} : But a H H := fun _ _ _ h => h
theorem But.trans {a : Addr} {H H1 H2 : Hp} (x : But a H H1) (y : But a H1 H2) : But a H H2 := fun b o n h => y b o n (x b o n h)
theorem But.of {a : Addr} {H H1 : Hp} (x : Same H H1) : But a H H1 := fun b o _ h => x b o h
theorem But.upd {a : Addr} {H H1 : Hp} {o : HO} (x : But a H H1) : But a H (L2.upd H1 a o) := fun b u n h => by
  rw [upd_ne n]
  exact x b u n h
theorem But.tup {a p : Addr} {H H1 : Hp} {l xs : List V} (x : But a H H1) (ha : H a = some (.lst l)) (hp : H p = some (.tup xs)) : H1 p = some (.tup xs) := x p _ (ne_of hp ha (by intro z; cases z)) hp
theorem But.ins {a p C dx : Addr} {H H1 : Hp} {l : List V} {fs : List (Str × V)} (x : But a H H1) (ha : H a = some (.lst l)) (hp : H p = some (.ins C dx fs)) : H1 p = some (.ins C dx fs) := x p _ (ne_of hp ha (by intro z; cases z)) hp
theorem But.frz {a p : Addr} {H H1 : Hp} {l : List V} {o : Obj} {u : HO} (x : But a H H1) (ha : H a = some (.lst l)) (hp : H p = some (.frz o u)) : H1 p = some (.frz o u) := x p _ (ne_of hp ha (by intro z; cases z)) hp
section
variable {P : Program} {w : World} {K : PySem.W.Frag} {mg : Str → Option Value} {base : Heap}
/-- a def of the module where the top has left it -/
structure Top (K : PySem.W.Frag) (mg : Str → Option Value) (x : Str) (st : Stmt) : Prop where
  ex : ∃ (f : Addr) (fd : FuncData), Fun K x x st f fd ∧ mg x = some (.ref f)
theorem top_mk {h : Heap} {x : Str} {st : Stmt} {f : Addr} {oc : Value} {od an : Option Addr} {osl : Array (Option Value)} {kV doc pm cdv ct : Value} (X : K.In h) (G : h.Ns mainGlobals mg) (a : PySem.W.nsIn K mainGlobals x = some (some (.ref f)))
    (l : K.lookup f = some ⟨oc, od, .func (PySem.W.fnOf x x (defArgs st) (defBody st) (defScope st) .none kV doc pm an cdv ct), osl⟩) (c : PySem.W.codeIn K cdv x = true) (k : PySem.W.keepIn K (.ref f) = true) : Top K mg x st :=
  ⟨f, _, fun_mk l c k, PySem.W.mg_of X G a⟩
theorem fn_ok {x : Str} {st : Stmt} {N G ps : List Str} {k : Nat} {sp : Sp} (T : Top K mg x st) (S : FnScope N ps (defScope st)) (O : ScOk N G (defScope st)) (len : ∀ vs H Q E, sp vs H Q E → vs.length = ps.length)
    (hb : ∀ (kV doc pm : Value) (an : Option Addr) (cdv ct : Value) (us : List Value), us.length = ps.length → bindArgs (PySem.W.fnOf x x (defArgs st) (defBody st) (defScope st) .none kV doc pm an cdv ct) ⟨us, []⟩ = pure (ps.zip us))
    (hbody : ∀ (f : Addr) (cdv : Value) (A : Around) (outer : List Env) (s : Shared) (H : Hp) (vs : List V) (Q : VK) (E : XK), Room k (A.deeper (envOfC x (defScope st) s.heap.objs.size f cdv)) → sp vs H Q E → In (cxOf CX0 P w K mg base N x (defScope st) f cdv A outer s H E).nox N G (defScope st) →
      wL (cxOf CX0 P w K mg base N x (defScope st) f cdv A outer s H E).nox (defBody st) { nx := fun _ H' => Q .non H', rt := Q } (start N vs) H) : Fn P w K mg base (k + 1) x sp := by
  obtain ⟨f, fd, F, hm⟩ := T.ex
  exact ⟨f, fd, ps, F.ok S len (fun cdv A outer s H vs Q E hr h => ⟨_, pl, hbody f cdv A outer s H vs Q E hr h ⟨O, rfl, rfl, rfl, rfl, rfl⟩⟩), hm, F.kp, F.binds hb⟩
/-- a method where the top has left it -/
structure TopM (K : PySem.W.Frag) (C : Addr) (x qual : Str) (st : Stmt) : Prop where
  ex : ∃ (f : Addr) (fd : FuncData), Fun K x qual st f fd ∧ PySem.W.findIn K (.ref C) x = some (some (.ref f)) ∧ PySem.W.isFn K (.ref f) = true
theorem topM_mk {x qual : Str} {st : Stmt} {C f : Addr} {oc : Value} {od an : Option Addr} {osl : Array (Option Value)} {kV doc pm cdv ct : Value} (a : PySem.W.findIn K (.ref C) x = some (some (.ref f))) (i : PySem.W.isFn K (.ref f) = true)
    (l : K.lookup f = some ⟨oc, od, .func (PySem.W.fnOf x qual (defArgs st) (defBody st) (defScope st) .none kV doc pm an cdv ct), osl⟩) (c : PySem.W.codeIn K cdv qual = true) (k : PySem.W.keepIn K (.ref f) = true) : TopM K C x qual st :=
  ⟨f, _, fun_mk l c k, a, i⟩
theorem me_ok {x qual : Str} {C : Addr} {st : Stmt} {N G ps : List Str} {k : Nat} {sp : Sp} (T : TopM K C x qual st) (S : FnScope N ps (defScope st)) (O : ScOk N G (defScope st)) (len : ∀ vs H Q E, sp vs H Q E → vs.length = ps.length)
    (hb : ∀ (kV doc pm : Value) (an : Option Addr) (cdv ct : Value) (us : List Value), us.length = ps.length → bindArgs (PySem.W.fnOf x qual (defArgs st) (defBody st) (defScope st) .none kV doc pm an cdv ct) ⟨us, []⟩ = pure (ps.zip us))
    (hbody : ∀ (f : Addr) (cdv : Value) (A : Around) (outer : List Env) (s : Shared) (H : Hp) (vs : List V) (Q : VK) (E : XK), Room k (A.deeper (envOfC qual (defScope st) s.heap.objs.size f cdv)) → sp vs H Q E → In (cxOf CX0 P w K mg base N qual (defScope st) f cdv A outer s H E).nox N G (defScope st) →
      wL (cxOf CX0 P w K mg base N qual (defScope st) f cdv A outer s H E).nox (defBody st) { nx := fun _ H' => Q .non H', rt := Q } (start N vs) H) :
    ∃ (f : Addr) (fd : FuncData), FnOk P w K mg base CX0 (k + 1) f fd ps sp ∧ Binds K fd ps [] ∧ PySem.W.findIn K (.ref C) x = some (some (.ref f)) ∧ PySem.W.isFn K (.ref f) = true ∧ PySem.W.keepIn K (.ref f) = true := by
  obtain ⟨f, fd, F, hf, hi⟩ := T.ex
  exact ⟨f, fd, F.ok S len (fun cdv A outer s H vs Q E hr h => ⟨_, pl, hbody f cdv A outer s H vs Q E hr h ⟨O, rfl, rfl, rfl, rfl, rfl⟩⟩), F.binds hb, hf, hi, F.kp⟩
end
/-- a bool test that is decided by a fact -/
theorem ifT {c A B : Prop} [Decidable c] (hc : c) (h : A) : if decide c = true then A else B := by
  rw [decide_eq_true hc]
  exact iteT h
theorem ifF {c A B : Prop} [Decidable c] (hc : ¬ c) (h : B) : if decide c = true then A else B := by
  rw [decide_eq_false hc]
  exact iteF h
theorem if2 {c A B : Prop} [Decidable c] (h1 : c → A) (h2 : ¬ c → B) : if decide c = true then A else B := by
  by_cases h : c
  · exact ifT h (h1 h)
  · exact ifF h (h2 h)
theorem ite_t {c : Bool} {A B : Prop} (hc : c = true) (h : A) : if c = true then A else B := by
  rw [hc]
  exact iteT h
theorem ite_f {c : Bool} {A B : Prop} (hc : c = false) (h : B) : if c = true then A else B := by
  rw [hc]
  exact iteF h
section
variable {P : Program} {w : World} {K : PySem.W.Frag} {mg : Str → Option Value} {base : Heap}
theorem run_ok {x qual : Str} {st : Stmt} {N G ps : List Str} {k : Nat} {sp : Sp} {f : Addr} {fd : FuncData} (F : Fun K x qual st f fd) (S : FnScope N ps (defScope st)) (O : ScOk N G (defScope st)) (len : ∀ vs H Q E, sp vs H Q E → vs.length = ps.length)
    (hbody : ∀ (f : Addr) (cdv : Value) (A : Around) (outer : List Env) (s : Shared) (H : Hp) (vs : List V) (Q : VK) (E : XK), Room k (A.deeper (envOfC qual (defScope st) s.heap.objs.size f cdv)) → sp vs H Q E → In (cxOf CX0 P w K mg base N qual (defScope st) f cdv A outer s H E).nox N G (defScope st) →
      wL (cxOf CX0 P w K mg base N qual (defScope st) f cdv A outer s H E).nox (defBody st) { nx := fun _ H' => Q .non H', rt := Q } (start N vs) H) : FnOk P w K mg base CX0 (k + 1) f fd ps sp :=
  F.ok S len (fun cdv A outer s H vs Q E hr h => ⟨_, pl, hbody f cdv A outer s H vs Q E hr h ⟨O, rfl, rfl, rfl, rfl, rfl⟩⟩)
end
end Wk
set_option Elab.async false
set_option linter.all false
set_option maxRecDepth 100000
set_option maxHeartbeats 4000000
namespace K06
open PySem PySem.Spec PyProof.Rows L2 Wk
def topS (i : Nat) : Stmt := PySem.Challenge.pw_heldproofs_k06_counts_added.main.body.getD i (.Pass ⟨0, 0, 0, 0⟩)
abbrev s_Count___init : Stmt := inClass (topS 1) 0
abbrev N_Count___init : List Str := ["self", "least", "most", "days"]
abbrev P_Count___init : List Str := ["self", "least", "most", "days"]
abbrev G_Count___init : List Str := []
theorem so_Count___init : ScOk N_Count___init G_Count___init (defScope s_Count___init) := ⟨by decide +kernel, by decide +kernel, by decide +kernel⟩
theorem sc_Count___init : FnScope N_Count___init P_Count___init (defScope s_Count___init) := ⟨rfl, rfl, rfl, by decide +kernel, rfl, by decide +kernel, by decide +kernel⟩
abbrev s_Count___add : Stmt := inClass (topS 1) 1
abbrev N_Count___add : List Str := ["self", "other"]
abbrev P_Count___add : List Str := ["self", "other"]
abbrev G_Count___add : List Str := ["Count", "max"]
theorem so_Count___add : ScOk N_Count___add G_Count___add (defScope s_Count___add) := ⟨by decide +kernel, by decide +kernel, by decide +kernel⟩
theorem sc_Count___add : FnScope N_Count___add P_Count___add (defScope s_Count___add) := ⟨rfl, rfl, rfl, by decide +kernel, rfl, by decide +kernel, by decide +kernel⟩
abbrev s_Count___or : Stmt := inClass (topS 1) 2
abbrev N_Count___or : List Str := ["self", "other"]
abbrev P_Count___or : List Str := ["self", "other"]
abbrev G_Count___or : List Str := ["Count", "min", "max"]
theorem so_Count___or : ScOk N_Count___or G_Count___or (defScope s_Count___or) := ⟨by decide +kernel, by decide +kernel, by decide +kernel⟩
theorem sc_Count___or : FnScope N_Count___or P_Count___or (defScope s_Count___or) := ⟨rfl, rfl, rfl, by decide +kernel, rfl, by decide +kernel, by decide +kernel⟩
abbrev s_Count_boxed : Stmt := inClass (topS 1) 3
abbrev N_Count_boxed : List Str := ["self", "kind", "uses", "days"]
abbrev P_Count_boxed : List Str := ["self", "kind"]
abbrev G_Count_boxed : List Str := ["Count"]
theorem so_Count_boxed : ScOk N_Count_boxed G_Count_boxed (defScope s_Count_boxed) := ⟨by decide +kernel, by decide +kernel, by decide +kernel⟩
theorem sc_Count_boxed : FnScope N_Count_boxed P_Count_boxed (defScope s_Count_boxed) := ⟨rfl, rfl, rfl, by decide +kernel, rfl, by decide +kernel, by decide +kernel⟩
abbrev s_Count_fits : Stmt := inClass (topS 1) 4
abbrev N_Count_fits : List Str := ["self", "kind", "uses", "days"]
abbrev P_Count_fits : List Str := ["self", "kind"]
abbrev G_Count_fits : List Str := []
theorem so_Count_fits : ScOk N_Count_fits G_Count_fits (defScope s_Count_fits) := ⟨by decide +kernel, by decide +kernel, by decide +kernel⟩
theorem sc_Count_fits : FnScope N_Count_fits P_Count_fits (defScope s_Count_fits) := ⟨rfl, rfl, rfl, by decide +kernel, rfl, by decide +kernel, by decide +kernel⟩
abbrev s_Count_triple : Stmt := inClass (topS 1) 5
abbrev N_Count_triple : List Str := ["self"]
abbrev P_Count_triple : List Str := ["self"]
abbrev G_Count_triple : List Str := []
theorem so_Count_triple : ScOk N_Count_triple G_Count_triple (defScope s_Count_triple) := ⟨by decide +kernel, by decide +kernel, by decide +kernel⟩
theorem sc_Count_triple : FnScope N_Count_triple P_Count_triple (defScope s_Count_triple) := ⟨rfl, rfl, rfl, by decide +kernel, rfl, by decide +kernel, by decide +kernel⟩
abbrev s_cell : Stmt := topS 3
abbrev N_cell : List Str := ["_law_script", "_law_k"]
abbrev P_cell : List Str := ["_law_script", "_law_k"]
abbrev G_cell : List Str := ["len", "abs"]
theorem so_cell : ScOk N_cell G_cell (defScope s_cell) := ⟨by decide +kernel, by decide +kernel, by decide +kernel⟩
theorem sc_cell : FnScope N_cell P_cell (defScope s_cell) := ⟨rfl, rfl, rfl, by decide +kernel, rfl, by decide +kernel, by decide +kernel⟩
abbrev s_pool : Stmt := topS 4
abbrev N_pool : List Str := ["_law_script", "_law_k", "_law_cell_here"]
abbrev P_pool : List Str := ["_law_script", "_law_k"]
abbrev G_pool : List Str := ["_law_cell", "int"]
theorem so_pool : ScOk N_pool G_pool (defScope s_pool) := ⟨by decide +kernel, by decide +kernel, by decide +kernel⟩
theorem sc_pool : FnScope N_pool P_pool (defScope s_pool) := ⟨rfl, rfl, rfl, by decide +kernel, rfl, by decide +kernel, by decide +kernel⟩
abbrev s_next : Stmt := topS 5
abbrev N_next : List Str := ["_law_pool_here", "_law_many", "_law_digit", "_law_mixed"]
abbrev P_next : List Str := ["_law_pool_here", "_law_many"]
abbrev G_next : List Str := ["int"]
theorem so_next : ScOk N_next G_next (defScope s_next) := ⟨by decide +kernel, by decide +kernel, by decide +kernel⟩
theorem sc_next : FnScope N_next P_next (defScope s_next) := ⟨rfl, rfl, rfl, by decide +kernel, rfl, by decide +kernel, by decide +kernel⟩
abbrev s_is_number : Stmt := topS 6
abbrev N_is_number : List Str := ["_law_value"]
abbrev P_is_number : List Str := ["_law_value"]
abbrev G_is_number : List Str := ["isinstance", "int", "bool"]
theorem so_is_number : ScOk N_is_number G_is_number (defScope s_is_number) := ⟨by decide +kernel, by decide +kernel, by decide +kernel⟩
theorem sc_is_number : FnScope N_is_number P_is_number (defScope s_is_number) := ⟨rfl, rfl, rfl, by decide +kernel, rfl, by decide +kernel, by decide +kernel⟩
abbrev s_same : Stmt := topS 7
abbrev N_same : List Str := ["_law_told", "_law_due", "_law_k"]
abbrev P_same : List Str := ["_law_told", "_law_due"]
abbrev G_same : List Str := ["isinstance", "str", "tuple", "list", "_law_is_number", "len", "range", "_law_same"]
theorem so_same : ScOk N_same G_same (defScope s_same) := ⟨by decide +kernel, by decide +kernel, by decide +kernel⟩
theorem sc_same : FnScope N_same P_same (defScope s_same) := ⟨rfl, rfl, rfl, by decide +kernel, rfl, by decide +kernel, by decide +kernel⟩
abbrev s_stock : Stmt := topS 8
abbrev N_stock : List Str := ["_law_pool_here"]
abbrev P_stock : List Str := ["_law_pool_here"]
abbrev G_stock : List Str := ["_law_next"]
theorem so_stock : ScOk N_stock G_stock (defScope s_stock) := ⟨by decide +kernel, by decide +kernel, by decide +kernel⟩
theorem sc_stock : FnScope N_stock P_stock (defScope s_stock) := ⟨rfl, rfl, rfl, by decide +kernel, rfl, by decide +kernel, by decide +kernel⟩
abbrev s_triple : Stmt := topS 9
abbrev N_triple : List Str := ["_law_pool_here", "_law_mode"]
abbrev P_triple : List Str := ["_law_pool_here", "_law_mode"]
abbrev G_triple : List Str := ["_law_next", "max"]
theorem so_triple : ScOk N_triple G_triple (defScope s_triple) := ⟨by decide +kernel, by decide +kernel, by decide +kernel⟩
theorem sc_triple : FnScope N_triple P_triple (defScope s_triple) := ⟨rfl, rfl, rfl, by decide +kernel, rfl, by decide +kernel, by decide +kernel⟩
abbrev s_is : Stmt := topS 10
abbrev N_is : List Str := ["_law_told", "_law_due"]
abbrev P_is : List Str := ["_law_told", "_law_due"]
abbrev G_is : List Str := ["isinstance", "Count", "_law_same"]
theorem so_is : ScOk N_is G_is (defScope s_is) := ⟨by decide +kernel, by decide +kernel, by decide +kernel⟩
theorem sc_is : FnScope N_is P_is (defScope s_is) := ⟨rfl, rfl, rfl, by decide +kernel, rfl, by decide +kernel, by decide +kernel⟩
abbrev s_plus : Stmt := topS 11
abbrev N_plus : List Str := ["_law_one", "_law_two"]
abbrev P_plus : List Str := ["_law_one", "_law_two"]
abbrev G_plus : List Str := ["max"]
theorem so_plus : ScOk N_plus G_plus (defScope s_plus) := ⟨by decide +kernel, by decide +kernel, by decide +kernel⟩
theorem sc_plus : FnScope N_plus P_plus (defScope s_plus) := ⟨rfl, rfl, rfl, by decide +kernel, rfl, by decide +kernel, by decide +kernel⟩
abbrev s_either : Stmt := topS 12
abbrev N_either : List Str := ["_law_one", "_law_two"]
abbrev P_either : List Str := ["_law_one", "_law_two"]
abbrev G_either : List Str := ["min", "max"]
theorem so_either : ScOk N_either G_either (defScope s_either) := ⟨by decide +kernel, by decide +kernel, by decide +kernel⟩
theorem sc_either : FnScope N_either P_either (defScope s_either) := ⟨rfl, rfl, rfl, by decide +kernel, rfl, by decide +kernel, by decide +kernel⟩
abbrev s_packed : Stmt := topS 13
abbrev N_packed : List Str := ["_law_one", "_law_mode"]
abbrev P_packed : List Str := ["_law_one", "_law_mode"]
abbrev G_packed : List Str := []
theorem so_packed : ScOk N_packed G_packed (defScope s_packed) := ⟨by decide +kernel, by decide +kernel, by decide +kernel⟩
theorem sc_packed : FnScope N_packed P_packed (defScope s_packed) := ⟨rfl, rfl, rfl, by decide +kernel, rfl, by decide +kernel, by decide +kernel⟩
abbrev s_kept : Stmt := topS 14
abbrev N_kept : List Str := ["_law_told", "_law_one", "_law_mode", "_law_due", "_law_answer"]
abbrev P_kept : List Str := ["_law_told", "_law_one", "_law_mode"]
abbrev G_kept : List Str := ["isinstance", "bool"]
theorem so_kept : ScOk N_kept G_kept (defScope s_kept) := ⟨by decide +kernel, by decide +kernel, by decide +kernel⟩
theorem sc_kept : FnScope N_kept P_kept (defScope s_kept) := ⟨rfl, rfl, rfl, by decide +kernel, rfl, by decide +kernel, by decide +kernel⟩
abbrev s_pair : Stmt := topS 15
abbrev N_pair : List Str := ["_law_a", "_law_b", "_law_one", "_law_two"]
abbrev P_pair : List Str := ["_law_a", "_law_b", "_law_one", "_law_two"]
abbrev G_pair : List Str := ["_law_is", "_law_plus", "_law_either"]
theorem so_pair : ScOk N_pair G_pair (defScope s_pair) := ⟨by decide +kernel, by decide +kernel, by decide +kernel⟩
theorem sc_pair : FnScope N_pair P_pair (defScope s_pair) := ⟨rfl, rfl, rfl, by decide +kernel, rfl, by decide +kernel, by decide +kernel⟩
abbrev s_boxes : Stmt := topS 16
abbrev N_boxes : List Str := ["_law_a", "_law_b", "_law_one", "_law_two", "_law_inner", "_law_outer", "_law_both", "_law_twice", "_law_due"]
abbrev P_boxes : List Str := ["_law_a", "_law_b", "_law_one", "_law_two", "_law_inner", "_law_outer"]
abbrev G_boxes : List Str := ["_law_is", "_law_packed", "_law_plus", "_law_either"]
theorem so_boxes : ScOk N_boxes G_boxes (defScope s_boxes) := ⟨by decide +kernel, by decide +kernel, by decide +kernel⟩
theorem sc_boxes : FnScope N_boxes P_boxes (defScope s_boxes) := ⟨rfl, rfl, rfl, by decide +kernel, rfl, by decide +kernel, by decide +kernel⟩
abbrev s_law : Stmt := topS 17
abbrev N_law : List Str := ["_law_script", "_law_pool_here", "_law_inner", "_law_outer", "_law_one", "_law_two", "_law_three", "_law_a", "_law_b", "_law_c", "_law_due", "_law_mode"]
abbrev P_law : List Str := ["_law_script"]
abbrev G_law : List Str := ["_law_pool", "_law_stock", "_law_triple", "Count", "_law_is", "_law_pair", "_law_plus", "_law_either", "_law_boxes", "_law_kept", "_law_packed"]
theorem so_law : ScOk N_law G_law (defScope s_law) := ⟨by decide +kernel, by decide +kernel, by decide +kernel⟩
theorem sc_law : FnScope N_law P_law (defScope s_law) := ⟨rfl, rfl, rfl, by decide +kernel, rfl, by decide +kernel, by decide +kernel⟩
local macro_rules | `(tactic| walk_at "bl") => `(tactic| first
  | refine e_callB (x := "len") (by assumption) b_len ?_
  | refine e_callB (x := "isinstance") (by assumption) b_isi ?_
  | refine e_callB (x := "abs") (by assumption) b_abs ?_
  | refine e_callB (x := "max") (by assumption) b_max ?_
  | refine e_callB (x := "min") (by assumption) b_min ?_
  | refine e_callTy (x := "int") (by assumption) b_int ?_)
local macro_rules | `(tactic| walk_at "gl") => `(tactic| first
  | refine e_bltn (x := "int") (v := .ty "int") (by assumption) b_int rfl ?_
  | refine e_bltn (x := "bool") (v := .ty "bool") (by assumption) b_bool rfl ?_
  | refine e_bltn (x := "str") (v := .ty "str") (by assumption) b_str rfl ?_
  | refine e_bltn (x := "tuple") (v := .ty "tuple") (by assumption) b_tuple rfl ?_
  | refine e_bltn (x := "list") (v := .ty "list") (by assumption) b_list rfl ?_)
local macro_rules | `(tactic| walk_at "st") => `(tactic| first
  | refine l_cons ?_
  | refine s_ret ?_
  | refine s_if ?_
  | refine s_set ?_
  | refine s_sub ?_
  | refine e_var ?_
  | refine e_int ?_
  | refine e_ix ?_
  | refine a_cons ?_
  | refine a_nil ?_
  | refine t_cmp ?_
  | refine t_not ?_
  | refine t_w (w_and ?_)
  | refine t_w (w_or ?_)
  | refine w_and ?_
  | refine w_or ?_
  | refine w_and1 ?_
  | refine w_or1 ?_
  | refine t_val ?_
  | refine e_str ?_
  | refine e_bl ?_
  | refine e_bin ?_
  | refine e_cmp ?_
  | refine e_and ?_
  | refine e_or ?_
  | refine e_not ?_
  | refine e_one ?_
  | refine l_nil ?_
  | refine s_expr ?_
  | refine e_tup ?_
  | refine e_lst ?_
  | refine ⟨_, rfl, ?_⟩
  | ((with_reducible refine ite_t ?hc ?_); (case hc => exact rfl))
  | ((with_reducible refine ite_f ?hc ?_); (case hc => exact rfl))
  | refine o_add ?_
  | refine o_sub ?_
  | refine o_lt ?_
  | refine o_le ?_
  | refine o_gt ?_
  | refine o_ge ?_
  | refine o_eqI ?_
  | refine o_neI ?_
  | refine o_eqS ?_
  | refine o_neB ?_
  | refine o_eqB ?_
  | refine c_int ?_
  | refine c_abs ?_
  | refine c_max rfl ?_
  | refine c_min rfl ?_
  | refine a_cons (e_fld ?_)
  | walk_at "bl"
  | walk_at "gl")
local macro_rules | `(tactic| walk_at "sts") => `(tactic| repeat walk_at "st")
section
variable {P : Program} {w : World} {K : PySem.W.Frag} {mg : Str → Option Value} {base : Heap}
def PoolAt (H : Hp) (a : Addr) : Prop := ∃ x y z : Int, H a = some (.lst [.int x, .int y, .int z])
def spCell (K : PySem.W.Frag) : Sp := fun vs H Q _ => ∃ (a : Addr) (ns : List Int) (k : Nat), vs = [.ref a, .int k] ∧ SqL K H a (ns.map V.int) ∧ ∀ z : Int, 0 ≤ z → Q (.int z) H
theorem ok_cell (T : Top K mg "_law_cell" s_cell) (mLen : mg "len" = none) (mAbs : mg "abs" = none) : Fn P w K mg base 1 "_law_cell" (spCell K) := by
  refine fn_ok T sc_cell so_cell (fun vs H Q E h => ?_) (fun _ _ _ _ _ _ us hl => match us, hl with | [_, _], _ => rfl) fun f cdv A outer s H vs Q E hr h nd => ?_
  · obtain ⟨a, ns, k, rfl, _⟩ := h
    rfl
  · obtain ⟨a, ns, k, rfl, hS, q⟩ := h
    walk_at "sts"
    refine c_lenL (by exact hS) ?_
    walk_at "sts"
    refine if2 (fun h => ?_) (fun h => ?_)
    · rw [List.length_map] at h
      have hk : k < ns.length := by omega
      walk_at "sts"
      refine ix_l (by exact hS) (atI_nat (v := .int ns[k]) (by simp [hk])) ?_
      walk_at "sts"
      exact q _ (by split <;> omega)
    · walk_at "sts"
      exact q _ (Int.le_refl _)
def spPool (K : PySem.W.Frag) : Sp := fun vs H Q _ => ∃ (a : Addr) (ns : List Int) (k : Nat), vs = [.ref a, .int k] ∧ SqL K H a (ns.map V.int) ∧ ∀ p H', Same H H' → H p = none → PoolAt H' p → Q (.ref p) H'
theorem ok_pool (T : Top K mg "_law_pool" s_pool) (F : Fn P w K mg base 1 "_law_cell" (spCell K)) (mInt : mg "int" = none) : Fn P w K mg base 2 "_law_pool" (spPool K) := by
  refine fn_ok T sc_pool so_pool (fun vs H Q E h => ?_) (fun _ _ _ _ _ _ us hl => match us, hl with | [_, _], _ => rfl) fun f cdv A outer s H vs Q E hr h nd => ?_
  · obtain ⟨a, ns, k, rfl, _⟩ := h
    rfl
  · obtain ⟨a, ns, k, rfl, hS, q⟩ := h
    walk_at "sts"
    refine e_call (by exact F) (by exact hr) (by decide) ?_
    walk_at "sts"
    refine ⟨a, ns, k, rfl, hS, fun z hz => ?_⟩
    walk_at "sts"
    refine o_pow ⟨by decide, by decide, by decide⟩ ?_
    walk_at "sts"
    refine if2 (fun h => ?_) (fun h => ?_)
    · walk_at "sts"
      refine o_mod (by decide) ?_
      walk_at "sts"
      refine ⟨by show 3 ≤ sizeLine; decide, fun p H2 e np hp => ?_⟩
      exact q p H2 e np ⟨_, _, _, hp⟩
    · walk_at "sts"
      refine ⟨by show 3 ≤ sizeLine; decide, fun p H2 e np hp => ?_⟩
      exact q p H2 e np ⟨_, _, _, hp⟩
def spNext : Sp := fun vs H Q _ => ∃ (a : Addr) (m : Int), vs = [.ref a, .int m] ∧ 0 < m ∧ m < 1073741824 ∧ PoolAt H a ∧ ∀ d H', 0 ≤ d → d < m → But a H H' → PoolAt H' a → Q (.int d) H'
theorem ok_next (T : Top K mg "_law_next" s_next) (mInt : mg "int" = none) : Fn P w K mg base 1 "_law_next" spNext := by
  refine fn_ok T sc_next so_next (fun vs H Q E h => ?_) (fun _ _ _ _ _ _ us hl => match us, hl with | [_, _], _ => rfl) fun f cdv A outer s H vs Q E hr h nd => ?_
  · obtain ⟨a, m, rfl, _⟩ := h
    rfl
  · obtain ⟨a, m, rfl, m0, m1, ⟨x, y, z, hp⟩, q⟩ := h
    walk_at "sts"
    refine ix_l (by exact SqL.of hp) rfl ?_
    walk_at "sts"
    refine if2 (fun h => ?_) (fun h => ?_)
    · walk_at "sts"
      refine ix_l (by exact SqL.of hp) rfl ?_
      walk_at "sts"
      refine o_mod m0 ?_
      walk_at "sts"
      refine ix_l (by exact SqL.of hp) rfl ?_
      walk_at "sts"
      refine o_fdiv ⟨m0, m1⟩ ?_
      walk_at "sts"
      refine set_l hp rfl ?_
      walk_at "sts"
      exact q _ _ (Int.emod_nonneg _ (by omega)) (Int.emod_lt_of_pos _ m0) (But.refl.upd) ⟨_, _, _, upd_same⟩
    · walk_at "sts"
      refine ix_l (by exact SqL.of hp) rfl ?_
      walk_at "sts"
      refine set_l hp rfl ?_
      walk_at "sts"
      refine ix_l (by exact SqL.of upd_same) rfl ?_
      walk_at "sts"
      refine ix_l (by exact SqL.of upd_same) rfl ?_
      walk_at "sts"
      refine o_mul (.inl (by decide)) ?_
      walk_at "sts"
      refine o_mod (by decide) ?_
      walk_at "sts"
      have b1 := Int.emod_nonneg (z + 7919 * (y + 1) + 13) (show (2147483647 : Int) ≠ 0 by decide)
      have b2 := Int.emod_lt_of_pos (z + 7919 * (y + 1) + 13) (show (0 : Int) < 2147483647 by decide)
      refine o_mul (.inl ⟨by omega, by omega⟩) ?_
      walk_at "sts"
      refine o_mod (by decide) ?_
      walk_at "sts"
      generalize (z + 7919 * (y + 1) + 13) % 2147483647 = u at *
      have c1 := Int.emod_nonneg (u * (u + 48271)) (show (2147483629 : Int) ≠ 0 by decide)
      have c2 := Int.emod_lt_of_pos (u * (u + 48271)) (show (0 : Int) < 2147483629 by decide)
      refine o_mul (.inl ⟨by omega, by omega⟩) ?_
      walk_at "sts"
      refine ix_l (by exact SqL.of upd_same) rfl ?_
      walk_at "sts"
      refine o_mul (.inl (by decide)) ?_
      walk_at "sts"
      refine o_mod (by decide) ?_
      walk_at "sts"
      refine o_fdiv (by decide) ?_
      walk_at "sts"
      refine o_mod m0 ?_
      walk_at "sts"
      exact q _ _ (Int.emod_nonneg _ (by omega)) (Int.emod_lt_of_pos _ m0) (But.refl.upd) ⟨_, _, _, upd_same⟩
end


section
variable {P : Program} {w : World} {K : PySem.W.Frag} {mg : Str → Option Value} {base : Heap}
/-! ### a Count -/
theorem lm : ¬ (("least" : Str) = "most") := by decide +kernel
theorem ld : ¬ (("least" : Str) = "days") := by decide +kernel
theorem md : ¬ (("most" : Str) = "days") := by decide +kernel
def flds (a b c : Int) : List (Str × V) := putF "days" (.int c) (putF "most" (.int b) (putF "least" (.int a) []))
theorem flds_l (a b c : Int) : (flds a b c).lookup ("least" : Str) = some (.int a) := by
  unfold flds
  rw [lookup_putF, if_neg ld, lookup_putF, if_neg lm, lookup_putF, if_pos rfl]
theorem flds_m (a b c : Int) : (flds a b c).lookup ("most" : Str) = some (.int b) := by
  unfold flds
  rw [lookup_putF, if_neg md, lookup_putF, if_pos rfl]
theorem flds_d (a b c : Int) : (flds a b c).lookup ("days" : Str) = some (.int c) := by
  unfold flds
  rw [lookup_putF, if_pos rfl]
theorem flds_no (a b c : Int) {m : Str} (h1 : ¬ m = "days") (h2 : ¬ m = "most") (h3 : ¬ m = "least") : (flds a b c).lookup m = none := by
  unfold flds
  rw [lookup_putF, if_neg h1, lookup_putF, if_neg h2, lookup_putF, if_neg h3]
  all_goals rfl
def CountAt (C : Addr) (H : Hp) (p : Addr) (a b c : Int) : Prop := ∃ dx, H p = some (.ins C dx (flds a b c))
/-- what is asked of the class as the top has made it -/
structure ClsOk (K : PySem.W.Frag) (mg : Str → Option Value) (C : Addr) : Prop where
  cl : Cls K C
  nL : NoAttr K C "least"
  nM : NoAttr K C "most"
  nD : NoAttr K C "days"
  mks : PySem.W.makesIn K C = true
  kp : PySem.W.keepIn K (.ref C) = true
  sf : PySem.W.selfFirst K C = true
  isC : C8.InsC K C
  mg : mg "Count" = some (.ref C)
def mx (i j : Int) : Int := if j > i then j else i
def mn (i j : Int) : Int := if j < i then j else i
def spInit (C : Addr) : Sp := fun vs H Q _ => ∃ (p dx : Addr) (a b c : Int), vs = [.ref p, .int a, .int b, .int c] ∧ H p = some (.ins C dx []) ∧ ∀ H', But p H H' → CountAt C H' p a b c → Q .non H'
variable {C : Addr}
theorem ok_init (T : TopM K C "__init__" "Count.__init__" s_Count___init) (O : ClsOk K mg C) : Kl P w K mg base 1 "Count" C (spInit C) := by
  obtain ⟨f, fd, F, hb, hf, hi, hk⟩ := me_ok (P := P) (w := w) (mg := mg) (base := base) (k := 0) (sp := spInit C) T sc_Count___init so_Count___init (fun vs H Q E h => by obtain ⟨p, dx, a, b, c, rfl, _⟩ := h; rfl) (fun _ _ _ _ _ _ us hl => match us, hl with | [_, _, _, _], _ => rfl) fun f cdv A outer s H vs Q E hr h nd => by
    obtain ⟨p, dx, a, b, c, rfl, hp, q⟩ := h
    refine l_cons (s_fld ?_)
    walk_at "sts"
    refine ⟨p, C, dx, _, rfl, hp, O.cl, O.nL, by show 0 < 1000; decide, ?_⟩
    refine l_cons (s_fld ?_)
    walk_at "sts"
    refine ⟨p, C, dx, _, rfl, upd_same, O.cl, O.nM, by show 1 < 1000; decide, ?_⟩
    refine l_cons (s_fld ?_)
    walk_at "sts"
    refine ⟨p, C, dx, _, rfl, upd_same, O.cl, O.nD, ?_, ?_⟩
    · rw [show (putF ("most" : Str) (V.int b) (putF ("least" : Str) (V.int a) [])) = [(("least" : Str), V.int a), (("most" : Str), V.int b)] by
        show (if ("least" : Str) = "most" then _ else (("least" : Str), V.int a) :: putF "most" (V.int b) []) = _
        rw [if_neg lm]
        rfl]
      show 2 < 1000
      decide
    · refine l_nil ?_
      exact q _ (But.refl.upd.upd.upd) ⟨dx, upd_same⟩
  exact ⟨f, fd, _, F, O.mg, ⟨O.mks, hf, hi, O.kp⟩, hb⟩
/-- C(a, b, c), as its caller meets it -/
theorem make_of {H : Hp} {Q : VK} {a b c : Int} (q : ∀ p H', Same H H' → CountAt C H' p a b c → Q (.ref p) H') : ∀ x dx, H x = none → H dx = none → dx ≠ x → spInit C [.ref x, .int a, .int b, .int c] (upd (upd H dx (.own x)) x (.ins C dx [])) (fun v H2 => v = .non ∧ Q (.ref x) H2) E0 := by
  intro x dx nx nd ne
  refine ⟨x, dx, a, b, c, rfl, upd_same, fun H' bt e => ⟨rfl, q x H' (fun y o h => bt y o (ne_of_none h nx) ?_) e⟩⟩
  rw [upd_ne (ne_of_none h nx), upd_ne (ne_of_none h nd)]
  exact h
def spOp (C : Addr) (g : Int → Int → Int) (g2 : Int → Int → Int) : Sp := fun vs H Q _ => ∃ (p r : Addr) (a b c d e f : Int), vs = [.ref p, .ref r] ∧ CountAt C H p a b c ∧ CountAt C H r d e f ∧ ∀ u H', Same H H' → CountAt C H' u (g a d) (g2 b e) (mx c f) → Q (.ref u) H'
def AR2 := True
theorem ok_add (T : TopM K C "__add__" "Count.__add__" s_Count___add) (O : ClsOk K mg C) (F : Kl P w K mg base 1 "Count" C (spInit C)) (mMax : mg "max" = none) : Op2 P w K mg base 3 C .Add (spOp C (· + ·) (· + ·)) := by
  obtain ⟨f, fd, G, hb, hf, hi, hk⟩ := me_ok (P := P) (w := w) (mg := mg) (base := base) (k := 2) (sp := spOp C (· + ·) (· + ·)) T sc_Count___add so_Count___add (fun vs H Q E h => by obtain ⟨p, r, a, b, c, d, e, f, rfl, _⟩ := h; rfl) (fun _ _ _ _ _ _ us hl => match us, hl with | [_, _], _ => rfl) fun f cdv A outer s H vs Q E hr h nd => by
    obtain ⟨p, r, a, b, c, d, e, f, rfl, ⟨dx, hp⟩, ⟨dy, hq⟩, q⟩ := h
    walk_at "sts"
    refine e_make (by exact F) (by exact hr) (by decide) ?_
    walk_at "sts"
    refine e_fld ?_
    walk_at "sts"
    refine ⟨p, C, dx, _, _, rfl, hp, O.cl, O.nL, flds_l _ _ _, ?_⟩
    walk_at "sts"
    refine e_fld ?_
    walk_at "sts"
    refine ⟨r, C, dy, _, _, rfl, hq, O.cl, O.nL, flds_l _ _ _, ?_⟩
    walk_at "sts"
    refine e_fld ?_
    walk_at "sts"
    refine ⟨p, C, dx, _, _, rfl, hp, O.cl, O.nM, flds_m _ _ _, ?_⟩
    walk_at "sts"
    refine e_fld ?_
    walk_at "sts"
    refine ⟨r, C, dy, _, _, rfl, hq, O.cl, O.nM, flds_m _ _ _, ?_⟩
    walk_at "sts"
    refine e_fld ?_
    walk_at "sts"
    refine ⟨p, C, dx, _, _, rfl, hp, O.cl, O.nD, flds_d _ _ _, ?_⟩
    walk_at "sts"
    refine e_fld ?_
    walk_at "sts"
    refine ⟨r, C, dy, _, _, rfl, hq, O.cl, O.nD, flds_d _ _ _, ?_⟩
    walk_at "sts"
    exact make_of q
  exact ⟨f, fd, _, G, hf, hi, O.sf, hb⟩
theorem ok_or (T : TopM K C "__or__" "Count.__or__" s_Count___or) (O : ClsOk K mg C) (F : Kl P w K mg base 1 "Count" C (spInit C)) (mMax : mg "max" = none) (mMin : mg "min" = none) : Op2 P w K mg base 3 C .BitOr (spOp C mn mx) := by
  obtain ⟨f, fd, G, hb, hf, hi, hk⟩ := me_ok (P := P) (w := w) (mg := mg) (base := base) (k := 2) (sp := spOp C mn mx) T sc_Count___or so_Count___or (fun vs H Q E h => by obtain ⟨p, r, a, b, c, d, e, f, rfl, _⟩ := h; rfl) (fun _ _ _ _ _ _ us hl => match us, hl with | [_, _], _ => rfl) fun f cdv A outer s H vs Q E hr h nd => by
    obtain ⟨p, r, a, b, c, d, e, f, rfl, ⟨dx, hp⟩, ⟨dy, hq⟩, q⟩ := h
    walk_at "sts"
    refine e_make (by exact F) (by exact hr) (by decide) ?_
    walk_at "sts"
    refine e_fld ?_
    walk_at "sts"
    refine ⟨p, C, dx, _, _, rfl, hp, O.cl, O.nL, flds_l _ _ _, ?_⟩
    walk_at "sts"
    refine e_fld ?_
    walk_at "sts"
    refine ⟨r, C, dy, _, _, rfl, hq, O.cl, O.nL, flds_l _ _ _, ?_⟩
    walk_at "sts"
    refine e_fld ?_
    walk_at "sts"
    refine ⟨p, C, dx, _, _, rfl, hp, O.cl, O.nM, flds_m _ _ _, ?_⟩
    walk_at "sts"
    refine e_fld ?_
    walk_at "sts"
    refine ⟨r, C, dy, _, _, rfl, hq, O.cl, O.nM, flds_m _ _ _, ?_⟩
    walk_at "sts"
    refine e_fld ?_
    walk_at "sts"
    refine ⟨p, C, dx, _, _, rfl, hp, O.cl, O.nD, flds_d _ _ _, ?_⟩
    walk_at "sts"
    refine e_fld ?_
    walk_at "sts"
    refine ⟨r, C, dy, _, _, rfl, hq, O.cl, O.nD, flds_d _ _ _, ?_⟩
    walk_at "sts"
    exact make_of q
  exact ⟨f, fd, _, G, hf, hi, O.sf, hb⟩
/-- a kind as a value: once, or a pair -/
def ModeV (H : Hp) (m : V) : Option (Int × Int) → Prop
  | none => m = .str "once"
  | some (u, v) => ∃ t, m = .ref t ∧ H t = some (.tup [.int u, .int v])
def small : Option (Int × Int) → Prop
  | none => True
  | some (u, v) => 0 ≤ u ∧ u ≤ 10000
def bl0 : Option (Int × Int) → Int → Int
  | none, a => a
  | some _, _ => 0
def bl1 : Option (Int × Int) → Int → Int
  | none, b => b
  | some (u, _), b => u * b
def bl2 : Option (Int × Int) → Int → Int
  | none, c => c
  | some (_, v), c => v + c
theorem once_shaped : SeqAt.shaped (.str "once") = true := by decide +kernel
def spBoxed (C : Addr) : Sp := fun vs H Q _ => ∃ (p : Addr) (m : V) (k : Option (Int × Int)) (a b c : Int), vs = [.ref p, m] ∧ CountAt C H p a b c ∧ ModeV H m k ∧ small k ∧ ∀ u H', Same H H' → CountAt C H' u (bl0 k a) (bl1 k b) (bl2 k c) → Q (.ref u) H'
theorem meth_no {C : Addr} {H : Hp} {p dx : Addr} {a b c : Int} {m : Str} (h : H p = some (.ins C dx (flds a b c))) (h1 : ¬ m = "days") (h2 : ¬ m = "most") (h3 : ¬ m = "least") : ∃ a' dx' fs, V.ref p = .ref a' ∧ H a' = some (.ins C dx' fs) ∧ fs.lookup m = none := ⟨p, dx, _, rfl, h, flds_no a b c h1 h2 h3⟩
theorem ok_boxed (T : TopM K C "boxed" "Count.boxed" s_Count_boxed) (O : ClsOk K mg C) (F : Kl P w K mg base 1 "Count" C (spInit C)) : Mt P w K mg base 3 C "boxed" (spBoxed C) := by
  obtain ⟨f, fd, G, hb, hf, hi, hk⟩ := me_ok (P := P) (w := w) (mg := mg) (base := base) (k := 2) (sp := spBoxed C) T sc_Count_boxed so_Count_boxed (fun vs H Q E h => by obtain ⟨p, m, k, a, b, c, rfl, _⟩ := h; rfl) (fun _ _ _ _ _ _ us hl => match us, hl with | [_, _], _ => rfl) fun f cdv A outer s H vs Q E hr h nd => by
    obtain ⟨p, m, k, a, b, c, rfl, ⟨dx, hp⟩, hm, hs, q⟩ := h
    cases k with
    | none =>
      obtain rfl : m = .str "once" := hm
      walk_at "sts"
      refine e_make (by exact F) (by exact hr) (by decide) ?_
      walk_at "sts"
      refine e_fld ?_
      walk_at "sts"
      refine ⟨p, C, dx, _, _, rfl, hp, O.cl, O.nL, flds_l _ _ _, ?_⟩
      walk_at "sts"
      refine e_fld ?_
      walk_at "sts"
      refine ⟨p, C, dx, _, _, rfl, hp, O.cl, O.nM, flds_m _ _ _, ?_⟩
      walk_at "sts"
      refine e_fld ?_
      walk_at "sts"
      refine ⟨p, C, dx, _, _, rfl, hp, O.cl, O.nD, flds_d _ _ _, ?_⟩
      walk_at "sts"
      exact make_of q
    | some uv =>
      obtain ⟨u, v⟩ := uv
      obtain ⟨t, rfl, ht⟩ := hm
      obtain ⟨s1, s2⟩ := hs
      walk_at "sts"
      refine o_eqPS (by exact hr) ht once_shaped ?_
      walk_at "sts"
      refine s_tup2 ?_
      walk_at "sts"
      refine ⟨t, _, _, rfl, SqT.of ht, ?_⟩
      walk_at "sts"
      refine e_make (by exact F) (by exact hr) (by decide) ?_
      walk_at "sts"
      refine e_fld ?_
      walk_at "sts"
      refine ⟨p, C, dx, _, _, rfl, hp, O.cl, O.nM, flds_m _ _ _, ?_⟩
      walk_at "sts"
      refine o_mul (.inl ⟨by omega, by omega⟩) ?_
      walk_at "sts"
      refine e_fld ?_
      walk_at "sts"
      refine ⟨p, C, dx, _, _, rfl, hp, O.cl, O.nD, flds_d _ _ _, ?_⟩
      walk_at "sts"
      exact make_of q
  exact ⟨f, fd, _, G, ⟨hf, hi, hk⟩, hb, O.cl⟩
def fit : Option (Int × Int) → Int → Int → Int → Bool
  | none, a, b, _ => decide (a = 1) && decide (b = 1)
  | some (u, v), _, b, c => decide (b ≤ u) && decide (c ≤ v)
theorem and_val {X : Cx} {e : Expr} {σ : L2.St} {H : Hp} {Q : VK} {x y : Bool} (h : Q (.bl (x && y)) H) (hb : Q (.bl y) H → wE X e σ H Q) : if x = true then wE X e σ H Q else Q (.bl false) H := by
  cases x with
  | true => exact iteT (hb h)
  | false => exact iteF h
def spFits (C : Addr) : Sp := fun vs H Q _ => ∃ (p : Addr) (m : V) (k : Option (Int × Int)) (a b c : Int), vs = [.ref p, m] ∧ CountAt C H p a b c ∧ ModeV H m k ∧ Q (.bl (fit k a b c)) H
theorem ok_fits (T : TopM K C "fits" "Count.fits" s_Count_fits) (O : ClsOk K mg C) : Mt P w K mg base 1 C "fits" (spFits C) := by
  obtain ⟨f, fd, G, hb, hf, hi, hk⟩ := me_ok (P := P) (w := w) (mg := mg) (base := base) (k := 0) (sp := spFits C) T sc_Count_fits so_Count_fits (fun vs H Q E h => by obtain ⟨p, m, k, a, b, c, rfl, _⟩ := h; rfl) (fun _ _ _ _ _ _ us hl => match us, hl with | [_, _], _ => rfl) fun f cdv A outer s H vs Q E hr h nd => by
    obtain ⟨p, m, k, a, b, c, rfl, ⟨dx, hp⟩, hm, q⟩ := h
    cases k with
    | none =>
      obtain rfl : m = .str "once" := hm
      walk_at "sts"
      refine e_fld ?_
      walk_at "sts"
      refine ⟨p, C, dx, _, _, rfl, hp, O.cl, O.nL, flds_l _ _ _, ?_⟩
      walk_at "sts"
      refine and_val q fun q => ?_
      walk_at "sts"
      refine e_fld ?_
      walk_at "sts"
      refine ⟨p, C, dx, _, _, rfl, hp, O.cl, O.nM, flds_m _ _ _, ?_⟩
      walk_at "sts"
      exact q
    | some uv =>
      obtain ⟨u, v⟩ := uv
      obtain ⟨t, rfl, ht⟩ := hm
      walk_at "sts"
      refine o_eqPS (by exact hr) ht once_shaped ?_
      walk_at "sts"
      refine s_tup2 ?_
      walk_at "sts"
      refine ⟨t, _, _, rfl, SqT.of ht, ?_⟩
      walk_at "sts"
      refine e_fld ?_
      walk_at "sts"
      refine ⟨p, C, dx, _, _, rfl, hp, O.cl, O.nM, flds_m _ _ _, ?_⟩
      walk_at "sts"
      refine and_val q fun q => ?_
      walk_at "sts"
      refine e_fld ?_
      walk_at "sts"
      refine ⟨p, C, dx, _, _, rfl, hp, O.cl, O.nD, flds_d _ _ _, ?_⟩
      walk_at "sts"
      exact q
  exact ⟨f, fd, _, G, ⟨hf, hi, hk⟩, hb, O.cl⟩
def spTri (C : Addr) : Sp := fun vs H Q _ => ∃ (p : Addr) (a b c : Int), vs = [.ref p] ∧ CountAt C H p a b c ∧ ∀ u H', Same H H' → H' u = some (.tup [.int a, .int b, .int c]) → Q (.ref u) H'
theorem ok_tri (T : TopM K C "triple" "Count.triple" s_Count_triple) (O : ClsOk K mg C) : Mt P w K mg base 1 C "triple" (spTri C) := by
  obtain ⟨f, fd, G, hb, hf, hi, hk⟩ := me_ok (P := P) (w := w) (mg := mg) (base := base) (k := 0) (sp := spTri C) T sc_Count_triple so_Count_triple (fun vs H Q E h => by obtain ⟨p, a, b, c, rfl, _⟩ := h; rfl) (fun _ _ _ _ _ _ us hl => match us, hl with | [_], _ => rfl) fun f cdv A outer s H vs Q E hr h nd => by
    obtain ⟨p, a, b, c, rfl, ⟨dx, hp⟩, q⟩ := h
    walk_at "sts"
    refine e_fld ?_
    walk_at "sts"
    refine ⟨p, C, dx, _, _, rfl, hp, O.cl, O.nL, flds_l _ _ _, ?_⟩
    walk_at "sts"
    refine e_fld ?_
    walk_at "sts"
    refine ⟨p, C, dx, _, _, rfl, hp, O.cl, O.nM, flds_m _ _ _, ?_⟩
    walk_at "sts"
    refine e_fld ?_
    walk_at "sts"
    refine ⟨p, C, dx, _, _, rfl, hp, O.cl, O.nD, flds_d _ _ _, ?_⟩
    walk_at "sts"
    exact ⟨by show 3 ≤ sizeLine; decide, fun u H2 e _ hu => q u H2 e hu⟩
  exact ⟨f, fd, _, G, ⟨hf, hi, hk⟩, hb, O.cl⟩
end


section
variable {P : Program} {w : World} {K : PySem.W.Frag} {mg : Str → Option Value} {base : Heap} {C : Addr}
theorem Same.but {p : Addr} {H0 H1 H2 : Hp} (s : Same H0 H1) (n : H0 p = none) (b : But p H1 H2) : Same H0 H2 := fun x o h => b x o (ne_of_none h n) (s x o h)
def Tri (H : Hp) (m : V) (a b c : Int) : Prop := ∃ t, m = .ref t ∧ H t = some (.tup [.int a, .int b, .int c])
def Pai (H : Hp) (m : V) (a b : Int) : Prop := ∃ t, m = .ref t ∧ H t = some (.tup [.int a, .int b])
theorem Tri.up {H H' : Hp} {m : V} {a b c : Int} (e : Same H H') (h : Tri H m a b c) : Tri H' m a b c := let ⟨t, x, y⟩ := h; ⟨t, x, e _ _ y⟩
theorem Pai.up {H H' : Hp} {m : V} {a b : Int} (e : Same H H') (h : Pai H m a b) : Pai H' m a b := let ⟨t, x, y⟩ := h; ⟨t, x, e _ _ y⟩
theorem CountAt.up {H H' : Hp} {p : Addr} {a b c : Int} (e : Same H H') (h : CountAt C H p a b c) : CountAt C H' p a b c := let ⟨t, y⟩ := h; ⟨t, e _ _ y⟩
theorem Tri.but {H H' : Hp} {q : Addr} {m : V} {a b c : Int} (e : But q H H') (hq : PoolAt H q) (h : Tri H m a b c) : Tri H' m a b c := let ⟨t, x, y⟩ := h; let ⟨_, _, _, z⟩ := hq; ⟨t, x, e.tup z y⟩
theorem Pai.but {H H' : Hp} {q : Addr} {m : V} {a b : Int} (e : But q H H') (hq : PoolAt H q) (h : Pai H m a b) : Pai H' m a b := let ⟨t, x, y⟩ := h; let ⟨_, _, _, z⟩ := hq; ⟨t, x, e.tup z y⟩
def spStock : Sp := fun vs H Q _ => ∃ a, vs = [.ref a] ∧ PoolAt H a ∧ ∀ m u v H', 0 ≤ u → u ≤ 100 → But a H H' → PoolAt H' a → Pai H' m u v → Q m H'
theorem ok_stock (T : Top K mg "_law_stock" s_stock) (F : Fn P w K mg base 1 "_law_next" spNext) : Fn P w K mg base 2 "_law_stock" spStock := by
  refine fn_ok T sc_stock so_stock (fun vs H Q E h => ?_) (fun _ _ _ _ _ _ us hl => match us, hl with | [_], _ => rfl) fun f cdv A outer s H vs Q E hr h nd => ?_
  · obtain ⟨a, rfl, _⟩ := h
    rfl
  · obtain ⟨a, rfl, hp, q⟩ := h
    walk_at "sts"
    refine e_call (by exact F) (by exact hr) (by decide) ?_
    walk_at "sts"
    refine ⟨a, 9, rfl, by decide, by decide, hp, fun d H1 d0 d1 b1 p1 => ?_⟩
    walk_at "sts"
    refine e_call (by exact F) (by exact hr) (by decide) ?_
    walk_at "sts"
    refine ⟨a, 10, rfl, by decide, by decide, p1, fun d' H2 _ _ b2 p2 => ?_⟩
    walk_at "sts"
    obtain ⟨x, y, z, p2⟩ := p2
    exact ⟨by show 2 ≤ sizeLine; decide, fun p H3 e np hp => q (.ref p) (1 + d) d' H3 (by omega) (by omega) ((b1.trans b2).trans (But.of e)) ⟨x, y, z, e _ _ p2⟩ ⟨p, rfl, hp⟩⟩
def spTriple : Sp := fun vs H Q _ => ∃ a m u v, vs = [.ref a, m] ∧ PoolAt H a ∧ Pai H m u v ∧ ∀ r x y z H', But a H H' → PoolAt H' a → Tri H' r x y z → Q r H'
theorem ok_triple (T : Top K mg "_law_triple" s_triple) (F : Fn P w K mg base 1 "_law_next" spNext) (mMax : mg "max" = none) : Fn P w K mg base 2 "_law_triple" spTriple := by
  refine fn_ok T sc_triple so_triple (fun vs H Q E h => ?_) (fun _ _ _ _ _ _ us hl => match us, hl with | [_, _], _ => rfl) fun f cdv A outer s H vs Q E hr h nd => ?_
  · obtain ⟨a, m, u, v, rfl, _⟩ := h
    rfl
  · obtain ⟨a, m, u, v, rfl, hp, ⟨t, rfl, ht⟩, q⟩ := h
    have fin : ∀ (H1 H2 : Hp) (p : Addr) (x y z : Int), But a H H1 → PoolAt H1 a → Same H1 H2 → H2 p = some (.tup [.int x, .int y, .int z]) → Q (.ref p) H2 := fun H1 H2 p x y z b pl e hp => by
      obtain ⟨i, j, k, pl⟩ := pl
      exact q (.ref p) x y z H2 (b.trans (But.of e)) ⟨i, j, k, e _ _ pl⟩ ⟨p, rfl, hp⟩
    walk_at "sts"
    refine e_call (by exact F) (by exact hr) (by decide) ?_
    walk_at "sts"
    refine ⟨a, 3, rfl, by decide, by decide, hp, fun d H1 d0 d1 b1 p1 => ?_⟩
    walk_at "sts"
    refine if2 (fun _ => ?_) (fun _ => ?_)
    · walk_at "sts"
      refine e_call (by exact F) (by exact hr) (by decide) ?_
      walk_at "sts"
      refine ⟨a, 61, rfl, by decide, by decide, p1, fun d2 H2 _ _ b2 p2 => ?_⟩
      walk_at "sts"
      refine e_call (by exact F) (by exact hr) (by decide) ?_
      walk_at "sts"
      refine ⟨a, 61, rfl, by decide, by decide, p2, fun d3 H3 _ _ b3 p3 => ?_⟩
      walk_at "sts"
      refine e_call (by exact F) (by exact hr) (by decide) ?_
      walk_at "sts"
      refine ⟨a, 61, rfl, by decide, by decide, p3, fun d4 H4 _ _ b4 p4 => ?_⟩
      walk_at "sts"
      exact ⟨by show 3 ≤ sizeLine; decide, fun p H5 e _ hp => fin H4 H5 p _ _ _ (((b1.trans b2).trans b3).trans b4) p4 e hp⟩
    · walk_at "sts"
      refine e_call (by exact F) (by exact hr) (by decide) ?_
      walk_at "sts"
      refine ⟨a, 2, rfl, by decide, by decide, p1, fun d2 H2 _ _ b2 p2 => ?_⟩
      walk_at "sts"
      refine if2 (fun _ => ?_) (fun _ => ?_)
      · walk_at "sts"
        refine e_call (by exact F) (by exact hr) (by decide) ?_
        walk_at "sts"
        refine ⟨a, 3, rfl, by decide, by decide, p2, fun d3 H3 _ _ b3 p3 => ?_⟩
        walk_at "sts"
        exact ⟨by show 3 ≤ sizeLine; decide, fun p H5 e _ hp => fin H3 H5 p _ _ _ ((b1.trans b2).trans b3) p3 e hp⟩
      · walk_at "sts"
        refine e_call (by exact F) (by exact hr) (by decide) ?_
        walk_at "sts"
        refine ⟨a, 3, rfl, by decide, by decide, p2, fun d3 H3 _ _ b3 p3 => ?_⟩
        have t1 : H1 t = some (.tup [.int u, .int v]) := by obtain ⟨x, y, z, hp⟩ := hp; exact b1.tup hp ht
        have t2 : H2 t = some (.tup [.int u, .int v]) := by obtain ⟨x, y, z, hp⟩ := p1; exact b2.tup hp t1
        have t3 : H3 t = some (.tup [.int u, .int v]) := by obtain ⟨x, y, z, hp⟩ := p2; exact b3.tup hp t2
        walk_at "sts"
        refine ix_t (by exact SqT.of t3) rfl ?_
        walk_at "sts"
        refine e_call (by exact F) (by exact hr) (by decide) ?_
        walk_at "sts"
        refine ⟨a, 3, rfl, by decide, by decide, p3, fun d4 H4 _ _ b4 p4 => ?_⟩
        have t4 : H4 t = some (.tup [.int u, .int v]) := by obtain ⟨x, y, z, hp⟩ := p3; exact b4.tup hp t3
        walk_at "sts"
        refine ix_t (by exact SqT.of t4) rfl ?_
        walk_at "sts"
        refine e_call (by exact F) (by exact hr) (by decide) ?_
        walk_at "sts"
        refine ⟨a, 3, rfl, by decide, by decide, p4, fun d5 H5 _ _ b5 p5 => ?_⟩
        walk_at "sts"
        exact ⟨by show 3 ≤ sizeLine; decide, fun p H6 e _ hp => fin H5 H6 p _ _ _ ((((b1.trans b2).trans b3).trans b4).trans b5) p5 e hp⟩
/-! ### the law's own arithmetic -/
def spTwo (g1 g2 g3 : Int → Int → Int) : Sp := fun vs H Q _ => ∃ m n a b c d e f, vs = [m, n] ∧ Tri H m a b c ∧ Tri H n d e f ∧ ∀ r H', Same H H' → Tri H' r (g1 a d) (g2 b e) (g3 c f) → Q r H'
theorem ok_plus (T : Top K mg "_law_plus" s_plus) (mMax : mg "max" = none) : Fn P w K mg base 1 "_law_plus" (spTwo (· + ·) (· + ·) mx) := by
  refine fn_ok T sc_plus so_plus (fun vs H Q E h => ?_) (fun _ _ _ _ _ _ us hl => match us, hl with | [_, _], _ => rfl) fun f cdv A outer s H vs Q E hr h nd => ?_
  · obtain ⟨m, n, a, b, c, d, e, f, rfl, _⟩ := h
    rfl
  · obtain ⟨m, n, a, b, c, d, e, f, rfl, ⟨t, rfl, ht⟩, ⟨r, rfl, hr'⟩, q⟩ := h
    walk_at "sts"
    refine ix_t (by exact SqT.of ht) rfl ?_
    walk_at "sts"
    refine ix_t (by exact SqT.of hr') rfl ?_
    walk_at "sts"
    refine ix_t (by exact SqT.of ht) rfl ?_
    walk_at "sts"
    refine ix_t (by exact SqT.of hr') rfl ?_
    walk_at "sts"
    refine ix_t (by exact SqT.of ht) rfl ?_
    walk_at "sts"
    refine ix_t (by exact SqT.of hr') rfl ?_
    walk_at "sts"
    exact ⟨by show 3 ≤ sizeLine; decide, fun p H2 e _ hp => q (.ref p) H2 e ⟨p, rfl, hp⟩⟩
theorem ok_either (T : Top K mg "_law_either" s_either) (mMax : mg "max" = none) (mMin : mg "min" = none) : Fn P w K mg base 1 "_law_either" (spTwo mn mx mx) := by
  refine fn_ok T sc_either so_either (fun vs H Q E h => ?_) (fun _ _ _ _ _ _ us hl => match us, hl with | [_, _], _ => rfl) fun f cdv A outer s H vs Q E hr h nd => ?_
  · obtain ⟨m, n, a, b, c, d, e, f, rfl, _⟩ := h
    rfl
  · obtain ⟨m, n, a, b, c, d, e, f, rfl, ⟨t, rfl, ht⟩, ⟨r, rfl, hr'⟩, q⟩ := h
    walk_at "sts"
    refine ix_t (by exact SqT.of ht) rfl ?_
    walk_at "sts"
    refine ix_t (by exact SqT.of hr') rfl ?_
    walk_at "sts"
    refine ix_t (by exact SqT.of ht) rfl ?_
    walk_at "sts"
    refine ix_t (by exact SqT.of hr') rfl ?_
    walk_at "sts"
    refine ix_t (by exact SqT.of ht) rfl ?_
    walk_at "sts"
    refine ix_t (by exact SqT.of hr') rfl ?_
    walk_at "sts"
    exact ⟨by show 3 ≤ sizeLine; decide, fun p H2 e _ hp => q (.ref p) H2 e ⟨p, rfl, hp⟩⟩
def spPacked : Sp := fun vs H Q _ => ∃ m n k a b c, vs = [m, n] ∧ Tri H m a b c ∧ ModeV H n k ∧ small k ∧ ∀ r H', Same H H' → Tri H' r (bl0 k a) (bl1 k b) (bl2 k c) → Q r H'
theorem ok_packed (T : Top K mg "_law_packed" s_packed) : Fn P w K mg base 1 "_law_packed" spPacked := by
  refine fn_ok T sc_packed so_packed (fun vs H Q E h => ?_) (fun _ _ _ _ _ _ us hl => match us, hl with | [_, _], _ => rfl) fun f cdv A outer s H vs Q E hr h nd => ?_
  · obtain ⟨m, n, k, a, b, c, rfl, _⟩ := h
    rfl
  · obtain ⟨m, n, k, a, b, c, rfl, ⟨t, rfl, ht⟩, hm, hs, q⟩ := h
    cases k with
    | none =>
      obtain rfl : n = .str "once" := hm
      walk_at "sts"
      exact q (.ref t) H (Same.refl H) ⟨t, rfl, ht⟩
    | some uv =>
      obtain ⟨u, v⟩ := uv
      obtain ⟨r, rfl, hr'⟩ := hm
      obtain ⟨s1, s2⟩ := hs
      walk_at "sts"
      refine o_eqPS (by exact hr) hr' once_shaped ?_
      walk_at "sts"
      refine ix_t (by exact SqT.of hr') rfl ?_
      walk_at "sts"
      refine ix_t (by exact SqT.of ht) rfl ?_
      walk_at "sts"
      refine o_mul (.inl ⟨by omega, by omega⟩) ?_
      walk_at "sts"
      refine ix_t (by exact SqT.of hr') rfl ?_
      walk_at "sts"
      refine ix_t (by exact SqT.of ht) rfl ?_
      walk_at "sts"
      exact ⟨by show 3 ≤ sizeLine; decide, fun p H2 e _ hp => q (.ref p) H2 e ⟨p, rfl, hp⟩⟩
end


section
variable {P : Program} {w : World} {K : PySem.W.Frag} {mg : Str → Option Value} {base : Heap} {C : Addr}
structure BOk (mg : Str → Option Value) : Prop where
  isi : mg "isinstance" = none
  int : mg "int" = none
  bool : mg "bool" = none
  str : mg "str" = none
  tuple : mg "tuple" = none
  list : mg "list" = none
  len : mg "len" = none
  range : mg "range" = none
  abs : mg "abs" = none
  max : mg "max" = none
  min : mg "min" = none
def spNum : Sp := fun vs H Q _ => ∃ i, vs = [.int i] ∧ Q (.bl true) H
theorem ok_num (T : Top K mg "_law_is_number" s_is_number) (B : BOk mg) : Fn P w K mg base 1 "_law_is_number" spNum := by
  refine fn_ok T sc_is_number so_is_number (fun vs H Q E h => ?_) (fun _ _ _ _ _ _ us hl => match us, hl with | [_], _ => rfl) fun f cdv A outer s H vs Q E hr h nd => ?_
  · obtain ⟨i, rfl, _⟩ := h
    rfl
  · obtain ⟨i, rfl, q⟩ := h
    obtain ⟨bi, bt, bb, bs, _, _, _, _, _, _, _⟩ := B
    walk_at "sts"
    refine c_isi ty_int (.ty _) (kit_ty kb_int_int) ?_
    walk_at "sts"
    refine c_isi ty_int (.ty _) (kit_ty kb_int_bool) ?_
    walk_at "sts"
    exact q
def spSame0 : Sp := fun vs H Q _ => ∃ i, vs = [.int i, .int i] ∧ ∀ H', Same H H' → Q (.bl true) H'
theorem ok_same0 (T : Top K mg "_law_same" s_same) (B : BOk mg) (F : Fn P w K mg base 1 "_law_is_number" spNum) : Fn P w K mg base 2 "_law_same" spSame0 := by
  refine fn_ok T sc_same so_same (fun vs H Q E h => ?_) (fun _ _ _ _ _ _ us hl => match us, hl with | [_, _], _ => rfl) fun f cdv A outer s H vs Q E hr h nd => ?_
  · obtain ⟨i, rfl, _⟩ := h
    rfl
  · obtain ⟨i, rfl, q⟩ := h
    obtain ⟨bi, bt, bb, bs, btu, bl, _, _, _, _, _⟩ := B
    walk_at "sts"
    refine c_isi ty_int (.ty _) (kit_ty kb_int_str) ?_
    walk_at "sts"
    refine ⟨by show 2 ≤ sizeLine; decide, fun p H1 e1 np hp => ?_⟩
    walk_at "sts"
    refine c_isiT ty_int hp two_ty (kit2 kb_int_tuple kb_int_list) ?_
    walk_at "sts"
    refine e_call (by exact F) (by exact hr) (by decide) ?_
    walk_at "sts"
    rw [decide_eq_true (rfl : i = i)]
    exact q H1 e1
def spSame1 : Sp := fun vs H Q _ => ∃ m n a b c d e f, vs = [m, n] ∧ Tri H m a b c ∧ Tri H n d e f ∧ a = d ∧ b = e ∧ c = f ∧ ∀ H', Same H H' → Q (.bl true) H'
theorem third {a b c : Int} {k : Nat} (h : k < 3) : ∃ z, ([V.int a, V.int b, V.int c] : List V)[k]? = some (.int z) := by
  match k, h with
  | 0, _ => exact ⟨a, rfl⟩
  | 1, _ => exact ⟨b, rfl⟩
  | 2, _ => exact ⟨c, rfl⟩
theorem ok_same1 (T : Top K mg "_law_same" s_same) (B : BOk mg) (F : Fn P w K mg base 2 "_law_same" spSame0) : Fn P w K mg base 3 "_law_same" spSame1 := by
  refine fn_ok T sc_same so_same (fun vs H Q E h => ?_) (fun _ _ _ _ _ _ us hl => match us, hl with | [_, _], _ => rfl) fun f cdv A outer s H vs Q E hr h nd => ?_
  · obtain ⟨m, n, a, b, c, d, e, f, rfl, _⟩ := h
    rfl
  · obtain ⟨m, n, a, b, c, d, e, f, rfl, ⟨p, rfl, hp⟩, ⟨r, rfl, hq⟩, rfl, rfl, rfl, q⟩ := h
    obtain ⟨bi, bt, bb, bs, btu, bl, bn, br, _, _, _⟩ := B
    walk_at "sts"
    refine c_isi (ty_tup hq) (.ty _) (kit_ty kb_tuple_str) ?_
    walk_at "sts"
    refine ⟨by show 2 ≤ sizeLine; decide, fun t1 H1 e1 _ ht => ?_⟩
    walk_at "sts"
    refine c_isiT (ty_tup (e1 _ _ hq)) ht two_ty (kit2 kb_tuple_tuple kb_tuple_list) ?_
    walk_at "sts"
    refine ⟨by show 2 ≤ sizeLine; decide, fun t2 H2 e2 _ ht => ?_⟩
    have e02 := e1.trans e2
    walk_at "sts"
    refine c_isiT (ty_tup (e02 _ _ hp)) ht two_ty (kit2 kb_tuple_tuple kb_tuple_list) ?_
    walk_at "sts"
    refine c_isi (ty_tup (e02 _ _ hp)) (.ty _) (kit_ty kb_tuple_list) ?_
    walk_at "sts"
    refine c_isi (ty_tup (e02 _ _ hq)) (.ty _) (kit_ty kb_tuple_list) ?_
    walk_at "sts"
    refine c_lenT (by exact SqT.of (e02 _ _ hp)) ?_
    walk_at "sts"
    refine c_lenT (by exact SqT.of (e02 _ _ hq)) ?_
    walk_at "sts"
    refine s_forR (by assumption) ?_
    walk_at "sts"
    refine c_lenT (by exact SqT.of (e02 _ _ hq)) ?_
    refine ⟨3, rfl, by decide, fun i σ H' => ∃ y, σ = [some (.ref p), some (.ref r), y] ∧ Same H H', ⟨_, rfl, e02⟩, fun k σ H3 hk hW => ?_, fun σ H3 hW => ?_⟩
    · obtain ⟨y, rfl, e3⟩ := hW
      obtain ⟨z, hz⟩ := third (a := a) (b := b) (c := c) hk
      walk_at "sts"
      refine e_call (by exact F) (by exact hr) (by decide) ?_
      walk_at "sts"
      refine ix_t (by exact SqT.of (e3 _ _ hp)) (atI_nat hz) ?_
      walk_at "sts"
      refine ix_t (by exact SqT.of (e3 _ _ hq)) (atI_nat hz) ?_
      walk_at "sts"
      intro H4 e4
      walk_at "sts"
      exact e3.trans e4
    · obtain ⟨y, rfl, e3⟩ := hW
      walk_at "sts"
      exact q H3 e3
def spIs (C : Addr) : Sp := fun vs H Q _ => ∃ p n a b c d e f, vs = [.ref p, n] ∧ CountAt C H p a b c ∧ Tri H n d e f ∧ a = d ∧ b = e ∧ c = f ∧ ∀ H', Same H H' → Q (.bl true) H'
theorem ok_is (T : Top K mg "_law_is" s_is) (B : BOk mg) (O : ClsOk K mg C) (F : Fn P w K mg base 3 "_law_same" spSame1) (M : Mt P w K mg base 1 C "triple" (spTri C)) : Fn P w K mg base 4 "_law_is" (spIs C) := by
  refine fn_ok T sc_is so_is (fun vs H Q E h => ?_) (fun _ _ _ _ _ _ us hl => match us, hl with | [_, _], _ => rfl) fun f cdv A outer s H vs Q E hr h nd => ?_
  · obtain ⟨m, n, a, b, c, d, e, f, rfl, _⟩ := h
    rfl
  · obtain ⟨p, n, a, b, c, d, e, f, rfl, ⟨dx, hp⟩, ⟨r, rfl, hq⟩, rfl, rfl, rfl, q⟩ := h
    obtain ⟨bi, bt, bb, bs, btu, bl, bn, br, _, _, _⟩ := B
    walk_at "sts"
    refine e_glob (v := .ref C) (by exact O.mg) rfl ?_
    walk_at "sts"
    refine c_of (C8.call_isC O.isC) ⟨p, dx, _, rfl, hp, ?_⟩
    walk_at "sts"
    refine e_call (by exact F) (by exact hr) (by decide) ?_
    refine a_cons (e_meth0 (pl := _) (by exact M) (by exact hr) (by decide) ?_)
    walk_at "sts"
    refine ⟨p, dx, _, rfl, hp, flds_no _ _ _ (by decide +kernel) (by decide +kernel) (by decide +kernel), ?_⟩
    refine ⟨p, a, b, c, rfl, ⟨dx, hp⟩, fun u H1 e1 hu => ?_⟩
    walk_at "sts"
    refine ⟨_, _, a, b, c, a, b, c, rfl, ⟨u, rfl, hu⟩, ⟨r, rfl, e1 _ _ hq⟩, rfl, rfl, rfl, fun H2 e2 => ?_⟩
    have e02 := e1.trans e2
    walk_at "sts"
    refine e_call (by exact F) (by exact hr) (by decide) ?_
    walk_at "sts"
    refine e_fld ?_
    walk_at "sts"
    refine ⟨p, C, dx, _, _, rfl, (e02 _ _ hp), O.cl, O.nL, flds_l _ _ _, ?_⟩
    walk_at "sts"
    refine e_fld ?_
    walk_at "sts"
    refine ⟨p, C, dx, _, _, rfl, (e02 _ _ hp), O.cl, O.nM, flds_m _ _ _, ?_⟩
    walk_at "sts"
    refine e_fld ?_
    walk_at "sts"
    refine ⟨p, C, dx, _, _, rfl, (e02 _ _ hp), O.cl, O.nD, flds_d _ _ _, ?_⟩
    walk_at "sts"
    refine ⟨by show 3 ≤ sizeLine; decide, fun u3 H3 e3 _ hu3 => ?_⟩
    walk_at "sts"
    refine ⟨_, _, a, b, c, a, b, c, rfl, ⟨u3, rfl, hu3⟩, ⟨r, rfl, (e02.trans e3) _ _ hq⟩, rfl, rfl, rfl, fun H4 e4 => ?_⟩
    exact q H4 ((e02.trans e3).trans e4)
def spKept (C : Addr) : Sp := fun vs H Q _ => ∃ p n m k a b c, vs = [.ref p, n, m] ∧ CountAt C H p a b c ∧ Tri H n a b c ∧ ModeV H m k ∧ Q (.bl true) H
theorem ok_kept (T : Top K mg "_law_kept" s_kept) (B : BOk mg) (O : ClsOk K mg C) (M : Mt P w K mg base 1 C "fits" (spFits C)) : Fn P w K mg base 2 "_law_kept" (spKept C) := by
  refine fn_ok T sc_kept so_kept (fun vs H Q E h => ?_) (fun _ _ _ _ _ _ us hl => match us, hl with | [_, _, _], _ => rfl) fun f cdv A outer s H vs Q E hr h nd => ?_
  · obtain ⟨p, n, m, k, a, b, c, rfl, _⟩ := h
    rfl
  · obtain ⟨p, n, m, k, a, b, c, rfl, ⟨dx, hp⟩, ⟨t, rfl, ht⟩, hm, q⟩ := h
    obtain ⟨bi, bt, bb, bs, btu, bl, bn, br, _, _, _⟩ := B
    cases k with
    | none =>
      obtain rfl : m = .str "once" := hm
      walk_at "sts"
      refine ix_t (by exact SqT.of ht) rfl ?_
      walk_at "sts"
      refine and_val (x := decide (a = 1)) (y := decide (b = 1)) ?_ fun q => ?_
      · walk_at "sts"
        refine e_meth (pl := _) (by exact M) (by exact hr) (by decide) ?_
        walk_at "sts"
        refine ⟨p, dx, _, rfl, hp, flds_no _ _ _ (by decide +kernel) (by decide +kernel) (by decide +kernel), ?_⟩
        walk_at "sts"
        refine ⟨p, _, none, a, b, c, rfl, ⟨dx, hp⟩, rfl, ?_⟩
        walk_at "sts"
        refine c_isi ty_bl (.ty _) (kit_ty kb_bool_bool) ?_
        walk_at "sts"
        rw [decide_eq_true (show fit none a b c = (decide (a = 1) && decide (b = 1)) from rfl)]
        exact q
      · walk_at "sts"
        refine ix_t (by exact SqT.of ht) rfl (e_int (o_eqI ?_))
        exact q
    | some uv =>
      obtain ⟨u, v⟩ := uv
      obtain ⟨r, rfl, hr'⟩ := hm
      walk_at "sts"
      refine o_eqPS (by exact hr) hr' once_shaped ?_
      walk_at "sts"
      refine ix_t (by exact SqT.of ht) rfl ?_
      walk_at "sts"
      refine ix_t (by exact SqT.of hr') rfl ?_
      walk_at "sts"
      refine and_val (x := decide (b ≤ u)) (y := decide (c ≤ v)) ?_ fun q => ?_
      · walk_at "sts"
        refine e_meth (pl := _) (by exact M) (by exact hr) (by decide) ?_
        walk_at "sts"
        refine ⟨p, dx, _, rfl, hp, flds_no _ _ _ (by decide +kernel) (by decide +kernel) (by decide +kernel), ?_⟩
        walk_at "sts"
        refine ⟨p, _, some (u, v), a, b, c, rfl, ⟨dx, hp⟩, ⟨r, rfl, hr'⟩, ?_⟩
        walk_at "sts"
        refine c_isi ty_bl (.ty _) (kit_ty kb_bool_bool) ?_
        walk_at "sts"
        rw [decide_eq_true (show fit (some (u, v)) a b c = (decide (b ≤ u) && decide (c ≤ v)) from rfl)]
        exact q
      · walk_at "sts"
        refine ix_t (by exact SqT.of ht) rfl ?_
        walk_at "sts"
        refine ix_t (by exact SqT.of hr') rfl (o_le ?_)
        exact q
end


section
variable {P : Program} {w : World} {K : PySem.W.Frag} {mg : Str → Option Value} {base : Heap} {C : Addr}
theorem mx_comm (i j : Int) : mx i j = mx j i := by unfold mx; split <;> split <;> omega
theorem mn_comm (i j : Int) : mn i j = mn j i := by unfold mn; split <;> split <;> omega
theorem mx_assoc (i j k : Int) : mx (mx i j) k = mx i (mx j k) := by unfold mx; split <;> split <;> (try split) <;> (try split) <;> omega
theorem mn_assoc (i j k : Int) : mn (mn i j) k = mn i (mn j k) := by unfold mn; split <;> split <;> (try split) <;> (try split) <;> omega
theorem mx_add (v i j : Int) : mx (v + i) (v + j) = v + mx i j := by unfold mx; split <;> split <;> omega
theorem mx_mul (u i j : Int) (h : 0 ≤ u) : mx (u * i) (u * j) = u * mx i j := by
  by_cases hu : u = 0
  · subst hu
    unfold mx
    simp
  · have hp : 0 < u := by omega
    unfold mx
    by_cases hij : j > i
    · rw [if_pos hij, if_pos (Int.mul_lt_mul_of_pos_left hij hp)]
    · rw [if_neg hij]
      have h2 : u * j ≤ u * i := Int.mul_le_mul_of_nonneg_left (by omega) h
      rw [if_neg (by omega)]
def spPair (C : Addr) : Sp := fun vs H Q _ => ∃ p r m n a b c d e f, vs = [.ref p, .ref r, m, n] ∧ CountAt C H p a b c ∧ CountAt C H r d e f ∧ Tri H m a b c ∧ Tri H n d e f ∧ ∀ H', Same H H' → Q (.bl true) H'
theorem ok_pair (T : Top K mg "_law_pair" s_pair) (FI : Fn P w K mg base 4 "_law_is" (spIs C)) (FP : Fn P w K mg base 1 "_law_plus" (spTwo (· + ·) (· + ·) mx)) (FE : Fn P w K mg base 1 "_law_either" (spTwo mn mx mx))
    (OA : Op2 P w K mg base 3 C .Add (spOp C (· + ·) (· + ·))) (OR : Op2 P w K mg base 3 C .BitOr (spOp C mn mx)) : Fn P w K mg base 5 "_law_pair" (spPair C) := by
  refine fn_ok T sc_pair so_pair (fun vs H Q E h => ?_) (fun _ _ _ _ _ _ us hl => match us, hl with | [_, _, _, _], _ => rfl) fun f cdv A outer s H vs Q E hr h nd => ?_
  · obtain ⟨p, r, m, n, a, b, c, d, e, f, rfl, _⟩ := h
    rfl
  · obtain ⟨p, r, m, n, a, b, c, d, e, f, rfl, ⟨dx, hp⟩, ⟨dy, hq⟩, hm, hn, q⟩ := h
    have E0 : Same H H := Same.refl H
    walk_at "sts"
    refine e_call (by exact FI) (by exact hr) (by decide) ?_
    walk_at "sts"
    refine o_own (by exact OA) (by exact hr) (by decide) (by exact E0 _ _ hp) (by exact E0 _ _ hq) ?_
    refine ⟨p, r, _, _, _, _, _, _, rfl, ⟨_, E0 _ _ hp⟩, ⟨_, E0 _ _ hq⟩, fun u1 H11 e11 c1 => ⟨⟨u1, rfl⟩, ?_⟩⟩
    walk_at "sts"
    have E11 := Same.trans E0 e11
    refine e_call (by exact FP) (by exact hr) (by decide) ?_
    walk_at "sts"
    refine ⟨_, _, _, _, _, _, _, _, rfl, Tri.up E11 hm, Tri.up E11 hn, fun t1 H12 e12 d1 => ?_⟩
    walk_at "sts"
    have E12 := E11.trans e12
    refine ⟨u1, t1, _, _, _, _, _, _, rfl, CountAt.up e12 c1, d1, rfl, rfl, rfl, fun H13 e13 => ?_⟩
    have E13 := E12.trans e13
    walk_at "sts"
    refine e_call (by exact FI) (by exact hr) (by decide) ?_
    walk_at "sts"
    refine o_own (by exact OA) (by exact hr) (by decide) (by exact E13 _ _ hq) (by exact E13 _ _ hp) ?_
    refine ⟨r, p, _, _, _, _, _, _, rfl, ⟨_, E13 _ _ hq⟩, ⟨_, E13 _ _ hp⟩, fun u2 H21 e21 c2 => ⟨⟨u2, rfl⟩, ?_⟩⟩
    walk_at "sts"
    have E21 := Same.trans E13 e21
    refine e_call (by exact FP) (by exact hr) (by decide) ?_
    walk_at "sts"
    refine ⟨_, _, _, _, _, _, _, _, rfl, Tri.up E21 hm, Tri.up E21 hn, fun t2 H22 e22 d2 => ?_⟩
    walk_at "sts"
    have E22 := E21.trans e22
    refine ⟨u2, t2, _, _, _, _, _, _, rfl, CountAt.up e22 c2, d2, (Int.add_comm _ _), (Int.add_comm _ _), (mx_comm _ _), fun H23 e23 => ?_⟩
    have E23 := E22.trans e23
    walk_at "sts"
    refine e_call (by exact FI) (by exact hr) (by decide) ?_
    walk_at "sts"
    refine o_own (by exact OR) (by exact hr) (by decide) (by exact E23 _ _ hp) (by exact E23 _ _ hq) ?_
    refine ⟨p, r, _, _, _, _, _, _, rfl, ⟨_, E23 _ _ hp⟩, ⟨_, E23 _ _ hq⟩, fun u3 H31 e31 c3 => ⟨⟨u3, rfl⟩, ?_⟩⟩
    walk_at "sts"
    have E31 := Same.trans E23 e31
    refine e_call (by exact FE) (by exact hr) (by decide) ?_
    walk_at "sts"
    refine ⟨_, _, _, _, _, _, _, _, rfl, Tri.up E31 hm, Tri.up E31 hn, fun t3 H32 e32 d3 => ?_⟩
    walk_at "sts"
    have E32 := E31.trans e32
    refine ⟨u3, t3, _, _, _, _, _, _, rfl, CountAt.up e32 c3, d3, rfl, rfl, rfl, fun H33 e33 => ?_⟩
    have E33 := E32.trans e33
    walk_at "sts"
    refine e_call (by exact FI) (by exact hr) (by decide) ?_
    walk_at "sts"
    refine o_own (by exact OR) (by exact hr) (by decide) (by exact E33 _ _ hq) (by exact E33 _ _ hp) ?_
    refine ⟨r, p, _, _, _, _, _, _, rfl, ⟨_, E33 _ _ hq⟩, ⟨_, E33 _ _ hp⟩, fun u4 H41 e41 c4 => ⟨⟨u4, rfl⟩, ?_⟩⟩
    walk_at "sts"
    have E41 := Same.trans E33 e41
    refine e_call (by exact FE) (by exact hr) (by decide) ?_
    walk_at "sts"
    refine ⟨_, _, _, _, _, _, _, _, rfl, Tri.up E41 hm, Tri.up E41 hn, fun t4 H42 e42 d4 => ?_⟩
    walk_at "sts"
    have E42 := E41.trans e42
    refine ⟨u4, t4, _, _, _, _, _, _, rfl, CountAt.up e42 c4, d4, (mn_comm _ _), (mx_comm _ _), (mx_comm _ _), fun H43 e43 => ?_⟩
    have E43 := E42.trans e43
    walk_at "sts"
    exact q H43 E43
end


section
variable {P : Program} {w : World} {K : PySem.W.Frag} {mg : Str → Option Value} {base : Heap} {C : Addr}
def spBoxes (C : Addr) : Sp := fun vs H Q _ => ∃ p r m n ti tu a b c d e f u v x y, vs = [.ref p, .ref r, m, n, .ref ti, .ref tu] ∧ CountAt C H p a b c ∧ CountAt C H r d e f ∧ Tri H m a b c ∧ Tri H n d e f ∧ H ti = some (.tup [.int u, .int v]) ∧ H tu = some (.tup [.int x, .int y]) ∧
  0 ≤ u ∧ u ≤ 100 ∧ 0 ≤ x ∧ x ≤ 100 ∧ ∀ H', Same H H' → Q (.bl true) H'
theorem ok_boxes (T : Top K mg "_law_boxes" s_boxes) (FI : Fn P w K mg base 4 "_law_is" (spIs C)) (FP : Fn P w K mg base 1 "_law_plus" (spTwo (· + ·) (· + ·) mx)) (FE : Fn P w K mg base 1 "_law_either" (spTwo mn mx mx))
    (FK : Fn P w K mg base 1 "_law_packed" spPacked) (FB : Mt P w K mg base 3 C "boxed" (spBoxed C))
    (OA : Op2 P w K mg base 3 C .Add (spOp C (· + ·) (· + ·))) (OR : Op2 P w K mg base 3 C .BitOr (spOp C mn mx)) : Fn P w K mg base 5 "_law_boxes" (spBoxes C) := by
  refine fn_ok T sc_boxes so_boxes (fun vs H Q E h => ?_) (fun _ _ _ _ _ _ us hl => match us, hl with | [_, _, _, _, _, _], _ => rfl) fun f cdv A outer s H vs Q E hr h nd => ?_
  · obtain ⟨p, r, m, n, ti, tu, a, b, c, d, e, f, u, v, x, y, rfl, _⟩ := h
    rfl
  · obtain ⟨p, r, m, n, ti, tu, a, b, c, d, e, f, u, v, x, y, rfl, ⟨dx, hp⟩, ⟨dy, hq⟩, hm, hn, hi, ho, s1, s2, s3, s4, q⟩ := h
    have EZ : Same H H := Same.refl H
    have sI : small (some (u, v)) := ⟨s1, by omega⟩
    have sO : small (some (x, y)) := ⟨s3, by omega⟩
    have sB : small (some (u * x, v + y)) := ⟨Int.mul_nonneg s1 s3, Int.le_trans (Int.mul_le_mul s2 s4 s3 (by omega)) (by decide)⟩
    have eqm : x * (u * b) = u * x * b := by rw [← Int.mul_assoc, Int.mul_comm x u]
    have eqa : y + (v + c) = v + y + c := by omega
    walk_at "sts"
    refine e_call (by exact FI) (by exact hr) (by decide) ?_
    walk_at "sts"
    refine e_meth (pl := _) (by exact FB) (by exact hr) (by decide) ?_
    walk_at "sts"
    refine ⟨p, _, _, rfl, EZ _ _ hp, flds_no _ _ _ (by decide +kernel) (by decide +kernel) (by decide +kernel), ?_⟩
    walk_at "sts"
    refine ⟨p, _, some (u, v), _, _, _, rfl, ⟨_, EZ _ _ hp⟩, ⟨_, rfl, EZ _ _ hi⟩, sI, fun u1 H1 e1 c1 => ?_⟩
    obtain ⟨d1, c1⟩ := c1
    have E1 := Same.trans EZ e1
    walk_at "sts"
    refine e_call (by exact FK) (by exact hr) (by decide) ?_
    walk_at "sts"
    refine ⟨_, _, some (u, v), _, _, _, rfl, Tri.up E1 hm, ⟨_, rfl, E1 _ _ hi⟩, sI, fun t2 H2 e2 q2 => ?_⟩
    have E2 := Same.trans E1 e2
    walk_at "sts"
    refine ⟨u1, t2, _, _, _, _, _, _, rfl, ⟨_, e2 _ _ c1⟩, q2, rfl, rfl, rfl, fun H3 e3 => ?_⟩
    have E3 := Same.trans E2 e3
    walk_at "sts"
    refine e_call (by exact FI) (by exact hr) (by decide) ?_
    walk_at "sts"
    refine e_meth (pl := _) (by exact FB) (by exact hr) (by decide) ?_
    walk_at "sts"
    refine ⟨p, _, _, rfl, E3 _ _ hp, flds_no _ _ _ (by decide +kernel) (by decide +kernel) (by decide +kernel), ?_⟩
    walk_at "sts"
    refine ⟨p, _, none, _, _, _, rfl, ⟨_, E3 _ _ hp⟩, rfl, trivial, fun u4 H4 e4 c4 => ?_⟩
    obtain ⟨d4, c4⟩ := c4
    have E4 := Same.trans E3 e4
    walk_at "sts"
    refine ⟨u4, _, _, _, _, _, _, _, rfl, ⟨_, c4⟩, Tri.up E4 hm, rfl, rfl, rfl, fun H5 e5 => ?_⟩
    have E5 := Same.trans E4 e5
    walk_at "sts"
    refine ix_t (by exact SqT.of (E5 _ _ hi)) rfl ?_
    walk_at "sts"
    refine ix_t (by exact SqT.of (E5 _ _ ho)) rfl ?_
    walk_at "sts"
    refine o_mul (.inl ⟨by omega, by omega⟩) ?_
    walk_at "sts"
    refine ix_t (by exact SqT.of (E5 _ _ hi)) rfl ?_
    walk_at "sts"
    refine ix_t (by exact SqT.of (E5 _ _ ho)) rfl ?_
    walk_at "sts"
    refine ⟨by show 2 ≤ sizeLine; decide, fun tb H6 e6 _ hb => ?_⟩
    have E6 := Same.trans E5 e6
    walk_at "sts"
    refine e_meth (pl := _) (by exact FB) (by exact hr) (by decide) ?_
    refine e_meth (pl := _) (by exact FB) (by exact hr) (by decide) ?_
    walk_at "sts"
    refine ⟨p, _, _, rfl, E6 _ _ hp, flds_no _ _ _ (by decide +kernel) (by decide +kernel) (by decide +kernel), ?_⟩
    walk_at "sts"
    refine ⟨p, _, some (u, v), _, _, _, rfl, ⟨_, E6 _ _ hp⟩, ⟨_, rfl, E6 _ _ hi⟩, sI, fun u7 H7 e7 c7 => ?_⟩
    obtain ⟨d7, c7⟩ := c7
    have E7 := Same.trans E6 e7
    refine ⟨u7, _, _, rfl, c7, flds_no _ _ _ (by decide +kernel) (by decide +kernel) (by decide +kernel), ?_⟩
    walk_at "sts"
    refine ⟨u7, _, some (x, y), _, _, _, rfl, ⟨_, c7⟩, ⟨_, rfl, E7 _ _ ho⟩, sO, fun u8 H8 e8 c8 => ?_⟩
    obtain ⟨d8, c8⟩ := c8
    have E8 := Same.trans E7 e8
    walk_at "sts"
    refine e_call (by exact FI) (by exact hr) (by decide) ?_
    walk_at "sts"
    have hb9 := e8 _ _ (e7 _ _ hb)
    refine e_call (by exact FK) (by exact hr) (by decide) ?_
    walk_at "sts"
    refine ⟨_, _, some (u * x, v + y), _, _, _, rfl, Tri.up E8 hm, ⟨_, rfl, hb9⟩, sB, fun t9 H9 e9 q9 => ?_⟩
    have E9 := Same.trans E8 e9
    walk_at "sts"
    refine ⟨u8, t9, _, _, _, _, _, _, rfl, ⟨_, e9 _ _ c8⟩, q9, rfl, eqm, eqa, fun H10 e10 => ?_⟩
    have E10 := Same.trans E9 e10
    walk_at "sts"
    have hb10 := e10 _ _ (e9 _ _ hb9)
    refine e_call (by exact FI) (by exact hr) (by decide) ?_
    walk_at "sts"
    refine e_meth (pl := _) (by exact FB) (by exact hr) (by decide) ?_
    walk_at "sts"
    refine ⟨p, _, _, rfl, E10 _ _ hp, flds_no _ _ _ (by decide +kernel) (by decide +kernel) (by decide +kernel), ?_⟩
    walk_at "sts"
    refine ⟨p, _, some (u * x, v + y), _, _, _, rfl, ⟨_, E10 _ _ hp⟩, ⟨_, rfl, hb10⟩, sB, fun u11 H11 e11 c11 => ?_⟩
    obtain ⟨d11, c11⟩ := c11
    have E11 := Same.trans E10 e11
    walk_at "sts"
    have hb11 := e11 _ _ hb10
    refine e_call (by exact FK) (by exact hr) (by decide) ?_
    walk_at "sts"
    refine ⟨_, _, some (u * x, v + y), _, _, _, rfl, Tri.up E11 hm, ⟨_, rfl, hb11⟩, sB, fun t12 H12 e12 q12 => ?_⟩
    have E12 := Same.trans E11 e12
    walk_at "sts"
    refine ⟨u11, t12, _, _, _, _, _, _, rfl, ⟨_, e12 _ _ c11⟩, q12, rfl, rfl, rfl, fun H13 e13 => ?_⟩
    have E13 := Same.trans E12 e13
    walk_at "sts"
    refine e_call (by exact FK) (by exact hr) (by decide) ?_
    walk_at "sts"
    refine e_call (by exact FP) (by exact hr) (by decide) ?_
    walk_at "sts"
    refine ⟨_, _, _, _, _, _, _, _, rfl, Tri.up E13 hm, Tri.up E13 hn, fun t14 H14 e14 q14 => ?_⟩
    have E14 := Same.trans E13 e14
    walk_at "sts"
    refine ⟨_, _, some (u, v), _, _, _, rfl, q14, ⟨_, rfl, E14 _ _ hi⟩, sI, fun t15 H15 e15 q15 => ?_⟩
    have E15 := Same.trans E14 e15
    walk_at "sts"
    refine e_call (by exact FI) (by exact hr) (by decide) ?_
    walk_at "sts"
    refine e_meth (pl := _) (by exact FB) (by exact hr) (by decide) ?_
    walk_at "sts"
    refine o_own (by exact OA) (by exact hr) (by decide) (by exact E15 _ _ hp) (by exact E15 _ _ hq) ?_
    refine ⟨p, r, _, _, _, _, _, _, rfl, ⟨_, E15 _ _ hp⟩, ⟨_, E15 _ _ hq⟩, fun u16 H16 e16 c16 => ⟨⟨u16, rfl⟩, ?_⟩⟩
    obtain ⟨d16, c16⟩ := c16
    have E16 := Same.trans E15 e16
    refine ⟨u16, _, _, rfl, c16, flds_no _ _ _ (by decide +kernel) (by decide +kernel) (by decide +kernel), ?_⟩
    walk_at "sts"
    refine ⟨u16, _, some (u, v), _, _, _, rfl, ⟨_, c16⟩, ⟨_, rfl, E16 _ _ hi⟩, sI, fun u17 H17 e17 c17 => ?_⟩
    obtain ⟨d17, c17⟩ := c17
    have E17 := Same.trans E16 e17
    walk_at "sts"
    refine ⟨u17, _, _, _, _, _, _, _, rfl, ⟨_, c17⟩, Tri.up e17 (Tri.up e16 q15), rfl, rfl, rfl, fun H18 e18 => ?_⟩
    have E18 := Same.trans E17 e18
    walk_at "sts"
    refine e_call (by exact FI) (by exact hr) (by decide) ?_
    walk_at "sts"
    refine e_meth (pl := _) (by exact FB) (by exact hr) (by decide) ?_
    walk_at "sts"
    refine ⟨p, _, _, rfl, E18 _ _ hp, flds_no _ _ _ (by decide +kernel) (by decide +kernel) (by decide +kernel), ?_⟩
    walk_at "sts"
    refine ⟨p, _, some (u, v), _, _, _, rfl, ⟨_, E18 _ _ hp⟩, ⟨_, rfl, E18 _ _ hi⟩, sI, fun u19 H19 e19 c19 => ?_⟩
    obtain ⟨d19, c19⟩ := c19
    have E19 := Same.trans E18 e19
    walk_at "sts"
    refine e_meth (pl := _) (by exact FB) (by exact hr) (by decide) ?_
    walk_at "sts"
    refine ⟨r, _, _, rfl, E19 _ _ hq, flds_no _ _ _ (by decide +kernel) (by decide +kernel) (by decide +kernel), ?_⟩
    walk_at "sts"
    refine ⟨r, _, some (u, v), _, _, _, rfl, ⟨_, E19 _ _ hq⟩, ⟨_, rfl, E19 _ _ hi⟩, sI, fun u20 H20 e20 c20 => ?_⟩
    obtain ⟨d20, c20⟩ := c20
    have E20 := Same.trans E19 e20
    refine o_own (by exact OA) (by exact hr) (by decide) (by exact e20 _ _ c19) (by exact c20) ?_
    refine ⟨u19, u20, _, _, _, _, _, _, rfl, ⟨_, e20 _ _ c19⟩, ⟨_, c20⟩, fun u21 H21 e21 c21 => ⟨⟨u21, rfl⟩, ?_⟩⟩
    obtain ⟨d21, c21⟩ := c21
    have E21 := Same.trans E20 e21
    walk_at "sts"
    refine ⟨u21, _, _, _, _, _, _, _, rfl, ⟨_, c21⟩, (Tri.up e21 (Tri.up e20 (Tri.up e19 (Tri.up e18 (Tri.up e17 (Tri.up e16 q15)))))), rfl, (Int.mul_add _ _ _).symm, mx_add _ _ _, fun H22 e22 => ?_⟩
    have E22 := Same.trans E21 e22
    walk_at "sts"
    refine e_call (by exact FK) (by exact hr) (by decide) ?_
    walk_at "sts"
    refine e_call (by exact FE) (by exact hr) (by decide) ?_
    walk_at "sts"
    refine ⟨_, _, _, _, _, _, _, _, rfl, Tri.up E22 hm, Tri.up E22 hn, fun t23 H23 e23 q23 => ?_⟩
    have E23 := Same.trans E22 e23
    walk_at "sts"
    refine ⟨_, _, some (u, v), _, _, _, rfl, q23, ⟨_, rfl, E23 _ _ hi⟩, sI, fun t24 H24 e24 q24 => ?_⟩
    have E24 := Same.trans E23 e24
    walk_at "sts"
    refine e_call (by exact FI) (by exact hr) (by decide) ?_
    walk_at "sts"
    refine e_meth (pl := _) (by exact FB) (by exact hr) (by decide) ?_
    walk_at "sts"
    refine o_own (by exact OR) (by exact hr) (by decide) (by exact E24 _ _ hp) (by exact E24 _ _ hq) ?_
    refine ⟨p, r, _, _, _, _, _, _, rfl, ⟨_, E24 _ _ hp⟩, ⟨_, E24 _ _ hq⟩, fun u25 H25 e25 c25 => ⟨⟨u25, rfl⟩, ?_⟩⟩
    obtain ⟨d25, c25⟩ := c25
    have E25 := Same.trans E24 e25
    refine ⟨u25, _, _, rfl, c25, flds_no _ _ _ (by decide +kernel) (by decide +kernel) (by decide +kernel), ?_⟩
    walk_at "sts"
    refine ⟨u25, _, some (u, v), _, _, _, rfl, ⟨_, c25⟩, ⟨_, rfl, E25 _ _ hi⟩, sI, fun u26 H26 e26 c26 => ?_⟩
    obtain ⟨d26, c26⟩ := c26
    have E26 := Same.trans E25 e26
    walk_at "sts"
    refine ⟨u26, _, _, _, _, _, _, _, rfl, ⟨_, c26⟩, Tri.up e26 (Tri.up e25 q24), rfl, rfl, rfl, fun H27 e27 => ?_⟩
    have E27 := Same.trans E26 e27
    walk_at "sts"
    refine e_call (by exact FI) (by exact hr) (by decide) ?_
    walk_at "sts"
    refine e_meth (pl := _) (by exact FB) (by exact hr) (by decide) ?_
    walk_at "sts"
    refine ⟨p, _, _, rfl, E27 _ _ hp, flds_no _ _ _ (by decide +kernel) (by decide +kernel) (by decide +kernel), ?_⟩
    walk_at "sts"
    refine ⟨p, _, some (u, v), _, _, _, rfl, ⟨_, E27 _ _ hp⟩, ⟨_, rfl, E27 _ _ hi⟩, sI, fun u28 H28 e28 c28 => ?_⟩
    obtain ⟨d28, c28⟩ := c28
    have E28 := Same.trans E27 e28
    walk_at "sts"
    refine e_meth (pl := _) (by exact FB) (by exact hr) (by decide) ?_
    walk_at "sts"
    refine ⟨r, _, _, rfl, E28 _ _ hq, flds_no _ _ _ (by decide +kernel) (by decide +kernel) (by decide +kernel), ?_⟩
    walk_at "sts"
    refine ⟨r, _, some (u, v), _, _, _, rfl, ⟨_, E28 _ _ hq⟩, ⟨_, rfl, E28 _ _ hi⟩, sI, fun u29 H29 e29 c29 => ?_⟩
    obtain ⟨d29, c29⟩ := c29
    have E29 := Same.trans E28 e29
    refine o_own (by exact OR) (by exact hr) (by decide) (by exact e29 _ _ c28) (by exact c29) ?_
    refine ⟨u28, u29, _, _, _, _, _, _, rfl, ⟨_, e29 _ _ c28⟩, ⟨_, c29⟩, fun u30 H30 e30 c30 => ⟨⟨u30, rfl⟩, ?_⟩⟩
    obtain ⟨d30, c30⟩ := c30
    have E30 := Same.trans E29 e30
    walk_at "sts"
    refine ⟨u30, _, _, _, _, _, _, _, rfl, ⟨_, c30⟩, (Tri.up e30 (Tri.up e29 (Tri.up e28 (Tri.up e27 (Tri.up e26 (Tri.up e25 q24)))))), rfl, mx_mul _ _ _ s1, mx_add _ _ _, fun H31 e31 => ?_⟩
    have E31 := Same.trans E30 e31
    exact q H31 E31
end


section
variable {P : Program} {w : World} {K : PySem.W.Frag} {mg : Str → Option Value} {base : Heap} {C : Addr}
theorem ModeV.up {H H' : Hp} {m : V} {k : Option (Int × Int)} (e : Same H H') (h : ModeV H m k) : ModeV H' m k := by
  cases k with
  | none => exact h
  | some uv =>
    obtain ⟨t, h1, h2⟩ := h
    exact ⟨t, h1, e _ _ h2⟩
theorem e_mk {X : Cx} {N G : List Str} {sc : Scope} {e : Expr} {es : List Expr} {σ : L2.St} {H : Hp} {Q : VK} {p0 pos : Pos} {g k n : Nat} {x : Str} {C : Addr} (F : Kl X.prog X.w X.K X.mg X.base k x C (spInit C)) (hr : Room n X.A) (hk : k + 1 ≤ n)
    (q : wA X (e :: es) σ H fun vs H1 => ∃ a b c, vs = [.int a, .int b, .int c] ∧ ∀ p H', Same H1 H' → CountAt C H' p a b c → Q (.ref p) H')
    (I : Wk.In X N G sc := by assumption) (hG : At G g x := by repeat (first | with_reducible apply At.z | with_reducible apply At.s)) (he : starEach (e :: es) X.env = (false, eval e X.env) :: starEach es X.env := by rfl) (hpl : (backTo pos (starEach es X.env)).any (·.1) = false := by rfl) :
    wE X (.Call (.Name x p0) (e :: es) [] pos) σ H Q :=
  e_make F hr hk (a_mono q fun vs H1 z => by
    obtain ⟨a, b, c, rfl, z⟩ := z
    exact make_of z) I hG he hpl
theorem modes4 {H : Hp} {ti tu tb : Addr} {a b c d e f : Int} (h1 : H ti = some (.tup [.int a, .int b])) (h2 : H tu = some (.tup [.int c, .int d])) (h3 : H tb = some (.tup [.int e, .int f])) {k : Nat} {m : V}
    (h : ([V.ref ti, V.ref tu, V.str "once", V.ref tb] : List V)[k]? = some m) : ∃ kk, ModeV H m kk := by
  match k, h with
  | 0, h => cases (Option.some.inj h); exact ⟨some (a, b), ti, rfl, h1⟩
  | 1, h => cases (Option.some.inj h); exact ⟨some (c, d), tu, rfl, h2⟩
  | 2, h => cases (Option.some.inj h); exact ⟨none, rfl⟩
  | 3, h => cases (Option.some.inj h); exact ⟨some (e, f), tb, rfl, h3⟩
def spLaw (K : PySem.W.Frag) : Sp := fun vs H Q _ => ∃ (a : Addr) (ns : List Int), vs = [.ref a] ∧ SqL K H a (ns.map V.int) ∧ ns.length ≤ 63 ∧ ∀ H', Q (.bl true) H'
theorem ok_law {f : Addr} {fd : FuncData} (F : Fun K "law" "law" s_law f fd) (FPo : Fn P w K mg base 2 "_law_pool" (spPool K)) (FS : Fn P w K mg base 2 "_law_stock" spStock) (FT : Fn P w K mg base 2 "_law_triple" spTriple) (FC : Kl P w K mg base 1 "Count" C (spInit C))
    (FI : Fn P w K mg base 4 "_law_is" (spIs C)) (FP : Fn P w K mg base 1 "_law_plus" (spTwo (· + ·) (· + ·) mx)) (FE : Fn P w K mg base 1 "_law_either" (spTwo mn mx mx)) (FPk : Fn P w K mg base 1 "_law_packed" spPacked) (FB : Mt P w K mg base 3 C "boxed" (spBoxed C))
    (FR : Fn P w K mg base 5 "_law_pair" (spPair C)) (FX : Fn P w K mg base 5 "_law_boxes" (spBoxes C)) (FKe : Fn P w K mg base 2 "_law_kept" (spKept C))
    (OA : Op2 P w K mg base 3 C .Add (spOp C (· + ·) (· + ·))) (OR : Op2 P w K mg base 3 C .BitOr (spOp C mn mx)) : FnOk P w K mg base CX0 6 f fd ["_law_script"] (spLaw K) := by
  refine run_ok (ps := P_law) F sc_law so_law (fun vs H Q E h => ?_) fun ff cdv A outer s H vs Q E hr h nd => ?_
  · obtain ⟨a, ns, rfl, _⟩ := h
    rfl
  · obtain ⟨sa, ns, rfl, hS, hlen, q⟩ := h
    walk_at "sts"
    refine e_call (by exact FPo) (by exact hr) (by decide) ?_
    walk_at "sts"
    refine ⟨sa, ns, 0, rfl, hS, fun p A1 f1 np pl1 => ?_⟩
    walk_at "sts"
    refine e_call (by exact FS) (by exact hr) (by decide) ?_
    walk_at "sts"
    refine ⟨pl1, fun mi u v A2 s1 s2 b2 pl2 hi2 => ?_⟩
    obtain ⟨ti, rfl, hi2⟩ := hi2
    have S2 := Same.but f1 np b2
    have sI : small (some (u, v)) := ⟨s1, by omega⟩
    walk_at "sts"
    refine e_call (by exact FS) (by exact hr) (by decide) ?_
    walk_at "sts"
    refine ⟨pl2, fun mo x y A3 s3 s4 b3 pl3 ho3 => ?_⟩
    obtain ⟨to, rfl, ho3⟩ := ho3
    have S3 := Same.but S2 np b3
    have sO : small (some (x, y)) := ⟨s3, by omega⟩
    have hi3 := Pai.but b3 pl2 ⟨ti, rfl, hi2⟩
    walk_at "sts"
    refine e_call (by exact FT) (by exact hr) (by decide) ?_
    walk_at "sts"
    refine ⟨p, _, u, v, rfl, pl3, hi3, fun m1 a b c A4 b4 pl4 h4 => ?_⟩
    have S4 := Same.but S3 np b4
    have hi4 := Pai.but b4 pl3 hi3
    have ho4 := Pai.but b4 pl3 ⟨to, rfl, ho3⟩
    walk_at "sts"
    refine e_call (by exact FT) (by exact hr) (by decide) ?_
    walk_at "sts"
    refine ⟨p, _, x, y, rfl, pl4, ho4, fun m2 d e f A5 b5 pl5 g5 => ?_⟩
    have S5 := Same.but S4 np b5
    have hi5 := Pai.but b5 pl4 hi4
    have ho5 := Pai.but b5 pl4 ho4
    have h5 := Tri.but b5 pl4 h4
    walk_at "sts"
    refine e_call (by exact FT) (by exact hr) (by decide) ?_
    walk_at "sts"
    refine e_call (by exact FPo) (by exact hr) (by decide) ?_
    walk_at "sts"
    refine ⟨sa, ns, 1, rfl, S5.seq hS, fun p2 A6 f6 np2 pl6 => ?_⟩
    walk_at "sts"
    refine ⟨p2, _, u, v, rfl, pl6, Pai.up f6 hi5, fun m3 g h i A7 b7 pl7 k7 => ?_⟩
    have hi7 := Pai.but b7 pl6 (Pai.up f6 hi5)
    have ho7 := Pai.but b7 pl6 (Pai.up f6 ho5)
    have h7 := Tri.but b7 pl6 (Tri.up f6 h5)
    have g7 := Tri.but b7 pl6 (Tri.up f6 g5)
    obtain ⟨_, ez, hi7⟩ := hi7
    cases ez
    obtain ⟨_, ez, ho7⟩ := ho7
    cases ez
    obtain ⟨t1, rfl, h7⟩ := h7
    obtain ⟨t2, rfl, g7⟩ := g7
    obtain ⟨t3, rfl, k7⟩ := k7
    walk_at "sts"
    refine e_mk (by exact FC) (by exact hr) (by decide) ?_
    walk_at "sts"
    refine ix_t (by exact SqT.of (h7)) rfl ?_
    walk_at "sts"
    refine ix_t (by exact SqT.of (h7)) rfl ?_
    walk_at "sts"
    refine ix_t (by exact SqT.of (h7)) rfl ?_
    walk_at "sts"
    refine ⟨_, _, _, rfl, fun pa A8 e8 cpa => ?_⟩
    walk_at "sts"
    refine e_mk (by exact FC) (by exact hr) (by decide) ?_
    walk_at "sts"
    refine ix_t (by exact SqT.of (e8 _ _ g7)) rfl ?_
    walk_at "sts"
    refine ix_t (by exact SqT.of (e8 _ _ g7)) rfl ?_
    walk_at "sts"
    refine ix_t (by exact SqT.of (e8 _ _ g7)) rfl ?_
    walk_at "sts"
    refine ⟨_, _, _, rfl, fun pb A9 e9 cpb => ?_⟩
    walk_at "sts"
    refine e_mk (by exact FC) (by exact hr) (by decide) ?_
    walk_at "sts"
    refine ix_t (by exact SqT.of (e9 _ _ (e8 _ _ k7))) rfl ?_
    walk_at "sts"
    refine ix_t (by exact SqT.of (e9 _ _ (e8 _ _ k7))) rfl ?_
    walk_at "sts"
    refine ix_t (by exact SqT.of (e9 _ _ (e8 _ _ k7))) rfl ?_
    walk_at "sts"
    refine ⟨_, _, _, rfl, fun pc A10 e10 cpc => ?_⟩
    walk_at "sts"
    have l7 := (e8.trans e9).trans e10
    replace hi7 := l7 _ _ hi7
    replace ho7 := l7 _ _ ho7
    replace h7 := l7 _ _ h7
    replace g7 := l7 _ _ g7
    replace k7 := l7 _ _ k7
    obtain ⟨da, cpa⟩ := CountAt.up (e9.trans e10) cpa
    obtain ⟨db, cpb⟩ := CountAt.up e10 cpb
    obtain ⟨dc, cpc⟩ := cpc
    clear e8 e9 e10
    have EZ : Same A10 A10 := Same.refl A10
    refine e_call (by exact FI) (by exact hr) (by decide) ?_
    walk_at "sts"
    refine ⟨pa, _, _, _, _, _, _, _, rfl, ⟨_, EZ _ _ cpa⟩, ⟨t1, rfl, EZ _ _ h7⟩, rfl, rfl, rfl, fun H1 e1 => ?_⟩
    have E1 := Same.trans EZ e1
    walk_at "sts"
    refine e_call (by exact FI) (by exact hr) (by decide) ?_
    walk_at "sts"
    refine ⟨pb, _, _, _, _, _, _, _, rfl, ⟨_, E1 _ _ cpb⟩, ⟨t2, rfl, E1 _ _ g7⟩, rfl, rfl, rfl, fun H2 e2 => ?_⟩
    have E2 := Same.trans E1 e2
    walk_at "sts"
    refine e_call (by exact FI) (by exact hr) (by decide) ?_
    walk_at "sts"
    refine ⟨pc, _, _, _, _, _, _, _, rfl, ⟨_, E2 _ _ cpc⟩, ⟨t3, rfl, E2 _ _ k7⟩, rfl, rfl, rfl, fun H3 e3 => ?_⟩
    have E3 := Same.trans E2 e3
    walk_at "sts"
    refine e_call (by exact FR) (by exact hr) (by decide) ?_
    walk_at "sts"
    refine ⟨pa, pb, _, _, _, _, _, _, _, _, rfl, ⟨_, E3 _ _ cpa⟩, ⟨_, E3 _ _ cpb⟩, ⟨t1, rfl, E3 _ _ h7⟩, ⟨t2, rfl, E3 _ _ g7⟩, fun H4 e4 => ?_⟩
    have E4 := Same.trans E3 e4
    walk_at "sts"
    refine e_call (by exact FR) (by exact hr) (by decide) ?_
    walk_at "sts"
    refine ⟨pb, pc, _, _, _, _, _, _, _, _, rfl, ⟨_, E4 _ _ cpb⟩, ⟨_, E4 _ _ cpc⟩, ⟨t2, rfl, E4 _ _ g7⟩, ⟨t3, rfl, E4 _ _ k7⟩, fun H5 e5 => ?_⟩
    have E5 := Same.trans E4 e5
    walk_at "sts"
    refine e_call (by exact FR) (by exact hr) (by decide) ?_
    walk_at "sts"
    refine ⟨pa, pa, _, _, _, _, _, _, _, _, rfl, ⟨_, E5 _ _ cpa⟩, ⟨_, E5 _ _ cpa⟩, ⟨t1, rfl, E5 _ _ h7⟩, ⟨t1, rfl, E5 _ _ h7⟩, fun H6 e6 => ?_⟩
    have E6 := Same.trans E5 e6
    walk_at "sts"
    refine e_call (by exact FP) (by exact hr) (by decide) ?_
    walk_at "sts"
    refine e_call (by exact FP) (by exact hr) (by decide) ?_
    walk_at "sts"
    refine ⟨_, _, _, _, _, _, _, _, rfl, ⟨t1, rfl, E6 _ _ h7⟩, ⟨t2, rfl, E6 _ _ g7⟩, fun t7 H7 e7 q7 => ?_⟩
    have E7 := Same.trans E6 e7
    walk_at "sts"
    refine ⟨_, _, _, _, _, _, _, _, rfl, q7, ⟨t3, rfl, E7 _ _ k7⟩, fun t8 H8 e8 q8 => ?_⟩
    have E8 := Same.trans E7 e8
    walk_at "sts"
    refine e_call (by exact FI) (by exact hr) (by decide) ?_
    walk_at "sts"
    refine o_own (by exact OA) (by exact hr) (by decide) (by exact E8 _ _ cpa) (by exact E8 _ _ cpb) ?_
    refine ⟨pa, pb, _, _, _, _, _, _, rfl, ⟨_, E8 _ _ cpa⟩, ⟨_, E8 _ _ cpb⟩, fun u9 H9 e9 c9 => ⟨⟨u9, rfl⟩, ?_⟩⟩
    obtain ⟨d9, c9⟩ := c9
    have E9 := Same.trans E8 e9
    walk_at "sts"
    refine o_own (by exact OA) (by exact hr) (by decide) (by exact c9) (by exact E9 _ _ cpc) ?_
    refine ⟨u9, pc, _, _, _, _, _, _, rfl, ⟨_, c9⟩, ⟨_, E9 _ _ cpc⟩, fun u10 H10 e10 c10 => ⟨⟨u10, rfl⟩, ?_⟩⟩
    obtain ⟨d10, c10⟩ := c10
    have E10 := Same.trans E9 e10
    walk_at "sts"
    refine ⟨u10, _, _, _, _, _, _, _, rfl, ⟨_, c10⟩, (Tri.up e10 (Tri.up e9 q8)), rfl, rfl, rfl, fun H11 e11 => ?_⟩
    have E11 := Same.trans E10 e11
    walk_at "sts"
    refine e_call (by exact FI) (by exact hr) (by decide) ?_
    walk_at "sts"
    refine o_own (by exact OA) (by exact hr) (by decide) (by exact E11 _ _ cpb) (by exact E11 _ _ cpc) ?_
    refine ⟨pb, pc, _, _, _, _, _, _, rfl, ⟨_, E11 _ _ cpb⟩, ⟨_, E11 _ _ cpc⟩, fun u12 H12 e12 c12 => ⟨⟨u12, rfl⟩, ?_⟩⟩
    obtain ⟨d12, c12⟩ := c12
    have E12 := Same.trans E11 e12
    walk_at "sts"
    refine o_own (by exact OA) (by exact hr) (by decide) (by exact E12 _ _ cpa) (by exact c12) ?_
    refine ⟨pa, u12, _, _, _, _, _, _, rfl, ⟨_, E12 _ _ cpa⟩, ⟨_, c12⟩, fun u13 H13 e13 c13 => ⟨⟨u13, rfl⟩, ?_⟩⟩
    obtain ⟨d13, c13⟩ := c13
    have E13 := Same.trans E12 e13
    walk_at "sts"
    refine ⟨u13, _, _, _, _, _, _, _, rfl, ⟨_, c13⟩, (Tri.up e13 (Tri.up e12 (Tri.up e11 (Tri.up e10 (Tri.up e9 q8))))), (Int.add_assoc _ _ _).symm, (Int.add_assoc _ _ _).symm, (mx_assoc _ _ _).symm, fun H14 e14 => ?_⟩
    have E14 := Same.trans E13 e14
    walk_at "sts"
    refine e_call (by exact FE) (by exact hr) (by decide) ?_
    walk_at "sts"
    refine e_call (by exact FE) (by exact hr) (by decide) ?_
    walk_at "sts"
    refine ⟨_, _, _, _, _, _, _, _, rfl, ⟨t1, rfl, E14 _ _ h7⟩, ⟨t2, rfl, E14 _ _ g7⟩, fun t15 H15 e15 q15 => ?_⟩
    have E15 := Same.trans E14 e15
    walk_at "sts"
    refine ⟨_, _, _, _, _, _, _, _, rfl, q15, ⟨t3, rfl, E15 _ _ k7⟩, fun t16 H16 e16 q16 => ?_⟩
    have E16 := Same.trans E15 e16
    walk_at "sts"
    refine e_call (by exact FI) (by exact hr) (by decide) ?_
    walk_at "sts"
    refine o_own (by exact OR) (by exact hr) (by decide) (by exact E16 _ _ cpa) (by exact E16 _ _ cpb) ?_
    refine ⟨pa, pb, _, _, _, _, _, _, rfl, ⟨_, E16 _ _ cpa⟩, ⟨_, E16 _ _ cpb⟩, fun u17 H17 e17 c17 => ⟨⟨u17, rfl⟩, ?_⟩⟩
    obtain ⟨d17, c17⟩ := c17
    have E17 := Same.trans E16 e17
    walk_at "sts"
    refine o_own (by exact OR) (by exact hr) (by decide) (by exact c17) (by exact E17 _ _ cpc) ?_
    refine ⟨u17, pc, _, _, _, _, _, _, rfl, ⟨_, c17⟩, ⟨_, E17 _ _ cpc⟩, fun u18 H18 e18 c18 => ⟨⟨u18, rfl⟩, ?_⟩⟩
    obtain ⟨d18, c18⟩ := c18
    have E18 := Same.trans E17 e18
    walk_at "sts"
    refine ⟨u18, _, _, _, _, _, _, _, rfl, ⟨_, c18⟩, (Tri.up e18 (Tri.up e17 q16)), rfl, rfl, rfl, fun H19 e19 => ?_⟩
    have E19 := Same.trans E18 e19
    walk_at "sts"
    refine e_call (by exact FI) (by exact hr) (by decide) ?_
    walk_at "sts"
    refine o_own (by exact OR) (by exact hr) (by decide) (by exact E19 _ _ cpb) (by exact E19 _ _ cpc) ?_
    refine ⟨pb, pc, _, _, _, _, _, _, rfl, ⟨_, E19 _ _ cpb⟩, ⟨_, E19 _ _ cpc⟩, fun u20 H20 e20 c20 => ⟨⟨u20, rfl⟩, ?_⟩⟩
    obtain ⟨d20, c20⟩ := c20
    have E20 := Same.trans E19 e20
    walk_at "sts"
    refine o_own (by exact OR) (by exact hr) (by decide) (by exact E20 _ _ cpa) (by exact c20) ?_
    refine ⟨pa, u20, _, _, _, _, _, _, rfl, ⟨_, E20 _ _ cpa⟩, ⟨_, c20⟩, fun u21 H21 e21 c21 => ⟨⟨u21, rfl⟩, ?_⟩⟩
    obtain ⟨d21, c21⟩ := c21
    have E21 := Same.trans E20 e21
    walk_at "sts"
    refine ⟨u21, _, _, _, _, _, _, _, rfl, ⟨_, c21⟩, (Tri.up e21 (Tri.up e20 (Tri.up e19 (Tri.up e18 (Tri.up e17 q16))))), (mn_assoc _ _ _).symm, (mx_assoc _ _ _).symm, (mx_assoc _ _ _).symm, fun H22 e22 => ?_⟩
    have E22 := Same.trans E21 e22
    walk_at "sts"
    refine e_call (by exact FX) (by exact hr) (by decide) ?_
    walk_at "sts"
    refine ⟨pa, pb, _, _, ti, to, _, _, _, _, _, _, _, _, _, _, rfl, ⟨_, E22 _ _ cpa⟩, ⟨_, E22 _ _ cpb⟩, ⟨t1, rfl, E22 _ _ h7⟩, ⟨t2, rfl, E22 _ _ g7⟩, E22 _ _ hi7, E22 _ _ ho7, s1, s2, s3, s4, fun H23 e23 => ?_⟩
    have E23 := Same.trans E22 e23
    walk_at "sts"
    refine e_call (by exact FX) (by exact hr) (by decide) ?_
    walk_at "sts"
    refine ⟨pc, pa, _, _, to, ti, _, _, _, _, _, _, _, _, _, _, rfl, ⟨_, E23 _ _ cpc⟩, ⟨_, E23 _ _ cpa⟩, ⟨t3, rfl, E23 _ _ k7⟩, ⟨t1, rfl, E23 _ _ h7⟩, E23 _ _ ho7, E23 _ _ hi7, s3, s4, s1, s2, fun H24 e24 => ?_⟩
    have E24 := Same.trans E23 e24
    walk_at "sts"
    refine s_forL ?_
    walk_at "sts"
    refine ix_t (by exact SqT.of (E24 _ _ hi7)) rfl ?_
    walk_at "sts"
    refine ix_t (by exact SqT.of (E24 _ _ ho7)) rfl ?_
    walk_at "sts"
    refine o_mul (.inl ⟨by omega, by omega⟩) ?_
    walk_at "sts"
    refine ix_t (by exact SqT.of (E24 _ _ hi7)) rfl ?_
    walk_at "sts"
    refine ix_t (by exact SqT.of (E24 _ _ ho7)) rfl ?_
    walk_at "sts"
    refine ⟨by show 2 ≤ sizeLine; decide, fun tb H25 e25 _ hb => ?_⟩
    have E25 := Same.trans E24 e25
    walk_at "sts"
    refine ⟨by show 4 ≤ sizeLine; decide, fun l H26 e26 _ hl => ?_⟩
    have E26 := Same.trans E25 e26
    have hbl := e26 _ _ hb
    have hil := E26 _ _ hi7
    have hol := E26 _ _ ho7
    refine ⟨l, _, rfl, SqL.of hl, fun j σ H' => ∃ y, σ = [some (.ref sa), some (.ref p), some (.ref ti), some (.ref to), some (.ref t1), some (.ref t2), some (.ref t3), some (.ref pa), some (.ref pb), some (.ref pc), some t16, y] ∧ Same H26 H', ⟨_, rfl, Same.refl _⟩, fun j σ H' _ hW => ?_, fun j el σ H' hj hW => ?_, fun σ H' hW => ?_⟩
    · obtain ⟨y, rfl, ew⟩ := hW
      exact SqL.of (ew _ _ hl)
    · obtain ⟨y0, rfl, ew⟩ := hW
      obtain ⟨kk, hm⟩ := modes4 (ew _ _ hil) (ew _ _ hol) (ew _ _ hbl) hj
      walk_at "sts"
      refine e_call (by exact FKe) (by exact hr) (by decide) ?_
      walk_at "sts"
      refine ⟨pa, _, _, kk, _, _, _, rfl, ⟨_, (Same.trans E26 ew) _ _ cpa⟩, ⟨t1, rfl, (Same.trans E26 ew) _ _ h7⟩, hm, ?_⟩
      walk_at "sts"
      refine e_call (by exact FKe) (by exact hr) (by decide) ?_
      walk_at "sts"
      refine ⟨pb, _, _, kk, _, _, _, rfl, ⟨_, (Same.trans E26 ew) _ _ cpb⟩, ⟨t2, rfl, (Same.trans E26 ew) _ _ g7⟩, hm, ?_⟩
      walk_at "sts"
      refine e_call (by exact FKe) (by exact hr) (by decide) ?_
      walk_at "sts"
      refine ⟨pc, _, _, kk, _, _, _, rfl, ⟨_, (Same.trans E26 ew) _ _ cpc⟩, ⟨t3, rfl, (Same.trans E26 ew) _ _ k7⟩, hm, ?_⟩
      walk_at "sts"
      refine e_call (by exact FKe) (by exact hr) (by decide) ?_
      walk_at "sts"
      refine e_meth (pl := _) (by exact FB) (by exact hr) (by decide) ?_
      walk_at "sts"
      refine ⟨pa, _, _, rfl, (Same.trans E26 ew) _ _ cpa, flds_no _ _ _ (by decide +kernel) (by decide +kernel) (by decide +kernel), ?_⟩
      walk_at "sts"
      refine ⟨pa, _, some (x, y), _, _, _, rfl, ⟨_, (Same.trans E26 ew) _ _ cpa⟩, ⟨to, rfl, ew _ _ hol⟩, sO, fun uu G1 g1 cu => ?_⟩
      walk_at "sts"
      refine e_call (by exact FPk) (by exact hr) (by decide) ?_
      walk_at "sts"
      refine ⟨_, _, some (x, y), _, _, _, rfl, ⟨t1, rfl, g1 _ _ ((Same.trans E26 ew) _ _ h7)⟩, ⟨to, rfl, g1 _ _ (ew _ _ hol)⟩, sO, fun tt G2 g2 cq => ?_⟩
      walk_at "sts"
      refine ⟨uu, _, _, kk, _, _, _, rfl, CountAt.up g2 cu, cq, ModeV.up (g1.trans g2) hm, ?_⟩
      walk_at "sts"
      exact (ew.trans g1).trans g2
    · obtain ⟨y0, rfl, ew⟩ := hW
      have EW := Same.trans E26 ew
      walk_at "sts"
      refine e_call (by exact FI) (by exact hr) (by decide) ?_
      walk_at "sts"
      refine ⟨pa, _, _, _, _, _, _, _, rfl, ⟨_, EW _ _ cpa⟩, ⟨t1, rfl, EW _ _ h7⟩, rfl, rfl, rfl, fun G0 g0 => ?_⟩
      have EW0 := Same.trans EW g0
      walk_at "sts"
      refine e_call (by exact FI) (by exact hr) (by decide) ?_
      walk_at "sts"
      refine ⟨pb, _, _, _, _, _, _, _, rfl, ⟨_, EW0 _ _ cpb⟩, ⟨t2, rfl, EW0 _ _ g7⟩, rfl, rfl, rfl, fun G1 g1 => ?_⟩
      have EW1 := Same.trans EW0 g1
      walk_at "sts"
      refine e_call (by exact FI) (by exact hr) (by decide) ?_
      walk_at "sts"
      refine ⟨pc, _, _, _, _, _, _, _, rfl, ⟨_, EW1 _ _ cpc⟩, ⟨t3, rfl, EW1 _ _ k7⟩, rfl, rfl, rfl, fun G2 g2 => ?_⟩
      have EW2 := Same.trans EW1 g2
      exact q G2
end

section
theorem all_mk {l : PySem.W.OpenLaw} {w : World} {K : PySem.W.Frag} {h : Heap} {mg : Str → Option Value} {fa : Addr} (X : K.In h) (G : h.Ns mainGlobals mg) (hfa : mg "law" = some (.ref fa))
    {f0 : Addr} {od0 an0 : Option Addr} {sl0 : Array (Option Value)} {oc0 kV0 dc0 pm0 cd0 ct0 : Value}
    {f1 : Addr} {od1 an1 : Option Addr} {sl1 : Array (Option Value)} {oc1 kV1 dc1 pm1 cd1 ct1 : Value}
    {f2 : Addr} {od2 an2 : Option Addr} {sl2 : Array (Option Value)} {oc2 kV2 dc2 pm2 cd2 ct2 : Value}
    {f3 : Addr} {od3 an3 : Option Addr} {sl3 : Array (Option Value)} {oc3 kV3 dc3 pm3 cd3 ct3 : Value}
    {f4 : Addr} {od4 an4 : Option Addr} {sl4 : Array (Option Value)} {oc4 kV4 dc4 pm4 cd4 ct4 : Value}
    {f5 : Addr} {od5 an5 : Option Addr} {sl5 : Array (Option Value)} {oc5 kV5 dc5 pm5 cd5 ct5 : Value}
    {f6 : Addr} {od6 an6 : Option Addr} {sl6 : Array (Option Value)} {oc6 kV6 dc6 pm6 cd6 ct6 : Value}
    {f7 : Addr} {od7 an7 : Option Addr} {sl7 : Array (Option Value)} {oc7 kV7 dc7 pm7 cd7 ct7 : Value}
    {f8 : Addr} {od8 an8 : Option Addr} {sl8 : Array (Option Value)} {oc8 kV8 dc8 pm8 cd8 ct8 : Value}
    {f9 : Addr} {od9 an9 : Option Addr} {sl9 : Array (Option Value)} {oc9 kV9 dc9 pm9 cd9 ct9 : Value}
    {f10 : Addr} {od10 an10 : Option Addr} {sl10 : Array (Option Value)} {oc10 kV10 dc10 pm10 cd10 ct10 : Value}
    {f11 : Addr} {od11 an11 : Option Addr} {sl11 : Array (Option Value)} {oc11 kV11 dc11 pm11 cd11 ct11 : Value}
    {f12 : Addr} {od12 an12 : Option Addr} {sl12 : Array (Option Value)} {oc12 kV12 dc12 pm12 cd12 ct12 : Value}
    {f13 : Addr} {od13 an13 : Option Addr} {sl13 : Array (Option Value)} {oc13 kV13 dc13 pm13 cd13 ct13 : Value}
    {f14 : Addr} {od14 an14 : Option Addr} {sl14 : Array (Option Value)} {oc14 kV14 dc14 pm14 cd14 ct14 : Value}
    {C : Addr}
    {f15 : Addr} {od15 an15 : Option Addr} {sl15 : Array (Option Value)} {oc15 kV15 dc15 pm15 cd15 ct15 : Value}
    {f16 : Addr} {od16 an16 : Option Addr} {sl16 : Array (Option Value)} {oc16 kV16 dc16 pm16 cd16 ct16 : Value}
    {f17 : Addr} {od17 an17 : Option Addr} {sl17 : Array (Option Value)} {oc17 kV17 dc17 pm17 cd17 ct17 : Value}
    {f18 : Addr} {od18 an18 : Option Addr} {sl18 : Array (Option Value)} {oc18 kV18 dc18 pm18 cd18 ct18 : Value}
    {f19 : Addr} {od19 an19 : Option Addr} {sl19 : Array (Option Value)} {oc19 kV19 dc19 pm19 cd19 ct19 : Value}
    {f20 : Addr} {od20 an20 : Option Addr} {sl20 : Array (Option Value)} {oc20 kV20 dc20 pm20 cd20 ct20 : Value}
    (a0 : PySem.W.nsIn K mainGlobals "_law_cell" = some (some (.ref f0)))
    (l0 : K.lookup f0 = some ⟨oc0, od0, .func (PySem.W.fnOf "_law_cell" "_law_cell" (defArgs s_cell) (defBody s_cell) (defScope s_cell) .none kV0 dc0 pm0 an0 cd0 ct0), sl0⟩)
    (c0 : PySem.W.codeIn K cd0 "_law_cell" = true)
    (k0 : PySem.W.keepIn K (.ref f0) = true)
    (a1 : PySem.W.nsIn K mainGlobals "_law_pool" = some (some (.ref f1)))
    (l1 : K.lookup f1 = some ⟨oc1, od1, .func (PySem.W.fnOf "_law_pool" "_law_pool" (defArgs s_pool) (defBody s_pool) (defScope s_pool) .none kV1 dc1 pm1 an1 cd1 ct1), sl1⟩)
    (c1 : PySem.W.codeIn K cd1 "_law_pool" = true)
    (k1 : PySem.W.keepIn K (.ref f1) = true)
    (a2 : PySem.W.nsIn K mainGlobals "_law_next" = some (some (.ref f2)))
    (l2 : K.lookup f2 = some ⟨oc2, od2, .func (PySem.W.fnOf "_law_next" "_law_next" (defArgs s_next) (defBody s_next) (defScope s_next) .none kV2 dc2 pm2 an2 cd2 ct2), sl2⟩)
    (c2 : PySem.W.codeIn K cd2 "_law_next" = true)
    (k2 : PySem.W.keepIn K (.ref f2) = true)
    (a3 : PySem.W.nsIn K mainGlobals "_law_is_number" = some (some (.ref f3)))
    (l3 : K.lookup f3 = some ⟨oc3, od3, .func (PySem.W.fnOf "_law_is_number" "_law_is_number" (defArgs s_is_number) (defBody s_is_number) (defScope s_is_number) .none kV3 dc3 pm3 an3 cd3 ct3), sl3⟩)
    (c3 : PySem.W.codeIn K cd3 "_law_is_number" = true)
    (k3 : PySem.W.keepIn K (.ref f3) = true)
    (a4 : PySem.W.nsIn K mainGlobals "_law_same" = some (some (.ref f4)))
    (l4 : K.lookup f4 = some ⟨oc4, od4, .func (PySem.W.fnOf "_law_same" "_law_same" (defArgs s_same) (defBody s_same) (defScope s_same) .none kV4 dc4 pm4 an4 cd4 ct4), sl4⟩)
    (c4 : PySem.W.codeIn K cd4 "_law_same" = true)
    (k4 : PySem.W.keepIn K (.ref f4) = true)
    (a5 : PySem.W.nsIn K mainGlobals "_law_stock" = some (some (.ref f5)))
    (l5 : K.lookup f5 = some ⟨oc5, od5, .func (PySem.W.fnOf "_law_stock" "_law_stock" (defArgs s_stock) (defBody s_stock) (defScope s_stock) .none kV5 dc5 pm5 an5 cd5 ct5), sl5⟩)
    (c5 : PySem.W.codeIn K cd5 "_law_stock" = true)
    (k5 : PySem.W.keepIn K (.ref f5) = true)
    (a6 : PySem.W.nsIn K mainGlobals "_law_triple" = some (some (.ref f6)))
    (l6 : K.lookup f6 = some ⟨oc6, od6, .func (PySem.W.fnOf "_law_triple" "_law_triple" (defArgs s_triple) (defBody s_triple) (defScope s_triple) .none kV6 dc6 pm6 an6 cd6 ct6), sl6⟩)
    (c6 : PySem.W.codeIn K cd6 "_law_triple" = true)
    (k6 : PySem.W.keepIn K (.ref f6) = true)
    (a7 : PySem.W.nsIn K mainGlobals "_law_is" = some (some (.ref f7)))
    (l7 : K.lookup f7 = some ⟨oc7, od7, .func (PySem.W.fnOf "_law_is" "_law_is" (defArgs s_is) (defBody s_is) (defScope s_is) .none kV7 dc7 pm7 an7 cd7 ct7), sl7⟩)
    (c7 : PySem.W.codeIn K cd7 "_law_is" = true)
    (k7 : PySem.W.keepIn K (.ref f7) = true)
    (a8 : PySem.W.nsIn K mainGlobals "_law_plus" = some (some (.ref f8)))
    (l8 : K.lookup f8 = some ⟨oc8, od8, .func (PySem.W.fnOf "_law_plus" "_law_plus" (defArgs s_plus) (defBody s_plus) (defScope s_plus) .none kV8 dc8 pm8 an8 cd8 ct8), sl8⟩)
    (c8 : PySem.W.codeIn K cd8 "_law_plus" = true)
    (k8 : PySem.W.keepIn K (.ref f8) = true)
    (a9 : PySem.W.nsIn K mainGlobals "_law_either" = some (some (.ref f9)))
    (l9 : K.lookup f9 = some ⟨oc9, od9, .func (PySem.W.fnOf "_law_either" "_law_either" (defArgs s_either) (defBody s_either) (defScope s_either) .none kV9 dc9 pm9 an9 cd9 ct9), sl9⟩)
    (c9 : PySem.W.codeIn K cd9 "_law_either" = true)
    (k9 : PySem.W.keepIn K (.ref f9) = true)
    (a10 : PySem.W.nsIn K mainGlobals "_law_packed" = some (some (.ref f10)))
    (l10 : K.lookup f10 = some ⟨oc10, od10, .func (PySem.W.fnOf "_law_packed" "_law_packed" (defArgs s_packed) (defBody s_packed) (defScope s_packed) .none kV10 dc10 pm10 an10 cd10 ct10), sl10⟩)
    (c10 : PySem.W.codeIn K cd10 "_law_packed" = true)
    (k10 : PySem.W.keepIn K (.ref f10) = true)
    (a11 : PySem.W.nsIn K mainGlobals "_law_kept" = some (some (.ref f11)))
    (l11 : K.lookup f11 = some ⟨oc11, od11, .func (PySem.W.fnOf "_law_kept" "_law_kept" (defArgs s_kept) (defBody s_kept) (defScope s_kept) .none kV11 dc11 pm11 an11 cd11 ct11), sl11⟩)
    (c11 : PySem.W.codeIn K cd11 "_law_kept" = true)
    (k11 : PySem.W.keepIn K (.ref f11) = true)
    (a12 : PySem.W.nsIn K mainGlobals "_law_pair" = some (some (.ref f12)))
    (l12 : K.lookup f12 = some ⟨oc12, od12, .func (PySem.W.fnOf "_law_pair" "_law_pair" (defArgs s_pair) (defBody s_pair) (defScope s_pair) .none kV12 dc12 pm12 an12 cd12 ct12), sl12⟩)
    (c12 : PySem.W.codeIn K cd12 "_law_pair" = true)
    (k12 : PySem.W.keepIn K (.ref f12) = true)
    (a13 : PySem.W.nsIn K mainGlobals "_law_boxes" = some (some (.ref f13)))
    (l13 : K.lookup f13 = some ⟨oc13, od13, .func (PySem.W.fnOf "_law_boxes" "_law_boxes" (defArgs s_boxes) (defBody s_boxes) (defScope s_boxes) .none kV13 dc13 pm13 an13 cd13 ct13), sl13⟩)
    (c13 : PySem.W.codeIn K cd13 "_law_boxes" = true)
    (k13 : PySem.W.keepIn K (.ref f13) = true)
    (a14 : PySem.W.nsIn K mainGlobals "law" = some (some (.ref f14)))
    (l14 : K.lookup f14 = some ⟨oc14, od14, .func (PySem.W.fnOf "law" "law" (defArgs s_law) (defBody s_law) (defScope s_law) .none kV14 dc14 pm14 an14 cd14 ct14), sl14⟩)
    (c14 : PySem.W.codeIn K cd14 "law" = true)
    (k14 : PySem.W.keepIn K (.ref f14) = true)
    (aC : PySem.W.nsIn K mainGlobals "Count" = some (some (.ref C)))
    (a15 : PySem.W.findIn K (.ref C) "__init__" = some (some (.ref f15)))
    (i15 : PySem.W.isFn K (.ref f15) = true)
    (l15 : K.lookup f15 = some ⟨oc15, od15, .func (PySem.W.fnOf "__init__" "Count.__init__" (defArgs s_Count___init) (defBody s_Count___init) (defScope s_Count___init) .none kV15 dc15 pm15 an15 cd15 ct15), sl15⟩)
    (c15 : PySem.W.codeIn K cd15 "Count.__init__" = true)
    (k15 : PySem.W.keepIn K (.ref f15) = true)
    (a16 : PySem.W.findIn K (.ref C) "__add__" = some (some (.ref f16)))
    (i16 : PySem.W.isFn K (.ref f16) = true)
    (l16 : K.lookup f16 = some ⟨oc16, od16, .func (PySem.W.fnOf "__add__" "Count.__add__" (defArgs s_Count___add) (defBody s_Count___add) (defScope s_Count___add) .none kV16 dc16 pm16 an16 cd16 ct16), sl16⟩)
    (c16 : PySem.W.codeIn K cd16 "Count.__add__" = true)
    (k16 : PySem.W.keepIn K (.ref f16) = true)
    (a17 : PySem.W.findIn K (.ref C) "__or__" = some (some (.ref f17)))
    (i17 : PySem.W.isFn K (.ref f17) = true)
    (l17 : K.lookup f17 = some ⟨oc17, od17, .func (PySem.W.fnOf "__or__" "Count.__or__" (defArgs s_Count___or) (defBody s_Count___or) (defScope s_Count___or) .none kV17 dc17 pm17 an17 cd17 ct17), sl17⟩)
    (c17 : PySem.W.codeIn K cd17 "Count.__or__" = true)
    (k17 : PySem.W.keepIn K (.ref f17) = true)
    (a18 : PySem.W.findIn K (.ref C) "boxed" = some (some (.ref f18)))
    (i18 : PySem.W.isFn K (.ref f18) = true)
    (l18 : K.lookup f18 = some ⟨oc18, od18, .func (PySem.W.fnOf "boxed" "Count.boxed" (defArgs s_Count_boxed) (defBody s_Count_boxed) (defScope s_Count_boxed) .none kV18 dc18 pm18 an18 cd18 ct18), sl18⟩)
    (c18 : PySem.W.codeIn K cd18 "Count.boxed" = true)
    (k18 : PySem.W.keepIn K (.ref f18) = true)
    (a19 : PySem.W.findIn K (.ref C) "fits" = some (some (.ref f19)))
    (i19 : PySem.W.isFn K (.ref f19) = true)
    (l19 : K.lookup f19 = some ⟨oc19, od19, .func (PySem.W.fnOf "fits" "Count.fits" (defArgs s_Count_fits) (defBody s_Count_fits) (defScope s_Count_fits) .none kV19 dc19 pm19 an19 cd19 ct19), sl19⟩)
    (c19 : PySem.W.codeIn K cd19 "Count.fits" = true)
    (k19 : PySem.W.keepIn K (.ref f19) = true)
    (a20 : PySem.W.findIn K (.ref C) "triple" = some (some (.ref f20)))
    (i20 : PySem.W.isFn K (.ref f20) = true)
    (l20 : K.lookup f20 = some ⟨oc20, od20, .func (PySem.W.fnOf "triple" "Count.triple" (defArgs s_Count_triple) (defBody s_Count_triple) (defScope s_Count_triple) .none kV20 dc20 pm20 an20 cd20 ct20), sl20⟩)
    (c20 : PySem.W.codeIn K cd20 "Count.triple" = true)
    (k20 : PySem.W.keepIn K (.ref f20) = true)
    (pg : PySem.W.plainGet K C Str.empty = true)
    (hd : PySem.W.hasDictIn K C = true)
    (po : PySem.W.plainOver K C = true)
    (sa : PySem.W.findIn K (.ref C) "__setattr__" = some (some (.builtin "object.__setattr__")))
    (mks : PySem.W.makesIn K C = true)
    (kC : PySem.W.keepIn K (.ref C) = true)
    (nL : PySem.W.findIn K (.ref C) "least" = some none)
    (nM : PySem.W.findIn K (.ref C) "most" = some none)
    (nD : PySem.W.findIn K (.ref C) "days" = some none)
    (sf : PySem.W.selfFirst K C = true)
    (ha : PySem.W.findIn K (.ref C) "__class__" = some (some (.builtin "object.__class__")))
    (hn : PySem.W.specialIn K (.builtin "object.__class__") "__get__" = some (some (.builtin "getset_descriptor.__get__")))
    (htk : PySem.W.takesIn K (.builtin "object.__class__") = some true)
    (hm : PySem.W.mroIn K C (.type "object") = some true)
    (z_isinstance : PySem.W.nsIn K mainGlobals "isinstance" = some none)
    (z_int : PySem.W.nsIn K mainGlobals "int" = some none)
    (z_bool : PySem.W.nsIn K mainGlobals "bool" = some none)
    (z_str : PySem.W.nsIn K mainGlobals "str" = some none)
    (z_tuple : PySem.W.nsIn K mainGlobals "tuple" = some none)
    (z_list : PySem.W.nsIn K mainGlobals "list" = some none)
    (z_len : PySem.W.nsIn K mainGlobals "len" = some none)
    (z_range : PySem.W.nsIn K mainGlobals "range" = some none)
    (z_abs : PySem.W.nsIn K mainGlobals "abs" = some none)
    (z_max : PySem.W.nsIn K mainGlobals "max" = some none)
    (z_min : PySem.W.nsIn K mainGlobals "min" = some none) :
    ∃ fd : FuncData, (∀ (s : Shared) (v : Value), BindsTo s fd ⟨[v], []⟩ [("_law_script", v)]) ∧ ∀ base : Heap, K.In base → base.Ns mainGlobals mg → FnOk l.prog w K mg base CX0 6 fa fd ["_law_script"] (spLaw K) := by
  have e := hfa.symm.trans (PySem.W.mg_of X G a14)
  cases e
  have B : BOk mg := ⟨(PySem.W.mg_none_of X G z_isinstance), (PySem.W.mg_none_of X G z_int), (PySem.W.mg_none_of X G z_bool), (PySem.W.mg_none_of X G z_str), (PySem.W.mg_none_of X G z_tuple), (PySem.W.mg_none_of X G z_list), (PySem.W.mg_none_of X G z_len), (PySem.W.mg_none_of X G z_range), (PySem.W.mg_none_of X G z_abs), (PySem.W.mg_none_of X G z_max), (PySem.W.mg_none_of X G z_min)⟩
  have CL : Cls K C := ⟨pg, hd, po, sa⟩
  have O : ClsOk K mg C := ⟨CL, nL, nM, nD, mks, kC, sf, ⟨CL, ha, hn, htk, hm, by unfold PySem.W.kitOne; simp⟩, PySem.W.mg_of X G aC⟩
  have FL := fun_mk (st := s_law) l14 c14 k14
  refine ⟨PySem.W.fnOf "law" "law" (defArgs s_law) (defBody s_law) (defScope s_law) .none kV14 dc14 pm14 an14 cd14 ct14, fun s v => .of_eq rfl, fun base _ _ => ?_⟩
  have Fcell : Fn l.prog w K mg base 1 "_law_cell" (spCell K) := ok_cell (top_mk X G a0 l0 c0 k0) B.len B.abs
  have Fpool := ok_pool (top_mk X G a1 l1 c1 k1) Fcell B.int
  have Fnext : Fn l.prog w K mg base 1 "_law_next" spNext := ok_next (top_mk X G a2 l2 c2 k2) B.int
  have Fstock := ok_stock (top_mk X G a5 l5 c5 k5) Fnext
  have Ftriple := ok_triple (top_mk X G a6 l6 c6 k6) Fnext B.max
  have Fplus : Fn l.prog w K mg base 1 "_law_plus" (spTwo (· + ·) (· + ·) mx) := ok_plus (top_mk X G a8 l8 c8 k8) B.max
  have Feither : Fn l.prog w K mg base 1 "_law_either" (spTwo mn mx mx) := ok_either (top_mk X G a9 l9 c9 k9) B.max B.min
  have Fpacked : Fn l.prog w K mg base 1 "_law_packed" spPacked := ok_packed (top_mk X G a10 l10 c10 k10)
  have Fnum : Fn l.prog w K mg base 1 "_law_is_number" spNum := ok_num (top_mk X G a3 l3 c3 k3) B
  have Fs0 := ok_same0 (top_mk X G a4 l4 c4 k4) B Fnum
  have Fs1 := ok_same1 (top_mk X G a4 l4 c4 k4) B Fs0
  have KC : Kl l.prog w K mg base 1 "Count" C (spInit C) := ok_init (topM_mk a15 i15 l15 c15 k15) O
  have OA := ok_add (topM_mk a16 i16 l16 c16 k16) O KC B.max
  have OR := ok_or (topM_mk a17 i17 l17 c17 k17) O KC B.max B.min
  have MB := ok_boxed (topM_mk a18 i18 l18 c18 k18) O KC
  have MF : Mt l.prog w K mg base 1 C "fits" (spFits C) := ok_fits (topM_mk a19 i19 l19 c19 k19) O
  have MT : Mt l.prog w K mg base 1 C "triple" (spTri C) := ok_tri (topM_mk a20 i20 l20 c20 k20) O
  have Fis := ok_is (top_mk X G a7 l7 c7 k7) B O Fs1 MT
  have Fkept := ok_kept (top_mk X G a11 l11 c11 k11) B O MF
  have Fpair := ok_pair (top_mk X G a12 l12 c12 k12) Fis Fplus Feither OA OR
  have Fboxes := ok_boxes (top_mk X G a13 l13 c13 k13) Fis Fplus Feither Fpacked MB OA OR
  exact ok_law FL Fpool Fstock Ftriple KC Fis Fplus Feither Fpacked MB Fpair Fboxes Fkept OA OR
theorem walk {l : PySem.W.OpenLaw} {q : Program} {loose : List Str} {XP : (Str → Option Value) → Heap → Prop} {YP : World → Heap → Prop} {d : DefRec} {K : Params → PySem.W.Frag} (hn : l.most = some 63) (hdf : d.params.defaults = [])
    (hY : ∀ (w : World) (h : Heap), YP w h → (K w.params).In h)
    (F : ∀ (w : World) (mg : Str → Option Value) (fa : Addr) (h : Heap), (K w.params).In h → h.Ns mainGlobals mg → mg d.name = some (.ref fa) →
      ∃ fd : FuncData, (∀ (s : Shared) (u : Value), BindsTo s fd ⟨[u], []⟩ [("_law_script", u)]) ∧ ∀ base : Heap, (K w.params).In base → base.Ns mainGlobals mg → FnOk l.prog w (K w.params) mg base CX0 6 fa fd ["_law_script"] (spLaw (K w.params))) :
    PySem.W.WalkO q loose XP YP l.row.toRowW d [] (fun f vs => PySem.call f vs) :=
  L2.walk_of (n := 63) (k := 6) (x := "_law_script") (CX := fun _ => CX0) (sp := fun w => spLaw (K w.params)) hn (by decide) hdf ⟨rfl, by decide, by decide⟩ hY F (fun _ _ a ns hl _ hS => ⟨a, ns, rfl, hS, hl, fun _ => rfl⟩) fun _ _ _ _ _ z => z
end
end K06
open PySem PySem.W PyProof.Rows
set_option maxRecDepth 100000 in
set_option maxHeartbeats 0 in
theorem PySem.Challenge.cw_heldproofs_k06_counts_added_holds : PySem.Challenge.rw_heldproofs_k06_counts_added.Holds := by
  w_on; o_law; k_head; (case hw => w_witness2)
  k_fill
  refine K06.walk (l := PySem.Challenge.rw_heldproofs_k06_counts_added) rfl rfl (fun w h Y => PySem.W.kIn_of Y) ?F
  case F =>
    intro w mg fa h KX G hmg
    refine' K06.all_mk KX G hmg ?a0 ?l0 ?c0 ?k0 ?a1 ?l1 ?c1 ?k1 ?a2 ?l2 ?c2 ?k2 ?a3 ?l3 ?c3 ?k3 ?a4 ?l4 ?c4 ?k4 ?a5 ?l5 ?c5 ?k5 ?a6 ?l6 ?c6 ?k6 ?a7 ?l7 ?c7 ?k7 ?a8 ?l8 ?c8 ?k8 ?a9 ?l9 ?c9 ?k9 ?a10 ?l10 ?c10 ?k10 ?a11 ?l11 ?c11 ?k11 ?a12 ?l12 ?c12 ?k12 ?a13 ?l13 ?c13 ?k13 ?a14 ?l14 ?c14 ?k14 ?aC ?a15 ?i15 ?l15 ?c15 ?k15 ?a16 ?i16 ?l16 ?c16 ?k16 ?a17 ?i17 ?l17 ?c17 ?k17 ?a18 ?i18 ?l18 ?c18 ?k18 ?a19 ?i19 ?l19 ?c19 ?k19 ?a20 ?i20 ?l20 ?c20 ?k20 ?pg ?hd ?po ?sa ?mks ?kC ?nL ?nM ?nD ?sf ?ha ?hn ?htk ?hm ?z_isinstance ?z_int ?z_bool ?z_str ?z_tuple ?z_list ?z_len ?z_range ?z_abs ?z_max ?z_min
    (case a0 => k_is)
    (case l0 => k_is)
    (case c0 => k_is)
    (case k0 => k_is)
    (case a1 => k_is)
    (case l1 => k_is)
    (case c1 => k_is)
    (case k1 => k_is)
    (case a2 => k_is)
    (case l2 => k_is)
    (case c2 => k_is)
    (case k2 => k_is)
    (case a3 => k_is)
    (case l3 => k_is)
    (case c3 => k_is)
    (case k3 => k_is)
    (case a4 => k_is)
    (case l4 => k_is)
    (case c4 => k_is)
    (case k4 => k_is)
    (case a5 => k_is)
    (case l5 => k_is)
    (case c5 => k_is)
    (case k5 => k_is)
    (case a6 => k_is)
    (case l6 => k_is)
    (case c6 => k_is)
    (case k6 => k_is)
    (case a7 => k_is)
    (case l7 => k_is)
    (case c7 => k_is)
    (case k7 => k_is)
    (case a8 => k_is)
    (case l8 => k_is)
    (case c8 => k_is)
    (case k8 => k_is)
    (case a9 => k_is)
    (case l9 => k_is)
    (case c9 => k_is)
    (case k9 => k_is)
    (case a10 => k_is)
    (case l10 => k_is)
    (case c10 => k_is)
    (case k10 => k_is)
    (case a11 => k_is)
    (case l11 => k_is)
    (case c11 => k_is)
    (case k11 => k_is)
    (case a12 => k_is)
    (case l12 => k_is)
    (case c12 => k_is)
    (case k12 => k_is)
    (case a13 => k_is)
    (case l13 => k_is)
    (case c13 => k_is)
    (case k13 => k_is)
    (case a14 => k_is)
    (case l14 => k_is)
    (case c14 => k_is)
    (case k14 => k_is)
    (case aC => k_is)
    (case a15 => k_is)
    (case i15 => k_is)
    (case l15 => k_is)
    (case c15 => k_is)
    (case k15 => k_is)
    (case a16 => k_is)
    (case i16 => k_is)
    (case l16 => k_is)
    (case c16 => k_is)
    (case k16 => k_is)
    (case a17 => k_is)
    (case i17 => k_is)
    (case l17 => k_is)
    (case c17 => k_is)
    (case k17 => k_is)
    (case a18 => k_is)
    (case i18 => k_is)
    (case l18 => k_is)
    (case c18 => k_is)
    (case k18 => k_is)
    (case a19 => k_is)
    (case i19 => k_is)
    (case l19 => k_is)
    (case c19 => k_is)
    (case k19 => k_is)
    (case a20 => k_is)
    (case i20 => k_is)
    (case l20 => k_is)
    (case c20 => k_is)
    (case k20 => k_is)
    (case pg => k_is)
    (case hd => k_is)
    (case po => k_is)
    (case sa => k_is)
    (case mks => k_is)
    (case kC => k_is)
    (case nL => k_is)
    (case nM => k_is)
    (case nD => k_is)
    (case sf => k_is)
    (case ha => k_is)
    (case hn => k_is)
    (case htk => k_is)
    (case hm => k_is)
    (case z_isinstance => k_is)
    (case z_int => k_is)
    (case z_bool => k_is)
    (case z_str => k_is)
    (case z_tuple => k_is)
    (case z_list => k_is)
    (case z_len => k_is)
    (case z_range => k_is)
    (case z_abs => k_is)
    (case z_max => k_is)
    (case z_min => k_is)
