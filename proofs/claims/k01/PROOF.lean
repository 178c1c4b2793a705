import PyProof.Rows.All
import Wide.All
import OpenK.AllK
import Wide.FinOn
import HandS.ForMost
import HandS.IsInst
import HandS.Codes
import HandS.ForExc
import HandS.ExcInit
import HandS.ExcField
import HandS.CallSlots
import HandS.TupLe
import KE.KExcIs
import HandS.Flt
import HandS.ExcCtx
import HandS.HotCalls
import HandS.ExcInitHot
import HandS.ExcIs
import PySem.Challenge.RW_heldproofs_k01_kinds_cover
set_option Elab.async false
set_option linter.all false
set_option maxRecDepth 100000
/-! My own layer over the hand layer: the weakest reading of a piece of syntax, and a rule a construct, chosen where the values are known. -/
namespace Wk
open PySem PySem.Spec PyProof.Rows L2
section
variable (X : Cx)
@[irreducible] def wE (e : Expr) : TE := fun σ H Q => ∀ (pins : List (Addr × Obj)) (s : Shared), Inv X pins σ H s → wpAny (model X.prog X.w) X.A (eval e X.env) (EP X pins σ Q) X.xe s
@[irreducible] def wT (e : Expr) : TT := fun σ H Q => ∀ (pins : List (Addr × Obj)) (s : Shared), Inv X pins σ H s → wpAny (model X.prog X.w) X.A (isTrue e X.env (eval e X.env)) (TP X pins σ Q) X.xe s
@[irreducible] def wW (e : Expr) : TT := fun σ H Q => ∀ (whole : Sem Value) (pins : List (Addr × Obj)) (s : Shared), Inv X pins σ H s → wpAny (model X.prog X.w) X.A (isTrue e X.env whole) (TP X pins σ Q) X.xe s
@[irreducible] def wA (es : List Expr) : TA := fun σ H Q => ∀ (pos : Pos) (pins : List (Addr × Obj)) (s : Shared), Inv X pins σ H s → wpAny (model X.prog X.w) X.A (spliced (backTo pos (starEach es X.env))) (AP X pins σ Q) X.xe s
@[irreducible] def wS (st : Stmt) : TS := fun D σ H => ∀ (pins : List (Addr × Obj)) (s : Shared), Inv X pins σ H s → wpAny (model X.prog X.w) X.A (exec st X.env) (SP X pins D) X.xe s
@[irreducible] def wL (st : List Stmt) : TS := fun D σ H => ∀ (pins : List (Addr × Obj)) (s : Shared), Inv X pins σ H s → wpAny (model X.prog X.w) X.A (execs st X.env) (SP X pins D) X.xe s
@[irreducible] def wO (f : Value → Value → Sem Value) : R2 := fun x y H Q => ∀ (pins : List (Addr × Obj)) (s : Shared) (σ : L2.St) (v u : Value), Inv X pins σ H s → RelV x v → RelV y u → wpAny (model X.prog X.w) X.A (f v u) (EP X pins σ Q) X.xe s
@[irreducible] def wB (op : Operator) : R2 := fun x y H Q => wO X (binaryOp op) x y H Q
@[irreducible] def wK (op : CmpOp) : R2 := fun x y H Q => wO X (compareOp op) x y H Q
@[irreducible] def wIx : R2 := fun x y H Q => ∀ (value slice : Expr) (pins : List (Addr × Obj)) (s : Shared) (σ : L2.St) (v u : Value), Inv X pins σ H s → RelV x v → RelV y u → subscripted slice false v u = operate [v, u] (getItem v u) → wpAny (model X.prog X.w) X.A (subscriptTail value slice v u) (EP X pins σ Q) X.xe s
@[irreducible] def wC (f : Value) : List V → Hp → VK → Prop := fun xs H Q => ∀ (pins : List (Addr × Obj)) (s : Shared) (σ : L2.St) (us : List Value), Inv X pins σ H s → Vals xs us → wpAny (model X.prog X.w) X.A (call f us) (EP X pins σ Q) X.xe s
@[irreducible] def wSet : V → V → V → Hp → (Hp → Prop) → Prop := fun o i v H Q => ∀ (pins : List (Addr × Obj)) (s : Shared) (σ : L2.St) (ov iv u : Value), Inv X pins σ H s → RelV o ov → RelV i iv → RelV v u → wpAny (model X.prog X.w) X.A (setItem ov iv u) (fun _ s' => ∃ H', Inv X pins σ H' s' ∧ Q H') X.xe s
end
section
variable {X : Cx} {e a b c : Expr} {es rest : List Expr} {st : Stmt} {sts : List Stmt} {σ : L2.St} {H : Hp} {Q : VK} {D : Ends} {pos p0 : Pos} {QT : Bool → Hp → Prop}
theorem pe : PE X e (wE X e) := ⟨fun pins s _ _ _ I h => by unfold wE at h; exact h pins s I⟩
theorem pt : PT X e (wT X e) := ⟨fun pins s _ _ _ I h => by unfold wT at h; exact h pins s I⟩
theorem pw : PW X e (wW X e) := ⟨fun wh pins s _ _ _ I h => by unfold wW at h; exact h wh pins s I⟩
theorem pa : PA X es (wA X es) := ⟨fun p pins s _ _ _ I h => by unfold wA at h; exact h p pins s I⟩
theorem ps : PS X st (wS X st) := ⟨fun pins s _ _ _ I h => by unfold wS at h; exact h pins s I⟩
theorem pl : PSs X sts (wL X sts) := ⟨fun pins s _ _ _ I h => by unfold wL at h; exact h pins s I⟩
theorem opr {f : Value → Value → Sem Value} : OpR X f (wO X f) := fun pins s σ _ _ _ v u _ I rx ry h => by unfold wO at h; exact h pins s σ v u I rx ry
theorem opb {op : Operator} : OpR X (binaryOp op) (wB X op) := fun pins s σ _ _ _ v u _ I rx ry h => by unfold wB at h; exact opr pins s σ _ _ _ v u _ I rx ry h
theorem opk {op : CmpOp} : OpR X (compareOp op) (wK X op) := fun pins s σ _ _ _ v u _ I rx ry h => by unfold wK at h; exact opr pins s σ _ _ _ v u _ I rx ry h
theorem ixr : IxR X (wIx X) := fun va sl pins s σ _ _ _ v u _ I rx ry h hs => by unfold wIx at h; exact h va sl pins s σ v u I rx ry hs
theorem cr {f : Value} : CallR X f (wC X f) := fun pins s σ _ _ us _ I r h => by unfold wC at h; exact h pins s σ us I r
theorem pset : PSet X (wSet X) := fun pins s σ _ _ _ _ ov iv u _ I ro ri rv h => by unfold wSet at h; exact h pins s σ ov iv u I ro ri rv
theorem e_of {t : TE} (h : PE X e t) (q : t σ H Q) : wE X e σ H Q := by unfold wE; exact fun pins s I => h.run pins s σ H Q I q
theorem t_of {t : TT} (h : PT X e t) (q : t σ H QT) : wT X e σ H QT := by unfold wT; exact fun pins s I => h.run pins s σ H QT I q
theorem w_of {t : TT} (h : PW X e t) (q : t σ H QT) : wW X e σ H QT := by unfold wW; exact fun wh pins s I => h.run wh pins s σ H QT I q
theorem a_of {t : TA} {QA : List V → Hp → Prop} (h : PA X es t) (q : t σ H QA) : wA X es σ H QA := by unfold wA; exact fun p pins s I => h.run p pins s σ H QA I q
theorem s_of {t : TS} (h : PS X st t) (q : t D σ H) : wS X st D σ H := by unfold wS; exact fun pins s I => h.run pins s σ H D I q
theorem l_of {t : TS} (h : PSs X sts t) (q : t D σ H) : wL X sts D σ H := by unfold wL; exact fun pins s I => h.run pins s σ H D I q
theorem o_of {f : Value → Value → Sem Value} {r : R2} {x y : V} (h : OpR X f r) (q : r x y H Q) : wO X f x y H Q := by unfold wO; exact fun pins s σ v u I rx ry => h pins s σ H x y v u Q I rx ry q
theorem b_of {op : Operator} {r : R2} {x y : V} (h : OpR X (binaryOp op) r) (q : r x y H Q) : wB X op x y H Q := by unfold wB; exact o_of h q
theorem k_of {op : CmpOp} {r : R2} {x y : V} (h : OpR X (compareOp op) r) (q : r x y H Q) : wK X op x y H Q := by unfold wK; exact o_of h q
theorem ix_of {r : R2} {x y : V} (h : IxR X r) (q : r x y H Q) : wIx X x y H Q := by unfold wIx; exact fun va sl pins s σ v u I rx ry hs => h va sl pins s σ H x y v u Q I rx ry q hs
theorem c_of {f : Value} {r : List V → Hp → VK → Prop} {xs : List V} (h : CallR X f r) (q : r xs H Q) : wC X f xs H Q := by unfold wC; exact fun pins s σ us I r => h pins s σ H xs us Q I r q
theorem set_of {t : V → V → V → Hp → (Hp → Prop) → Prop} {o i v : V} {QH : Hp → Prop} (h : PSet X t) (q : t o i v H QH) : wSet X o i v H QH := by unfold wSet; exact fun pins s σ ov iv u I ro ri rv => h pins s σ H o i v ov iv u QH I ro ri rv q

theorem e_mono {Q' : VK} (q : wE X e σ H Q) (h : ∀ v H1, Q v H1 → Q' v H1) : wE X e σ H Q' := by
  unfold wE at q ⊢
  exact fun pins s I => wpAny_mono (q pins s I) (fun _ _ ⟨v, H1, I1, r, z⟩ => ⟨v, H1, I1, r, h v H1 z⟩) fun _ _ z => z
theorem a_mono {QA QA' : List V → Hp → Prop} (q : wA X es σ H QA) (h : ∀ v H1, QA v H1 → QA' v H1) : wA X es σ H QA' := by
  unfold wA at q ⊢
  exact fun pp pins s I => wpAny_mono (q pp pins s I) (fun _ _ ⟨v, H1, I1, r, z⟩ => ⟨v, H1, I1, r, h v H1 z⟩) fun _ _ z => z

end
/-- where a name stands in a list; found by its spelling -/
inductive At {α : Type} : List α → Nat → α → Prop where
  | z {x : α} {l : List α} : At (x :: l) 0 x
  | s {x y : α} {l : List α} {i : Nat} (h : At l i x) : At (y :: l) (i + 1) x
theorem At.get {α : Type} {l : List α} {i : Nat} {x : α} (h : At l i x) : l[i]? = some x := by
  induction h with
  | z => rfl
  | s _ ih => simpa using ih
theorem At.mem {α : Type} {l : List α} {i : Nat} {x : α} (h : At l i x) : x ∈ l := List.mem_of_getElem? h.get
instance locDec {sc : Scope} {x : Str} : Decidable (Loc sc x) := inferInstanceAs (Decidable (_ ∨ _))
/-- a def's names: its own, in their slots, and the global ones -/
structure ScOk (N G : List Str) (sc : Scope) : Prop where
  nd : N.Nodup
  lo : ∀ x ∈ N, Loc sc x ∧ (x == ("__debug__" : Str)) = false ∧ (x == ("__classdict__" : Str)) = false
  gl : ∀ x ∈ G, sc.names.lookup x = some .globalImplicit ∧ (x == ("__debug__" : Str)) = false ∧ x ≠ "__name__"
/-- the body that the proof stands in -/
structure In (X : Cx) (N G : List Str) (sc : Scope) : Prop where
  ok : ScOk N G sc
  n : X.N = N
  sc : X.env.scope = sc
  fn : X.fn = fun _ => true
  nev : PassesOwn (model X.prog X.w) X.A X.env X.xe
section
variable {X : Cx} {e a b c : Expr} {es rest : List Expr} {st : Stmt} {sts : List Stmt} {σ : L2.St} {H : Hp} {Q : VK} {D : Ends} {pos p0 : Pos} {QT : Bool → Hp → Prop} {N G : List Str} {sc : Scope}
theorem In.loc (I : In X N G sc) {i : Nat} {x : Str} (h : At N i x) : Loc X.env.scope x := by rw [I.sc]; exact (I.ok.lo x h.mem).1
theorem In.vis (I : In X N G sc) {i : Nat} {x : Str} (h : At N i x) : Vis X.env.scope x := by
  rcases I.loc h with z | z
  · exact .inl z
  · exact .inr (.inl z)
theorem In.nd (I : In X N G sc) : X.N.Nodup := by rw [I.n]; exact I.ok.nd
theorem In.hi (I : In X N G sc) {i : Nat} {x : Str} (h : At N i x) : X.N[i]? = some x := by rw [I.n]; exact h.get
theorem In.f (I : In X N G sc) {x : Str} : X.fn x = true ∨ X.env.scope.names.lookup x = some .local := .inl (by rw [I.fn])
theorem In.g (I : In X N G sc) {i : Nat} {x : Str} (h : At G i x) : Gl X x := by
  show X.env.scope.names.lookup x = _
  rw [I.sc]
  exact (I.ok.gl x h.mem).1
theorem In.gd (I : In X N G sc) {i : Nat} {x : Str} (h : At G i x) : (x == ("__debug__" : Str)) = false := (I.ok.gl x h.mem).2.1
theorem In.gn (I : In X N G sc) {i : Nat} {x : Str} (h : At G i x) : x ≠ "__name__" := (I.ok.gl x h.mem).2.2
theorem In.never (I : In X N G sc) : PassesOwn (model X.prog X.w) X.A X.env X.xe := I.nev

/-! ### statements -/
theorem l_nil {nx : L2.St → Hp → Prop} {rt : VK} {bk ct : L2.St → Hp → Prop} (q : nx σ H) : wL X [] ⟨nx, rt, bk, ct⟩ σ H := l_of pss_nil q
theorem l_cons {nx : L2.St → Hp → Prop} {rt : VK} {bk ct : L2.St → Hp → Prop} (q : wS X st ⟨fun σ' H' => wL X sts ⟨nx, rt, bk, ct⟩ σ' H', rt, bk, ct⟩ σ H) : wL X (st :: sts) ⟨nx, rt, bk, ct⟩ σ H := l_of (pss_cons ps pl) q
theorem s_set {nx : L2.St → Hp → Prop} {rt : VK} {bk ct : L2.St → Hp → Prop} {i : Nat} {x : Str} {pos' : Pos} (q : wE X e σ H fun v H' => nx (σ.set i (some v)) H') (I : In X N G sc := by assumption) (hA : At N i x := by repeat (first | with_reducible apply At.z | with_reducible apply At.s)) (hs : swapsWith e (some (.Name x pos')) pos.line X.env = pure false := by rfl) :
    wS X (.Assign [.Name x pos'] e pos) ⟨nx, rt, bk, ct⟩ σ H := s_of (ps_set I.nd (I.hi hA) (I.loc hA) pe hs I.f) q
theorem s_ret {nx : L2.St → Hp → Prop} {rt : VK} {bk ct : L2.St → Hp → Prop} (q : wE X e σ H rt) : wS X (.Return (some e) pos) ⟨nx, rt, bk, ct⟩ σ H := s_of (ps_ret pe) q
theorem s_retN {nx : L2.St → Hp → Prop} {rt : VK} {bk ct : L2.St → Hp → Prop} (q : rt .non H) : wS X (.Return none pos) ⟨nx, rt, bk, ct⟩ σ H := s_of ps_retN q
theorem s_pass {nx : L2.St → Hp → Prop} {rt : VK} {bk ct : L2.St → Hp → Prop} (q : nx σ H) : wS X (.Pass pos) ⟨nx, rt, bk, ct⟩ σ H := s_of ps_pass q
theorem s_brk {nx : L2.St → Hp → Prop} {rt : VK} {bk ct : L2.St → Hp → Prop} (q : bk σ H) : wS X (.Break pos) ⟨nx, rt, bk, ct⟩ σ H := s_of ps_break q
theorem s_cnt {nx : L2.St → Hp → Prop} {rt : VK} {bk ct : L2.St → Hp → Prop} (q : ct σ H) : wS X (.Continue pos) ⟨nx, rt, bk, ct⟩ σ H := s_of ps_continue q
theorem s_expr {nx : L2.St → Hp → Prop} {rt : VK} {bk ct : L2.St → Hp → Prop} (q : wE X e σ H fun _ H' => nx σ H') (hs : swapsWith e none pos.line X.env = pure false := by rfl) : wS X (.Expr e pos) ⟨nx, rt, bk, ct⟩ σ H := s_of (ps_expr pe hs) q
theorem s_if {nx : L2.St → Hp → Prop} {rt : VK} {bk ct : L2.St → Hp → Prop} {A B : List Stmt} (q : wT X c σ H fun k H1 => if k = true then wL X A ⟨nx, rt, bk, ct⟩ σ H1 else wL X B ⟨nx, rt, bk, ct⟩ σ H1) : wS X (.If c A B pos) ⟨nx, rt, bk, ct⟩ σ H := s_of (ps_if pt pl pl) q
theorem s_fld {nx : L2.St → Hp → Prop} {rt : VK} {bk ct : L2.St → Hp → Prop} {o value : Expr} {f : Str} {pos' : Pos} (q : wE X value σ H fun y H1 => wE X o σ H1 fun x H2 => ∃ a C dx fs, x = .ref a ∧ H2 a = some (.ins C dx fs) ∧ Cls X.K C ∧ NoAttr X.K C f ∧ fs.length < 1000 ∧ nx σ (upd H2 a (.ins C dx (putF f y fs))))
    (hs : swapsWith value (some (.Attribute o f pos')) pos.line X.env = pure false := by rfl) : wS X (.Assign [.Attribute o f pos'] value pos) ⟨nx, rt, bk, ct⟩ σ H := s_of (ps_fld pe pe hs) q
/-- o[i] = v -/
theorem s_sub {nx : L2.St → Hp → Prop} {rt : VK} {bk ct : L2.St → Hp → Prop} {o i value : Expr} {pos' : Pos} (q : wE X value σ H fun v H1 => wE X o σ H1 fun x H2 => wE X i σ H2 fun y H3 => wSet X x y v H3 fun H4 => nx σ H4)
    (hs : swapsWithSole [.Subscript o i pos'] value pos.line X.env = pure false := by rfl) (hw : swappedStores [.Subscript o i pos'] value X.env = pure none := by rfl) (h1 : (assignEach [.Subscript o i pos'] X.env).map (·.2) = [assign (.Subscript o i pos') X.env] := by rfl)
    (ha : ∀ v, assign (.Subscript o i pos') X.env v = (do let ov ← holding [v] (eval o X.env); let iv ← holding [v, ov] (eval i X.env); standAt pos'; holding [v, ov, iv] (setItem ov iv v); release [v, ov, iv] []) := by intro _; rfl) : wS X (.Assign [.Subscript o i pos'] value pos) ⟨nx, rt, bk, ct⟩ σ H := s_of (ps_asg pe (pg_sub pe pe pset ha) hs hw h1) q
/-- two names from a tuple -/
theorem s_tup2 {nx : L2.St → Hp → Prop} {rt : VK} {bk ct : L2.St → Hp → Prop} {i j : Nat} {x y : Str} {k : Nat} {px py pt : Pos} (q : wE X e σ H fun v H1 => ∃ a u w, v = .ref a ∧ SqT X.K H1 a [u, w] ∧ nx ((σ.set i (some u)).set j (some w)) H1)
    (I : In X N G sc := by assumption) (hc : X.calm = true := by rfl) (hA : At N i x := by repeat (first | with_reducible apply At.z | with_reducible apply At.s)) (hB : At N j y := by repeat (first | with_reducible apply At.z | with_reducible apply At.s))
    (hs : swapsWithSole [.Tuple [.Name x px, .Name y py] k pt] e pos.line X.env = pure false := by rfl) (hw : swappedStores [.Tuple [.Name x px, .Name y py] k pt] e X.env = pure none := by rfl) (h1 : (assignEach [.Tuple [.Name x px, .Name y py] k pt] X.env).map (·.2) = [assign (.Tuple [.Name x px, .Name y py] k pt) X.env] := by rfl) :
    wS X (.Assign [.Tuple [.Name x px, .Name y py] k pt] e pos) ⟨nx, rt, bk, ct⟩ σ H := by
  refine s_of (ps_asg pe (pg_tup hc (pgs_cons (pg_name I.nd (I.hi hA) (I.loc hA) I.f) (pgs_cons (pg_name I.nd (I.hi hB) (I.loc hB) I.f) pgs_nil))) hs hw h1) (e_mono q fun v H1 q1 => ?_)
  obtain ⟨ad, u, w, ev, hq, q2⟩ := q1
  exact ⟨ad, [u, w], ev, hq, rfl, u, [w], rfl, w, [], rfl, rfl, q2⟩
/-! ### expressions -/
theorem e_var {i : Nat} {x : Str} {v : V} (q : Q v H) (I : In X N G sc := by assumption) (hA : At N i x := by repeat (first | with_reducible apply At.z | with_reducible apply At.s)) (hσ : σ[i]? = some (some v) := by exact rfl) : wE X (.Name x pos) σ H Q :=
  e_of (pe_var (I.hi hA) (I.vis hA) (I.ok.lo x hA.mem).2.1 (I.ok.lo x hA.mem).2.2) ⟨v, hσ, q⟩
theorem e_int {i : Int} {j} (q : Q (.int i) H) : wE X (.Constant (.int i) j pos) σ H Q := e_of pe_int q
theorem e_bl {k : Bool} {j} (q : Q (.bl k) H) : wE X (.Constant (.bool k) j pos) σ H Q := e_of pe_bl q
theorem e_non {j} (q : Q .non H) : wE X (.Constant .none j pos) σ H Q := e_of pe_non q
theorem e_str {x : Str} {j} (q : Q (.str x) H) : wE X (.Constant (.str x) j pos) σ H Q := e_of pe_str q
theorem e_bin {op : Operator} (q : wE X a σ H fun x H1 => wE X b σ H1 fun y H2 => wB X op x y H2 Q) : wE X (.BinOp a op b pos) σ H Q := e_of (pe_op opb pe pe) q
theorem e_cmp {op : CmpOp} (q : wE X a σ H fun x H1 => wE X b σ H1 fun y H2 => wK X op x y H2 Q) (hm : behindInMarks op b = false := by first | exact nomark _ | rfl) : wE X (.Compare a [op] [b] pos) σ H Q := e_of (pe_cmpR opk pe pe hm) q
theorem t_cmp {op : CmpOp} (q : wE X a σ H fun x H1 => wE X b σ H1 fun y H2 => wK X op x y H2 fun z H3 => ∃ k, z = .bl k ∧ QT k H3) (hm : behindInMarks op b = false := by first | exact nomark _ | rfl) : wT X (.Compare a [op] [b] pos) σ H QT := t_of (pt_cmpR opk pe pe hm) q
theorem t_val (q : wE X e σ H fun z H3 => ∃ k, z = .bl k ∧ QT k H3) (he : ∀ whole, isTrue e X.env whole = (do let v ← whole; standAt e.pos; holding [v] (truthy v)) := by intro _; rfl) : wT X e σ H QT := t_of (pt_val pe he) q
theorem t_not (q : wT X a σ H fun k H1 => QT (!k) H1) : wT X (.UnaryOp .Not a pos) σ H QT := t_of (pt_not pt) q
theorem t_w (q : wW X e σ H QT) : wT X e σ H QT := t_of pw.pt q
theorem w_and1 (q : wT X a σ H QT) : wW X (.BoolOp .And [a] pos) σ H QT := w_of (pw_and1 pt) q
theorem w_or1 (q : wT X a σ H QT) : wW X (.BoolOp .Or [a] pos) σ H QT := w_of (pw_or1 pt) q
theorem w_and (q : wT X a σ H fun k H1 => if k = true then wW X (.BoolOp .And (b :: rest) pos) σ H1 QT else QT false H1) : wW X (.BoolOp .And (a :: b :: rest) pos) σ H QT := w_of (pw_and pt pw) q
theorem w_or (q : wT X a σ H fun k H1 => if k = true then QT true H1 else wW X (.BoolOp .Or (b :: rest) pos) σ H1 QT) : wW X (.BoolOp .Or (a :: b :: rest) pos) σ H QT := w_of (pw_or pt pw) q
theorem e_one {op} (q : wE X a σ H Q) : wE X (.BoolOp op [a] pos) σ H Q := e_of (pe_one pe) q
theorem e_and (q : wE X a σ H fun x H1 => ∃ k, x = .bl k ∧ if k = true then wE X (.BoolOp .And (b :: rest) pos) σ H1 Q else Q (.bl false) H1) : wE X (.BoolOp .And (a :: b :: rest) pos) σ H Q := e_of (pe_and pe pe) q
theorem e_or (q : wE X a σ H fun x H1 => ∃ k, x = .bl k ∧ if k = true then Q (.bl true) H1 else wE X (.BoolOp .Or (b :: rest) pos) σ H1 Q) : wE X (.BoolOp .Or (a :: b :: rest) pos) σ H Q := e_of (pe_or pe pe) q
theorem e_not (q : wE X a σ H fun x H1 => ∃ k, x = .bl k ∧ Q (.bl (!k)) H1) : wE X (.UnaryOp .Not a pos) σ H Q := e_of (pe_not pe) q
theorem e_ifExp (q : wT X c σ H fun k H1 => if k = true then wE X a σ H1 Q else wE X b σ H1 Q) : wE X (.IfExp c a b pos) σ H Q := e_of (pe_ifExp pt pe pe) q
theorem e_ix (q : wE X a σ H fun x H1 => wE X b σ H1 fun y H2 => wIx X x y H2 Q) (hs : PlainIx b := by intro _ _; rfl) : wE X (.Subscript a b pos) σ H Q := e_of (pe_ix ixr pe pe hs) q
theorem e_fld {f : Str} (q : wE X e σ H fun x H1 => ∃ a C dx fs v, x = .ref a ∧ H1 a = some (.ins C dx fs) ∧ Cls X.K C ∧ NoAttr X.K C f ∧ fs.lookup f = some v ∧ Q v H1) (hb : attributeBase e f X.env (eval e X.env) = eval e X.env := by rfl) : wE X (.Attribute e f pos) σ H Q := e_of (pe_fld pe hb) q
theorem a_nil {QA : List V → Hp → Prop} (q : QA [] H) : wA X [] σ H QA := a_of pa_nil q
theorem a_cons {QA : List V → Hp → Prop} (q : wE X e σ H fun x H1 => wA X es σ H1 fun xs H2 => QA (x :: xs) H2) (hs : starEach (e :: es) X.env = (false, eval e X.env) :: starEach es X.env := by rfl) : wA X (e :: es) σ H QA := a_of (pa_cons pe pa hs) q
theorem e_tup {k} (q : wA X es σ H fun xs H1 => xs.length ≤ sizeLine ∧ ∀ p H2, Same H1 H2 → H1 p = none → H2 p = some (.tup xs) → Q (.ref p) H2) : wE X (.Tuple es k pos) σ H Q :=
  e_of (pe_tup pa) (a_mono q fun xs H1 z => ⟨z.1, fun p np => z.2 p _ (fun b o eo => by rw [upd_ne (ne_of_none eo np)]; exact eo) np upd_same⟩)
theorem e_lst (q : wA X es σ H fun xs H1 => xs.length ≤ sizeLine ∧ ∀ p H2, Same H1 H2 → H1 p = none → H2 p = some (.lst xs) → Q (.ref p) H2) : wE X (.List es pos) σ H Q :=
  e_of (pe_lst pa) (a_mono q fun xs H1 z => ⟨z.1, fun p np => z.2 p _ (fun b o eo => by rw [upd_ne (ne_of_none eo np)]; exact eo) np upd_same⟩)
/-! ### calls -/
/-- a def of the module that no exception leaves -/
structure Fn (P : Program) (w : World) (K : PySem.W.Frag) (mg : Str → Option Value) (base : Heap) (k : Nat) (x : Str) (sp : Sp) : Prop where
  ex : ∃ (f : Addr) (fd : FuncData) (ps : List Str), FnOk P w K mg base CX0 k f fd ps sp ∧ mg x = some (.ref f) ∧ PySem.W.keepIn K (.ref f) = true ∧ Binds K fd ps []
theorem e_call {g : Nat} {k n : Nat} {x : Str} {sp : Sp} (F : Fn X.prog X.w X.K X.mg X.base k x sp) (hr : Room n X.A) (hk : k ≤ n) (q : wA X (e :: es) σ H fun vs H1 => sp vs H1 Q E0) (I : In X N G sc := by assumption) (hG : At G g x := by repeat (first | with_reducible apply At.z | with_reducible apply At.s))
    (he : starEach (e :: es) X.env = (false, eval e X.env) :: starEach es X.env := by rfl) (hpl : (backTo pos (starEach es X.env)).any (·.1) = false := by rfl) : wE X (.Call (.Name x p0) (e :: es) [] pos) σ H Q := by
  obtain ⟨f, fd, ps, F0, hm, hkp, hb⟩ := F.ex
  refine e_of (pe_call F0 (hr.mono hk) (I.g hG) hm hkp hb .nil pass0 pa (I.gd hG) he hpl) ?_
  show wA X (e :: es) σ H fun vs H1 => sp (vs ++ []) H1 Q E0
  simp only [List.append_nil]
  exact q
theorem e_call0 {g : Nat} {k n : Nat} {x : Str} {sp : Sp} (F : Fn X.prog X.w X.K X.mg X.base k x sp) (hr : Room n X.A) (hk : k ≤ n) (q : sp [] H Q E0) (I : In X N G sc := by assumption) (hG : At G g x := by repeat (first | with_reducible apply At.z | with_reducible apply At.s)) : wE X (.Call (.Name x p0) [] [] pos) σ H Q := by
  obtain ⟨f, fd, ps, F0, hm, hkp, hb⟩ := F.ex
  exact e_of (pe_call0 F0 (hr.mono hk) (I.g hG) hm hkp hb .nil pass0 (I.gd hG)) q
theorem e_callB {g : Nat} {x : Str} {id : String} (hm : X.mg x = none) (hv : bootBuiltins x = some (.builtin id)) (q : wA X (e :: es) σ H fun vs H1 => wC X (.builtin id) vs H1 Q) (I : In X N G sc := by assumption) (hG : At G g x := by repeat (first | with_reducible apply At.z | with_reducible apply At.s))
    (he : starEach (e :: es) X.env = (false, eval e X.env) :: starEach es X.env := by rfl) (hpl : (backTo pos (starEach es X.env)).any (·.1) = false := by rfl) : wE X (.Call (.Name x p0) (e :: es) [] pos) σ H Q := e_of (pe_callB cr (I.g hG) hm hv pa (I.gn hG) (I.gd hG) he hpl) q
theorem e_callTy {g : Nat} {x : Str} {T : String} (hm : X.mg x = none) (hv : bootBuiltins x = some (.type T)) (q : wA X (e :: es) σ H fun vs H1 => wC X (.type T) vs H1 Q) (I : In X N G sc := by assumption) (hG : At G g x := by repeat (first | with_reducible apply At.z | with_reducible apply At.s))
    (he : starEach (e :: es) X.env = (false, eval e X.env) :: starEach es X.env := by rfl) (hpl : (backTo pos (starEach es X.env)).any (·.1) = false := by rfl) : wE X (.Call (.Name x p0) (e :: es) [] pos) σ H Q := e_of (pe_callTy cr (I.g hG) hm hv pa (I.gn hG) (I.gd hG) he hpl) q
theorem e_glob {g : Nat} {x : Str} {v : V} {u : Value} (hm : X.mg x = some u) (r : RelV v u) (q : Q v H) (I : In X N G sc := by assumption) (hG : At G g x := by repeat (first | with_reducible apply At.z | with_reducible apply At.s)) : wE X (.Name x pos) σ H Q := e_of (pe_glob (I.g hG) hm r (I.gd hG)) q
theorem e_bltn {g : Nat} {x : Str} {v : V} {u : Value} (hm : X.mg x = none) (hv : bootBuiltins x = some u) (r : RelV v u) (q : Q v H) (I : In X N G sc := by assumption) (hG : At G g x := by repeat (first | with_reducible apply At.z | with_reducible apply At.s)) : wE X (.Name x pos) σ H Q := e_of (pe_bltn (I.g hG) hm hv r (I.gn hG) (I.gd hG)) q
/-- a method of a class that no exception leaves -/
structure Mt (P : Program) (w : World) (K : PySem.W.Frag) (mg : Str → Option Value) (base : Heap) (k : Nat) (C : Addr) (m : Str) (sp : Sp) : Prop where
  ex : ∃ (f : Addr) (fd : FuncData) (ps : List Str), FnOk P w K mg base CX0 k f fd ps sp ∧ Meth K C m f ∧ Binds K fd ps [] ∧ Cls K C
theorem e_meth {k n : Nat} {o : Expr} {m : Str} {C : Addr} {apos : Pos} {pl : Sem Bool} {sp : Sp} (F : Mt X.prog X.w X.K X.mg X.base k C m sp) (hr : Room n X.A) (hk : k ≤ n)
    (q : wE X o σ H fun x H1 => ∃ a dx fs, x = .ref a ∧ H1 a = some (.ins C dx fs) ∧ fs.lookup m = none ∧ wA X (e :: es) σ H1 fun vs H2 => sp (x :: vs) H2 Q E0)
    (hst : starEach (e :: es) X.env = (false, eval e X.env) :: starEach es X.env := by rfl) (hpl : (backTo pos (starEach es X.env)).any (·.1) = false := by rfl)
    (ht : eval (.Call (.Attribute o m apos) (e :: es) [] pos) X.env = (do let ov ← eval o X.env; standAt apos.atName; let (f, first) ← holding [ov] (getMethod ov m pl); callWith pos f first (backTo pos (starEach (e :: es) X.env)) (backToKw pos (keywordEach [] X.env))) := by rfl) :
    wE X (.Call (.Attribute o m apos) (e :: es) [] pos) σ H Q := by
  obtain ⟨f, fd, ps, F0, M, hb, c⟩ := F.ex
  refine e_of (pe_meth (pl := pl) pe c M F0 (hr.mono hk) hb .nil pass0 pa hst hpl ht) ?_
  show wE X o σ H fun x H1 => ∃ a dx fs, x = .ref a ∧ H1 a = some (.ins C dx fs) ∧ fs.lookup m = none ∧ wA X (e :: es) σ H1 fun vs H2 => sp (x :: (vs ++ [])) H2 Q E0
  simp only [List.append_nil]
  exact q
theorem e_meth0 {k n : Nat} {o : Expr} {m : Str} {C : Addr} {apos : Pos} {pl : Sem Bool} {sp : Sp} (F : Mt X.prog X.w X.K X.mg X.base k C m sp) (hr : Room n X.A) (hk : k ≤ n)
    (q : wE X o σ H fun x H1 => ∃ a dx fs, x = .ref a ∧ H1 a = some (.ins C dx fs) ∧ fs.lookup m = none ∧ sp [x] H1 Q E0)
    (ht : eval (.Call (.Attribute o m apos) [] [] pos) X.env = (do let ov ← eval o X.env; standAt apos.atName; let (f, first) ← holding [ov] (getMethod ov m pl); callWith pos f first (backTo pos (starEach [] X.env)) (backToKw pos (keywordEach [] X.env))) := by rfl) :
    wE X (.Call (.Attribute o m apos) [] [] pos) σ H Q := by
  obtain ⟨f, fd, ps, F0, M, hb, c⟩ := F.ex
  exact e_of (pe_meth0 (pl := pl) pe c M F0 (hr.mono hk) hb .nil pass0 ht) q
/-- an own class whose __init__ no exception leaves -/
structure Kl (P : Program) (w : World) (K : PySem.W.Frag) (mg : Str → Option Value) (base : Heap) (k : Nat) (x : Str) (C : Addr) (sp : Sp) : Prop where
  ex : ∃ (f : Addr) (fd : FuncData) (ps : List Str), FnOk P w K mg base CX0 k f fd ps sp ∧ mg x = some (.ref C) ∧ Mk K C f ∧ Binds K fd ps []
theorem e_make {g : Nat} {k n : Nat} {x : Str} {C : Addr} {sp : Sp} (F : Kl X.prog X.w X.K X.mg X.base k x C sp) (hr : Room n X.A) (hk : k + 1 ≤ n)
    (q : wA X (e :: es) σ H fun vs H1 => ∀ x dx, H1 x = none → H1 dx = none → dx ≠ x → sp (.ref x :: vs) (upd (upd H1 dx (.own x)) x (.ins C dx [])) (fun v H2 => v = .non ∧ Q (.ref x) H2) E0)
    (I : In X N G sc := by assumption) (hG : At G g x := by repeat (first | with_reducible apply At.z | with_reducible apply At.s)) (he : starEach (e :: es) X.env = (false, eval e X.env) :: starEach es X.env := by rfl) (hpl : (backTo pos (starEach es X.env)).any (·.1) = false := by rfl) : wE X (.Call (.Name x p0) (e :: es) [] pos) σ H Q := by
  obtain ⟨f, fd, ps, F0, hm, M, hb⟩ := F.ex
  refine e_of (pe_make M F0 (hr.mono hk) (I.g hG) hm hb .nil pass0 pa (I.gd hG) he hpl) ?_
  show wA X (e :: es) σ H fun vs H1 => ∀ x dx, H1 x = none → H1 dx = none → dx ≠ x → sp (.ref x :: (vs ++ [])) (upd (upd H1 dx (.own x)) x (.ins C dx [])) (fun v H2 => v = .non ∧ Q (.ref x) H2) E0
  simp only [List.append_nil]
  exact q
end
/-! ### values -/
section
variable {X : Cx} {H : Hp} {Q : VK} {i j : Int} {σ : L2.St} {D : Ends}
theorem o_add (q : Q (.int (i + j)) H) : wB X .Add (.int i) (.int j) H Q := b_of op_add ⟨i, j, rfl, rfl, q⟩
theorem o_sub (q : Q (.int (i - j)) H) : wB X .Sub (.int i) (.int j) H Q := b_of op_sub ⟨i, j, rfl, rfl, q⟩
theorem o_mul (c : CMul i j) (q : Q (.int (i * j)) H) : wB X .Mult (.int i) (.int j) H Q := b_of op_mul ⟨i, j, rfl, rfl, c, q⟩
theorem o_mod (c : 0 < j) (q : Q (.int (i % j)) H) : wB X .Mod (.int i) (.int j) H Q := b_of op_mod ⟨i, j, rfl, rfl, c, q⟩
theorem o_fdiv (c : 0 < j ∧ j < 1073741824) (q : Q (.int (i / j)) H) : wB X .FloorDiv (.int i) (.int j) H Q := b_of op_fdiv ⟨i, j, rfl, rfl, c, q⟩
theorem o_pow (c : CPow i j) (q : Q (.int (i ^ j.toNat)) H) : wB X .Pow (.int i) (.int j) H Q := b_of op_pow ⟨i, j, rfl, rfl, c, q⟩
theorem o_lt (q : Q (.bl (decide (i < j))) H) : wK X .Lt (.int i) (.int j) H Q := k_of op_lt ⟨i, j, rfl, rfl, q⟩
theorem o_le (q : Q (.bl (decide (i ≤ j))) H) : wK X .LtE (.int i) (.int j) H Q := k_of op_le ⟨i, j, rfl, rfl, q⟩
theorem o_gt (q : Q (.bl (decide (j < i))) H) : wK X .Gt (.int i) (.int j) H Q := k_of op_gt ⟨i, j, rfl, rfl, q⟩
theorem o_ge (q : Q (.bl (decide (j ≤ i))) H) : wK X .GtE (.int i) (.int j) H Q := k_of op_ge ⟨i, j, rfl, rfl, q⟩
theorem dint {i j : Int} : decide (V.int i = V.int j) = decide (i = j) := by simp
theorem dbl {i j : Bool} : decide (V.bl i = V.bl j) = decide (i = j) := by simp
theorem dstr {i j : Str} : decide (V.str i = V.str j) = decide (i = j) := by simp
theorem o_eqI (q : Q (.bl (decide (i = j))) H) : wK X .Eq (.int i) (.int j) H Q := k_of op_eq ⟨rfl, dint ▸ q⟩
theorem o_neI (q : Q (.bl (!decide (i = j))) H) : wK X .NotEq (.int i) (.int j) H Q := k_of op_ne ⟨rfl, dint ▸ q⟩
theorem o_eqB {i j : Bool} (q : Q (.bl (decide (i = j))) H) : wK X .Eq (.bl i) (.bl j) H Q := k_of op_eq ⟨rfl, dbl ▸ q⟩
theorem o_neB {i j : Bool} (q : Q (.bl (!decide (i = j))) H) : wK X .NotEq (.bl i) (.bl j) H Q := k_of op_ne ⟨rfl, dbl ▸ q⟩
theorem o_eqS {i j : Str} (q : Q (.bl (decide (i = j))) H) : wK X .Eq (.str i) (.str j) H Q := k_of op_eq ⟨rfl, dstr ▸ q⟩
theorem o_neS {i j : Str} (q : Q (.bl (!decide (i = j))) H) : wK X .NotEq (.str i) (.str j) H Q := k_of op_ne ⟨rfl, dstr ▸ q⟩
/-- a pair of ints beside a text -/
theorem o_eqPS {n : Nat} {a : Addr} {u v : Int} {z : Str} (hr : Room n X.A) (h : H a = some (.tup [.int u, .int v])) (hz : SeqAt.shaped (.str z) = true) (q : Q (.bl false) H) : wK X .Eq (.ref a) (.str z) H Q :=
  k_of (op_eqD hr.units) ⟨.tuple [.int u, .int v], .str z, .tup (SqT.of h) (.cons (.int u) (.cons (.int v) .nil)), .str z, rfl, hz, q⟩
theorem ix_l {a : Addr} {xs : List V} {v : V} (h : SqL X.K H a xs) (e : atI xs i = some v) (q : Q v H) : wIx X (.ref a) (.int i) H Q := ix_of ix_list ⟨a, xs, i, v, rfl, rfl, h, e, q⟩
theorem ix_t {a : Addr} {xs : List V} {v : V} (h : SqT X.K H a xs) (e : atI xs i = some v) (q : Q v H) : wIx X (.ref a) (.int i) H Q := ix_of ix_tup ⟨a, xs, i, v, rfl, rfl, h, e, q⟩
theorem set_l {a : Addr} {xs : List V} {v : V} {k : Nat} {QH : Hp → Prop} (h : H a = some (.lst xs)) (e : ixN xs.length i = some k) (q : QH (upd H a (.lst (xs.set k v)))) : wSet X (.ref a) (.int i) v H QH := set_of set_list ⟨a, xs, i, k, rfl, rfl, h, e, q⟩
theorem c_int (q : Q (.int i) H) : wC X (.type "int") [.int i] H Q := c_of call_int1 (.inl ⟨i, rfl, q⟩)
theorem c_abs (q : Q (.int (if i < 0 then -i else i)) H) : wC X (.builtin "abs") [.int i] H Q := c_of call_abs ⟨i, rfl, q⟩
theorem c_max (hc : X.calm = true) (q : Q (.int (if j > i then j else i)) H) : wC X (.builtin "max") [.int i, .int j] H Q := c_of (call_max2 hc) ⟨i, j, rfl, q⟩
theorem c_min (hc : X.calm = true) (q : Q (.int (if j < i then j else i)) H) : wC X (.builtin "min") [.int i, .int j] H Q := c_of (call_min2 hc) ⟨i, j, rfl, q⟩
theorem c_lenL {a : Addr} {xs : List V} (h : SqL X.K H a xs) (q : Q (.int xs.length) H) : wC X (.builtin "len") [.ref a] H Q := c_of call_len_seq ⟨a, xs, rfl, .inl h, q⟩
theorem c_lenT {a : Addr} {xs : List V} (h : SqT X.K H a xs) (q : Q (.int xs.length) H) : wC X (.builtin "len") [.ref a] H Q := c_of call_len_seq ⟨a, xs, rfl, .inr h, q⟩
theorem c_isi {x c : V} {t u : Value} {b : Bool} (ty : TyX X.K H x t) (k : ClsV c u) (e : PySem.W.kitOne X.K t u = some b) (q : Q (.bl b) H) : wC X (.builtin "isinstance") [x, c] H Q := c_of call_isi ⟨x, c, t, u, b, rfl, k, ty, e, q⟩
theorem c_isiT {x : V} {tp : Addr} {cs : List V} {t : Value} {us : List Value} {b : Bool} (ty : TyX X.K H x t) (h : H tp = some (.tup cs)) (k : Paired ClsV cs us) (e : PySem.W.kitAny X.K t us = some b) (q : Q (.bl b) H) : wC X (.builtin "isinstance") [x, .ref tp] H Q :=
  c_of call_isiT ⟨x, tp, cs, t, us, b, rfl, h, k, ty, e, q⟩
theorem ty_non : TyX X.K H .non (.type "NoneType") := .base .non
theorem ty_bl {b : Bool} : TyX X.K H (.bl b) (.type "bool") := .base (.bl b)
theorem ty_int : TyX X.K H (.int i) (.type "int") := .base (.int i)
theorem ty_str {z : Str} : TyX X.K H (.str z) (.type "str") := .base (.str z)
theorem ty_tup {a : Addr} {xs : List V} (h : H a = some (.tup xs)) : TyX X.K H (.ref a) (.type "tuple") := .base (.tup h)
theorem ty_lst {a : Addr} {xs : List V} (h : H a = some (.lst xs)) : TyX X.K H (.ref a) (.type "list") := .base (.lst h)
theorem two_ty {a b : String} : Paired ClsV [.ty a, .ty b] [.type a, .type b] := .cons (.ty a) (.cons (.ty b) .nil)
theorem kit2 {K : PySem.W.Frag} {t a b : String} {x y : Bool} (h1 : kitB t a = some x) (h2 : kitB t b = some y) : PySem.W.kitAny K (.type t) [.type a, .type b] = some (x || y) := by
  cases x with
  | true => exact kitAny_cons (kit_ty h1) (fun z => nomatch z) fun _ => rfl
  | false =>
    refine kitAny_cons (kit_ty h1) (fun _ => ?_) (fun z => nomatch z)
    cases y with
    | true => exact kitAny_cons (kit_ty h2) (fun z => nomatch z) fun _ => rfl
    | false => exact kitAny_cons (kit_ty h2) (fun _ => rfl) (fun z => nomatch z)
theorem kb_int_tuple : kitB "int" "tuple" = some false := by decide +kernel
theorem kb_int_list : kitB "int" "list" = some false := by decide +kernel
theorem kb_int_int : kitB "int" "int" = some true := by decide +kernel
theorem kb_int_bool : kitB "int" "bool" = some false := by decide +kernel
theorem kb_int_str : kitB "int" "str" = some false := by decide +kernel
theorem kb_tuple_tuple : kitB "tuple" "tuple" = some true := by decide +kernel
theorem kb_tuple_list : kitB "tuple" "list" = some false := by decide +kernel
theorem kb_tuple_str : kitB "tuple" "str" = some false := by decide +kernel
theorem kb_tuple_int : kitB "tuple" "int" = some false := by decide +kernel
theorem kb_tuple_bool : kitB "tuple" "bool" = some false := by decide +kernel
theorem kb_list_tuple : kitB "list" "tuple" = some false := by decide +kernel
theorem kb_list_list : kitB "list" "list" = some true := by decide +kernel
theorem kb_list_str : kitB "list" "str" = some false := by decide +kernel
theorem kb_list_int : kitB "list" "int" = some false := by decide +kernel
theorem kb_list_bool : kitB "list" "bool" = some false := by decide +kernel
theorem kb_bool_bool : kitB "bool" "bool" = some true := by decide +kernel
theorem kb_bool_int : kitB "bool" "int" = some true := by decide +kernel
theorem kb_bool_str : kitB "bool" "str" = some false := by decide +kernel
theorem kb_bool_tuple : kitB "bool" "tuple" = some false := by decide +kernel
theorem kb_bool_list : kitB "bool" "list" = some false := by decide +kernel
theorem kb_str_str : kitB "str" "str" = some true := by decide +kernel
theorem kb_str_bool : kitB "str" "bool" = some false := by decide +kernel
theorem kb_str_int : kitB "str" "int" = some false := by decide +kernel
theorem kb_str_tuple : kitB "str" "tuple" = some false := by decide +kernel
theorem kb_str_list : kitB "str" "list" = some false := by decide +kernel
theorem kb_non_bool : kitB "NoneType" "bool" = some false := by decide +kernel
theorem kb_non_int : kitB "NoneType" "int" = some false := by decide +kernel
theorem kb_non_str : kitB "NoneType" "str" = some false := by decide +kernel
theorem kb_non_tuple : kitB "NoneType" "tuple" = some false := by decide +kernel
theorem kb_non_list : kitB "NoneType" "list" = some false := by decide +kernel
theorem b_int : bootBuiltins "int" = some (.type "int") := by decide +kernel
theorem b_bool : bootBuiltins "bool" = some (.type "bool") := by decide +kernel
theorem b_str : bootBuiltins "str" = some (.type "str") := by decide +kernel
theorem b_tuple : bootBuiltins "tuple" = some (.type "tuple") := by decide +kernel
theorem b_list : bootBuiltins "list" = some (.type "list") := by decide +kernel
theorem b_isi : bootBuiltins "isinstance" = some (.builtin "isinstance") := by decide +kernel
theorem b_len : bootBuiltins "len" = some (.builtin "len") := by decide +kernel
theorem b_abs : bootBuiltins "abs" = some (.builtin "abs") := by decide +kernel
theorem b_max : bootBuiltins "max" = some (.builtin "max") := by decide +kernel
theorem b_min : bootBuiltins "min" = some (.builtin "min") := by decide +kernel
/-! ### loops -/
theorem s_forR {nx : L2.St → Hp → Prop} {rt : VK} {bk ct : L2.St → Hp → Prop} {g : Nat} {N G : List Str} {sc : Scope} {x : Str} {i : Nat} {a : Expr} {body : List Stmt} {px p cp pos : Pos} (hm : X.mg "range" = none)
    (q : wE X a σ H fun v H1 => ∃ n : Nat, v = .int n ∧ n < 2 ^ 62 ∧ ∃ Pv : Nat → L2.St → Hp → Prop, Pv 0 σ H1 ∧ (∀ k σ H, k < n → Pv k σ H → wL X body ⟨Pv (k + 1), rt, nx, Pv (k + 1)⟩ (σ.set i (some (.int (k : Int)))) H) ∧ ∀ σ H, Pv n σ H → nx σ H)
    (I : In X N G sc := by assumption) (hc : X.calm = true := by rfl) (hA : At N i x := by repeat (first | with_reducible apply At.z | with_reducible apply At.s))
    (hG : At G g ("range" : Str) := by repeat (first | with_reducible apply At.z | with_reducible apply At.s)) (hs : starEach [a] X.env = [(false, eval a X.env)] := by rfl) (hs2 : ∀ z, foldedSetIterable (.Call (.Name "range" p) [a] [] cp) X.env z = pure z := by intro _; rfl)
    (hs1 : starEach (a :: []) X.env = (false, eval a X.env) :: starEach [] X.env := by rfl) :
    wS X (.For (.Name x px) (.Call (.Name "range" p) [a] [] cp) body [] pos) ⟨nx, rt, bk, ct⟩ σ H := by
  refine s_of (ps_for I.never hc (pi_range1 (I.g hG) hm (pa_cons pe pa_nil hs1) hs) (pg_name I.nd (I.hi hA) (I.loc hA) I.f) pl hs2) (e_mono q fun v H1 q1 => ?_)
  obtain ⟨n, rfl, hn, Pv, h0, hb, hd⟩ := q1
  refine ⟨(n : Int), rfl, by omega, by omega, ?_⟩
  rw [Int.toNat_natCast]
  refine for_range (n := n) Pv h0 (fun k σ H hk p => ?_) hd
  rw [Int.zero_add]
  exact hb k σ H hk p
theorem s_forL {nx : L2.St → Hp → Prop} {rt : VK} {bk ct : L2.St → Hp → Prop} {N G : List Str} {sc : Scope} {x : Str} {i : Nat} {a : Expr} {body : List Stmt} {px pos : Pos}
    (q : wE X a σ H fun v H1 => ∃ ad xs, v = .ref ad ∧ SqL X.K H1 ad xs ∧ ∃ Pv : Nat → L2.St → Hp → Prop, Pv 0 σ H1 ∧ (∀ k σ H, k ≤ xs.length → Pv k σ H → SqL X.K H ad xs) ∧ (∀ k y σ H, xs[k]? = some y → Pv k σ H → wL X body ⟨Pv (k + 1), rt, nx, Pv (k + 1)⟩ (σ.set i (some y)) H) ∧ ∀ σ H, Pv xs.length σ H → nx σ H)
    (I : In X N G sc := by assumption) (hc : X.calm = true := by rfl) (hA : At N i x := by repeat (first | with_reducible apply At.z | with_reducible apply At.s))
    (hs2 : ∀ z, foldedSetIterable a X.env z = pure z := by intro _; rfl) :
    wS X (.For (.Name x px) a body [] pos) ⟨nx, rt, bk, ct⟩ σ H := by
  refine s_of (ps_for I.never hc (pi_list pe) (pg_name I.nd (I.hi hA) (I.loc hA) I.f) pl hs2) (e_mono q fun v H1 q1 => ?_)
  obtain ⟨ad, xs, rfl, hl, Pv, h0, hk, hb, hd⟩ := q1
  exact ⟨ad, rfl, ⟨xs, hl⟩, for_list Pv h0 hk hb hd⟩
theorem s_forT {nx : L2.St → Hp → Prop} {rt : VK} {bk ct : L2.St → Hp → Prop} {N G : List Str} {sc : Scope} {x : Str} {i : Nat} {a : Expr} {body : List Stmt} {px pos : Pos}
    (q : wE X a σ H fun v H1 => ∃ ad xs, v = .ref ad ∧ SqT X.K H1 ad xs ∧ ∃ Pv : Nat → L2.St → Hp → Prop, Pv 0 σ H1 ∧ (∀ k σ H, k ≤ xs.length → Pv k σ H → SqT X.K H ad xs) ∧ (∀ k y σ H, xs[k]? = some y → Pv k σ H → wL X body ⟨Pv (k + 1), rt, nx, Pv (k + 1)⟩ (σ.set i (some y)) H) ∧ ∀ σ H, Pv xs.length σ H → nx σ H)
    (I : In X N G sc := by assumption) (hc : X.calm = true := by rfl) (hA : At N i x := by repeat (first | with_reducible apply At.z | with_reducible apply At.s))
    (hs2 : ∀ z, foldedSetIterable a X.env z = pure z := by intro _; rfl) :
    wS X (.For (.Name x px) a body [] pos) ⟨nx, rt, bk, ct⟩ σ H := by
  refine s_of (ps_for I.never hc (pi_tup pe) (pg_name I.nd (I.hi hA) (I.loc hA) I.f) pl hs2) (e_mono q fun v H1 q1 => ?_)
  obtain ⟨ad, xs, rfl, hl, Pv, h0, hk, hb, hd⟩ := q1
  exact ⟨ad, rfl, ⟨xs, hl⟩, for_tup Pv h0 hk hb hd⟩
/-! ### an own operator of an own class -/
theorem op_own {op : Operator} {k n : Nat} {C f : Addr} {fd : FuncData} {pn : List Str} {sp : Sp} (F : FnOk X.prog X.w X.K X.mg X.base CX0 k f fd pn sp) (hs : PySem.W.findIn X.K (.ref C) (PySem.dunder op.info.2) = some (some (.ref f))) (hf : PySem.W.isFn X.K (.ref f) = true)
    (hc : PySem.W.selfFirst X.K C = true) (hb : Binds X.K fd pn []) (hr : Room n X.A) (hk : k ≤ n) :
    OpR X (binaryOp op) (fun x y H Q => ∃ a b dx dy fs gs, x = .ref a ∧ y = .ref b ∧ H a = some (.ins C dx fs) ∧ H b = some (.ins C dy gs) ∧ sp [x, y] H (fun v H' => (∃ p, v = .ref p) ∧ Q v H') E0) := by
  intro pins s σ H x y u v Q I rx ry h
  obtain ⟨a, b, dx, dy, fs, gs, rfl, rfl, ha, hb', hsp⟩ := h
  cases rx
  cases ry
  obtain ⟨mA, J, _⟩ := ins_get I.hok ha
  obtain ⟨mB, J', _⟩ := ins_get I.hok hb'
  obtain ⟨od, J, _⟩ := J.look
  obtain ⟨od', J', _⟩ := J'.look
  obtain ⟨m, hF⟩ := I.fr
  refine PySem.W.binop_K hF I.ok.mod.kin J J'.type hc hs hf ?_
  refine wpAny_mono (run_fn (E := E0) F (hr.mono hk) hb .nil pass0 I (show Vals [V.ref a, V.ref b] [Value.ref a, Value.ref b] from .cons rfl (.cons rfl .nil)) (by rw [List.append_nil]; exact hsp)) (fun w s' z => ?_) fun _ _ z => z
  obtain ⟨v', H', I', rz, ⟨p, rfl⟩, q⟩ := z
  cases rz
  exact ⟨.ref p, H', I', rfl, q⟩
structure Op2 (P : Program) (w : World) (K : PySem.W.Frag) (mg : Str → Option Value) (base : Heap) (k : Nat) (C : Addr) (op : Operator) (sp : Sp) : Prop where
  ex : ∃ (f : Addr) (fd : FuncData) (pn : List Str), FnOk P w K mg base CX0 k f fd pn sp ∧ PySem.W.findIn K (.ref C) (PySem.dunder op.info.2) = some (some (.ref f)) ∧ PySem.W.isFn K (.ref f) = true ∧ PySem.W.selfFirst K C = true ∧ Binds K fd pn []
theorem o_own {op : Operator} {k n : Nat} {C a b dx dy : Addr} {fs gs : List (Str × V)} {sp : Sp} (F : Op2 X.prog X.w X.K X.mg X.base k C op sp) (hr : Room n X.A) (hk : k ≤ n) (ha : H a = some (.ins C dx fs)) (hb : H b = some (.ins C dy gs))
    (q : sp [.ref a, .ref b] H (fun v H' => (∃ p, v = .ref p) ∧ Q v H') E0) : wB X op (.ref a) (.ref b) H Q := by
  obtain ⟨f, fd, pn, G, hs, hf, hc, hb'⟩ := F.ex
  exact b_of (op_own G hs hf hc hb' hr hk) ⟨a, b, dx, dy, fs, gs, rfl, rfl, ha, hb, q⟩
end
/-! ### heaps -/
/-- all but a stays -/
def But (a : Addr) (H H' : Hp) : Prop := ∀ b o, b ≠ a → H b = some o → H' b = some o
theorem But.refl {a : Addr} {H : Hp} : But a H H := fun _ _ _ h => h
theorem But.trans {a : Addr} {H H1 H2 : Hp} (x : But a H H1) (y : But a H1 H2) : But a H H2 := fun b o n h => y b o n (x b o n h)
theorem But.of {a : Addr} {H H1 : Hp} (x : Same H H1) : But a H H1 := fun b o _ h => x b o h
theorem But.upd {a : Addr} {H H1 : Hp} {o : HO} (x : But a H H1) : But a H (L2.upd H1 a o) := fun b u n h => by
  rw [upd_ne n]
  exact x b u n h
theorem But.tup {a p : Addr} {H H1 : Hp} {l xs : List V} (x : But a H H1) (ha : H a = some (.lst l)) (hp : H p = some (.tup xs)) : H1 p = some (.tup xs) := x p _ (ne_of hp ha (by intro z; cases z)) hp
theorem But.ins {a p C dx : Addr} {H H1 : Hp} {l : List V} {fs : List (Str × V)} (x : But a H H1) (ha : H a = some (.lst l)) (hp : H p = some (.ins C dx fs)) : H1 p = some (.ins C dx fs) := x p _ (ne_of hp ha (by intro z; cases z)) hp
theorem But.frz {a p : Addr} {H H1 : Hp} {l : List V} {o : Obj} {u : HO} (x : But a H H1) (ha : H a = some (.lst l)) (hp : H p = some (.frz o u)) : H1 p = some (.frz o u) := x p _ (ne_of hp ha (by intro z; cases z)) hp
section
variable {P : Program} {w : World} {K : PySem.W.Frag} {mg : Str → Option Value} {base : Heap}
/-- a def of the module where the top has left it -/
structure Top (K : PySem.W.Frag) (mg : Str → Option Value) (x : Str) (st : Stmt) : Prop where
  ex : ∃ (f : Addr) (fd : FuncData), Fun K x x st f fd ∧ mg x = some (.ref f)
theorem top_mk {h : Heap} {x : Str} {st : Stmt} {f : Addr} {oc : Value} {od an : Option Addr} {osl : Array (Option Value)} {kV doc pm cdv ct : Value} (X : K.In h) (G : h.Ns mainGlobals mg) (a : PySem.W.nsIn K mainGlobals x = some (some (.ref f)))
    (l : K.lookup f = some ⟨oc, od, .func (PySem.W.fnOf x x (defArgs st) (defBody st) (defScope st) .none kV doc pm an cdv ct), osl⟩) (c : PySem.W.codeIn K cdv x = true) (k : PySem.W.keepIn K (.ref f) = true) : Top K mg x st :=
  ⟨f, _, fun_mk l c k, PySem.W.mg_of X G a⟩
theorem fn_ok {x : Str} {st : Stmt} {N G ps : List Str} {k : Nat} {sp : Sp} (T : Top K mg x st) (S : FnScope N ps (defScope st)) (O : ScOk N G (defScope st)) (len : ∀ vs H Q E, sp vs H Q E → vs.length = ps.length)
    (hb : ∀ (kV doc pm : Value) (an : Option Addr) (cdv ct : Value) (us : List Value), us.length = ps.length → bindArgs (PySem.W.fnOf x x (defArgs st) (defBody st) (defScope st) .none kV doc pm an cdv ct) ⟨us, []⟩ = pure (ps.zip us))
    (hbody : ∀ (f : Addr) (cdv : Value) (A : Around) (outer : List Env) (s : Shared) (H : Hp) (vs : List V) (Q : VK) (E : XK), Room k (A.deeper (envOfC x (defScope st) s.heap.objs.size f cdv)) → sp vs H Q E → In (cxOf CX0 P w K mg base N x (defScope st) f cdv A outer s H E).nox N G (defScope st) →
      wL (cxOf CX0 P w K mg base N x (defScope st) f cdv A outer s H E).nox (defBody st) { nx := fun _ H' => Q .non H', rt := Q } (start N vs) H) : Fn P w K mg base (k + 1) x sp := by
  obtain ⟨f, fd, F, hm⟩ := T.ex
  exact ⟨f, fd, ps, F.ok S len (fun cdv A outer s H vs Q E hr h => ⟨_, pl, hbody f cdv A outer s H vs Q E hr h ⟨O, rfl, rfl, rfl, PassesOwn.never⟩⟩), hm, F.kp, F.binds hb⟩
/-- a method where the top has left it -/
structure TopM (K : PySem.W.Frag) (C : Addr) (x qual : Str) (st : Stmt) : Prop where
  ex : ∃ (f : Addr) (fd : FuncData), Fun K x qual st f fd ∧ PySem.W.findIn K (.ref C) x = some (some (.ref f)) ∧ PySem.W.isFn K (.ref f) = true
theorem topM_mk {x qual : Str} {st : Stmt} {C f : Addr} {oc : Value} {od an : Option Addr} {osl : Array (Option Value)} {kV doc pm cdv ct : Value} (a : PySem.W.findIn K (.ref C) x = some (some (.ref f))) (i : PySem.W.isFn K (.ref f) = true)
    (l : K.lookup f = some ⟨oc, od, .func (PySem.W.fnOf x qual (defArgs st) (defBody st) (defScope st) .none kV doc pm an cdv ct), osl⟩) (c : PySem.W.codeIn K cdv qual = true) (k : PySem.W.keepIn K (.ref f) = true) : TopM K C x qual st :=
  ⟨f, _, fun_mk l c k, a, i⟩
theorem me_ok {x qual : Str} {C : Addr} {st : Stmt} {N G ps : List Str} {k : Nat} {sp : Sp} (T : TopM K C x qual st) (S : FnScope N ps (defScope st)) (O : ScOk N G (defScope st)) (len : ∀ vs H Q E, sp vs H Q E → vs.length = ps.length)
    (hb : ∀ (kV doc pm : Value) (an : Option Addr) (cdv ct : Value) (us : List Value), us.length = ps.length → bindArgs (PySem.W.fnOf x qual (defArgs st) (defBody st) (defScope st) .none kV doc pm an cdv ct) ⟨us, []⟩ = pure (ps.zip us))
    (hbody : ∀ (f : Addr) (cdv : Value) (A : Around) (outer : List Env) (s : Shared) (H : Hp) (vs : List V) (Q : VK) (E : XK), Room k (A.deeper (envOfC qual (defScope st) s.heap.objs.size f cdv)) → sp vs H Q E → In (cxOf CX0 P w K mg base N qual (defScope st) f cdv A outer s H E).nox N G (defScope st) →
      wL (cxOf CX0 P w K mg base N qual (defScope st) f cdv A outer s H E).nox (defBody st) { nx := fun _ H' => Q .non H', rt := Q } (start N vs) H) :
    ∃ (f : Addr) (fd : FuncData), FnOk P w K mg base CX0 (k + 1) f fd ps sp ∧ Binds K fd ps [] ∧ PySem.W.findIn K (.ref C) x = some (some (.ref f)) ∧ PySem.W.isFn K (.ref f) = true ∧ PySem.W.keepIn K (.ref f) = true := by
  obtain ⟨f, fd, F, hf, hi⟩ := T.ex
  exact ⟨f, fd, F.ok S len (fun cdv A outer s H vs Q E hr h => ⟨_, pl, hbody f cdv A outer s H vs Q E hr h ⟨O, rfl, rfl, rfl, PassesOwn.never⟩⟩), F.binds hb, hf, hi, F.kp⟩
end
/-- a bool test that is decided by a fact -/
theorem ifT {c A B : Prop} [Decidable c] (hc : c) (h : A) : if decide c = true then A else B := by
  rw [decide_eq_true hc]
  exact iteT h
theorem ifF {c A B : Prop} [Decidable c] (hc : ¬ c) (h : B) : if decide c = true then A else B := by
  rw [decide_eq_false hc]
  exact iteF h
theorem if2 {c A B : Prop} [Decidable c] (h1 : c → A) (h2 : ¬ c → B) : if decide c = true then A else B := by
  by_cases h : c
  · exact ifT h (h1 h)
  · exact ifF h (h2 h)
theorem ite_t {c : Bool} {A B : Prop} (hc : c = true) (h : A) : if c = true then A else B := by
  rw [hc]
  exact iteT h
theorem ite_f {c : Bool} {A B : Prop} (hc : c = false) (h : B) : if c = true then A else B := by
  rw [hc]
  exact iteF h
section
variable {P : Program} {w : World} {K : PySem.W.Frag} {mg : Str → Option Value} {base : Heap}
theorem run_ok {x qual : Str} {st : Stmt} {N G ps : List Str} {k : Nat} {sp : Sp} {f : Addr} {fd : FuncData} (F : Fun K x qual st f fd) (S : FnScope N ps (defScope st)) (O : ScOk N G (defScope st)) (len : ∀ vs H Q E, sp vs H Q E → vs.length = ps.length)
    (hbody : ∀ (f : Addr) (cdv : Value) (A : Around) (outer : List Env) (s : Shared) (H : Hp) (vs : List V) (Q : VK) (E : XK), Room k (A.deeper (envOfC qual (defScope st) s.heap.objs.size f cdv)) → sp vs H Q E → In (cxOf CX0 P w K mg base N qual (defScope st) f cdv A outer s H E).nox N G (defScope st) →
      wL (cxOf CX0 P w K mg base N qual (defScope st) f cdv A outer s H E).nox (defBody st) { nx := fun _ H' => Q .non H', rt := Q } (start N vs) H) : FnOk P w K mg base CX0 (k + 1) f fd ps sp :=
  F.ok S len (fun cdv A outer s H vs Q E hr h => ⟨_, pl, hbody f cdv A outer s H vs Q E hr h ⟨O, rfl, rfl, rfl, PassesOwn.never⟩⟩)
end
end Wk

/-! My own layer, errors: an own class of errors with fields, raised, caught, asked. -/
namespace Wk
open PySem PySem.Spec PyProof.Rows L2
section
variable {X : Cx} {N G : List Str} {sc : Scope} {e o : Expr} {es : List Expr} {σ : L2.St} {H : Hp} {Q : VK} {pos p0 np : Pos}
theorem o_isN {x : V} (q : Q (.bl (decide (x = .non))) H) : wK X .Is x .non H Q := k_of op_isN ⟨rfl, q⟩
theorem o_nisB {a b : Bool} (q : Q (.bl (!decide (a = b))) H) : wK X .IsNot (.bl a) (.bl b) H Q := k_of op_isnot_bl ⟨a, b, rfl, rfl, q⟩
/-- a def of the module that may raise -/
structure FnX (P : Program) (w : World) (K : PySem.W.Frag) (mg : Str → Option Value) (base : Heap) (k : Nat) (x : Str) (sp : Sp) : Prop where
  ex : ∃ (f : Addr) (fd : FuncData) (ps : List Str), FnOk P w K mg base (L2.CX P w) k f fd ps sp ∧ mg x = some (.ref f) ∧ PySem.W.keepIn K (.ref f) = true ∧ Binds K fd ps []
theorem e_callX {g k n : Nat} {x : Str} {sp : Sp} {W : WX} (F : FnX X.prog X.w X.K X.mg X.base k x sp) (tk : Takes X W) (hr : Room n X.A) (hk : k ≤ n) (q : wA X (e :: es) σ H fun vs H1 => sp vs H1 Q (fun cls d H' => W cls d σ H'))
    (I : In X N G sc := by assumption) (hG : At G g x := by repeat (first | with_reducible apply At.z | with_reducible apply At.s)) (he : starEach (e :: es) X.env = (false, eval e X.env) :: starEach es X.env := by rfl) (hpl : (backTo pos (starEach es X.env)).any (·.1) = false := by rfl) :
    wE X (.Call (.Name x p0) (e :: es) [] pos) σ H Q := by
  obtain ⟨f, fd, ps, F0, hm, hkp, hb⟩ := F.ex
  refine e_of (pe_callSD (E := fun σ cls d H' => W cls d σ H') F0 (hr.mono hk) (I.g hG) hm hkp hb .nil (fun σ => passAt tk σ) pa (I.gd hG) he hpl) ?_
  show wA X (e :: es) σ H fun vs H1 => sp (vs ++ []) H1 Q (fun cls d H' => W cls d σ H')
  simp only [List.append_nil]
  exact q
/-- an own class of errors whose __init__ stores its one argument in the field f -/
def sp1 (C : Addr) (f : Str) : Sp := fun vs H Q _ => ∃ (a : Addr) (v : V), vs = [.ref a, v] ∧ H a = some (exo a C none) ∧ ∀ dx, H dx = none → dx ≠ a → Q .non (upd (upd H dx (exd dx [(f, v)])) a (exo a C (some dx)))
structure Er (P : Program) (w : World) (K : PySem.W.Frag) (mg : Str → Option Value) (base : Heap) (x : Str) (C : Addr) (f : Str) : Prop where
  o : OexC K C
  mgC : mg x = some (.ref C)
  ex : ∃ (fI : Addr) (fd : FuncData) (ps : List Str), FnOk P w K mg base CX0 1 fI fd ps (sp1 C f) ∧ PySem.W.findIn K (.ref C) "__init__" = some (some (.ref fI)) ∧ PySem.W.typeIn K (.ref fI) = some (.type "function") ∧ Binds K fd ps []
/-- self.f = e of an error that is being made -/
theorem s_ost {nx : L2.St → Hp → Prop} {rt : VK} {bk ct : L2.St → Hp → Prop} {f : Str} {value : Expr} {pos' : Pos} (q : wE X value σ H fun y H1 => wE X o σ H1 fun x H2 => ∃ a C : Addr, x = .ref a ∧ OexC X.K C ∧ PySem.W.findIn X.K (.ref C) f = some none ∧ H2 a = some (exo a C none) ∧ ∀ dx, H2 dx = none → dx ≠ a → nx σ (upd (upd H2 dx (exd dx [(f, y)])) a (exo a C (some dx))))
    (hs : swapsWith value (some (.Attribute o f pos')) pos.line X.env = pure false := by rfl) : wS X (.Assign [.Attribute o f pos'] value pos) ⟨nx, rt, bk, ct⟩ σ H :=
  s_of (ps_ost pe pe hs) (e_mono q fun y H1 z => e_mono z fun x H2 ⟨a, C, h1, h2, h3, h4, h5⟩ => ⟨a, C, h1, h2, h3, .inl ⟨h4, h5⟩⟩)
/-- raise C(e) -/
theorem s_raise1 {nx : L2.St → Hp → Prop} {rt : VK} {bk ct : L2.St → Hp → Prop} {g n : Nat} {x f : Str} {C : Addr} {W : WX} {pos' : Pos} (R : Er X.prog X.w X.K X.mg X.base x C f) (tk : Takes X W) (hr : Room n X.A) (hn : 2 ≤ n)
    (q : wE X e σ H fun v H1 => ∀ d H', Same H1 H' → H1 d = none → H' d = some (.xd [(f, v)]) → W (.ref C) (some d) σ H')
    (I : In X N G sc := by assumption) (hG : At G g x := by repeat (first | with_reducible apply At.z | with_reducible apply At.s)) (hc : X.calm = true := by rfl)
    (he : starEach (e :: []) X.env = (false, eval e X.env) :: starEach [] X.env := by rfl) (hpl : (backTo pos (starEach [] X.env)).any (·.1) = false := by rfl) :
    wS X (.Raise (some (.Call (.Name x p0) [e] [] pos)) none pos') ⟨nx, rt, bk, ct⟩ σ H := by
  obtain ⟨fI, fd, ps, F0, hi, ht, hb⟩ := R.ex
  refine s_of (ps_raise hc tk (pmk_oex R.o hi ht F0 (hr.mono hn) hb .nil pass0 (I.g hG) R.mgC pa (I.gd hG) he hpl)) ?_
  refine a_cons (e_mono q fun v H1 z => a_nil ⟨by show 1 ≤ 1000; decide, fun a na => ?_⟩) he
  refine ⟨a, v, rfl, upd_same, fun dx nd ne => ⟨rfl, dx, [(f, v)], upd_same, ?_, ?_, ?_⟩⟩
  · rw [upd_ne ne, upd_same]
  · rw [upd_ne ne] at nd
    exact nd
  · refine z dx _ (fun b u hb => ?_) (by rw [upd_ne ne] at nd; exact nd) upd_same
    have h1 : b ≠ a := ne_of_none hb na
    have h2 : b ≠ dx := ne_of_none hb (by rw [upd_ne ne] at nd; exact nd)
    rw [upd_ne h2, del_ne h1, upd_ne h1, upd_ne h2, upd_ne h1]
    exact hb
/-- the suite of an except clause -/
def tsS (X : Cx) (N G : List Str) (sc : Scope) (sts : List Stmt) : Addr → Value → Option Addr → TS := fun a cls d D σ H => ∀ (oe : Obj) (pn : List (Addr × Obj)), Zc cls d oe → (∃ vs, oe.data = .fields vs) → In (X.suite a ((a, oe) :: pn)) N G sc → wL (X.suite a ((a, oe) :: pn)) sts D σ H
theorem In.tr (I : In X N G sc) {pn : List (Addr × Obj)} {xe : Value → Shared → Prop} (h : PassesOwn (model X.prog X.w) X.A X.env xe) : In (X.tr pn xe) N G sc := ⟨I.ok, I.n, I.sc, I.fn, h⟩
theorem In.suite (I : In X N G sc) {a : Addr} {pn : List (Addr × Obj)} : In (X.suite a pn) N G sc := ⟨I.ok, I.n, I.sc, I.fn, PassesOwn.never⟩
/-- try: body, except x as n: suite -/
theorem s_tryAs {nx : L2.St → Hp → Prop} {rt : VK} {bk ct : L2.St → Hp → Prop} {i g : Nat} {x n : Str} {c : Value} {body suite : List Stmt} {b0 : Stmt} {pos' : Pos} {Wout : WX} (hm : X.mg x = some c) (tk : Takes X Wout)
    (q : ∀ (pn : List (Addr × Obj)) (xe : Value → Shared → Prop), Takes (X.tr pn xe) (wAs X.K c i (tsS X N G sc (b0 :: suite)) Wout ⟨nx, rt, bk, ct⟩) → In (X.tr pn xe) N G sc → wL (X.tr pn xe) body ⟨nx, rt, bk, ct⟩ σ H)
    (I : In X N G sc := by assumption) (hA : At N i n := by repeat (first | with_reducible apply At.z | with_reducible apply At.s)) (hG : At G g x := by repeat (first | with_reducible apply At.z | with_reducible apply At.s))
    (hln : X.env.kindOf n = some .local := by rfl) (hs : X.stack = X.env :: X.outer := by rfl) (hf : X.env.frame = some X.env.locals := by rfl) :
    wS X (.Try body [.ExceptHandler (some (.Name x np)) (some n) (b0 :: suite) pos'] [] [] pos) ⟨nx, rt, bk, ct⟩ σ H :=
  s_of (ps_try_as (tb := fun W D σ H => ∀ (pn : List (Addr × Obj)) (xe : Value → Shared → Prop), Takes (X.tr pn xe) W → In (X.tr pn xe) N G sc → wL (X.tr pn xe) body D σ H) hs hf I.nd (I.hi hA) hln ⟨I.g hG, I.gd hG, .inl hm⟩ tk
    (fun W pn xe tk' po => ⟨fun pins s σ H D Iv h => pl.run pins s σ H D Iv (h pn xe tk' (I.tr po))⟩)
    (fun a oe cls d pn hz hd => ⟨fun pins s σ H D Iv h => pl.run pins s σ H D Iv (h oe pn hz hd I.suite)⟩)) q
/-- what the class D must say, so that isinstance asks its errors rightly -/
structure EcC (K : PySem.W.Frag) (D : Addr) : Prop where
  cl : (PySem.W.clsIn K D).isSome = true
  hg : PySem.W.findIn K (.ref D) "__getattribute__" = some (some (.builtin "BaseException.__getattribute__"))
  hk : PySem.W.findIn K (.ref D) "__getattr__" = some none
  hs : PySem.W.subIn K (.ref D) (.type "BaseException") = some true
  ha : PySem.W.findIn K (.ref D) "__class__" = some (some (.builtin "object.__class__"))
  hn : PySem.W.specialIn K (.builtin "object.__class__") "__get__" = some (some (.builtin "getset_descriptor.__get__"))
  ht : PySem.W.takesIn K (.builtin "object.__class__") = some true
  hm : PySem.W.mroIn K D (.type "object") = some true
/-- the caught error at a stands as an instance -/
theorem inst_of {pins : List (Addr × Obj)} {s : Shared} {a D : Addr} {d : Option Addr} {oe : Obj} {pn : List (Addr × Obj)} {fs : List (Str × V)} (I : Inv (X.suite a ((a, oe) :: pn)) pins σ H s) (hz : Zc (.ref D) d oe) (hf : ∃ vs, oe.data = .fields vs)
    (hd : ∀ dd, d = some dd → H dd = some (.xd fs)) : ∃ od, PySem.W.InstAt s.heap a oe D od := by
  obtain ⟨hget, _⟩ := I.pin (a, oe) (List.mem_append.mpr (.inl List.mem_cons_self))
  obtain ⟨vs, hv⟩ := hf
  have nc : PySem.W.notCls oe := by unfold PySem.W.notCls; rw [hv] <;> trivial
  cases d with
  | none => exact ⟨none, hget, hz.1, nc, by rw [hz.2]; trivial⟩
  | some dd =>
    obtain ⟨mA, hns, _⟩ := (show ObjOk X.prog X.w H s.heap dd (.xd fs) from I.hok dd _ (hd dd rfl))
    obtain ⟨od, ho, _⟩ := lookIn_ns hns
    exact ⟨some od, hget, hz.1, nc, by rw [hz.2]; exact ho⟩
theorem c_isE {a D : Addr} {d : Option Addr} {oe : Obj} {pn : List (Addr × Obj)} {fs : List (Str × V)} {c : V} {cv : Value} {b : Bool} (C : EcC X.K D) (hz : Zc (.ref D) d oe) (hf : ∃ vs, oe.data = .fields vs) (hd : ∀ dd, d = some dd → H dd = some (.xd fs))
    (k : ClsV c cv) (e : PySem.W.kitOne X.K (.ref D) cv = some b) (q : Q (.bl b) H) : wC (X.suite a ((a, oe) :: pn)) (.builtin "isinstance") [.ref a, c] H Q := by
  unfold wC
  intro pins s σ us I r
  obtain ⟨u1, u2, rfl, r1, r2⟩ := vals2 r
  cases (show u1 = Value.ref a from r1)
  have ec := k.eq r2
  subst ec
  obtain ⟨od, J⟩ := inst_of I hz hf hd
  exact PySem.W.kia_one (PySem.W.kitx_exc (od := od) C.cl C.hg C.hk C.hs C.ha C.hn C.ht C.hm) I.kIn J e (fun z => nomatch z) fun tk => ⟨.bl b, H, I.tok tk, rfl, q⟩
theorem c_isET {a D tp : Addr} {d : Option Addr} {oe : Obj} {pn : List (Addr × Obj)} {fs : List (Str × V)} {cs : List V} {us' : List Value} {b : Bool} (C : EcC X.K D) (hz : Zc (.ref D) d oe) (hf : ∃ vs, oe.data = .fields vs) (hd : ∀ dd, d = some dd → H dd = some (.xd fs))
    (hT : H tp = some (.tup cs)) (k : Paired ClsV cs us') (e : PySem.W.kitAny X.K (.ref D) us' = some b) (q : Q (.bl b) H) : wC (X.suite a ((a, oe) :: pn)) (.builtin "isinstance") [.ref a, .ref tp] H Q := by
  unfold wC
  intro pins s σ us I r
  obtain ⟨u1, u2, rfl, r1, r2⟩ := vals2 r
  cases (show u1 = Value.ref a from r1)
  cases (show u2 = Value.ref tp from r2)
  obtain ⟨od, J⟩ := inst_of I hz hf hd
  obtain ⟨_, its, rv, o, h1, h2, n, h3⟩ := (show ObjOk X.prog X.w H s.heap tp (.tup cs) from I.hok tp _ hT)
  have e3 := ClsV.all k rv
  subst e3
  obtain ⟨oc, odd, dt, sl⟩ := o
  simp only at h2 h3
  subst h2 h3
  exact PySem.W.kia_tup (PySem.W.kitx_exc (od := od) C.cl C.hg C.hk C.hs C.ha C.hn C.ht C.hm) I.kIn J h1 e (fun z => nomatch z) fun tk => ⟨.bl b, H, I.tok tk, rfl, q⟩
/-- e.f of the caught error -/
theorem e_xf {a C : Addr} {oe : Obj} {d : Option Addr} {pn : List (Addr × Obj)} {f : Str} (T : XfC X.K C) (hno : PySem.W.findIn X.K (.ref C) f = some none) (hz : Zc (.ref C) d oe) (hf : ∃ vs, oe.data = .fields vs)
    (q : wE (X.suite a ((a, oe) :: pn)) e σ H fun x H1 => x = .ref a ∧ ∃ (dd : Addr) (fs : List (Str × V)) (v : V), d = some dd ∧ H1 dd = some (.xd fs) ∧ fs.lookup f = some v ∧ Q v H1) (hb : attributeBase e f X.env (eval e X.env) = eval e X.env := by rfl) :
    wE (X.suite a ((a, oe) :: pn)) (.Attribute e f pos) σ H Q := e_of (pe_xf T hno hz hf pe hb) (e_mono q fun x H1 z => ⟨z.1, rfl, z.2⟩)
end
section
variable {P : Program} {w : World} {K : PySem.W.Frag} {mg : Str → Option Value} {base : Heap}
theorem fn_okX {x : Str} {st : Stmt} {N G ps : List Str} {k : Nat} {sp : Sp} (T : Top K mg x st) (S : FnScope N ps (defScope st)) (O : ScOk N G (defScope st)) (len : ∀ vs H Q E, sp vs H Q E → vs.length = ps.length)
    (hb : ∀ (kV doc pm : Value) (an : Option Addr) (cdv ct : Value) (us : List Value), us.length = ps.length → bindArgs (PySem.W.fnOf x x (defArgs st) (defBody st) (defScope st) .none kV doc pm an cdv ct) ⟨us, []⟩ = pure (ps.zip us))
    (hbody : ∀ (f : Addr) (cdv : Value) (A : Around) (outer : List Env) (s : Shared) (H : Hp) (vs : List V) (Q : VK) (E : XK), Room k (A.deeper (envOfC x (defScope st) s.heap.objs.size f cdv)) → sp vs H Q E → In (cxOf (L2.CX P w) P w K mg base N x (defScope st) f cdv A outer s H E) N G (defScope st) →
      Takes (cxOf (L2.CX P w) P w K mg base N x (defScope st) f cdv A outer s H E) (fun cls d _ H => E cls d H) →
      wL (cxOf (L2.CX P w) P w K mg base N x (defScope st) f cdv A outer s H E) (defBody st) { nx := fun _ H' => Q .non H', rt := Q } (start N vs) H) : FnX P w K mg base (k + 1) x sp := by
  obtain ⟨f, fd, F, hm⟩ := T.ex
  exact ⟨f, fd, ps, F.okX S len (fun cdv A outer s H vs Q E hr h => ⟨_, pl, hbody f cdv A outer s H vs Q E hr h ⟨O, rfl, rfl, rfl, passes_of rfl⟩ (takes_of rfl rfl rfl rfl)⟩), hm, F.kp, F.binds hb⟩
end
end Wk

/-! My own layer, errors whose context is None: raised where nothing is handled, so that defs may be called in the suite that catches them. -/
namespace Wk
open PySem PySem.Spec PyProof.Rows L2
section
variable {X : Cx} {N G : List Str} {sc : Scope} {e o : Expr} {es : List Expr} {σ : L2.St} {H : Hp} {Q : VK} {pos p0 np : Pos}
/-- C(e) of a class whose __init__ stores one field: the made error's fields are known -/
theorem pmkN {n : Nat} {x f : Str} {C : Addr} (R : Er X.prog X.w X.K X.mg X.base x C f) (hr : Room n X.A) (hn : 2 ≤ n) (hg : Gl X x) (hdb : (x == ("__debug__" : Str)) = false)
    (he : starEach (e :: []) X.env = (false, eval e X.env) :: starEach [] X.env) (hpl : (backTo pos (starEach [] X.env)).any (·.1) = false) :
    L2N.PMk X (.Call (.Name x p0) [e] [] pos) (fun σ H Q => wE X e σ H fun v H1 => ∀ d H', Same H1 H' → H1 d = none → H' d = some (.xd [(f, v)]) → Q (.ref C) (some d) H') := by
  intro pins s σ H Q I h
  obtain ⟨fI, fd, ps, F0, hi, ht, hb⟩ := R.ex
  obtain ⟨_, _, _, _, bm, _, _, _, _, _, _, _, _, _, _, hC, hbm⟩ := R.o.cls
  refine wpAny_Call_Name_kw (ld_glob I hg R.mgC ?_ hdb)
  refine PySem.W.callWith_K (h₀ := X.base) I.ok.mod.kin R.o.kC (thn ((pa_cons pe pa_nil he).run pos pins s σ H (fun vs H1 => ∃ v, vs = [v] ∧ ∀ d H', Same H1 H' → H1 d = none → H' d = some (.xd [(f, v)]) → Q (.ref C) (some d) H') I (e_mono h fun v H1 z => ⟨v, rfl, z⟩)) fun us s1 ⟨vs, H1, I1, r1, v, ev, q1⟩ => ⟨I1.kIn, ?_⟩) he hpl
  subst ev
  show wpAny _ _ (call (.ref C) us) _ _ _
  obtain ⟨hp, g, dr, tk, os⟩ := s1
  have hget0 : ((hp.push (PySem.W.kdv_tup us)).push (PySem.HandSPX.excO C hp.objs.size)).get? (hp.objs.size + 1) = some (PySem.HandSPX.excO C hp.objs.size) := by heap_get
  let a := hp.objs.size + 1
  have na : H1 a = none := I1.hok.fresh (Nat.le_succ _)
  let hp2 := (hp.push (PySem.W.kdv_tup us)).push (PySem.HandSPX.excO C hp.objs.size)
  have kk : ∀ b o, hp.get? b = some o → hp2.get? b = some o := fun b o z => Heap.get?_push_of_some _ (Heap.get?_push_of_some _ z)
  have hget : hp2.get? a = some (PySem.HandSPX.excO C hp.objs.size) := hget0
  have I2 : Inv X pins σ (upd H1 a (exo a C none)) ⟨hp2, g, dr, tk, os⟩ := I1.laid (t' := tk) (h' := hp2) kk (Nat.le_succ _) (exo_ok hget)
  have r2 : Vals (V.ref a :: [v]) (Value.ref a :: us) := .cons rfl r1
  have lu : us.length = 1 := r1.length.symm
  -- what __init__ is asked for
  have hq : sp1 C f [.ref a, v] (upd H1 a (exo a C none)) (fun w H2 => w = .non ∧ ∃ d, H2 a = some (exo a C (some d)) ∧ H2 d = some (exd d [(f, v)]) ∧ H1 d = none ∧ Q (.ref C) (some d) (upd (del H2 a) d (.xd [(f, v)]))) (fun _ _ _ => False) := by
    refine ⟨a, v, rfl, upd_same, fun dx nd ne => ⟨rfl, dx, upd_same, by rw [upd_ne ne, upd_same], by rw [upd_ne ne] at nd; exact nd, ?_⟩⟩
    rw [upd_ne ne] at nd
    refine q1 dx _ (fun b u hb => ?_) nd upd_same
    have h1 : b ≠ a := ne_of_none hb na
    have h2 : b ≠ dx := ne_of_none hb nd
    rw [upd_ne h2, del_ne h1, upd_ne h1, upd_ne h2, upd_ne h1]
    exact hb
  have lp : (Value.ref a :: us).length = ps.length := by
    have z1 := r2.length
    rw [F0.len _ _ _ _ hq] at z1
    exact z1.symm
  have bind : BindsTo ⟨hp2, g, dr, tk, os⟩ fd ⟨Value.ref a :: us, []⟩ (ps.zip (Value.ref a :: us)) := by
    have z1 := hb ⟨hp2, g, dr, tk, os⟩ (Value.ref a :: us) I2.kIn (by rw [List.append_nil]; exact lp)
    rwa [List.append_nil] at z1
  have room : Room 1 (X.A.under (.builtin "type.__call__" ⟨.ref C :: us, []⟩)) := (hr.mono hn).make C us []
  have go := F0.run _ X.stack _ _ ⟨Value.ref a :: us, []⟩ (Value.ref a :: us) [V.ref a, v] _ (fun _ _ _ => False) room (I2.env0.make C us []) bind r2 hq
  refine wpAny_call (PySem.HandSPX.call_own F.excBase_ValueError (fun Y => PySem.HandSPX.refsVE_contains Y bm hbm) (I1.kIn _ _ hC) (PySem.W.looks_findIn I1.kIn hi) (fun self => PySem.W.bind_fn I1.kIn self ht) (by rw [lu, sizeLine_eq]; decide) (codeAny_mono go fun r s' back => ?_))
  cases r with
  | error er => exact False.elim back
  | ok fl =>
    cases fl with
    | ret u =>
      obtain ⟨w, H2, o2, b2, un2, ok2, rw2, ew, d, ea, ed, nd1, q2⟩ := back
      subst ew
      obtain ⟨h2, g2, d2, t2, os'⟩ := s'
      obtain ⟨t0, Gh, J, kG, ge, hoe, nH⟩ := mk_end0 (d2 := d2) (t2 := t2) I1 (Nat.le_succ _) kk un2 ok2 o2 b2 ea ed nd1
      refine ⟨rw2, a, _, #[.ref t0, .none, .none, .none, .bool false, .none], ⟨Gh, g2, d2, t2, os'⟩, _, .ref C, some d, rfl, J, kG, ge, hoe, ⟨rfl, rfl, ?_⟩, rfl, rfl, nH, rfl, b2, raises_own R.o.exC R.o.tyC, q2⟩
      intro vs z
      cases z
      rfl
    | next => exact False.elim back
    | brk => exact False.elim back
    | cont => exact False.elim back

theorem e_dict (q : ∀ p H2, Same H H2 → H p = none → H2 p = some (.dK []) → Q (.ref p) H2) : wE X (.Dict [] [] pos) σ H Q :=
  e_of pe_dnewK fun p np => q p _ (fun b u eo => by rw [upd_ne (ne_of_none eo np)]; exact eo) np upd_same
theorem e_neg {a : Expr} (q : wE X a σ H fun x H1 => ∃ i, x = .int i ∧ Q (.int (-i)) H1) : wE X (.UnaryOp .USub a pos) σ H Q := e_of (pe_un un_neg pe) q
theorem o_cat {l b : Addr} {xs zs : List V} (h1 : H l = some (.lst xs)) (h2 : H b = some (.lst zs)) (hz : xs.length + zs.length ≤ sizeLine) (q : ∀ p H2, Same H H2 → H2 p = some (.lst (xs ++ zs)) → Q (.ref p) H2) : wB X .Add (.ref l) (.ref b) H Q :=
  b_of op_cat ⟨l, b, xs, zs, rfl, rfl, h1, h2, hz, fun p np => q p _ (fun c u eo => by rw [upd_ne (ne_of_none eo np)]; exact eo) upd_same⟩
theorem c_str {i : Int} (hl : i.natAbs.log2 < 1920) (q : Q (.str (toString i)) H) : wC X (.type "str") [.int i] H Q := c_of call_str_int ⟨i, rfl, hl, q⟩
theorem o_isB {a b : Bool} (q : Q (.bl (decide (a = b))) H) : wK X .Is (.bl a) (.bl b) H Q := k_of op_is_bl ⟨a, b, rfl, rfl, q⟩
/-- raise C(e), where nothing is handled -/
theorem s_raiseN {nx : L2.St → Hp → Prop} {rt : VK} {bk ct : L2.St → Hp → Prop} {g n : Nat} {x f : Str} {C : Addr} {W : WX} {pos' : Pos} (R : Er X.prog X.w X.K X.mg X.base x C f) (tk : L2N.Takes X W) (hr : Room n X.A) (hn : 2 ≤ n)
    (q : wE X e σ H fun v H1 => ∀ d H', Same H1 H' → H1 d = none → H' d = some (.xd [(f, v)]) → W (.ref C) (some d) σ H')
    (I : In X N G sc := by assumption) (hG : At G g x := by repeat (first | with_reducible apply At.z | with_reducible apply At.s)) (hc : X.calm = true := by rfl)
    (he : starEach (e :: []) X.env = (false, eval e X.env) :: starEach [] X.env := by rfl) (hpl : (backTo pos (starEach [] X.env)).any (·.1) = false := by rfl) :
    wS X (.Raise (some (.Call (.Name x p0) [e] [] pos)) none pos') ⟨nx, rt, bk, ct⟩ σ H :=
  s_of (L2N.ps_raise hc tk (pmkN R hr hn (I.g hG) (I.gd hG) he hpl)) q
/-- a def of the module that may raise so -/
structure FnN (P : Program) (w : World) (K : PySem.W.Frag) (mg : Str → Option Value) (base : Heap) (k : Nat) (x : Str) (sp : Sp) : Prop where
  ex : ∃ (f : Addr) (fd : FuncData) (ps : List Str), FnOk P w K mg base (L2N.CX P w) k f fd ps sp ∧ mg x = some (.ref f) ∧ PySem.W.keepIn K (.ref f) = true ∧ Binds K fd ps []
theorem e_callN {g k n : Nat} {x : Str} {sp : Sp} {W : WX} (F : FnN X.prog X.w X.K X.mg X.base k x sp) (tk : L2N.Takes X W) (hr : Room n X.A) (hk : k ≤ n) (q : wA X (e :: es) σ H fun vs H1 => sp vs H1 Q (fun cls d H' => W cls d σ H'))
    (I : In X N G sc := by assumption) (hG : At G g x := by repeat (first | with_reducible apply At.z | with_reducible apply At.s)) (he : starEach (e :: es) X.env = (false, eval e X.env) :: starEach es X.env := by rfl) (hpl : (backTo pos (starEach es X.env)).any (·.1) = false := by rfl) :
    wE X (.Call (.Name x p0) (e :: es) [] pos) σ H Q := by
  obtain ⟨f, fd, ps, F0, hm, hkp, hb⟩ := F.ex
  refine e_of (pe_callSD (E := fun σ cls d H' => W cls d σ H') F0 (hr.mono hk) (I.g hG) hm hkp hb .nil (fun σ => L2N.passAt tk σ) pa (I.gd hG) he hpl) ?_
  show wA X (e :: es) σ H fun vs H1 => sp (vs ++ []) H1 Q (fun cls d H' => W cls d σ H')
  simp only [List.append_nil]
  exact q
/-- the suite of an except clause that catches such an error -/
def tsN (X : Cx) (N G : List Str) (sc : Scope) (sts : List Stmt) : Addr → Value → Option Addr → TS := fun a cls d D σ H => ∀ (oe : Obj) (pn : List (Addr × Obj)), Zc cls d oe → (∃ vs, oe.data = .fields vs) → In (X.suite a ((a, oe) :: pn)) N G sc → L2H.HotC (X.suite a ((a, oe) :: pn)) → wL (X.suite a ((a, oe) :: pn)) sts D σ H
theorem s_tryN {nx : L2.St → Hp → Prop} {rt : VK} {bk ct : L2.St → Hp → Prop} {i g : Nat} {x n : Str} {c : Value} {body suite : List Stmt} {b0 : Stmt} {pos' : Pos} {Wout : WX} (hm : X.mg x = some c) (tk : L2N.Takes X Wout)
    (q : ∀ (pn : List (Addr × Obj)) (xe : Value → Shared → Prop), L2N.Takes (X.tr pn xe) (wAs X.K c i (tsN X N G sc (b0 :: suite)) Wout ⟨nx, rt, bk, ct⟩) → In (X.tr pn xe) N G sc → wL (X.tr pn xe) body ⟨nx, rt, bk, ct⟩ σ H)
    (I : In X N G sc := by assumption) (hA : At N i n := by repeat (first | with_reducible apply At.z | with_reducible apply At.s)) (hG : At G g x := by repeat (first | with_reducible apply At.z | with_reducible apply At.s))
    (hln : X.env.kindOf n = some .local := by rfl) (hs : X.stack = X.env :: X.outer := by rfl) (hf : X.env.frame = some X.env.locals := by rfl) :
    wS X (.Try body [.ExceptHandler (some (.Name x np)) (some n) (b0 :: suite) pos'] [] [] pos) ⟨nx, rt, bk, ct⟩ σ H :=
  s_of (L2N.ps_try_as (tb := fun W D σ H => ∀ (pn : List (Addr × Obj)) (xe : Value → Shared → Prop), L2N.Takes (X.tr pn xe) W → In (X.tr pn xe) N G sc → wL (X.tr pn xe) body D σ H) hs hf I.nd (I.hi hA) hln ⟨I.g hG, I.gd hG, .inl hm⟩ tk
    (fun W pn xe tk' po => ⟨fun pins s σ H D Iv h => pl.run pins s σ H D Iv (h pn xe tk' (I.tr po))⟩)
    (fun a oe cls d pn hz hd => ⟨fun pins s σ H D Iv h => pl.run pins s σ H D Iv (h oe pn hz.zc hd I.suite (by
      obtain ⟨vs, hv⟩ := hd
      exact ⟨(a, oe), ⟨rfl, vs, hv, hz.2.2 vs hv⟩, List.mem_cons_self⟩))⟩)) q
theorem takesN0 : L2N.Takes X (fun _ _ _ _ => False) := fun _ _ x => by
  obtain ⟨_, _, _, _, _, _, _, _, _, _, _, _, _, _, _, _, z⟩ := x
  exact z.elim
/-- a def that is called where an error is handled -/
structure FnHt (P : Program) (w : World) (K : PySem.W.Frag) (mg : Str → Option Value) (base : Heap) (k : Nat) (x : Str) (sp : Sp) : Prop where
  ex : ∃ (f : Addr) (fd : FuncData) (ps : List Str), L2H.FnH P w K mg base CX0 k f fd ps sp ∧ mg x = some (.ref f) ∧ PySem.W.keepIn K (.ref f) = true ∧ Binds K fd ps []
theorem e_callH {g k n : Nat} {x : Str} {sp : Sp} (F : FnHt X.prog X.w X.K X.mg X.base k x sp) (hr : L2H.RoomH n X.A) (hk : k ≤ n) (hh : L2H.HotC X) (q : wA X (e :: es) σ H fun vs H1 => sp vs H1 Q E0)
    (I : In X N G sc := by assumption) (hG : At G g x := by repeat (first | with_reducible apply At.z | with_reducible apply At.s)) (he : starEach (e :: es) X.env = (false, eval e X.env) :: starEach es X.env := by rfl) (hpl : (backTo pos (starEach es X.env)).any (·.1) = false := by rfl) :
    wE X (.Call (.Name x p0) (e :: es) [] pos) σ H Q := by
  obtain ⟨f, fd, ps, F0, hm, hkp, hb⟩ := F.ex
  exact e_of (L2H.pe_callH (E := fun _ => E0) F0 (hr.mono hk) hh (I.g hG) hm hkp hb (fun σ pins H s e s' I z => z.elim) pa (I.gd hG) he hpl) q
end
section
variable {P : Program} {w : World} {K : PySem.W.Frag} {mg : Str → Option Value} {base : Heap}
theorem fn_okN {x : Str} {st : Stmt} {N G ps : List Str} {k : Nat} {sp : Sp} (T : Top K mg x st) (S : FnScope N ps (defScope st)) (O : ScOk N G (defScope st)) (len : ∀ vs H Q E, sp vs H Q E → vs.length = ps.length)
    (hb : ∀ (kV doc pm : Value) (an : Option Addr) (cdv ct : Value) (us : List Value), us.length = ps.length → bindArgs (PySem.W.fnOf x x (defArgs st) (defBody st) (defScope st) .none kV doc pm an cdv ct) ⟨us, []⟩ = pure (ps.zip us))
    (hbody : ∀ (f : Addr) (cdv : Value) (A : Around) (outer : List Env) (s : Shared) (H : Hp) (vs : List V) (Q : VK) (E : XK), Room k (A.deeper (envOfC x (defScope st) s.heap.objs.size f cdv)) → sp vs H Q E → In (cxOf (L2N.CX P w) P w K mg base N x (defScope st) f cdv A outer s H E) N G (defScope st) →
      L2N.Takes (cxOf (L2N.CX P w) P w K mg base N x (defScope st) f cdv A outer s H E) (fun cls d _ H => E cls d H) →
      wL (cxOf (L2N.CX P w) P w K mg base N x (defScope st) f cdv A outer s H E) (defBody st) { nx := fun _ H' => Q .non H', rt := Q } (start N vs) H) : FnN P w K mg base (k + 1) x sp := by
  obtain ⟨f, fd, F, hm⟩ := T.ex
  obtain ⟨oc, od, kV, doc, pm, an, cdv, ct, osl, rfl, lk, hcd⟩ := id F.ex
  exact ⟨f, _, ps, fn_of lk hcd S len (fun A outer s H vs Q E hr h => ⟨_, pl, hbody f cdv A outer s H vs Q E hr h ⟨O, rfl, rfl, rfl, passes_of rfl⟩ (L2N.takes_of rfl rfl rfl rfl)⟩), hm, F.kp, F.binds hb⟩
theorem fn_okH {x : Str} {st : Stmt} {N G ps : List Str} {k : Nat} {sp : Sp} (T : Top K mg x st) (S : FnScope N ps (defScope st)) (O : ScOk N G (defScope st)) (len : ∀ vs H Q E, sp vs H Q E → vs.length = ps.length)
    (hb : ∀ (kV doc pm : Value) (an : Option Addr) (cdv ct : Value) (us : List Value), us.length = ps.length → bindArgs (PySem.W.fnOf x x (defArgs st) (defBody st) (defScope st) .none kV doc pm an cdv ct) ⟨us, []⟩ = pure (ps.zip us))
    (hbody : ∀ (f : Addr) (cdv : Value) (A : Around) (outer : List Env) (s : Shared) (H : Hp) (vs : List V) (Q : VK) (E : XK) (p : Addr × Obj), L2H.RoomH k (A.deeper (envOfC x (defScope st) s.heap.objs.size f cdv)) → sp vs H Q E → In (L2H.cxH CX0 P w K mg base N x (defScope st) f cdv A outer s H E p).nox N G (defScope st) →
      wL (L2H.cxH CX0 P w K mg base N x (defScope st) f cdv A outer s H E p).nox (defBody st) { nx := fun _ H' => Q .non H', rt := Q } (start N vs) H) : FnHt P w K mg base (k + 1) x sp := by
  obtain ⟨f, fd, F, hm⟩ := T.ex
  obtain ⟨oc, od, kV, doc, pm, an, cdv, ct, osl, rfl, lk, hcd⟩ := id F.ex
  exact ⟨f, _, ps, L2H.fn_ofH lk hcd S len (fun A outer s H vs Q E p hot hr h => ⟨_, PSs.nox pl, hbody f cdv A outer s H vs Q E p hr h ⟨O, rfl, rfl, rfl, PassesOwn.never⟩⟩), hm, F.kp, F.binds hb⟩
end
end Wk

set_option maxHeartbeats 4000000
namespace K01
open PySem PySem.Spec PyProof.Rows L2 Wk
def topS (i : Nat) : Stmt := PySem.Challenge.pw_heldproofs_k01_kinds_cover.main.body.getD i (.Pass ⟨0, 0, 0, 0⟩)
abbrev s_BadName___init : Stmt := inClass (topS 2) 0
abbrev N_BadName___init : List Str := ["self", "name"]
abbrev P_BadName___init : List Str := ["self", "name"]
abbrev G_BadName___init : List Str := []
theorem so_BadName___init : ScOk N_BadName___init G_BadName___init (defScope s_BadName___init) := ⟨by decide +kernel, by decide +kernel, by decide +kernel⟩
theorem sc_BadName___init : FnScope N_BadName___init P_BadName___init (defScope s_BadName___init) := ⟨rfl, rfl, rfl, by decide +kernel, rfl, by decide +kernel, by decide +kernel⟩
abbrev s_NameTaken___init : Stmt := inClass (topS 3) 0
abbrev N_NameTaken___init : List Str := ["self", "name"]
abbrev P_NameTaken___init : List Str := ["self", "name"]
abbrev G_NameTaken___init : List Str := []
theorem so_NameTaken___init : ScOk N_NameTaken___init G_NameTaken___init (defScope s_NameTaken___init) := ⟨by decide +kernel, by decide +kernel, by decide +kernel⟩
theorem sc_NameTaken___init : FnScope N_NameTaken___init P_NameTaken___init (defScope s_NameTaken___init) := ⟨rfl, rfl, rfl, by decide +kernel, rfl, by decide +kernel, by decide +kernel⟩
abbrev s_UnknownName___init : Stmt := inClass (topS 4) 0
abbrev N_UnknownName___init : List Str := ["self", "name"]
abbrev P_UnknownName___init : List Str := ["self", "name"]
abbrev G_UnknownName___init : List Str := []
theorem so_UnknownName___init : ScOk N_UnknownName___init G_UnknownName___init (defScope s_UnknownName___init) := ⟨by decide +kernel, by decide +kernel, by decide +kernel⟩
theorem sc_UnknownName___init : FnScope N_UnknownName___init P_UnknownName___init (defScope s_UnknownName___init) := ⟨rfl, rfl, rfl, by decide +kernel, rfl, by decide +kernel, by decide +kernel⟩
abbrev s_NoRoom___init : Stmt := inClass (topS 5) 0
abbrev N_NoRoom___init : List Str := ["self", "name"]
abbrev P_NoRoom___init : List Str := ["self", "name"]
abbrev G_NoRoom___init : List Str := []
theorem so_NoRoom___init : ScOk N_NoRoom___init G_NoRoom___init (defScope s_NoRoom___init) := ⟨by decide +kernel, by decide +kernel, by decide +kernel⟩
theorem sc_NoRoom___init : FnScope N_NoRoom___init P_NoRoom___init (defScope s_NoRoom___init) := ⟨rfl, rfl, rfl, by decide +kernel, rfl, by decide +kernel, by decide +kernel⟩
abbrev s_BadKind___init : Stmt := inClass (topS 6) 0
abbrev N_BadKind___init : List Str := ["self", "kind"]
abbrev P_BadKind___init : List Str := ["self", "kind"]
abbrev G_BadKind___init : List Str := []
theorem so_BadKind___init : ScOk N_BadKind___init G_BadKind___init (defScope s_BadKind___init) := ⟨by decide +kernel, by decide +kernel, by decide +kernel⟩
theorem sc_BadKind___init : FnScope N_BadKind___init P_BadKind___init (defScope s_BadKind___init) := ⟨rfl, rfl, rfl, by decide +kernel, rfl, by decide +kernel, by decide +kernel⟩
abbrev s_is_number_from : Stmt := topS 8
abbrev N_is_number_from : List Str := ["value", "least"]
abbrev P_is_number_from : List Str := ["value", "least"]
abbrev G_is_number_from : List Str := ["isinstance", "int", "bool"]
theorem so_is_number_from : ScOk N_is_number_from G_is_number_from (defScope s_is_number_from) := ⟨by decide +kernel, by decide +kernel, by decide +kernel⟩
theorem sc_is_number_from : FnScope N_is_number_from P_is_number_from (defScope s_is_number_from) := ⟨rfl, rfl, rfl, by decide +kernel, rfl, by decide +kernel, by decide +kernel⟩
abbrev s_is_kind : Stmt := topS 9
abbrev N_is_kind : List Str := ["value"]
abbrev P_is_kind : List Str := ["value"]
abbrev G_is_kind : List Str := ["isinstance", "tuple", "len", "is_number_from", "str"]
theorem so_is_kind : ScOk N_is_kind G_is_kind (defScope s_is_kind) := ⟨by decide +kernel, by decide +kernel, by decide +kernel⟩
theorem sc_is_kind : FnScope N_is_kind P_is_kind (defScope s_is_kind) := ⟨rfl, rfl, rfl, by decide +kernel, rfl, by decide +kernel, by decide +kernel⟩
abbrev s_nested : Stmt := topS 10
abbrev N_nested : List Str := ["outer", "inner"]
abbrev P_nested : List Str := ["outer", "inner"]
abbrev G_nested : List Str := []
theorem so_nested : ScOk N_nested G_nested (defScope s_nested) := ⟨by decide +kernel, by decide +kernel, by decide +kernel⟩
theorem sc_nested : FnScope N_nested P_nested (defScope s_nested) := ⟨rfl, rfl, rfl, by decide +kernel, rfl, by decide +kernel, by decide +kernel⟩
abbrev s_pooled : Stmt := topS 11
abbrev N_pooled : List Str := ["first", "second", "kind"]
abbrev P_pooled : List Str := ["first", "second"]
abbrev G_pooled : List Str := ["BadKind", "max"]
theorem so_pooled : ScOk N_pooled G_pooled (defScope s_pooled) := ⟨by decide +kernel, by decide +kernel, by decide +kernel⟩
theorem sc_pooled : FnScope N_pooled P_pooled (defScope s_pooled) := ⟨rfl, rfl, rfl, by decide +kernel, rfl, by decide +kernel, by decide +kernel⟩
abbrev s_covers : Stmt := topS 12
abbrev N_covers : List Str := ["room", "kind"]
abbrev P_covers : List Str := ["room", "kind"]
abbrev G_covers : List Str := []
theorem so_covers : ScOk N_covers G_covers (defScope s_covers) := ⟨by decide +kernel, by decide +kernel, by decide +kernel⟩
theorem sc_covers : FnScope N_covers P_covers (defScope s_covers) := ⟨rfl, rfl, rfl, by decide +kernel, rfl, by decide +kernel, by decide +kernel⟩
abbrev s_cell : Stmt := topS 14
abbrev N_cell : List Str := ["_law_script", "_law_k"]
abbrev P_cell : List Str := ["_law_script", "_law_k"]
abbrev G_cell : List Str := ["len", "abs"]
theorem so_cell : ScOk N_cell G_cell (defScope s_cell) := ⟨by decide +kernel, by decide +kernel, by decide +kernel⟩
theorem sc_cell : FnScope N_cell P_cell (defScope s_cell) := ⟨rfl, rfl, rfl, by decide +kernel, rfl, by decide +kernel, by decide +kernel⟩
abbrev s_pool : Stmt := topS 15
abbrev N_pool : List Str := ["_law_script", "_law_k", "_law_cell_here"]
abbrev P_pool : List Str := ["_law_script", "_law_k"]
abbrev G_pool : List Str := ["_law_cell", "int"]
theorem so_pool : ScOk N_pool G_pool (defScope s_pool) := ⟨by decide +kernel, by decide +kernel, by decide +kernel⟩
theorem sc_pool : FnScope N_pool P_pool (defScope s_pool) := ⟨rfl, rfl, rfl, by decide +kernel, rfl, by decide +kernel, by decide +kernel⟩
abbrev s_next : Stmt := topS 16
abbrev N_next : List Str := ["_law_pool_here", "_law_many", "_law_digit", "_law_mixed"]
abbrev P_next : List Str := ["_law_pool_here", "_law_many"]
abbrev G_next : List Str := ["int"]
theorem so_next : ScOk N_next G_next (defScope s_next) := ⟨by decide +kernel, by decide +kernel, by decide +kernel⟩
theorem sc_next : FnScope N_next P_next (defScope s_next) := ⟨rfl, rfl, rfl, by decide +kernel, rfl, by decide +kernel, by decide +kernel⟩
abbrev s_same : Stmt := topS 17
abbrev N_same : List Str := ["_law_told", "_law_due", "_law_k"]
abbrev P_same : List Str := ["_law_told", "_law_due"]
abbrev G_same : List Str := ["isinstance", "bool", "int", "str", "list", "tuple", "len", "range", "_law_same"]
theorem so_same : ScOk N_same G_same (defScope s_same) := ⟨by decide +kernel, by decide +kernel, by decide +kernel⟩
theorem sc_same : FnScope N_same P_same (defScope s_same) := ⟨rfl, rfl, rfl, by decide +kernel, rfl, by decide +kernel, by decide +kernel⟩
abbrev s_mode : Stmt := topS 18
abbrev N_mode : List Str := ["_law_pool_here", "_law_near", "_law_pick", "_law_uses", "_law_days"]
abbrev P_mode : List Str := ["_law_pool_here", "_law_near"]
abbrev G_mode : List Str := ["_law_next", "min", "max"]
theorem so_mode : ScOk N_mode G_mode (defScope s_mode) := ⟨by decide +kernel, by decide +kernel, by decide +kernel⟩
theorem sc_mode : FnScope N_mode P_mode (defScope s_mode) := ⟨rfl, rfl, rfl, by decide +kernel, rfl, by decide +kernel, by decide +kernel⟩
abbrev s_fits : Stmt := topS 19
abbrev N_fits : List Str := ["_law_told", "_law_mode_here"]
abbrev P_fits : List Str := ["_law_told", "_law_mode_here"]
abbrev G_fits : List Str := []
theorem so_fits : ScOk N_fits G_fits (defScope s_fits) := ⟨by decide +kernel, by decide +kernel, by decide +kernel⟩
theorem sc_fits : FnScope N_fits P_fits (defScope s_fits) := ⟨rfl, rfl, rfl, by decide +kernel, rfl, by decide +kernel, by decide +kernel⟩
abbrev s_extremes : Stmt := topS 20
abbrev N_extremes : List Str := ["_law_mode_here"]
abbrev P_extremes : List Str := ["_law_mode_here"]
abbrev G_extremes : List Str := []
theorem so_extremes : ScOk N_extremes G_extremes (defScope s_extremes) := ⟨by decide +kernel, by decide +kernel, by decide +kernel⟩
theorem sc_extremes : FnScope N_extremes P_extremes (defScope s_extremes) := ⟨rfl, rfl, rfl, by decide +kernel, rfl, by decide +kernel, by decide +kernel⟩
abbrev s_l_covers : Stmt := topS 21
abbrev N_l_covers : List Str := ["_law_room", "_law_mode_here", "_law_told"]
abbrev P_l_covers : List Str := ["_law_room", "_law_mode_here"]
abbrev G_l_covers : List Str := ["_law_extremes", "_law_fits"]
theorem so_l_covers : ScOk N_l_covers G_l_covers (defScope s_l_covers) := ⟨by decide +kernel, by decide +kernel, by decide +kernel⟩
theorem sc_l_covers : FnScope N_l_covers P_l_covers (defScope s_l_covers) := ⟨rfl, rfl, rfl, by decide +kernel, rfl, by decide +kernel, by decide +kernel⟩
abbrev s_boxed : Stmt := topS 22
abbrev N_boxed : List Str := ["_law_told", "_law_mode_here"]
abbrev P_boxed : List Str := ["_law_told", "_law_mode_here"]
abbrev G_boxed : List Str := []
theorem so_boxed : ScOk N_boxed G_boxed (defScope s_boxed) := ⟨by decide +kernel, by decide +kernel, by decide +kernel⟩
theorem sc_boxed : FnScope N_boxed P_boxed (defScope s_boxed) := ⟨rfl, rfl, rfl, by decide +kernel, rfl, by decide +kernel, by decide +kernel⟩
abbrev s_l_nested : Stmt := topS 23
abbrev N_l_nested : List Str := ["_law_outer", "_law_inner", "_law_told"]
abbrev P_l_nested : List Str := ["_law_outer", "_law_inner"]
abbrev G_l_nested : List Str := ["_law_boxed"]
theorem so_l_nested : ScOk N_l_nested G_l_nested (defScope s_l_nested) := ⟨by decide +kernel, by decide +kernel, by decide +kernel⟩
theorem sc_l_nested : FnScope N_l_nested P_l_nested (defScope s_l_nested) := ⟨rfl, rfl, rfl, by decide +kernel, rfl, by decide +kernel, by decide +kernel⟩
abbrev s_refused : Stmt := topS 24
abbrev N_refused : List Str := ["_law_one", "_law_two", "e"]
abbrev P_refused : List Str := ["_law_one", "_law_two"]
abbrev G_refused : List Str := ["pooled", "BadKind", "isinstance", "BadName", "NameTaken", "NoRoom", "UnknownName", "HeldError", "ValueError", "_law_same"]
theorem so_refused : ScOk N_refused G_refused (defScope s_refused) := ⟨by decide +kernel, by decide +kernel, by decide +kernel⟩
theorem sc_refused : FnScope N_refused P_refused (defScope s_refused) := ⟨rfl, rfl, rfl, by decide +kernel, rfl, by decide +kernel, by decide +kernel⟩
abbrev s_refused_at_all : Stmt := topS 25
abbrev N_refused_at_all : List Str := ["_law_one", "_law_two", "e"]
abbrev P_refused_at_all : List Str := ["_law_one", "_law_two"]
abbrev G_refused_at_all : List Str := ["pooled", "HeldError", "isinstance", "BadKind"]
theorem so_refused_at_all : ScOk N_refused_at_all G_refused_at_all (defScope s_refused_at_all) := ⟨by decide +kernel, by decide +kernel, by decide +kernel⟩
theorem sc_refused_at_all : FnScope N_refused_at_all P_refused_at_all (defScope s_refused_at_all) := ⟨rfl, rfl, rfl, by decide +kernel, rfl, by decide +kernel, by decide +kernel⟩
abbrev s_pair : Stmt := topS 26
abbrev N_pair : List Str := ["_law_one", "_law_two"]
abbrev P_pair : List Str := ["_law_one", "_law_two"]
abbrev G_pair : List Str := ["_law_same", "covers", "_law_covers", "nested", "_law_nested", "_law_refused", "_law_refused_at_all", "pooled", "max"]
theorem so_pair : ScOk N_pair G_pair (defScope s_pair) := ⟨by decide +kernel, by decide +kernel, by decide +kernel⟩
theorem sc_pair : FnScope N_pair P_pair (defScope s_pair) := ⟨rfl, rfl, rfl, by decide +kernel, rfl, by decide +kernel, by decide +kernel⟩
abbrev s_odd : Stmt := topS 27
abbrev N_odd : List Str := ["_law_mode_here", "_law_uses", "_law_days", "_law_odd_here"]
abbrev P_odd : List Str := ["_law_mode_here"]
abbrev G_odd : List Str := ["str"]
theorem so_odd : ScOk N_odd G_odd (defScope s_odd) := ⟨by decide +kernel, by decide +kernel, by decide +kernel⟩
theorem sc_odd : FnScope N_odd P_odd (defScope s_odd) := ⟨rfl, rfl, rfl, by decide +kernel, rfl, by decide +kernel, by decide +kernel⟩
abbrev s_kinds_alone : Stmt := topS 28
abbrev N_kinds_alone : List Str := ["_law_pool_here", "_law_mode_here", "_law_value", "_law_k", "_law_uses", "_law_days"]
abbrev P_kinds_alone : List Str := ["_law_pool_here", "_law_mode_here"]
abbrev G_kinds_alone : List Str := ["_law_odd", "is_kind", "range", "_law_next", "_law_same"]
theorem so_kinds_alone : ScOk N_kinds_alone G_kinds_alone (defScope s_kinds_alone) := ⟨by decide +kernel, by decide +kernel, by decide +kernel⟩
theorem sc_kinds_alone : FnScope N_kinds_alone P_kinds_alone (defScope s_kinds_alone) := ⟨rfl, rfl, rfl, by decide +kernel, rfl, by decide +kernel, by decide +kernel⟩
abbrev s_law : Stmt := topS 29
abbrev N_law : List Str := ["_law_script", "_law_pool_here", "_law_first", "_law_second", "_law_third", "_law_modes", "_law_one", "_law_two", "_law_due"]
abbrev P_law : List Str := ["_law_script"]
abbrev G_law : List Str := ["_law_pool", "_law_mode", "_law_nested", "is_kind", "_law_pair", "_law_same", "nested", "_law_kinds_alone"]
theorem so_law : ScOk N_law G_law (defScope s_law) := ⟨by decide +kernel, by decide +kernel, by decide +kernel⟩
theorem sc_law : FnScope N_law P_law (defScope s_law) := ⟨rfl, rfl, rfl, by decide +kernel, rfl, by decide +kernel, by decide +kernel⟩
local macro_rules | `(tactic| walk_at "bl") => `(tactic| first
  | refine e_callB (x := "len") (by assumption) b_len ?_
  | refine e_callB (x := "isinstance") (by assumption) b_isi ?_
  | refine e_callB (x := "abs") (by assumption) b_abs ?_
  | refine e_callB (x := "max") (by assumption) b_max ?_
  | refine e_callB (x := "min") (by assumption) b_min ?_
  | refine e_callTy (x := "str") (by assumption) b_str ?_
  | refine e_callTy (x := "int") (by assumption) b_int ?_)
local macro_rules | `(tactic| walk_at "gl") => `(tactic| first
  | refine e_bltn (x := "int") (v := .ty "int") (by assumption) b_int rfl ?_
  | refine e_bltn (x := "bool") (v := .ty "bool") (by assumption) b_bool rfl ?_
  | refine e_bltn (x := "str") (v := .ty "str") (by assumption) b_str rfl ?_
  | refine e_bltn (x := "tuple") (v := .ty "tuple") (by assumption) b_tuple rfl ?_
  | refine e_bltn (x := "list") (v := .ty "list") (by assumption) b_list rfl ?_)
local macro_rules | `(tactic| walk_at "st") => `(tactic| first
  | refine l_cons ?_
  | refine s_ret ?_
  | refine s_if ?_
  | refine s_set ?_
  | refine s_sub ?_
  | refine e_var ?_
  | refine e_int ?_
  | refine e_ix ?_
  | refine a_cons ?_
  | refine a_nil ?_
  | refine t_cmp ?_
  | refine t_not ?_
  | refine t_w (w_and ?_)
  | refine t_w (w_or ?_)
  | refine w_and ?_
  | refine w_or ?_
  | refine w_and1 ?_
  | refine w_or1 ?_
  | refine t_val ?_
  | refine e_str ?_
  | refine e_bl ?_
  | refine e_non ?_
  | refine e_bin ?_
  | refine e_cmp ?_
  | refine e_and ?_
  | refine e_or ?_
  | refine e_not ?_
  | refine e_one ?_
  | refine l_nil ?_
  | refine s_expr ?_
  | refine e_tup ?_
  | refine e_lst ?_
  | refine ⟨_, rfl, ?_⟩
  | ((with_reducible refine ite_t ?hc ?_); (case hc => exact rfl))
  | ((with_reducible refine ite_f ?hc ?_); (case hc => exact rfl))
  | refine o_add ?_
  | refine o_sub ?_
  | refine o_lt ?_
  | refine o_le ?_
  | refine o_gt ?_
  | refine o_ge ?_
  | refine o_eqI ?_
  | refine o_neI ?_
  | refine o_eqS ?_
  | refine o_neB ?_
  | refine o_isN ?_
  | refine o_nisB ?_
  | refine o_isB ?_
  | refine e_neg ?_
  | refine o_eqB ?_
  | refine c_int ?_
  | refine c_abs ?_
  | refine c_max rfl ?_
  | refine c_min rfl ?_
  | refine a_cons (e_fld ?_)
  | walk_at "bl"
  | walk_at "gl")
local macro_rules | `(tactic| walk_at "sts") => `(tactic| repeat walk_at "st")
section
variable {P : Program} {w : World} {K : PySem.W.Frag} {mg : Str → Option Value} {base : Heap}
structure BOk (mg : Str → Option Value) : Prop where
  isi : mg "isinstance" = none
  int : mg "int" = none
  bool : mg "bool" = none
  str : mg "str" = none
  tuple : mg "tuple" = none
  list : mg "list" = none
  len : mg "len" = none
  range : mg "range" = none
  abs : mg "abs" = none
  max : mg "max" = none
  min : mg "min" = none
/-- a kind as a value: once, or a pair -/
def ModeV (H : Hp) (m : V) : Option (Int × Int) → Prop
  | none => m = .str "once"
  | some (u, v) => ∃ t, m = .ref t ∧ H t = some (.tup [.int u, .int v])
theorem ModeV.up {H H' : Hp} {m : V} {k : Option (Int × Int)} (e : Same H H') (h : ModeV H m k) : ModeV H' m k := by
  cases k with
  | none => exact h
  | some uv =>
    obtain ⟨t, h1, h2⟩ := h
    exact ⟨t, h1, e _ _ h2⟩
theorem once_shaped : SeqAt.shaped (.str "once") = true := by decide +kernel
/-- uses and days in bounds -/
def okk : Option (Int × Int) → Prop
  | none => True
  | some (u, v) => 1 ≤ u ∧ u ≤ 1000000 ∧ 0 ≤ v
def mx (i j : Int) : Int := if j > i then j else i
/-- whether a value is a whole number of at least l -/
def IsW (K : PySem.W.Frag) (H : Hp) (v : V) (l : Int) (b : Bool) : Prop := (∃ i, v = .int i ∧ b = decide (l ≤ i)) ∨ (b = false ∧ ((∃ k, v = .bl k) ∨ ∃ T, TyX K H v (.type T) ∧ kitB T "int" = some false))
def spWh (K : PySem.W.Frag) : Sp := fun vs H Q _ => ∃ v l b, vs = [v, .int l] ∧ IsW K H v l b ∧ Q (.bl b) H
theorem ok_whole (T : Top K mg "is_number_from" s_is_number_from) (B : BOk mg) : Fn P w K mg base 1 "is_number_from" (spWh K) := by
  refine fn_ok T sc_is_number_from so_is_number_from (fun vs H Q E h => ?_) (fun _ _ _ _ _ _ us hl => match us, hl with | [_, _], _ => rfl) fun f cdv A outer s H vs Q E hr h nd => ?_
  · obtain ⟨v, l, b, rfl, _⟩ := h
    rfl
  · obtain ⟨v, l, b, rfl, hv, q⟩ := h
    obtain ⟨bi, bt, bb, bs, btu, bl, bn, br, _, _, _⟩ := B
    rcases hv with ⟨i, rfl, rfl⟩ | ⟨rfl, ⟨k, rfl⟩ | ⟨T, ht, hk⟩⟩
    · walk_at "sts"
      refine c_isi ty_int (.ty _) (kit_ty kb_int_int) ?_
      walk_at "sts"
      refine c_isi ty_int (.ty _) (kit_ty kb_int_bool) ?_
      walk_at "sts"
      exact q
    · walk_at "sts"
      refine c_isi ty_bl (.ty _) (kit_ty kb_bool_int) ?_
      walk_at "sts"
      refine c_isi ty_bl (.ty _) (kit_ty kb_bool_bool) ?_
      walk_at "sts"
      exact q
    · walk_at "sts"
      refine c_isi (by exact ht) (.ty _) (kit_ty hk) ?_
      walk_at "sts"
      exact q
def KindV (K : PySem.W.Frag) (H : Hp) (v : V) (b : Bool) : Prop :=
  (∃ p xs, v = .ref p ∧ H p = some (.tup xs) ∧ ((¬ (xs.length : Int) = 2 ∧ b = false) ∨ ∃ x y b1 b2, xs = [x, y] ∧ IsW K H x 1 b1 ∧ IsW K H y 0 b2 ∧ b = (b1 && b2))) ∨
  (∃ z, v = .str z ∧ b = decide (z = "once")) ∨ (b = false ∧ ∃ T, TyX K H v (.type T) ∧ kitB T "tuple" = some false ∧ kitB T "str" = some false)
def spKi (K : PySem.W.Frag) : Sp := fun vs H Q _ => ∃ v b, vs = [v] ∧ KindV K H v b ∧ Q (.bl b) H
theorem ok_kind (T : Top K mg "is_kind" s_is_kind) (B : BOk mg) (F : Fn P w K mg base 1 "is_number_from" (spWh K)) : Fn P w K mg base 2 "is_kind" (spKi K) := by
  refine fn_ok T sc_is_kind so_is_kind (fun vs H Q E h => ?_) (fun _ _ _ _ _ _ us hl => match us, hl with | [_], _ => rfl) fun f cdv A outer s H vs Q E hr h nd => ?_
  · obtain ⟨v, b, rfl, _⟩ := h
    rfl
  · obtain ⟨v, b, rfl, hv, q⟩ := h
    obtain ⟨bi, bt, bb, bs, btu, bl, bn, br, _, _, _⟩ := B
    rcases hv with ⟨p, xs, rfl, hp, hx⟩ | ⟨z, rfl, rfl⟩ | ⟨rfl, T, ht, hk1, hk2⟩
    · walk_at "sts"
      refine c_isi (ty_tup hp) (.ty _) (kit_ty kb_tuple_tuple) ?_
      walk_at "sts"
      refine c_lenT (by exact SqT.of hp) ?_
      rcases hx with ⟨hl, rfl⟩ | ⟨x, y, b1, b2, rfl, h1, h2, rfl⟩
      · walk_at "sts"
        refine ite_f (decide_eq_false hl) ?_
        exact q
      · walk_at "sts"
        refine e_call (by exact F) (by exact hr) (by decide) ?_
        walk_at "sts"
        refine ix_t (by exact SqT.of hp) rfl ?_
        walk_at "sts"
        refine ⟨x, 1, b1, rfl, h1, ?_⟩
        cases b1 with
        | false =>
          walk_at "sts"
          exact q
        | true =>
          walk_at "sts"
          refine e_call (by exact F) (by exact hr) (by decide) ?_
          walk_at "sts"
          refine ix_t (by exact SqT.of hp) rfl ?_
          walk_at "sts"
          refine ⟨y, 0, b2, rfl, h2, ?_⟩
          exact q
    · walk_at "sts"
      refine c_isi ty_str (.ty _) (kit_ty kb_str_tuple) ?_
      walk_at "sts"
      refine c_isi ty_str (.ty _) (kit_ty kb_str_str) ?_
      walk_at "sts"
      exact q
    · walk_at "sts"
      refine c_isi (by exact ht) (.ty _) (kit_ty hk1) ?_
      walk_at "sts"
      refine c_isi (by exact ht) (.ty _) (kit_ty hk2) ?_
      walk_at "sts"
      exact q
def nst : Option (Int × Int) → Option (Int × Int) → Option (Int × Int)
  | none, k => k
  | some u, none => some u
  | some (n, k), some (m, j) => some (n * m, k + j)
def spNe : Sp := fun vs H Q _ => ∃ m1 m2 k1 k2, vs = [m1, m2] ∧ ModeV H m1 k1 ∧ ModeV H m2 k2 ∧ okk k1 ∧ ∀ r H', Same H H' → ModeV H' r (nst k1 k2) → Q r H'
theorem ok_nested (T : Top K mg "nested" s_nested) : Fn P w K mg base 1 "nested" spNe := by
  refine fn_ok T sc_nested so_nested (fun vs H Q E h => ?_) (fun _ _ _ _ _ _ us hl => match us, hl with | [_, _], _ => rfl) fun f cdv A outer s H vs Q E hr h nd => ?_
  · obtain ⟨m1, m2, k1, k2, rfl, _⟩ := h
    rfl
  · obtain ⟨m1, m2, k1, k2, rfl, h1, h2, ok, q⟩ := h
    rcases k1 with _ | ⟨n, k⟩
    · obtain rfl : m1 = .str "once" := h1
      walk_at "sts"
      exact q m2 H (Same.refl H) h2
    · obtain ⟨t, rfl, ht⟩ := h1
      obtain ⟨o1, o2, o3⟩ := ok
      rcases k2 with _ | ⟨m, j⟩
      · obtain rfl : m2 = .str "once" := h2
        walk_at "sts"
        refine o_eqPS (by exact hr) ht once_shaped ?_
        walk_at "sts"
        exact q (.ref t) H (Same.refl H) ⟨t, rfl, ht⟩
      · obtain ⟨r, rfl, hr'⟩ := h2
        walk_at "sts"
        refine o_eqPS (by exact hr) ht once_shaped ?_
        walk_at "sts"
        refine o_eqPS (by exact hr) hr' once_shaped ?_
        walk_at "sts"
        refine ix_t (by exact SqT.of (ht)) rfl ?_
        walk_at "sts"
        refine ix_t (by exact SqT.of (hr')) rfl ?_
        walk_at "sts"
        refine o_mul (.inl ⟨by omega, by omega⟩) ?_
        walk_at "sts"
        refine ix_t (by exact SqT.of (ht)) rfl ?_
        walk_at "sts"
        refine ix_t (by exact SqT.of (hr')) rfl ?_
        walk_at "sts"
        exact ⟨by show 2 ≤ sizeLine; decide, fun p H2 e _ hp => q (.ref p) H2 e ⟨p, rfl, hp⟩⟩
def cov : Option (Int × Int) → Option (Int × Int) → Bool
  | _, none => true
  | none, some _ => false
  | some (n, k), some (m, j) => decide (m ≤ n) && decide (j ≤ k)
theorem and_val {X : Cx} {e : Expr} {σ : L2.St} {H : Hp} {Q : VK} {x y : Bool} (h : Q (.bl (x && y)) H) (hb : Q (.bl y) H → wE X e σ H Q) : if x = true then wE X e σ H Q else Q (.bl false) H := by
  cases x with
  | true => exact iteT (hb h)
  | false => exact iteF h
def spCo : Sp := fun vs H Q _ => ∃ m1 m2 k1 k2, vs = [m1, m2] ∧ ModeV H m1 k1 ∧ ModeV H m2 k2 ∧ Q (.bl (cov k1 k2)) H
theorem ok_covers (T : Top K mg "covers" s_covers) : Fn P w K mg base 1 "covers" spCo := by
  refine fn_ok T sc_covers so_covers (fun vs H Q E h => ?_) (fun _ _ _ _ _ _ us hl => match us, hl with | [_, _], _ => rfl) fun f cdv A outer s H vs Q E hr h nd => ?_
  · obtain ⟨m1, m2, k1, k2, rfl, _⟩ := h
    rfl
  · obtain ⟨m1, m2, k1, k2, rfl, h1, h2, q⟩ := h
    rcases k2 with _ | ⟨m, j⟩
    · obtain rfl : m2 = .str "once" := h2
      walk_at "sts"
      rw [show cov k1 none = true by cases k1 <;> rfl] at q
      exact q
    · obtain ⟨t, rfl, ht⟩ := h2
      rcases k1 with _ | ⟨n, k⟩
      · obtain rfl : m1 = .str "once" := h1
        walk_at "sts"
        refine o_eqPS (by exact hr) ht once_shaped ?_
        walk_at "sts"
        exact q
      · obtain ⟨r, rfl, hr'⟩ := h1
        walk_at "sts"
        refine o_eqPS (by exact hr) ht once_shaped ?_
        walk_at "sts"
        refine o_eqPS (by exact hr) hr' once_shaped ?_
        walk_at "sts"
        refine ix_t (by exact SqT.of (ht)) rfl ?_
        walk_at "sts"
        refine ix_t (by exact SqT.of (hr')) rfl ?_
        walk_at "sts"
        refine and_val q fun q => ?_
        walk_at "sts"
        refine ix_t (by exact SqT.of (ht)) rfl ?_
        walk_at "sts"
        refine ix_t (by exact SqT.of (hr')) rfl ?_
        walk_at "sts"
        exact q
/-! ### what raises -/
def spPo (CB : Addr) : Sp := fun vs H Q E => ∃ m1 m2 k1 k2, vs = [m1, m2] ∧ ModeV H m1 k1 ∧ ModeV H m2 k2 ∧
  ((∃ a b c d, k1 = some (a, b) ∧ k2 = some (c, d) ∧ ∀ r H', Same H H' → ModeV H' r (some (a + c, mx b d)) → Q r H') ∨
   ((k1 = none ∨ k2 = none) ∧ ∀ d H', Same H H' → H d = none → H' d = some (.xd [(("kind" : Str), .str "once")]) → E (.ref CB) (some d) H'))
theorem ok_pooled {CB : Addr} (T : Top K mg "pooled" s_pooled) (B : BOk mg) (R : Er P w K mg base "BadKind" CB "kind") : FnN P w K mg base 3 "pooled" (spPo CB) := by
  refine fn_okN T sc_pooled so_pooled (fun vs H Q E h => ?_) (fun _ _ _ _ _ _ us hl => match us, hl with | [_, _], _ => rfl) fun f cdv A outer s H vs Q E hr h nd tk => ?_
  · obtain ⟨m1, m2, k1, k2, rfl, _⟩ := h
    rfl
  · obtain ⟨m1, m2, k1, k2, rfl, h1, h2, q⟩ := h
    obtain ⟨bi, bt, bb, bs, btu, bl, bn, br, _, bmax, _⟩ := B
    walk_at "sts"
    refine s_forT ?_
    walk_at "sts"
    refine ⟨by show 2 ≤ sizeLine; decide, fun t H1 e1 nt ht => ?_⟩
    refine ⟨t, _, rfl, SqT.of ht, fun i σ H' => ∃ y, σ = [some m1, some m2, y] ∧ Same H1 H' ∧ (1 ≤ i → k1 ≠ none) ∧ (2 ≤ i → k2 ≠ none), ⟨_, rfl, Same.refl _, fun z => absurd z (by decide), fun z => absurd z (by decide)⟩, fun i σ H' _ hW => ?_, fun i el σ H' hi hW => ?_, fun σ H' hW => ?_⟩
    · obtain ⟨y, rfl, e2, _⟩ := hW
      exact SqT.of (e2 _ _ ht)
    · obtain ⟨y, rfl, e2, n1, n2⟩ := hW
      have e02 := e1.trans e2
      obtain ⟨k, hk, hi'⟩ : ∃ k, ModeV H' el k ∧ ((i = 0 ∧ k = k1) ∨ (i = 1 ∧ k = k2)) := by
        match i, hi with
        | 0, hi => cases (Option.some.inj hi); exact ⟨k1, h1.up e02, .inl ⟨rfl, rfl⟩⟩
        | 1, hi => cases (Option.some.inj hi); exact ⟨k2, h2.up e02, .inr ⟨rfl, rfl⟩⟩
      rcases k with _ | ⟨u, v⟩
      · obtain rfl : el = .str "once" := hk
        walk_at "sts"
        refine s_raiseN (by exact R) (by exact tk) (by exact hr) (by decide) ?_
        walk_at "sts"
        intro d H3 e3 nd3 hd3
        have hn : k1 = none ∨ k2 = none := by rcases hi' with ⟨_, z⟩ | ⟨_, z⟩ <;> simp [← z]
        rcases q with ⟨a, b, c, d', z1, z2, _⟩ | ⟨_, q⟩
        · rcases hn with z | z
          · rw [z] at z1; cases z1
          · rw [z] at z2; cases z2
        · exact q d H3 (e02.trans e3) (e02.free nd3) hd3
      · obtain ⟨r, rfl, hr'⟩ := hk
        walk_at "sts"
        refine o_eqPS (by exact hr) hr' once_shaped ?_
        walk_at "sts"
        refine ⟨e2, fun _ => ?_, fun z => ?_⟩
        · rcases hi' with ⟨rfl, z⟩ | ⟨rfl, z⟩
          · rw [← z]; exact fun h => nomatch h
          · exact n1 (by decide)
        · rcases hi' with ⟨rfl, z'⟩ | ⟨rfl, z'⟩
          · omega
          · rw [← z']; exact fun h => nomatch h
    · obtain ⟨y, rfl, e2, n1, n2⟩ := hW
      have e02 := e1.trans e2
      rcases q with ⟨a, b, c, d, rfl, rfl, q⟩ | ⟨z, _⟩
      · obtain ⟨r1, rfl, g1⟩ := h1
        obtain ⟨r2, rfl, g2⟩ := h2
        walk_at "sts"
        refine ix_t (by exact SqT.of (e02 _ _ g1)) rfl ?_
        walk_at "sts"
        refine ix_t (by exact SqT.of (e02 _ _ g2)) rfl ?_
        walk_at "sts"
        refine ix_t (by exact SqT.of (e02 _ _ g1)) rfl ?_
        walk_at "sts"
        refine ix_t (by exact SqT.of (e02 _ _ g2)) rfl ?_
        walk_at "sts"
        exact ⟨by show 2 ≤ sizeLine; decide, fun p H3 e3 _ hp => q (.ref p) H3 (e02.trans e3) ⟨p, rfl, hp⟩⟩
      · rcases z with z | z
        · exact absurd z (n1 (by show 1 ≤ 2; decide))
        · exact absurd z (n2 (by show 2 ≤ 2; decide))
end


section
variable {P : Program} {w : World} {K : PySem.W.Frag} {mg : Str → Option Value} {base : Heap} {CB : Addr}
def PoolAt (H : Hp) (a : Addr) : Prop := ∃ x y z : Int, H a = some (.lst [.int x, .int y, .int z])
def spCell (K : PySem.W.Frag) : Sp := fun vs H Q _ => ∃ (a : Addr) (ns : List Int) (k : Nat), vs = [.ref a, .int k] ∧ SqL K H a (ns.map V.int) ∧ ∀ z : Int, 0 ≤ z → Q (.int z) H
theorem ok_cell (T : Top K mg "_law_cell" s_cell) (mLen : mg "len" = none) (mAbs : mg "abs" = none) : Fn P w K mg base 1 "_law_cell" (spCell K) := by
  refine fn_ok T sc_cell so_cell (fun vs H Q E h => ?_) (fun _ _ _ _ _ _ us hl => match us, hl with | [_, _], _ => rfl) fun f cdv A outer s H vs Q E hr h nd => ?_
  · obtain ⟨a, ns, k, rfl, _⟩ := h
    rfl
  · obtain ⟨a, ns, k, rfl, hS, q⟩ := h
    walk_at "sts"
    refine c_lenL (by exact hS) ?_
    walk_at "sts"
    refine if2 (fun h => ?_) (fun h => ?_)
    · rw [List.length_map] at h
      have hk : k < ns.length := by omega
      walk_at "sts"
      refine ix_l (by exact hS) (atI_nat (v := .int ns[k]) (by simp [hk])) ?_
      walk_at "sts"
      exact q _ (by split <;> omega)
    · walk_at "sts"
      exact q _ (Int.le_refl _)
def spPool (K : PySem.W.Frag) : Sp := fun vs H Q _ => ∃ (a : Addr) (ns : List Int) (k : Nat), vs = [.ref a, .int k] ∧ SqL K H a (ns.map V.int) ∧ ∀ p H', Same H H' → H p = none → PoolAt H' p → Q (.ref p) H'
theorem ok_pool (T : Top K mg "_law_pool" s_pool) (F : Fn P w K mg base 1 "_law_cell" (spCell K)) (mInt : mg "int" = none) : Fn P w K mg base 2 "_law_pool" (spPool K) := by
  refine fn_ok T sc_pool so_pool (fun vs H Q E h => ?_) (fun _ _ _ _ _ _ us hl => match us, hl with | [_, _], _ => rfl) fun f cdv A outer s H vs Q E hr h nd => ?_
  · obtain ⟨a, ns, k, rfl, _⟩ := h
    rfl
  · obtain ⟨a, ns, k, rfl, hS, q⟩ := h
    walk_at "sts"
    refine e_call (by exact F) (by exact hr) (by decide) ?_
    walk_at "sts"
    refine ⟨a, ns, k, rfl, hS, fun z hz => ?_⟩
    walk_at "sts"
    refine o_pow ⟨by decide, by decide, by decide⟩ ?_
    walk_at "sts"
    refine if2 (fun h => ?_) (fun h => ?_)
    · walk_at "sts"
      refine o_mod (by decide) ?_
      walk_at "sts"
      refine ⟨by show 3 ≤ sizeLine; decide, fun p H2 e np hp => ?_⟩
      exact q p H2 e np ⟨_, _, _, hp⟩
    · walk_at "sts"
      refine ⟨by show 3 ≤ sizeLine; decide, fun p H2 e np hp => ?_⟩
      exact q p H2 e np ⟨_, _, _, hp⟩
def spNext : Sp := fun vs H Q _ => ∃ (a : Addr) (m : Int), vs = [.ref a, .int m] ∧ 0 < m ∧ m < 1073741824 ∧ PoolAt H a ∧ ∀ d H', 0 ≤ d → d < m → But a H H' → PoolAt H' a → Q (.int d) H'
theorem ok_next (T : Top K mg "_law_next" s_next) (mInt : mg "int" = none) : Fn P w K mg base 1 "_law_next" spNext := by
  refine fn_ok T sc_next so_next (fun vs H Q E h => ?_) (fun _ _ _ _ _ _ us hl => match us, hl with | [_, _], _ => rfl) fun f cdv A outer s H vs Q E hr h nd => ?_
  · obtain ⟨a, m, rfl, _⟩ := h
    rfl
  · obtain ⟨a, m, rfl, m0, m1, ⟨x, y, z, hp⟩, q⟩ := h
    walk_at "sts"
    refine ix_l (by exact SqL.of hp) rfl ?_
    walk_at "sts"
    refine if2 (fun h => ?_) (fun h => ?_)
    · walk_at "sts"
      refine ix_l (by exact SqL.of hp) rfl ?_
      walk_at "sts"
      refine o_mod m0 ?_
      walk_at "sts"
      refine ix_l (by exact SqL.of hp) rfl ?_
      walk_at "sts"
      refine o_fdiv ⟨m0, m1⟩ ?_
      walk_at "sts"
      refine set_l hp rfl ?_
      walk_at "sts"
      exact q _ _ (Int.emod_nonneg _ (by omega)) (Int.emod_lt_of_pos _ m0) (But.refl.upd) ⟨_, _, _, upd_same⟩
    · walk_at "sts"
      refine ix_l (by exact SqL.of hp) rfl ?_
      walk_at "sts"
      refine set_l hp rfl ?_
      walk_at "sts"
      refine ix_l (by exact SqL.of upd_same) rfl ?_
      walk_at "sts"
      refine ix_l (by exact SqL.of upd_same) rfl ?_
      walk_at "sts"
      refine o_mul (.inl (by decide)) ?_
      walk_at "sts"
      refine o_mod (by decide) ?_
      walk_at "sts"
      have b1 := Int.emod_nonneg (z + 7919 * (y + 1) + 13) (show (2147483647 : Int) ≠ 0 by decide)
      have b2 := Int.emod_lt_of_pos (z + 7919 * (y + 1) + 13) (show (0 : Int) < 2147483647 by decide)
      refine o_mul (.inl ⟨by omega, by omega⟩) ?_
      walk_at "sts"
      refine o_mod (by decide) ?_
      walk_at "sts"
      generalize (z + 7919 * (y + 1) + 13) % 2147483647 = u at *
      have c1 := Int.emod_nonneg (u * (u + 48271)) (show (2147483629 : Int) ≠ 0 by decide)
      have c2 := Int.emod_lt_of_pos (u * (u + 48271)) (show (0 : Int) < 2147483629 by decide)
      refine o_mul (.inl ⟨by omega, by omega⟩) ?_
      walk_at "sts"
      refine ix_l (by exact SqL.of upd_same) rfl ?_
      walk_at "sts"
      refine o_mul (.inl (by decide)) ?_
      walk_at "sts"
      refine o_mod (by decide) ?_
      walk_at "sts"
      refine o_fdiv (by decide) ?_
      walk_at "sts"
      refine o_mod m0 ?_
      walk_at "sts"
      exact q _ _ (Int.emod_nonneg _ (by omega)) (Int.emod_lt_of_pos _ m0) (But.refl.upd) ⟨_, _, _, upd_same⟩

theorem ok_bk (T : TopM K CB "__init__" "BadKind.__init__" s_BadKind___init) (O : OexC K CB) (no : PySem.W.findIn K (.ref CB) "kind" = some none) (hm : mg "BadKind" = some (.ref CB)) : Er P w K mg base "BadKind" CB "kind" := by
  obtain ⟨f, fd, F, hb, hf, hi, hk⟩ := me_ok (P := P) (w := w) (mg := mg) (base := base) (k := 0) (sp := sp1 CB "kind") T sc_BadKind___init so_BadKind___init (fun vs H Q E h => by obtain ⟨a, v, rfl, _⟩ := h; rfl) (fun _ _ _ _ _ _ us hl => match us, hl with | [_, _], _ => rfl) fun f cdv A outer s H vs Q E hr h nd => by
    obtain ⟨a, v, rfl, ha, q⟩ := h
    refine l_cons (s_ost ?_)
    walk_at "sts"
    refine ⟨a, CB, rfl, O, no, ha, fun dx nd ne => ?_⟩
    refine l_nil ?_
    exact q dx nd ne
  exact ⟨O, hm, f, fd, _, F, hf, beq_iff_eq.mp hi, hb⟩
/-- flat values -/
def Fl (x : V) : Prop := (∃ i, x = .int i) ∨ (∃ b, x = .bl b) ∨ ∃ z, x = .str z
def spSame0 : Sp := fun vs H Q _ => ∃ x, vs = [x, x] ∧ Fl x ∧ Q (.bl true) H
theorem ok_same0 (T : Top K mg "_law_same" s_same) (B : BOk mg) : Fn P w K mg base 1 "_law_same" spSame0 := by
  refine fn_ok T sc_same so_same (fun vs H Q E h => ?_) (fun _ _ _ _ _ _ us hl => match us, hl with | [_, _], _ => rfl) fun f cdv A outer s H vs Q E hr h nd => ?_
  · obtain ⟨i, rfl, _⟩ := h
    rfl
  · obtain ⟨x, rfl, hx, q⟩ := h
    obtain ⟨bi, bt, bb, bs, btu, bl, bn, br, _, _, _⟩ := B
    rcases hx with ⟨i, rfl⟩ | ⟨b, rfl⟩ | ⟨z, rfl⟩
    · walk_at "sts"
      refine c_isi ty_int (.ty _) (kit_ty kb_int_bool) ?_
      walk_at "sts"
      refine c_isi ty_int (.ty _) (kit_ty kb_int_int) ?_
      walk_at "sts"
      refine c_isi ty_int (.ty _) (kit_ty kb_int_int) ?_
      walk_at "sts"
      refine c_isi ty_int (.ty _) (kit_ty kb_int_bool) ?_
      walk_at "sts"
      rw [decide_eq_true (rfl : i = i)]
      exact q
    · walk_at "sts"
      refine c_isi ty_bl (.ty _) (kit_ty kb_bool_bool) ?_
      walk_at "sts"
      refine c_isi ty_bl (.ty _) (kit_ty kb_bool_bool) ?_
      walk_at "sts"
      rw [decide_eq_true (rfl : b = b)]
      exact q
    · walk_at "sts"
      refine c_isi ty_str (.ty _) (kit_ty kb_str_bool) ?_
      walk_at "sts"
      refine c_isi ty_str (.ty _) (kit_ty kb_str_int) ?_
      walk_at "sts"
      refine c_isi ty_str (.ty _) (kit_ty kb_str_str) ?_
      walk_at "sts"
      refine c_isi ty_str (.ty _) (kit_ty kb_str_str) ?_
      walk_at "sts"
      rw [decide_eq_true (rfl : z = z)]
      exact q
theorem ok_same0H (T : Top K mg "_law_same" s_same) (B : BOk mg) : FnHt P w K mg base 1 "_law_same" spSame0 := by
  refine fn_okH T sc_same so_same (fun vs H Q E h => ?_) (fun _ _ _ _ _ _ us hl => match us, hl with | [_, _], _ => rfl) fun f cdv A outer s H vs Q E pp hr h nd => ?_
  · obtain ⟨i, rfl, _⟩ := h
    rfl
  · obtain ⟨x, rfl, hx, q⟩ := h
    obtain ⟨bi, bt, bb, bs, btu, bl, bn, br, _, _, _⟩ := B
    rcases hx with ⟨i, rfl⟩ | ⟨b, rfl⟩ | ⟨z, rfl⟩
    · walk_at "sts"
      refine c_isi ty_int (.ty _) (kit_ty kb_int_bool) ?_
      walk_at "sts"
      refine c_isi ty_int (.ty _) (kit_ty kb_int_int) ?_
      walk_at "sts"
      refine c_isi ty_int (.ty _) (kit_ty kb_int_int) ?_
      walk_at "sts"
      refine c_isi ty_int (.ty _) (kit_ty kb_int_bool) ?_
      walk_at "sts"
      rw [decide_eq_true (rfl : i = i)]
      exact q
    · walk_at "sts"
      refine c_isi ty_bl (.ty _) (kit_ty kb_bool_bool) ?_
      walk_at "sts"
      refine c_isi ty_bl (.ty _) (kit_ty kb_bool_bool) ?_
      walk_at "sts"
      rw [decide_eq_true (rfl : b = b)]
      exact q
    · walk_at "sts"
      refine c_isi ty_str (.ty _) (kit_ty kb_str_bool) ?_
      walk_at "sts"
      refine c_isi ty_str (.ty _) (kit_ty kb_str_int) ?_
      walk_at "sts"
      refine c_isi ty_str (.ty _) (kit_ty kb_str_str) ?_
      walk_at "sts"
      refine c_isi ty_str (.ty _) (kit_ty kb_str_str) ?_
      walk_at "sts"
      rw [decide_eq_true (rfl : z = z)]
      exact q
def spSame1 : Sp := fun vs H Q _ => ∃ m n k, vs = [m, n] ∧ ModeV H m k ∧ ModeV H n k ∧ Q (.bl true) H
theorem ok_same1 (T : Top K mg "_law_same" s_same) (B : BOk mg) (F : Fn P w K mg base 1 "_law_same" spSame0) : Fn P w K mg base 2 "_law_same" spSame1 := by
  obtain ⟨f0, fd0, ps0, F0, hm0, hk0, hb0⟩ := id F.ex
  refine fn_ok T sc_same so_same (fun vs H Q E h => ?_) (fun _ _ _ _ _ _ us hl => match us, hl with | [_, _], _ => rfl) fun f cdv A outer s H vs Q E hr h nd => ?_
  · obtain ⟨m, n, k, rfl, _⟩ := h
    rfl
  · obtain ⟨m, n, k, rfl, h1, h2, q⟩ := h
    obtain ⟨bi, bt, bb, bs, btu, bl, bn, br, _, _, _⟩ := B
    rcases k with _ | ⟨u, v⟩
    · obtain rfl : m = .str "once" := h1
      obtain rfl : n = .str "once" := h2
      walk_at "sts"
      refine c_isi ty_str (.ty _) (kit_ty kb_str_bool) ?_
      walk_at "sts"
      refine c_isi ty_str (.ty _) (kit_ty kb_str_int) ?_
      walk_at "sts"
      refine c_isi ty_str (.ty _) (kit_ty kb_str_str) ?_
      walk_at "sts"
      refine c_isi ty_str (.ty _) (kit_ty kb_str_str) ?_
      walk_at "sts"
      exact q
    · obtain ⟨p, rfl, hp⟩ := h1
      obtain ⟨r, rfl, hq⟩ := h2
      walk_at "sts"
      refine c_isi (ty_tup hq) (.ty _) (kit_ty kb_tuple_bool) ?_
      walk_at "sts"
      refine c_isi (ty_tup hq) (.ty _) (kit_ty kb_tuple_int) ?_
      walk_at "sts"
      refine c_isi (ty_tup hq) (.ty _) (kit_ty kb_tuple_str) ?_
      walk_at "sts"
      refine c_isi (ty_tup hq) (.ty _) (kit_ty kb_tuple_list) ?_
      walk_at "sts"
      refine c_isi (ty_tup hq) (.ty _) (kit_ty kb_tuple_tuple) ?_
      walk_at "sts"
      refine c_isi (ty_tup hp) (.ty _) (kit_ty kb_tuple_tuple) ?_
      walk_at "sts"
      refine c_lenT (by exact SqT.of hp) ?_
      walk_at "sts"
      refine c_lenT (by exact SqT.of hq) ?_
      walk_at "sts"
      refine s_forR (by assumption) ?_
      walk_at "sts"
      refine c_lenT (by exact SqT.of hq) ?_
      refine ⟨2, rfl, by decide, fun i σ H' => ∃ y, σ = [some (.ref p), some (.ref r), y] ∧ H' = H, ⟨_, rfl, rfl⟩, fun k σ H3 hk hW => ?_, fun σ H3 hW => ?_⟩
      · obtain ⟨y, rfl, rfl⟩ := hW
        obtain ⟨z, hz⟩ : ∃ z, ([V.int u, V.int v] : List V)[k]? = some (.int z) := by
          match k, hk with
          | 0, _ => exact ⟨u, rfl⟩
          | 1, _ => exact ⟨v, rfl⟩
        walk_at "sts"
        refine e_call (by exact F) (by exact hr) (by decide) ?_
        walk_at "sts"
        refine ix_t (by exact SqT.of hp) (atI_nat hz) ?_
        walk_at "sts"
        refine ix_t (by exact SqT.of hq) (atI_nat hz) ?_
        walk_at "sts"
        refine ⟨.inl ⟨z, rfl⟩, ?_⟩
        walk_at "sts"
        rfl
      · obtain ⟨y, rfl, rfl⟩ := hW
        walk_at "sts"
        exact q
/-! ### what is refused -/
structure Errs (K : PySem.W.Frag) (mg : Str → Option Value) (CB CH CN CT CR CU : Addr) : Prop where
  mB : mg "BadKind" = some (.ref CB)
  mH : mg "HeldError" = some (.ref CH)
  mN : mg "BadName" = some (.ref CN)
  mT : mg "NameTaken" = some (.ref CT)
  mR : mg "NoRoom" = some (.ref CR)
  mU : mg "UnknownName" = some (.ref CU)
  mV : mg "ValueError" = none
  ec : EcC K CB
  xf : XfC K CB
  no : PySem.W.findIn K (.ref CB) "kind" = some none
  xB : PySem.W.exmOne K (.ref CB) (.ref CB) = some true
  xH : PySem.W.exmOne K (.ref CB) (.ref CH) = some true
  kB : PySem.W.kitOne K (.ref CB) (.ref CB) = some true
  kH : PySem.W.kitOne K (.ref CB) (.ref CH) = some true
  kV : PySem.W.kitOne K (.ref CB) (.type "ValueError") = some true
  kA : PySem.W.kitAny K (.ref CB) [.ref CN, .ref CT, .ref CR, .ref CU] = some false
variable {CH CN CT CR CU : Addr}
theorem b_ve : bootBuiltins "ValueError" = some (.type "ValueError") := by decide +kernel
theorem ex_put {Q : Prop} (h : Q) : Q := h
def spRef : Sp := fun vs H Q _ => ∃ m1 m2 k1 k2, vs = [m1, m2] ∧ ModeV H m1 k1 ∧ ModeV H m2 k2 ∧ (k1 = none ∨ k2 = none) ∧ ∀ H', Same H H' → Q (.bl true) H'
theorem ok_refused (T : Top K mg "_law_refused" s_refused) (B : BOk mg) (R : Errs K mg CB CH CN CT CR CU) (F : FnN P w K mg base 3 "pooled" (spPo CB)) (FS : FnHt P w K mg base 1 "_law_same" spSame0) : Fn P w K mg base 4 "_law_refused" spRef := by
  refine fn_ok T sc_refused so_refused (fun vs H Q E h => ?_) (fun _ _ _ _ _ _ us hl => match us, hl with | [_, _], _ => rfl) fun f cdv A outer s H vs Q E hr h nd => ?_
  · obtain ⟨m1, m2, k1, k2, rfl, _⟩ := h
    rfl
  · obtain ⟨m1, m2, k1, k2, rfl, h1, h2, hn, q⟩ := h
    obtain ⟨bi, bt, bb, bs, btu, bl, bn, br, _, _, _⟩ := B
    have mV := R.mV
    walk_at "sts"
    refine s_tryN (by exact R.mB) takesN0 fun pn xe tk nd' => ?_
    refine l_cons (s_expr ?_)
    refine e_callN (by exact F) (by exact tk) (by exact hr) (by decide) ?_
    walk_at "sts"
    refine ⟨m1, m2, k1, k2, rfl, h1, h2, .inr ⟨hn, fun d H1 e1 nd1 hd => ?_⟩⟩
    refine ⟨true, R.xB, fun _ a na => ?_, fun z => nomatch z⟩
    intro oe pn2 hz hf nd2 hot
    have hdd : ∀ dd, some d = some dd → H1 dd = some (.xd [(("kind" : Str), V.str "once")]) := fun dd z => by cases z; exact hd
    walk_at "sts"
    refine e_glob (v := .ref CN) (by exact R.mN) rfl ?_
    walk_at "sts"
    refine e_glob (v := .ref CT) (by exact R.mT) rfl ?_
    walk_at "sts"
    refine e_glob (v := .ref CR) (by exact R.mR) rfl ?_
    walk_at "sts"
    refine e_glob (v := .ref CU) (by exact R.mU) rfl ?_
    walk_at "sts"
    refine ⟨by show 4 ≤ sizeLine; decide, fun tp H2 e2 _ ht => ?_⟩
    walk_at "sts"
    refine c_isET R.ec hz hf (fun dd z => e2 _ _ (hdd dd z)) ht (.cons (.own _) (.cons (.own _) (.cons (.own _) (.cons (.own _) .nil)))) R.kA ?_
    walk_at "sts"
    refine e_glob (v := .ref CH) (by exact R.mH) rfl ?_
    walk_at "sts"
    refine c_isE R.ec hz hf (fun dd z => e2 _ _ (hdd dd z)) (.own _) R.kH ?_
    walk_at "sts"
    refine e_bltn (v := .ty "ValueError") (by assumption) b_ve rfl ?_
    walk_at "sts"
    refine c_isE R.ec hz hf (fun dd z => e2 _ _ (hdd dd z)) (.ty _) R.kV ?_
    walk_at "sts"
    refine e_callH (by exact FS) (by exact L2H.roomH_mark hr _) (by decide) (by exact hot) ?_
    refine a_cons (e_xf R.xf R.no hz hf ?_)
    walk_at "sts"
    refine ⟨rfl, d, _, .str "once", rfl, e2 _ _ hd, by simp [List.lookup], ?_⟩
    walk_at "sts"
    refine ⟨.inr (.inr ⟨_, rfl⟩), ?_⟩
    exact q H2 (e1.trans e2)
theorem ok_refall (T : Top K mg "_law_refused_at_all" s_refused_at_all) (B : BOk mg) (R : Errs K mg CB CH CN CT CR CU) (F : FnN P w K mg base 3 "pooled" (spPo CB)) : Fn P w K mg base 4 "_law_refused_at_all" spRef := by
  refine fn_ok T sc_refused_at_all so_refused_at_all (fun vs H Q E h => ?_) (fun _ _ _ _ _ _ us hl => match us, hl with | [_, _], _ => rfl) fun f cdv A outer s H vs Q E hr h nd => ?_
  · obtain ⟨m1, m2, k1, k2, rfl, _⟩ := h
    rfl
  · obtain ⟨m1, m2, k1, k2, rfl, h1, h2, hn, q⟩ := h
    obtain ⟨bi, bt, bb, bs, btu, bl, bn, br, _, _, _⟩ := B
    walk_at "sts"
    refine s_tryN (by exact R.mH) takesN0 fun pn xe tk nd' => ?_
    refine l_cons (s_expr ?_)
    refine e_callN (by exact F) (by exact tk) (by exact hr) (by decide) ?_
    walk_at "sts"
    refine ⟨m1, m2, k1, k2, rfl, h1, h2, .inr ⟨hn, fun d H1 e1 nd1 hd => ?_⟩⟩
    refine ⟨true, R.xH, fun _ a na => ?_, fun z => nomatch z⟩
    intro oe pn2 hz hf nd2 hot
    have hdd : ∀ dd, some d = some dd → H1 dd = some (.xd [(("kind" : Str), V.str "once")]) := fun dd z => by cases z; exact hd
    walk_at "sts"
    refine e_glob (v := .ref CB) (by exact R.mB) rfl ?_
    walk_at "sts"
    refine c_isE R.ec hz hf hdd (.own _) R.kB ?_
    exact q H1 e1
end


section
variable {P : Program} {w : World} {K : PySem.W.Frag} {mg : Str → Option Value} {base : Heap} {CB : Addr}
def mn (i j : Int) : Int := if j < i then j else i
def Tri (H : Hp) (m : V) (a b c : Int) : Prop := ∃ t, m = .ref t ∧ H t = some (.tup [.int a, .int b, .int c])
theorem Tri.up {H H' : Hp} {m : V} {a b c : Int} (e : Same H H') (h : Tri H m a b c) : Tri H' m a b c := let ⟨t, x, y⟩ := h; ⟨t, x, e _ _ y⟩
theorem ModeV.but {H H' : Hp} {q : Addr} {m : V} {k : Option (Int × Int)} (e : But q H H') (hq : PoolAt H q) (h : ModeV H m k) : ModeV H' m k := by
  cases k with
  | none => exact h
  | some uv =>
    obtain ⟨t, h1, h2⟩ := h
    obtain ⟨_, _, _, z⟩ := hq
    exact ⟨t, h1, e.tup z h2⟩
theorem Same.but {p : Addr} {H0 H1 H2 : Hp} (s : Same H0 H1) (n : H0 p = none) (b : But p H1 H2) : Same H0 H2 := fun x o h => b x o (ne_of_none h n) (s x o h)
theorem PoolAt.up {H H' : Hp} {a : Addr} (e : Same H H') (h : PoolAt H a) : PoolAt H' a := let ⟨x, y, z, p⟩ := h; ⟨x, y, z, e _ _ p⟩
/-- in bounds as drawn -/
def ok50 : Option (Int × Int) → Prop
  | none => True
  | some (u, v) => 1 ≤ u ∧ u ≤ 50 ∧ 0 ≤ v ∧ v ≤ 50
theorem o_nePS {X : Cx} {H : Hp} {Q : VK} {n : Nat} {a : Addr} {u v : Int} {z : Str} (hr : Room n X.A) (h : H a = some (.tup [.int u, .int v])) (hz : SeqAt.shaped (.str z) = true) (q : Q (.bl true) H) : wK X .NotEq (.ref a) (.str z) H Q :=
  k_of (op_neD hr.units) ⟨.tuple [.int u, .int v], .str z, .tup (SqT.of h) (.cons (.int u) (.cons (.int v) .nil)), .str z, rfl, hz, q⟩
def spMode : Sp := fun vs H Q _ => ∃ a m k, vs = [.ref a, m] ∧ PoolAt H a ∧ ModeV H m k ∧ ok50 k ∧ ∀ r k' H', But a H H' → PoolAt H' a → ModeV H' r k' → ok50 k' → Q r H'
theorem ok_mode (T : Top K mg "_law_mode" s_mode) (B : BOk mg) (F : Fn P w K mg base 1 "_law_next" spNext) : Fn P w K mg base 2 "_law_mode" spMode := by
  refine fn_ok T sc_mode so_mode (fun vs H Q E h => ?_) (fun _ _ _ _ _ _ us hl => match us, hl with | [_, _], _ => rfl) fun f cdv A outer s H vs Q E hr h nd => ?_
  · obtain ⟨a, m, k, rfl, _⟩ := h
    rfl
  · obtain ⟨a, m, k, rfl, hp, hm, ok, q⟩ := h
    obtain ⟨bi, bt, bb, bs, btu, bl, bn, br, bab, bmx, bmn⟩ := B
    have tl : ∀ (H1 : Hp) (σ2 : L2.St), But a H H1 → PoolAt H1 a → ∀ d : Int, 0 ≤ d → d < 50 → ∀ d' H2, 0 ≤ d' → d' < 51 → But a H1 H2 → PoolAt H2 a → ∀ p H3, Same H2 H3 → H3 p = some (.tup [.int (1 + d), .int d']) → Q (.ref p) H3 :=
      fun H1 _ b1 p1 d d0 d1 d' H2 c0 c1 b2 p2 p H3 e3 hp3 => q (.ref p) (some (1 + d, d')) H3 ((b1.trans b2).trans (But.of e3)) (p2.up e3) ⟨p, rfl, hp3⟩ ⟨by omega, by omega, by omega, by omega⟩
    walk_at "sts"
    refine e_call (by exact F) (by exact hr) (by decide) ?_
    walk_at "sts"
    refine ⟨a, 4, rfl, by decide, by decide, hp, fun d H1 d0 d1 b1 p1 => ?_⟩
    have hm1 := ModeV.but b1 hp hm
    walk_at "sts"
    refine if2 (fun _ => ?_) (fun _ => ?_)
    · walk_at "sts"
      exact q _ none H1 b1 p1 rfl trivial
    · walk_at "sts"
      have fin : ∀ (σ1 : L2.St) (X : Cx) , True := fun _ _ => trivial
      refine if2 (fun _ => ?_) (fun _ => ?_)
      · walk_at "sts"
        rcases k with _ | ⟨u, v⟩
        · obtain rfl : m = .str "once" := hm
          refine o_neS ?_
          walk_at "sts"
          refine e_call (by exact F) (by exact hr) (by decide) ?_
          walk_at "sts"
          refine ⟨a, 50, rfl, by decide, by decide, p1, fun d2 H2 e0 e1 b2 p2 => ?_⟩
          walk_at "sts"
          refine e_call (by exact F) (by exact hr) (by decide) ?_
          walk_at "sts"
          refine ⟨a, 51, rfl, by decide, by decide, p2, fun d3 H3 f0 f1 b3 p3 => ?_⟩
          walk_at "sts"
          exact ⟨by show 2 ≤ sizeLine; decide, fun p H4 e4 _ hp4 => tl H2 [] (b1.trans b2) p2 d2 e0 e1 d3 H3 f0 f1 b3 p3 p H4 e4 hp4⟩
        · obtain ⟨t, rfl, ht1⟩ := hm1
          refine o_nePS (by exact hr) ht1 once_shaped ?_
          walk_at "sts"
          refine ix_t (by exact SqT.of (ht1)) rfl ?_
          walk_at "sts"
          refine e_call (by exact F) (by exact hr) (by decide) ?_
          walk_at "sts"
          refine ⟨a, 3, rfl, by decide, by decide, p1, fun d2 H2 e0 e1 b2 p2 => ?_⟩
          have ht2 : H2 t = some (.tup [.int u, .int v]) := by obtain ⟨x, y, z, pp⟩ := p1; exact b2.tup pp ht1
          walk_at "sts"
          refine ix_t (by exact SqT.of (ht2)) rfl ?_
          walk_at "sts"
          refine e_call (by exact F) (by exact hr) (by decide) ?_
          walk_at "sts"
          refine ⟨a, 3, rfl, by decide, by decide, p2, fun d3 H3 f0 f1 b3 p3 => ?_⟩
          walk_at "sts"
          refine ⟨by show 2 ≤ sizeLine; decide, fun p H4 e4 _ hp4 => ?_⟩
          refine q (.ref p) (some (_, _)) H4 (((b1.trans b2).trans b3).trans (But.of e4)) (p3.up e4) ⟨p, rfl, hp4⟩ ?_
          refine ⟨?_, ?_, ?_, ?_⟩ <;> (split <;> (try split) <;> omega)
      · walk_at "sts"
        refine e_call (by exact F) (by exact hr) (by decide) ?_
        walk_at "sts"
        refine ⟨a, 50, rfl, by decide, by decide, p1, fun d2 H2 e0 e1 b2 p2 => ?_⟩
        walk_at "sts"
        refine e_call (by exact F) (by exact hr) (by decide) ?_
        walk_at "sts"
        refine ⟨a, 51, rfl, by decide, by decide, p2, fun d3 H3 f0 f1 b3 p3 => ?_⟩
        walk_at "sts"
        exact ⟨by show 2 ≤ sizeLine; decide, fun p H4 e4 _ hp4 => tl H2 [] (b1.trans b2) p2 d2 e0 e1 d3 H3 f0 f1 b3 p3 p H4 e4 hp4⟩
/-! ### the law's own covers -/
def fit : Option (Int × Int) → Int → Int → Int → Bool
  | none, a, b, _ => decide (a = 1) && decide (b = 1)
  | some (u, v), _, b, c => decide (b ≤ u) && decide (c ≤ v)
def spFits : Sp := fun vs H Q _ => ∃ m n k a b c, vs = [m, n] ∧ Tri H m a b c ∧ ModeV H n k ∧ Q (.bl (fit k a b c)) H
theorem ok_fits (T : Top K mg "_law_fits" s_fits) : Fn P w K mg base 1 "_law_fits" spFits := by
  refine fn_ok T sc_fits so_fits (fun vs H Q E h => ?_) (fun _ _ _ _ _ _ us hl => match us, hl with | [_, _], _ => rfl) fun f cdv A outer s H vs Q E hr h nd => ?_
  · obtain ⟨m, n, k, a, b, c, rfl, _⟩ := h
    rfl
  · obtain ⟨m, n, k, a, b, c, rfl, ⟨t, rfl, ht⟩, hm, q⟩ := h
    rcases k with _ | ⟨u, v⟩
    · obtain rfl : n = .str "once" := hm
      walk_at "sts"
      refine ix_t (by exact SqT.of (ht)) rfl ?_
      walk_at "sts"
      refine and_val q fun q => ?_
      walk_at "sts"
      refine ix_t (by exact SqT.of (ht)) rfl ?_
      walk_at "sts"
      exact q
    · obtain ⟨r, rfl, hr'⟩ := hm
      walk_at "sts"
      refine o_eqPS (by exact hr) hr' once_shaped ?_
      walk_at "sts"
      refine ix_t (by exact SqT.of (ht)) rfl ?_
      walk_at "sts"
      refine ix_t (by exact SqT.of (hr')) rfl ?_
      walk_at "sts"
      refine and_val q fun q => ?_
      walk_at "sts"
      refine ix_t (by exact SqT.of (ht)) rfl ?_
      walk_at "sts"
      refine ix_t (by exact SqT.of (hr')) rfl ?_
      walk_at "sts"
      exact q
def ext : Option (Int × Int) → List (Int × Int × Int)
  | none => [(1, 1, 0)]
  | some (u, v) => [(0, u, v), (0, 1, 0), (0, 0, 0), (1, 1, 0)]
/-- a list of triples -/
def Tris (H : Hp) (xs : List V) (ts : List (Int × Int × Int)) : Prop := xs.length = ts.length ∧ ∀ (i : Nat) m, xs[i]? = some m → ∃ a b c, ts[i]? = some (a, b, c) ∧ Tri H m a b c
def spExt : Sp := fun vs H Q _ => ∃ n k, vs = [n] ∧ ModeV H n k ∧ ∀ l xs H', Same H H' → H' l = some (.lst xs) → Tris H' xs (ext k) → Q (.ref l) H'
theorem ok_ext (T : Top K mg "_law_extremes" s_extremes) : Fn P w K mg base 1 "_law_extremes" spExt := by
  refine fn_ok T sc_extremes so_extremes (fun vs H Q E h => ?_) (fun _ _ _ _ _ _ us hl => match us, hl with | [_], _ => rfl) fun f cdv A outer s H vs Q E hr h nd => ?_
  · obtain ⟨n, k, rfl, _⟩ := h
    rfl
  · obtain ⟨n, k, rfl, hm, q⟩ := h
    rcases k with _ | ⟨u, v⟩
    · obtain rfl : n = .str "once" := hm
      walk_at "sts"
      refine ⟨by show 3 ≤ sizeLine; decide, fun t1 H1 e1 _ h1 => ?_⟩
      walk_at "sts"
      refine ⟨by show 1 ≤ sizeLine; decide, fun l H2 e2 _ hl => ?_⟩
      refine q l _ H2 (e1.trans e2) hl ⟨rfl, fun i m hi => ?_⟩
      match i, hi with
      | 0, hi => cases (Option.some.inj hi); exact ⟨1, 1, 0, rfl, t1, rfl, e2 _ _ h1⟩
    · obtain ⟨r, rfl, hr'⟩ := hm
      walk_at "sts"
      refine o_eqPS (by exact hr) hr' once_shaped ?_
      walk_at "sts"
      refine ix_t (by exact SqT.of (hr')) rfl ?_
      walk_at "sts"
      refine ix_t (by exact SqT.of (hr')) rfl ?_
      walk_at "sts"
      refine ⟨by show 3 ≤ sizeLine; decide, fun t1 H1 e1 _ h1 => ?_⟩
      walk_at "sts"
      refine ⟨by show 3 ≤ sizeLine; decide, fun t2 H2 e2 _ h2 => ?_⟩
      walk_at "sts"
      refine ⟨by show 3 ≤ sizeLine; decide, fun t3 H3 e3 _ h3 => ?_⟩
      walk_at "sts"
      refine ⟨by show 3 ≤ sizeLine; decide, fun t4 H4 e4 _ h4 => ?_⟩
      walk_at "sts"
      refine ⟨by show 4 ≤ sizeLine; decide, fun l H5 e5 _ hl => ?_⟩
      have f4 := e4.trans e5
      have f3 := e3.trans f4
      have f2 := e2.trans f3
      refine q l _ H5 (e1.trans f2) hl ⟨rfl, fun i m hi => ?_⟩
      match i, hi with
      | 0, hi => cases (Option.some.inj hi); exact ⟨_, _, _, rfl, t1, rfl, f2 _ _ h1⟩
      | 1, hi => cases (Option.some.inj hi); exact ⟨_, _, _, rfl, t2, rfl, f3 _ _ h2⟩
      | 2, hi => cases (Option.some.inj hi); exact ⟨_, _, _, rfl, t3, rfl, f4 _ _ h3⟩
      | 3, hi => cases (Option.some.inj hi); exact ⟨_, _, _, rfl, t4, rfl, e5 _ _ h4⟩
/-- all extremes fit -/
theorem fits_cov {k1 k2 : Option (Int × Int)} (o1 : okk k1) (o2 : okk k2) (h : cov k1 k2 = true) : ∀ (i : Nat) a b c, (ext k2)[i]? = some (a, b, c) → fit k1 a b c = true := by
  intro i a b c hi
  rcases k2 with _ | ⟨m, j⟩
  · match i, hi with
    | 0, hi =>
      cases (Option.some.inj hi)
      rcases k1 with _ | ⟨n, k⟩
      · rfl
      · obtain ⟨z1, z2, z3⟩ := o1
        show (decide ((1 : Int) ≤ n) && decide ((0 : Int) ≤ k)) = true
        simp [z1, z3]
  · rcases k1 with _ | ⟨n, k⟩
    · cases h
    · obtain ⟨z1, z2, z3⟩ := o1
      have h' : (decide (m ≤ n) && decide (j ≤ k)) = true := h
      have z4 : (0 : Int) ≤ n := by omega
      match i, hi with
      | 0, hi => cases (Option.some.inj hi); exact h'
      | 1, hi => cases (Option.some.inj hi); show (decide ((1 : Int) ≤ n) && decide ((0 : Int) ≤ k)) = true; simp [z1, z3]
      | 2, hi => cases (Option.some.inj hi); show (decide ((0 : Int) ≤ n) && decide ((0 : Int) ≤ k)) = true; simp [z4, z3]
      | 3, hi => cases (Option.some.inj hi); show (decide ((1 : Int) ≤ n) && decide ((0 : Int) ≤ k)) = true; simp [z1, z3]
/-- else the first one does not -/
theorem fits_not {k1 k2 : Option (Int × Int)} (h : cov k1 k2 = false) : ∃ a b c, (ext k2)[0]? = some (a, b, c) ∧ fit k1 a b c = false := by
  rcases k2 with _ | ⟨m, j⟩
  · rw [show cov k1 none = true by cases k1 <;> rfl] at h; cases h
  · rcases k1 with _ | ⟨n, k⟩
    · exact ⟨0, m, j, rfl, rfl⟩
    · exact ⟨0, m, j, rfl, h⟩
def spCov : Sp := fun vs H Q _ => ∃ m1 m2 k1 k2, vs = [m1, m2] ∧ ModeV H m1 k1 ∧ ModeV H m2 k2 ∧ okk k1 ∧ okk k2 ∧ ∀ H', Same H H' → Q (.bl (cov k1 k2)) H'
theorem ok_lcov (T : Top K mg "_law_covers" s_l_covers) (FE : Fn P w K mg base 1 "_law_extremes" spExt) (FF : Fn P w K mg base 1 "_law_fits" spFits) : Fn P w K mg base 2 "_law_covers" spCov := by
  refine fn_ok T sc_l_covers so_l_covers (fun vs H Q E h => ?_) (fun _ _ _ _ _ _ us hl => match us, hl with | [_, _], _ => rfl) fun f cdv A outer s H vs Q E hr h nd => ?_
  · obtain ⟨m1, m2, k1, k2, rfl, _⟩ := h
    rfl
  · obtain ⟨m1, m2, k1, k2, rfl, h1, h2, o1, o2, q⟩ := h
    walk_at "sts"
    refine s_forL ?_
    refine e_call (by exact FE) (by exact hr) (by decide) ?_
    walk_at "sts"
    refine ⟨m2, k2, rfl, h2, fun l xs H1 e1 hl ht => ?_⟩
    obtain ⟨hlen, hx⟩ := ht
    have hc : ∀ b : Bool, cov k1 k2 = b → b = true ∨ b = false := fun b _ => by cases b <;> simp
    refine ⟨l, xs, rfl, SqL.of hl, fun i σ H' => ∃ y, σ = [some m1, some m2, y] ∧ H' = H1 ∧ (1 ≤ i → cov k1 k2 = true), ⟨_, rfl, rfl, fun z => absurd z (by decide)⟩, fun i σ H' _ hW => ?_, fun i el σ H' hi hW => ?_, fun σ H' hW => ?_⟩
    · obtain ⟨y, rfl, rfl, _⟩ := hW
      exact SqL.of hl
    · obtain ⟨y, rfl, rfl, n1⟩ := hW
      obtain ⟨a, b, c, hi2, htr⟩ := hx i el hi
      walk_at "sts"
      refine e_call (by exact FF) (by exact hr) (by decide) ?_
      walk_at "sts"
      refine ⟨el, m1, k1, a, b, c, rfl, htr, h1.up e1, ?_⟩
      cases hcv : cov k1 k2 with
      | true =>
        rw [fits_cov o1 o2 hcv i a b c hi2]
        walk_at "sts"
        exact ⟨rfl, fun _ => rfl⟩
      | false =>
        have i0 : i = 0 := by
          rcases Nat.eq_zero_or_pos i with z | z
          · exact z
          · rw [n1 z] at hcv; cases hcv
        subst i0
        obtain ⟨a', b', c', g1, g2⟩ := fits_not hcv
        rw [hi2] at g1
        cases g1
        rw [g2]
        walk_at "sts"
        rw [← hcv]
        exact q _ e1
    · obtain ⟨y, rfl, rfl, n1⟩ := hW
      have pos : 1 ≤ xs.length := by
        rw [hlen]
        rcases k2 with _ | ⟨m, j⟩
        · exact Nat.le_refl _
        · show 1 ≤ 4; decide
      walk_at "sts"
      rw [← n1 pos]
      exact q _ e1
end


section
variable {P : Program} {w : World} {K : PySem.W.Frag} {mg : Str → Option Value} {base : Heap} {CB : Addr}
theorem max3_eq {a b : Int} (ha : 0 ≤ a) (hb : 0 ≤ b) : nuMax3 (.int 0) (.int a) (.int b) = some (.int (mx a b)) := by
  have e1 : nuMax2 (.int 0) (.int a) = some (.int a) := by
    show some (if decide ((0 : Int) < a) = true then V.int a else V.int 0) = _
    by_cases h : 0 < a
    · simp [h]
    · have : a = 0 := by omega
      subst this
      simp
  show (nuMax2 (.int 0) (.int a)).bind (fun m => nuMax2 m (.int b)) = _
  rw [e1]
  show some (if decide (a < b) = true then V.int b else V.int a) = some (.int (mx a b))
  unfold mx
  by_cases h : a < b
  · rw [if_pos (show b > a from h), decide_eq_true h]
    rfl
  · rw [if_neg (show ¬ b > a from h), decide_eq_false h]
    rfl
def bl0 : Option (Int × Int) → Int → Int
  | none, a => a
  | some _, _ => 0
def bl1 : Option (Int × Int) → Int → Int
  | none, b => b
  | some (u, _), b => u * b
def bl2 : Option (Int × Int) → Int → Int
  | none, c => c
  | some (_, v), c => v + c
def spBox : Sp := fun vs H Q _ => ∃ m n k a b c, vs = [m, n] ∧ Tri H m a b c ∧ ModeV H n k ∧ okk k ∧ ∀ r H', Same H H' → Tri H' r (bl0 k a) (bl1 k b) (bl2 k c) → Q r H'
theorem ok_boxed (T : Top K mg "_law_boxed" s_boxed) : Fn P w K mg base 1 "_law_boxed" spBox := by
  refine fn_ok T sc_boxed so_boxed (fun vs H Q E h => ?_) (fun _ _ _ _ _ _ us hl => match us, hl with | [_, _], _ => rfl) fun f cdv A outer s H vs Q E hr h nd => ?_
  · obtain ⟨m, n, k, a, b, c, rfl, _⟩ := h
    rfl
  · obtain ⟨m, n, k, a, b, c, rfl, ⟨t, rfl, ht⟩, hm, hs, q⟩ := h
    rcases k with _ | ⟨u, v⟩
    · obtain rfl : n = .str "once" := hm
      walk_at "sts"
      exact q (.ref t) H (Same.refl H) ⟨t, rfl, ht⟩
    · obtain ⟨r, rfl, hr'⟩ := hm
      obtain ⟨s1, s2, s3⟩ := hs
      walk_at "sts"
      refine o_eqPS (by exact hr) hr' once_shaped ?_
      walk_at "sts"
      refine ix_t (by exact SqT.of (hr')) rfl ?_
      walk_at "sts"
      refine ix_t (by exact SqT.of (ht)) rfl ?_
      walk_at "sts"
      refine o_mul (.inl ⟨by omega, by omega⟩) ?_
      walk_at "sts"
      refine ix_t (by exact SqT.of (hr')) rfl ?_
      walk_at "sts"
      refine ix_t (by exact SqT.of (ht)) rfl ?_
      walk_at "sts"
      exact ⟨by show 3 ≤ sizeLine; decide, fun p H2 e _ hp => q (.ref p) H2 e ⟨p, rfl, hp⟩⟩
def spLn : Sp := fun vs H Q _ => ∃ m1 m2 k1 k2, vs = [m1, m2] ∧ ModeV H m1 k1 ∧ ModeV H m2 k2 ∧ okk k1 ∧ okk k2 ∧ ∀ r H', Same H H' → ModeV H' r (nst k1 k2) → Q r H'
theorem nst_box {k1 k2 : Option (Int × Int)} (h : k1 ≠ none ∨ k2 ≠ none) : nst k1 k2 = some (bl1 k1 (bl1 k2 1), bl2 k1 (bl2 k2 0)) := by
  rcases k1 with _ | ⟨n, k⟩
  · rcases k2 with _ | ⟨m, j⟩
    · simp at h
    · show some (m, j) = some (m * 1, j + 0)
      rw [Int.mul_one, Int.add_zero]
  · rcases k2 with _ | ⟨m, j⟩
    · show some (n, k) = some (n * 1, k + 0)
      rw [Int.mul_one, Int.add_zero]
    · show some (n * m, k + j) = some (n * (m * 1), k + (j + 0))
      rw [Int.mul_one, Int.add_zero]
theorem ok_lnest (T : Top K mg "_law_nested" s_l_nested) (FB : Fn P w K mg base 1 "_law_boxed" spBox) : Fn P w K mg base 2 "_law_nested" spLn := by
  refine fn_ok T sc_l_nested so_l_nested (fun vs H Q E h => ?_) (fun _ _ _ _ _ _ us hl => match us, hl with | [_, _], _ => rfl) fun f cdv A outer s H vs Q E hr h nd => ?_
  · obtain ⟨m1, m2, k1, k2, rfl, _⟩ := h
    rfl
  · obtain ⟨m1, m2, k1, k2, rfl, h1, h2, o1, o2, q⟩ := h
    rcases k1 with _ | ⟨n, k⟩ <;> rcases k2 with _ | ⟨m, j⟩
    · obtain rfl : m1 = .str "once" := h1
      obtain rfl : m2 = .str "once" := h2
      walk_at "sts"
      exact q _ H (Same.refl H) rfl
    · obtain rfl : m1 = .str "once" := h1
      obtain ⟨t, rfl, ht⟩ := h2
      walk_at "sts"
      refine o_eqPS (by exact hr) ht once_shaped ?_
      walk_at "sts"
      refine e_call (by exact FB) (by exact hr) (by decide) ?_
      refine a_cons (e_call (by exact FB) (by exact hr) (by decide) ?_)
      walk_at "sts"
      refine ⟨by show 3 ≤ sizeLine; decide, fun u1 G1 g1 _ hu1 => ?_⟩
      walk_at "sts"
      refine ⟨_, _, (some (m, j)), 1, 1, 0, rfl, ⟨u1, rfl, hu1⟩, (⟨t, rfl, g1 _ _ ht⟩), o2, fun u2 G2 g2 hu2 => ?_⟩
      walk_at "sts"
      refine ⟨_, _, none, _, _, _, rfl, hu2, rfl, o1, fun u3 G3 g3 hu3 => ?_⟩
      obtain ⟨t3, rfl, hu3⟩ := hu3
      walk_at "sts"
      refine ix_t (by exact SqT.of hu3) rfl ?_
      walk_at "sts"
      refine ix_t (by exact SqT.of hu3) rfl ?_
      walk_at "sts"
      refine ⟨by show 2 ≤ sizeLine; decide, fun p4 G4 g4 _ hp4 => q (.ref p4) G4 (((g1.trans g2).trans g3).trans g4) ?_⟩
      rw [nst_box (by simp)]
      exact ⟨p4, rfl, hp4⟩
    · obtain ⟨t, rfl, ht⟩ := h1
      obtain rfl : m2 = .str "once" := h2
      walk_at "sts"
      refine o_eqPS (by exact hr) ht once_shaped ?_
      walk_at "sts"
      refine e_call (by exact FB) (by exact hr) (by decide) ?_
      refine a_cons (e_call (by exact FB) (by exact hr) (by decide) ?_)
      walk_at "sts"
      refine ⟨by show 3 ≤ sizeLine; decide, fun u1 G1 g1 _ hu1 => ?_⟩
      walk_at "sts"
      refine ⟨_, _, none, 1, 1, 0, rfl, ⟨u1, rfl, hu1⟩, rfl, o2, fun u2 G2 g2 hu2 => ?_⟩
      walk_at "sts"
      refine ⟨_, _, (some (n, k)), _, _, _, rfl, hu2, (⟨t, rfl, (g1.trans g2) _ _ ht⟩), o1, fun u3 G3 g3 hu3 => ?_⟩
      obtain ⟨t3, rfl, hu3⟩ := hu3
      walk_at "sts"
      refine ix_t (by exact SqT.of hu3) rfl ?_
      walk_at "sts"
      refine ix_t (by exact SqT.of hu3) rfl ?_
      walk_at "sts"
      refine ⟨by show 2 ≤ sizeLine; decide, fun p4 G4 g4 _ hp4 => q (.ref p4) G4 (((g1.trans g2).trans g3).trans g4) ?_⟩
      rw [nst_box (by simp)]
      exact ⟨p4, rfl, hp4⟩
    · obtain ⟨t, rfl, ht⟩ := h1
      obtain ⟨r, rfl, hr'⟩ := h2
      walk_at "sts"
      refine o_eqPS (by exact hr) ht once_shaped ?_
      walk_at "sts"
      refine e_call (by exact FB) (by exact hr) (by decide) ?_
      refine a_cons (e_call (by exact FB) (by exact hr) (by decide) ?_)
      walk_at "sts"
      refine ⟨by show 3 ≤ sizeLine; decide, fun u1 G1 g1 _ hu1 => ?_⟩
      walk_at "sts"
      refine ⟨_, _, (some (m, j)), 1, 1, 0, rfl, ⟨u1, rfl, hu1⟩, (⟨r, rfl, g1 _ _ hr'⟩), o2, fun u2 G2 g2 hu2 => ?_⟩
      walk_at "sts"
      refine ⟨_, _, (some (n, k)), _, _, _, rfl, hu2, (⟨t, rfl, (g1.trans g2) _ _ ht⟩), o1, fun u3 G3 g3 hu3 => ?_⟩
      obtain ⟨t3, rfl, hu3⟩ := hu3
      walk_at "sts"
      refine ix_t (by exact SqT.of hu3) rfl ?_
      walk_at "sts"
      refine ix_t (by exact SqT.of hu3) rfl ?_
      walk_at "sts"
      refine ⟨by show 2 ≤ sizeLine; decide, fun p4 G4 g4 _ hp4 => q (.ref p4) G4 (((g1.trans g2).trans g3).trans g4) ?_⟩
      rw [nst_box (by simp)]
      exact ⟨p4, rfl, hp4⟩
def spPair : Sp := fun vs H Q _ => ∃ m1 m2 k1 k2, vs = [m1, m2] ∧ ModeV H m1 k1 ∧ ModeV H m2 k2 ∧ okk k1 ∧ okk k2 ∧ ∀ H', Same H H' → Q (.bl true) H'
theorem ok_pair (T : Top K mg "_law_pair" s_pair) (B : BOk mg) (F0 : Fn P w K mg base 1 "_law_same" spSame0) (F1 : Fn P w K mg base 2 "_law_same" spSame1) (FC : Fn P w K mg base 1 "covers" spCo) (FL : Fn P w K mg base 2 "_law_covers" spCov) (FN : Fn P w K mg base 1 "nested" spNe)
    (FM : Fn P w K mg base 2 "_law_nested" spLn) (FR : Fn P w K mg base 4 "_law_refused" spRef) (FA : Fn P w K mg base 4 "_law_refused_at_all" spRef) (FP : FnN P w K mg base 3 "pooled" (spPo CB)) : Fn P w K mg base 5 "_law_pair" spPair := by
  refine fn_ok T sc_pair so_pair (fun vs H Q E h => ?_) (fun _ _ _ _ _ _ us hl => match us, hl with | [_, _], _ => rfl) fun f cdv A outer s H vs Q E hr h nd => ?_
  · obtain ⟨m1, m2, k1, k2, rfl, _⟩ := h
    rfl
  · obtain ⟨m1, m2, k1, k2, rfl, h1, h2, o1, o2, q⟩ := h
    obtain ⟨bi, bt, bb, bs, btu, bl, bn, br, bab, bmx, bmn⟩ := B
    walk_at "sts"
    refine e_call (by exact F0) (by exact hr) (by decide) ?_
    refine a_cons (e_call (by exact FC) (by exact hr) (by decide) ?_)
    walk_at "sts"
    refine ⟨m1, m2, k1, k2, rfl, h1, h2, ?_⟩
    refine a_cons (e_call (by exact FL) (by exact hr) (by decide) ?_)
    walk_at "sts"
    refine ⟨m1, m2, k1, k2, rfl, h1, h2, o1, o2, fun H1 e1 => ?_⟩
    walk_at "sts"
    refine ⟨.inr (.inl ⟨_, rfl⟩), ?_⟩
    walk_at "sts"
    refine e_call (by exact F1) (by exact hr) (by decide) ?_
    refine a_cons (e_call (by exact FN) (by exact hr) (by decide) ?_)
    walk_at "sts"
    refine ⟨m1, m2, k1, k2, rfl, h1.up e1, h2.up e1, o1, fun r1 H2 e2 g1 => ?_⟩
    have e12 := e1.trans e2
    refine a_cons (e_call (by exact FM) (by exact hr) (by decide) ?_)
    walk_at "sts"
    refine ⟨m1, m2, k1, k2, rfl, h1.up e12, h2.up e12, o1, o2, fun r2 H3 e3 g2 => ?_⟩
    have e13 := e12.trans e3
    walk_at "sts"
    refine ⟨r1, r2, nst k1 k2, rfl, g1.up e3, g2, ?_⟩
    have i1 := h1.up e13
    have i2 := h2.up e13
    have both : (k1 = none ∨ k2 = none) → ∀ {N' G' : List Str}, True := fun _ _ _ => trivial
    rcases k1 with _ | ⟨n, k⟩
    · obtain rfl : m1 = .str "once" := h1
      walk_at "sts"
      refine e_call (by exact FR) (by exact hr) (by decide) ?_
      walk_at "sts"
      refine ⟨_, m2, none, k2, rfl, rfl, i2, .inl rfl, fun H4 e4 => ?_⟩
      walk_at "sts"
      refine e_call (by exact FA) (by exact hr) (by decide) ?_
      walk_at "sts"
      refine ⟨_, m2, none, k2, rfl, rfl, i2.up e4, .inl rfl, fun H5 e5 => ?_⟩
      exact q H5 ((e13.trans e4).trans e5)
    · obtain ⟨t, rfl, ht⟩ := i1
      walk_at "sts"
      refine o_eqPS (by exact hr) ht once_shaped ?_
      rcases k2 with _ | ⟨m, j⟩
      · obtain rfl : m2 = .str "once" := h2
        walk_at "sts"
        refine e_call (by exact FR) (by exact hr) (by decide) ?_
        walk_at "sts"
        refine ⟨.ref t, _, some (n, k), none, rfl, ⟨t, rfl, ht⟩, rfl, .inr rfl, fun H4 e4 => ?_⟩
        walk_at "sts"
        refine e_call (by exact FA) (by exact hr) (by decide) ?_
        walk_at "sts"
        refine ⟨.ref t, _, some (n, k), none, rfl, ⟨t, rfl, e4 _ _ ht⟩, rfl, .inr rfl, fun H5 e5 => ?_⟩
        exact q H5 ((e13.trans e4).trans e5)
      · obtain ⟨r, rfl, hr'⟩ := i2
        walk_at "sts"
        refine o_eqPS (by exact hr) hr' once_shaped ?_
        walk_at "sts"
        refine e_call (by exact F1) (by exact hr) (by decide) ?_
        refine a_cons (e_callN (by exact FP) (by exact takesN0) (by exact hr) (by decide) ?_)
        walk_at "sts"
        refine ⟨.ref t, .ref r, some (n, k), some (m, j), rfl, ⟨t, rfl, ht⟩, ⟨r, rfl, hr'⟩, .inl ⟨n, k, m, j, rfl, rfl, fun s1 H4 e4 g4 => ?_⟩⟩
        walk_at "sts"
        refine ix_t (by exact SqT.of (e4 _ _ ht)) rfl ?_
        walk_at "sts"
        refine ix_t (by exact SqT.of (e4 _ _ hr')) rfl ?_
        walk_at "sts"
        refine ix_t (by exact SqT.of (e4 _ _ ht)) rfl ?_
        walk_at "sts"
        refine ix_t (by exact SqT.of (e4 _ _ hr')) rfl ?_
        walk_at "sts"
        refine c_of (call_max3Nu rfl) ⟨_, _, _, _, rfl, max3_eq o1.2.2 o2.2.2, ?_⟩
        walk_at "sts"
        refine ⟨by show 2 ≤ sizeLine; decide, fun p H5 e5 _ hp => ?_⟩
        walk_at "sts"
        refine ⟨s1, .ref p, some (n + m, mx k j), rfl, g4.up e5, ⟨p, rfl, hp⟩, ?_⟩
        exact q H5 ((e13.trans e4).trans e5)
end


section
variable {P : Program} {w : World} {K : PySem.W.Frag} {mg : Str → Option Value} {base : Heap} {CB : Addr}
/-- an item beside a bound -/
inductive ItW (H : Hp) : V → Int → Bool → Prop
  | int (i l : Int) : ItW H (.int i) l (decide (l ≤ i))
  | non (l : Int) : ItW H .non l false
  | bl (b : Bool) (l : Int) : ItW H (.bl b) l false
  | str (z : Str) (l : Int) : ItW H (.str z) l false
  | tup {p : Addr} {xs : List V} (l : Int) (h : H p = some (.tup xs)) : ItW H (.ref p) l false
  | lst {p : Addr} {xs : List V} (l : Int) (h : H p = some (.lst xs)) : ItW H (.ref p) l false
/-- a value that is no kind -/
inductive OddV (H : Hp) : V → Prop
  | non : OddV H .non
  | int (i : Int) : OddV H (.int i)
  | bl (b : Bool) : OddV H (.bl b)
  | str (z : Str) (h : z ≠ "once") : OddV H (.str z)
  | lst {p : Addr} {xs : List V} (h : H p = some (.lst xs)) : OddV H (.ref p)
  | dct {p : Addr} {kvs : List (Key × V)} (h : H p = some (.dK kvs)) : OddV H (.ref p)
  | tupN {p : Addr} {xs : List V} (h : H p = some (.tup xs)) (hn : xs.length ≠ 2) : OddV H (.ref p)
  | pair {p : Addr} {x y : V} {b1 b2 : Bool} (h : H p = some (.tup [x, y])) (h1 : ItW H x 1 b1) (h2 : ItW H y 0 b2) (hb : (b1 && b2) = false) : OddV H (.ref p)
def AllV (Pr : V → Prop) : List V → Prop
  | [] => True
  | x :: xs => Pr x ∧ AllV Pr xs
theorem AllV.app {Pr : V → Prop} : ∀ {xs ys : List V}, AllV Pr xs → AllV Pr ys → AllV Pr (xs ++ ys)
  | [], _, _, h => h
  | _ :: _, _, ⟨a, b⟩, h => ⟨a, AllV.app b h⟩
theorem AllV.at {Pr : V → Prop} : ∀ {xs : List V}, AllV Pr xs → ∀ (i : Nat) m, xs[i]? = some m → Pr m
  | [], _, _, _, h => by simp at h
  | x :: xs, ⟨a, b⟩, 0, m, h => by cases (Option.some.inj h); exact a
  | x :: xs, ⟨a, b⟩, i + 1, m, h => AllV.at b i m (by simpa using h)
theorem ItW.isW {H : Hp} {x : V} {l : Int} {b : Bool} (h : ItW H x l b) : IsW K H x l b := by
  cases h with
  | int i l => exact .inl ⟨i, rfl, rfl⟩
  | non l => exact .inr ⟨rfl, .inr ⟨_, .base .non, kb_non_int⟩⟩
  | bl b l => exact .inr ⟨rfl, .inl ⟨b, rfl⟩⟩
  | str z l => exact .inr ⟨rfl, .inr ⟨_, .base (.str z), kb_str_int⟩⟩
  | tup l h => exact .inr ⟨rfl, .inr ⟨_, .base (.tup h), kb_tuple_int⟩⟩
  | lst l h => exact .inr ⟨rfl, .inr ⟨_, .base (.lst h), kb_list_int⟩⟩
theorem kb_dict_tuple : kitB "dict" "tuple" = some false := by decide +kernel
theorem kb_dict_str : kitB "dict" "str" = some false := by decide +kernel
theorem OddV.kind {H : Hp} {v : V} (h : OddV H v) : KindV K H v false := by
  cases h with
  | non => exact .inr (.inr ⟨rfl, _, .base .non, kb_non_tuple, kb_non_str⟩)
  | int i => exact .inr (.inr ⟨rfl, _, .base (.int i), kb_int_tuple, kb_int_str⟩)
  | bl b => exact .inr (.inr ⟨rfl, _, .base (.bl b), kb_bool_tuple, kb_bool_str⟩)
  | str z h => exact .inr (.inl ⟨z, rfl, (decide_eq_false h).symm⟩)
  | lst h => exact .inr (.inr ⟨rfl, _, .base (.lst h), kb_list_tuple, kb_list_str⟩)
  | dct h => exact .inr (.inr ⟨rfl, _, .base (.dK h), kb_dict_tuple, kb_dict_str⟩)
  | tupN h hn => exact .inl ⟨_, _, rfl, h, .inl ⟨fun z => hn (by omega), rfl⟩⟩
  | pair h h1 h2 hb => exact .inl ⟨_, _, rfl, h, .inr ⟨_, _, _, _, rfl, h1.isW, h2.isW, hb.symm⟩⟩
theorem lg0 : ∀ n : Nat, n < 51 → n.log2 < 1920 := by decide +kernel
theorem lg (i : Int) (h1 : 0 ≤ i) (h2 : i ≤ 50) : i.natAbs.log2 < 1920 := lg0 i.natAbs (by omega)
theorem nonce0 : ∀ n : Nat, n < 51 → ¬ ((toString ((n : Nat) : Int) : Str) = "once") := by decide +kernel
theorem nonce (i : Int) (h1 : 0 ≤ i) (h2 : i ≤ 50) : (toString i : Str) ≠ "once" := by
  obtain ⟨n, rfl⟩ := Int.eq_ofNat_of_zero_le h1
  exact nonce0 n (by omega)
def spOdd : Sp := fun vs H Q _ => ∃ m k, vs = [m] ∧ ModeV H m k ∧ ok50 k ∧ ∀ l xs H', Same H H' → H' l = some (.lst xs) → AllV (OddV H') xs → Q (.ref l) H'
theorem ok_odd (T : Top K mg "_law_odd" s_odd) (B : BOk mg) : Fn P w K mg base 1 "_law_odd" spOdd := by
  refine fn_ok T sc_odd so_odd (fun vs H Q E h => ?_) (fun _ _ _ _ _ _ us hl => match us, hl with | [_], _ => rfl) fun f cdv A outer s H vs Q E hr h nd => ?_
  · obtain ⟨m, k, rfl, _⟩ := h
    rfl
  obtain ⟨m, k, rfl, hm, ok, q⟩ := h
  obtain ⟨bi, bt, bb, bs, btu, bl, bn, br, bab, bmx, bmn⟩ := B
  have tail : ∀ (u v : Int), 1 ≤ u → u ≤ 50 → 0 ≤ v → v ≤ 50 → wL (cxOf CX0 P w K mg base N_odd "_law_odd" (defScope s_odd) f cdv A outer s H E).nox ((defBody s_odd).drop 3) { nx := fun _ H' => Q .non H', rt := Q } [some m, some (.int u), some (.int v), none] H := by
    intro u v u1 u2 v1 v2
    have f0 := Same.refl H
    walk_at "sts"
    refine c_str (lg _ (by omega) (by omega)) ?_
    walk_at "sts"
    refine ⟨by show 0 ≤ sizeLine; decide, fun p1 H1 e1 _ h1 => ?_⟩
    walk_at "sts"
    refine ⟨by show 0 ≤ sizeLine; decide, fun p2 H2 e2 _ h2 => ?_⟩
    walk_at "sts"
    refine ⟨by show 16 ≤ sizeLine; decide, fun p3 H3 e3 _ h3 => ?_⟩
    walk_at "sts"
    refine e_dict fun p4 H4 e4 _ h4 => ?_
    walk_at "sts"
    refine ⟨by show 1 ≤ sizeLine; decide, fun p5 H5 e5 _ h5 => ?_⟩
    walk_at "sts"
    refine ⟨by show 1 ≤ sizeLine; decide, fun p6 H6 e6 _ h6 => ?_⟩
    walk_at "sts"
    refine ⟨by show 2 ≤ sizeLine; decide, fun p7 H7 e7 _ h7 => ?_⟩
    walk_at "sts"
    refine ⟨by show 2 ≤ sizeLine; decide, fun p8 H8 e8 _ h8 => ?_⟩
    walk_at "sts"
    refine ⟨by show 2 ≤ sizeLine; decide, fun p9 H9 e9 _ h9 => ?_⟩
    walk_at "sts"
    refine ⟨by show 2 ≤ sizeLine; decide, fun p10 H10 e10 _ h10 => ?_⟩
    walk_at "sts"
    refine ⟨by show 1 ≤ sizeLine; decide, fun p11 H11 e11 _ h11 => ?_⟩
    walk_at "sts"
    refine ⟨by show 8 ≤ sizeLine; decide, fun p12 H12 e12 _ h12 => ?_⟩
    walk_at "sts"
    refine o_cat (by exact ((Same.trans (Same.trans (Same.trans (Same.trans (Same.trans (Same.trans (Same.trans (Same.trans e4 e5) e6) e7) e8) e9) e10) e11) e12) _ _ h3)) (by exact h12) (by show 24 ≤ sizeLine; decide) fun p13 H13 e13 h13 => ?_
    walk_at "sts"
    refine ⟨by show 3 ≤ sizeLine; decide, fun p14 H14 e14 _ h14 => ?_⟩
    walk_at "sts"
    refine ⟨by show 3 ≤ sizeLine; decide, fun p15 H15 e15 _ h15 => ?_⟩
    walk_at "sts"
    refine ⟨by show 2 ≤ sizeLine; decide, fun p16 H16 e16 _ h16 => ?_⟩
    walk_at "sts"
    refine ⟨by show 2 ≤ sizeLine; decide, fun p17 H17 e17 _ h17 => ?_⟩
    walk_at "sts"
    refine ⟨by show 2 ≤ sizeLine; decide, fun p18 H18 e18 _ h18 => ?_⟩
    walk_at "sts"
    refine ⟨by show 2 ≤ sizeLine; decide, fun p19 H19 e19 _ h19 => ?_⟩
    walk_at "sts"
    refine ⟨by show 6 ≤ sizeLine; decide, fun p20 H20 e20 _ h20 => ?_⟩
    walk_at "sts"
    refine o_cat (by exact ((Same.trans (Same.trans (Same.trans (Same.trans (Same.trans (Same.trans e14 e15) e16) e17) e18) e19) e20) _ _ h13)) (by exact h20) (by show 30 ≤ sizeLine; decide) fun p21 H21 e21 h21 => ?_
    walk_at "sts"
    refine ⟨by show 2 ≤ sizeLine; decide, fun p22 H22 e22 _ h22 => ?_⟩
    walk_at "sts"
    refine ⟨by show 2 ≤ sizeLine; decide, fun p23 H23 e23 _ h23 => ?_⟩
    walk_at "sts"
    refine ⟨by show 2 ≤ sizeLine; decide, fun p24 H24 e24 _ h24 => ?_⟩
    walk_at "sts"
    refine ⟨by show 2 ≤ sizeLine; decide, fun p25 H25 e25 _ h25 => ?_⟩
    walk_at "sts"
    refine c_str (lg _ (by omega) (by omega)) ?_
    walk_at "sts"
    refine ⟨by show 2 ≤ sizeLine; decide, fun p26 H26 e26 _ h26 => ?_⟩
    walk_at "sts"
    refine c_str (lg _ (by omega) (by omega)) ?_
    walk_at "sts"
    refine ⟨by show 2 ≤ sizeLine; decide, fun p27 H27 e27 _ h27 => ?_⟩
    walk_at "sts"
    refine ⟨by show 6 ≤ sizeLine; decide, fun p28 H28 e28 _ h28 => ?_⟩
    walk_at "sts"
    refine o_cat (by exact ((Same.trans (Same.trans (Same.trans (Same.trans (Same.trans (Same.trans e22 e23) e24) e25) e26) e27) e28) _ _ h21)) (by exact h28) (by show 36 ≤ sizeLine; decide) fun p29 H29 e29 h29 => ?_
    walk_at "sts"
    refine ⟨by show 2 ≤ sizeLine; decide, fun p30 H30 e30 _ h30 => ?_⟩
    walk_at "sts"
    refine ⟨by show 2 ≤ sizeLine; decide, fun p31 H31 e31 _ h31 => ?_⟩
    walk_at "sts"
    refine ⟨by show 1 ≤ sizeLine; decide, fun p32 H32 e32 _ h32 => ?_⟩
    walk_at "sts"
    refine ⟨by show 2 ≤ sizeLine; decide, fun p33 H33 e33 _ h33 => ?_⟩
    walk_at "sts"
    refine ⟨by show 2 ≤ sizeLine; decide, fun p34 H34 e34 _ h34 => ?_⟩
    walk_at "sts"
    refine ⟨by show 2 ≤ sizeLine; decide, fun p35 H35 e35 _ h35 => ?_⟩
    walk_at "sts"
    refine ⟨by show 1 ≤ sizeLine; decide, fun p36 H36 e36 _ h36 => ?_⟩
    walk_at "sts"
    refine ⟨by show 2 ≤ sizeLine; decide, fun p37 H37 e37 _ h37 => ?_⟩
    walk_at "sts"
    refine ⟨by show 2 ≤ sizeLine; decide, fun p38 H38 e38 _ h38 => ?_⟩
    walk_at "sts"
    refine ⟨by show 1 ≤ sizeLine; decide, fun p39 H39 e39 _ h39 => ?_⟩
    walk_at "sts"
    refine ⟨by show 6 ≤ sizeLine; decide, fun p40 H40 e40 _ h40 => ?_⟩
    walk_at "sts"
    refine o_cat (by exact ((Same.trans (Same.trans (Same.trans (Same.trans (Same.trans (Same.trans (Same.trans (Same.trans (Same.trans (Same.trans e30 e31) e32) e33) e34) e35) e36) e37) e38) e39) e40) _ _ h29)) (by exact h40) (by show 42 ≤ sizeLine; decide) fun p41 H41 e41 h41 => ?_
    have F41 := Same.refl H41
    have F40 := Same.trans e41 F41
    have F39 := Same.trans e40 F40
    have F38 := Same.trans e39 F39
    have F37 := Same.trans e38 F38
    have F36 := Same.trans e37 F37
    have F35 := Same.trans e36 F36
    have F34 := Same.trans e35 F35
    have F33 := Same.trans e34 F34
    have F32 := Same.trans e33 F33
    have F31 := Same.trans e32 F32
    have F30 := Same.trans e31 F31
    have F29 := Same.trans e30 F30
    have F28 := Same.trans e29 F29
    have F27 := Same.trans e28 F28
    have F26 := Same.trans e27 F27
    have F25 := Same.trans e26 F26
    have F24 := Same.trans e25 F25
    have F23 := Same.trans e24 F24
    have F22 := Same.trans e23 F23
    have F21 := Same.trans e22 F22
    have F20 := Same.trans e21 F21
    have F19 := Same.trans e20 F20
    have F18 := Same.trans e19 F19
    have F17 := Same.trans e18 F18
    have F16 := Same.trans e17 F17
    have F15 := Same.trans e16 F16
    have F14 := Same.trans e15 F15
    have F13 := Same.trans e14 F14
    have F12 := Same.trans e13 F13
    have F11 := Same.trans e12 F12
    have F10 := Same.trans e11 F11
    have F9 := Same.trans e10 F10
    have F8 := Same.trans e9 F9
    have F7 := Same.trans e8 F8
    have F6 := Same.trans e7 F7
    have F5 := Same.trans e6 F6
    have F4 := Same.trans e5 F5
    have F3 := Same.trans e4 F4
    have F2 := Same.trans e3 F3
    have F1 := Same.trans e2 F2
    have F0 := Same.trans e1 F1
    refine q p41 _ H41 (Same.trans f0 F0) h41 ?_
    exact (AllV.app (AllV.app (AllV.app (AllV.app (show AllV _ [_, _, _, _, _, _, _, _, _, _, _, _, _, _, _, _] from ⟨.non, .int _, .int _, .bl _, .bl _, .int _, .str _ (by decide +kernel), .str _ (by decide +kernel), .str _ (by decide +kernel), .str _ (by decide +kernel), .str _ (by decide +kernel), .str _ (by decide +kernel), .str _ (by decide +kernel), .str _ (nonce _ (by omega) (by omega)), .tupN (F1 _ _ h1) (by show (0 : Nat) ≠ 2; decide), .lst (F2 _ _ h2), trivial⟩) ⟨.dct (F4 _ _ h4), .tupN (F5 _ _ h5) (by show (1 : Nat) ≠ 2; decide), .lst (F6 _ _ h6), .pair (F7 _ _ h7) (.str _ _) (.str _ _) (by first | rfl | (simp; omega) | simp), .pair (F8 _ _ h8) (.str _ _) (.int _ _) (by first | rfl | (simp; omega) | simp), .pair (F9 _ _ h9) (.str _ _) (.str _ _) (by first | rfl | (simp; omega) | simp), .pair (F10 _ _ h10) (.non _) (.non _) (by first | rfl | (simp; omega) | simp), .tupN (F11 _ _ h11) (by show (1 : Nat) ≠ 2; decide), trivial⟩) ⟨.tupN (F14 _ _ h14) (by show (3 : Nat) ≠ 2; decide), .tupN (F15 _ _ h15) (by show (3 : Nat) ≠ 2; decide), .lst (F16 _ _ h16), .pair (F17 _ _ h17) (.int _ _) (.int _ _) (by first | rfl | (simp; omega) | simp), .pair (F18 _ _ h18) (.int _ _) (.int _ _) (by first | rfl | (simp; omega) | simp), .pair (F19 _ _ h19) (.int _ _) (.int _ _) (by first | rfl | (simp; omega) | simp), trivial⟩) ⟨.pair (F22 _ _ h22) (.bl _ _) (.int _ _) (by first | rfl | (simp; omega) | simp), .pair (F23 _ _ h23) (.bl _ _) (.int _ _) (by first | rfl | (simp; omega) | simp), .pair (F24 _ _ h24) (.int _ _) (.bl _ _) (by first | rfl | (simp; omega) | simp), .pair (F25 _ _ h25) (.int _ _) (.bl _ _) (by first | rfl | (simp; omega) | simp), .pair (F26 _ _ h26) (.str _ _) (.int _ _) (by first | rfl | (simp; omega) | simp), .pair (F27 _ _ h27) (.int _ _) (.str _ _) (by first | rfl | (simp; omega) | simp), trivial⟩) ⟨.pair (F31 _ _ h31) (.tup _ (F30 _ _ h30)) (.int _ _) (by first | rfl | (simp; omega) | simp), .pair (F33 _ _ h33) (.int _ _) (.tup _ (F32 _ _ h32)) (by first | rfl | (simp; omega) | simp), .pair (F34 _ _ h34) (.int _ _) (.non _) (by first | rfl | (simp; omega) | simp), .pair (F35 _ _ h35) (.non _) (.int _ _) (by first | rfl | (simp; omega) | simp), .pair (F37 _ _ h37) (.lst _ (F36 _ _ h36)) (.int _ _) (by first | rfl | (simp; omega) | simp), .tupN (F39 _ _ h39) (by show (1 : Nat) ≠ 2; decide), trivial⟩)
  rcases k with _ | ⟨u, v⟩
  · obtain rfl : m = .str "once" := hm
    refine l_cons (s_set (e_int ?_))
    refine l_cons (s_set (e_int ?_))
    refine l_cons (s_if (t_cmp (e_var (e_str ?_))))
    refine o_neS ⟨_, rfl, ?_⟩
    refine ite_f (by simp) (l_nil ?_)
    exact tail 3 2 (by decide) (by decide) (by decide) (by decide)
  · obtain ⟨t, rfl, ht⟩ := hm
    obtain ⟨o1, o2, o3, o4⟩ := ok
    refine l_cons (s_set (e_int ?_))
    refine l_cons (s_set (e_int ?_))
    refine l_cons (s_if (t_cmp (e_var (e_str ?_))))
    refine o_nePS (by exact hr) ht once_shaped ⟨_, rfl, iteT ?_⟩
    refine l_cons (s_set (e_ix (e_var (e_int (ix_t (by exact SqT.of ht) rfl ?_)))))
    refine l_cons (s_set (e_ix (e_var (e_int (ix_t (by exact SqT.of ht) rfl ?_)))))
    refine l_nil ?_
    exact tail u v o1 o2 o3 o4
end


section
variable {P : Program} {w : World} {K : PySem.W.Frag} {mg : Str → Option Value} {base : Heap} {CB : Addr}
theorem ModeV.kind {H : Hp} {m : V} {k : Option (Int × Int)} (h : ModeV H m k) (o : okk k) : KindV K H m true := by
  rcases k with _ | ⟨u, v⟩
  · obtain rfl : m = .str "once" := h
    exact .inr (.inl ⟨_, rfl, rfl⟩)
  · obtain ⟨t, rfl, ht⟩ := h
    obtain ⟨o1, _, o3⟩ := o
    exact .inl ⟨t, _, rfl, ht, .inr ⟨_, _, true, true, rfl, .inl ⟨_, rfl, (decide_eq_true o1).symm⟩, .inl ⟨_, rfl, (decide_eq_true o3).symm⟩, rfl⟩⟩
def spKa : Sp := fun vs H Q _ => ∃ a m k, vs = [.ref a, m] ∧ PoolAt H a ∧ ModeV H m k ∧ ok50 k ∧ ∀ H', But a H H' → PoolAt H' a → Q (.bl true) H'
theorem ok_alone (T : Top K mg "_law_kinds_alone" s_kinds_alone) (B : BOk mg) (FO : Fn P w K mg base 1 "_law_odd" spOdd) (FK : Fn P w K mg base 2 "is_kind" (spKi K)) (FN : Fn P w K mg base 1 "_law_next" spNext) (F0 : Fn P w K mg base 1 "_law_same" spSame0) : Fn P w K mg base 3 "_law_kinds_alone" spKa := by
  refine fn_ok T sc_kinds_alone so_kinds_alone (fun vs H Q E h => ?_) (fun _ _ _ _ _ _ us hl => match us, hl with | [_, _], _ => rfl) fun f cdv A outer s H vs Q E hr h nd => ?_
  · obtain ⟨a, m, k, rfl, _⟩ := h
    rfl
  obtain ⟨a, m, k, rfl, pl, hm, ok, q⟩ := h
  obtain ⟨bi, bt, bb, bs, btu, bl, bn, br, bab, bmx, bmn⟩ := B
  walk_at "sts"
  refine s_forL ?_
  refine e_call (by exact FO) (by exact hr) (by decide) ?_
  walk_at "sts"
  refine ⟨m, k, rfl, hm, ok, fun l xs H1 e1 hl hx => ?_⟩
  refine ⟨l, xs, rfl, SqL.of hl, fun i σ H' => ∃ y, σ = [some (.ref a), some m, y, none, none, none] ∧ H' = H1, ⟨_, rfl, rfl⟩, fun i σ H' _ hW => ?_, fun i el σ H' hi hW => ?_, fun σ H' hW => ?_⟩
  · obtain ⟨y, rfl, rfl⟩ := hW
    exact SqL.of hl
  · obtain ⟨y, rfl, rfl⟩ := hW
    walk_at "sts"
    refine e_call (by exact FK) (by exact hr) (by decide) ?_
    walk_at "sts"
    refine ⟨el, false, rfl, (hx.at i el hi).kind, ?_⟩
    walk_at "sts"
    rfl
  · obtain ⟨y, rfl, rfl⟩ := hW
    walk_at "sts"
    refine s_forR (by assumption) ?_
    walk_at "sts"
    refine ⟨by decide, fun i σ H2 => ∃ y1 y2 y3 y4, σ = [some (.ref a), some m, y1, y2, y3, y4] ∧ But a H H2 ∧ PoolAt H2 a, ⟨_, _, _, _, rfl, But.of e1, pl.up e1⟩, fun i σ H2 hi hW => ?_, fun σ H2 hW => ?_⟩
    · obtain ⟨y1, y2, y3, y4, rfl, b2, p2⟩ := hW
      walk_at "sts"
      refine e_call (by exact FN) (by exact hr) (by decide) ?_
      walk_at "sts"
      refine ⟨a, 6, rfl, by decide, by decide, p2, fun d H3 d0 d1 b3 p3 => ?_⟩
      walk_at "sts"
      refine e_call (by exact FN) (by exact hr) (by decide) ?_
      walk_at "sts"
      refine ⟨a, 6, rfl, by decide, by decide, p3, fun d' H4 d0' d1' b4 p4 => ?_⟩
      walk_at "sts"
      refine e_call (by exact F0) (by exact hr) (by decide) ?_
      refine a_cons (e_call (by exact FK) (by exact hr) (by decide) ?_)
      walk_at "sts"
      refine ⟨by show 2 ≤ sizeLine; decide, fun p H5 e5 _ hp => ?_⟩
      walk_at "sts"
      refine ⟨.ref p, _, rfl, .inl ⟨p, _, rfl, hp, .inr ⟨_, _, _, _, rfl, .inl ⟨_, rfl, rfl⟩, .inl ⟨_, rfl, rfl⟩, rfl⟩⟩, ?_⟩
      walk_at "sts"
      refine and_val (x := decide (1 ≤ d - 2)) (y := decide (0 ≤ d' - 2)) ?_ fun q => ?_
      · walk_at "sts"
        refine ⟨.inr (.inl ⟨_, rfl⟩), ?_⟩
        walk_at "sts"
        exact ⟨_, _, _, _, rfl, ((b2.trans b3).trans b4).trans (But.of e5), p4.up e5⟩
      · exact e_one (e_cmp (e_var (e_int (o_ge q))))
    · obtain ⟨y1, y2, y3, y4, rfl, b2, p2⟩ := hW
      walk_at "sts"
      refine e_call (by exact FK) (by exact hr) (by decide) ?_
      walk_at "sts"
      refine e_call (by exact FN) (by exact hr) (by decide) ?_
      walk_at "sts"
      refine o_pow ⟨by decide, by decide, by decide⟩ ?_
      walk_at "sts"
      refine ⟨a, _, rfl, by decide, by decide, p2, fun d H3 d0 d1 b3 p3 => ?_⟩
      walk_at "sts"
      refine e_call (by exact FN) (by exact hr) (by decide) ?_
      walk_at "sts"
      refine o_pow ⟨by decide, by decide, by decide⟩ ?_
      walk_at "sts"
      refine ⟨a, _, rfl, by decide, by decide, p3, fun d' H4 d0' d1' b4 p4 => ?_⟩
      walk_at "sts"
      refine ⟨by show 2 ≤ sizeLine; decide, fun p H5 e5 _ hp => ?_⟩
      walk_at "sts"
      refine ⟨.ref p, true, rfl, .inl ⟨p, _, rfl, hp, .inr ⟨_, _, true, true, rfl, .inl ⟨_, rfl, (decide_eq_true (by omega)).symm⟩, .inl ⟨_, rfl, (decide_eq_true (by omega)).symm⟩, rfl⟩⟩, ?_⟩
      walk_at "sts"
      exact q H5 (((b2.trans b3).trans b4).trans (But.of e5)) (p4.up e5)
def okB (n : Int) : Option (Int × Int) → Prop
  | none => True
  | some (u, v) => 1 ≤ u ∧ u ≤ n ∧ 0 ≤ v
theorem okB.k {n : Int} {k : Option (Int × Int)} (h : okB n k) (hn : n ≤ 1000000) : okk k := by
  rcases k with _ | ⟨u, v⟩
  · trivial
  · exact ⟨h.1, Int.le_trans h.2.1 hn, h.2.2⟩
theorem ok50.b {k : Option (Int × Int)} (h : ok50 k) : okB 50 k := by
  rcases k with _ | ⟨u, v⟩
  · trivial
  · exact ⟨h.1, h.2.1, h.2.2.1⟩
theorem okB.n {a b c : Int} {k1 k2 : Option (Int × Int)} (h1 : okB a k1) (h2 : okB b k2) (hc : a * b ≤ c) (ha : a ≤ c) (hb : b ≤ c) (h0 : 0 ≤ a) : okB c (nst k1 k2) := by
  rcases k1 with _ | ⟨n, k⟩
  · rcases k2 with _ | ⟨m, j⟩
    · trivial
    · exact ⟨h2.1, Int.le_trans h2.2.1 hb, h2.2.2⟩
  · rcases k2 with _ | ⟨m, j⟩
    · exact ⟨h1.1, Int.le_trans h1.2.1 ha, h1.2.2⟩
    · obtain ⟨x1, x2, x3⟩ := h1
      obtain ⟨y1, y2, y3⟩ := h2
      refine ⟨?_, Int.le_trans (Int.mul_le_mul x2 y2 (by omega) h0) hc, by show 0 ≤ k + j; omega⟩
      have z : (1 : Int) * 1 ≤ n * m := Int.mul_le_mul x1 y1 (by decide) (by omega)
      simpa using z
theorem nst_assoc (a b c : Option (Int × Int)) : nst (nst a b) c = nst a (nst b c) := by
  rcases a with _ | ⟨x, y⟩ <;> rcases b with _ | ⟨z, t⟩ <;> rcases c with _ | ⟨u, v⟩ <;> try rfl
  show some (x * z * u, y + t + v) = some (x * (z * u), y + (t + v))
  rw [Int.mul_assoc, Int.add_assoc]
def spLaw (K : PySem.W.Frag) : Sp := fun vs H Q _ => ∃ (a : Addr) (ns : List Int), vs = [.ref a] ∧ SqL K H a (ns.map V.int) ∧ ns.length ≤ 63 ∧ ∀ H', Q (.bl true) H'
theorem ok_law {f : Addr} {fd : FuncData} (F : Fun K "law" "law" s_law f fd) (FPo : Fn P w K mg base 2 "_law_pool" (spPool K)) (FMo : Fn P w K mg base 2 "_law_mode" spMode) (FL : Fn P w K mg base 2 "_law_nested" spLn) (FK : Fn P w K mg base 2 "is_kind" (spKi K)) (FR : Fn P w K mg base 5 "_law_pair" spPair)
    (F1 : Fn P w K mg base 2 "_law_same" spSame1) (FNe : Fn P w K mg base 1 "nested" spNe) (FA : Fn P w K mg base 3 "_law_kinds_alone" spKa) : FnOk P w K mg base CX0 6 f fd ["_law_script"] (spLaw K) := by
  refine run_ok (ps := P_law) F sc_law so_law (fun vs H Q E h => ?_) fun ff cdv A outer s H vs Q E hr h nd => ?_
  · obtain ⟨a, ns, rfl, _⟩ := h
    rfl
  obtain ⟨sa, ns, rfl, hS, hlen, q⟩ := h
  walk_at "sts"
  refine e_call (by exact FPo) (by exact hr) (by decide) ?_
  walk_at "sts"
  refine ⟨sa, ns, 0, rfl, hS, fun a H1 e1 na p1 => ?_⟩
  walk_at "sts"
  refine e_call (by exact FMo) (by exact hr) (by decide) ?_
  walk_at "sts"
  refine ⟨a, _, none, rfl, p1, rfl, trivial, fun m1 k1 H2 b2 p2 g1 ok1 => ?_⟩
  walk_at "sts"
  refine e_call (by exact FMo) (by exact hr) (by decide) ?_
  walk_at "sts"
  refine ⟨a, m1, k1, rfl, p2, g1, ok1, fun m2 k2 H3 b3 p3 g2 ok2 => ?_⟩
  replace g1 := ModeV.but b3 p2 g1
  walk_at "sts"
  refine e_call (by exact FMo) (by exact hr) (by decide) ?_
  walk_at "sts"
  refine ⟨a, m2, k2, rfl, p3, g2, ok2, fun m3 k3 H4 b4 p4 g3 ok3 => ?_⟩
  replace g1 := ModeV.but b4 p3 g1
  replace g2 := ModeV.but b4 p3 g2
  have c1 := ok1.b
  have c2 := ok2.b
  have c3 := ok3.b
  have z1 := c1.k (by decide)
  have z2 := c2.k (by decide)
  have z3 := c3.k (by decide)
  have c12 : okB 2500 (nst k1 k2) := c1.n c2 (by decide) (by decide) (by decide) (by decide)
  have c23 : okB 2500 (nst k2 k3) := c2.n c3 (by decide) (by decide) (by decide) (by decide)
  have z12 := c12.k (by decide)
  have z23 := c23.k (by decide)
  walk_at "sts"
  refine e_call (by exact FL) (by exact hr) (by decide) ?_
  walk_at "sts"
  refine ⟨m1, m2, k1, k2, rfl, g1, g2, z1, z2, fun m4 H5 e5 g4 => ?_⟩
  walk_at "sts"
  refine e_call (by exact FL) (by exact hr) (by decide) ?_
  walk_at "sts"
  refine ⟨m2, m3, k2, k3, rfl, g2.up e5, g3.up e5, z2, z3, fun m5 H6 e6 g5 => ?_⟩
  walk_at "sts"
  refine ⟨by show 5 ≤ sizeLine; decide, fun l H7 e7 _ hl => ?_⟩
  have e57 := (e5.trans e6).trans e7
  replace g1 := g1.up e57
  replace g2 := g2.up e57
  replace g3 := g3.up e57
  replace g4 := g4.up (e6.trans e7)
  replace g5 := g5.up e7
  have all5 : ∀ (i : Nat) (el : V), ([m1, m2, m3, m4, m5] : List V)[i]? = some el → ∃ k, ModeV H7 el k ∧ okk k := by
    intro i el hi
    match i, hi with
    | 0, hi => cases (Option.some.inj hi); exact ⟨_, g1, z1⟩
    | 1, hi => cases (Option.some.inj hi); exact ⟨_, g2, z2⟩
    | 2, hi => cases (Option.some.inj hi); exact ⟨_, g3, z3⟩
    | 3, hi => cases (Option.some.inj hi); exact ⟨_, g4, z12⟩
    | 4, hi => cases (Option.some.inj hi); exact ⟨_, g5, z23⟩
  walk_at "sts"
  refine s_forL ?_
  walk_at "sts"
  refine ⟨l, _, rfl, SqL.of hl, fun i σ H' => ∃ y1 y2 y3, σ = [some (.ref sa), some (.ref a), some m1, some m2, some m3, some (.ref l), y1, y2, y3] ∧ Same H7 H', ⟨_, _, _, rfl, Same.refl _⟩, fun i σ H' _ hW => ?_, fun i el σ H' hi hW => ?_, fun σ H' hW => ?_⟩
  · obtain ⟨y1, y2, y3, rfl, ew⟩ := hW
    exact SqL.of (ew _ _ hl)
  · obtain ⟨y1, y2, y3, rfl, ew⟩ := hW
    obtain ⟨k, hk, hok⟩ := all5 i el hi
    walk_at "sts"
    refine e_call (by exact FK) (by exact hr) (by decide) ?_
    walk_at "sts"
    refine ⟨el, true, rfl, (hk.up ew).kind hok, ?_⟩
    walk_at "sts"
    refine s_forL ?_
    walk_at "sts"
    refine ⟨l, _, rfl, SqL.of (ew _ _ hl), fun j σ H' => ∃ y2 y3, σ = [some (.ref sa), some (.ref a), some m1, some m2, some m3, some (.ref l), some el, y2, y3] ∧ Same H7 H', ⟨_, _, rfl, ew⟩, fun j σ H' _ hW => ?_, fun j el2 σ H' hj hW => ?_, fun σ H' hW => ?_⟩
    · obtain ⟨y2, y3, rfl, ev⟩ := hW
      exact SqL.of (ev _ _ hl)
    · obtain ⟨y2, y3, rfl, ev⟩ := hW
      obtain ⟨k', hk', hok'⟩ := all5 j el2 hj
      walk_at "sts"
      refine e_call (by exact FR) (by exact hr) (by decide) ?_
      walk_at "sts"
      refine ⟨el, el2, k, k', rfl, hk.up ev, hk'.up ev, hok, hok', fun H9 e9 => ?_⟩
      walk_at "sts"
      exact ⟨_, _, rfl, ev.trans e9⟩
    · obtain ⟨y2, y3, rfl, ev⟩ := hW
      walk_at "sts"
      exact ⟨_, _, _, rfl, ev⟩
  · obtain ⟨y1, y2, y3, rfl, ew⟩ := hW
    walk_at "sts"
    refine e_call (by exact FL) (by exact hr) (by decide) ?_
    refine a_cons (e_var ?_)
    refine a_cons (e_call (by exact FL) (by exact hr) (by decide) ?_)
    walk_at "sts"
    refine ⟨m2, m3, k2, k3, rfl, g2.up ew, g3.up ew, z2, z3, fun r8 H8 e8 g8 => ?_⟩
    have w8 := ew.trans e8
    walk_at "sts"
    refine ⟨m1, r8, k1, _, rfl, g1.up w8, g8, z1, z23, fun due H9 e9 g9 => ?_⟩
    have w9 := w8.trans e9
    walk_at "sts"
    refine e_call (by exact F1) (by exact hr) (by decide) ?_
    refine a_cons (e_call (by exact FNe) (by exact hr) (by decide) ?_)
    refine a_cons (e_call (by exact FNe) (by exact hr) (by decide) ?_)
    walk_at "sts"
    refine ⟨m1, m2, k1, k2, rfl, g1.up w9, g2.up w9, z1, fun s1 H10 e10 g10 => ?_⟩
    have w10 := w9.trans e10
    walk_at "sts"
    refine ⟨s1, m3, _, k3, rfl, g10, g3.up w10, z12, fun s2 H11 e11 g11 => ?_⟩
    have w11 := w10.trans e11
    rw [nst_assoc] at g11
    walk_at "sts"
    refine ⟨s2, due, _, rfl, g11, g9.up (e10.trans e11), ?_⟩
    walk_at "sts"
    refine e_call (by exact F1) (by exact hr) (by decide) ?_
    refine a_cons (e_call (by exact FNe) (by exact hr) (by decide) ?_)
    refine a_cons (e_var ?_)
    refine a_cons (e_call (by exact FNe) (by exact hr) (by decide) ?_)
    walk_at "sts"
    refine ⟨m2, m3, k2, k3, rfl, g2.up w11, g3.up w11, z2, fun s3 H12 e12 g12 => ?_⟩
    have w12 := w11.trans e12
    walk_at "sts"
    refine ⟨m1, s3, k1, _, rfl, g1.up w12, g12, z1, fun s4 H13 e13 g13 => ?_⟩
    have w13 := w12.trans e13
    walk_at "sts"
    refine ⟨s4, due, _, rfl, g13, g9.up (((e10.trans e11).trans e12).trans e13), ?_⟩
    walk_at "sts"
    refine e_call (by exact FA) (by exact hr) (by decide) ?_
    walk_at "sts"
    have p13 : PoolAt H13 a := p4.up (e57.trans w13)
    refine ⟨a, m3, k3, rfl, p13, g3.up w13, ok3, fun H14 b14 p14 => ?_⟩
    have d1 := ModeV.but b14 p13 (g1.up w13)
    have d2 := ModeV.but b14 p13 (g2.up w13)
    walk_at "sts"
    refine e_call (by exact FR) (by exact hr) (by decide) ?_
    walk_at "sts"
    refine ⟨m1, m2, k1, k2, rfl, d1, d2, z1, z2, fun H15 e15 => ?_⟩
    walk_at "sts"
    refine e_call (by exact FR) (by exact hr) (by decide) ?_
    walk_at "sts"
    refine ⟨m2, m1, k2, k1, rfl, d2.up e15, d1.up e15, z2, z1, fun H16 e16 => ?_⟩
    exact q H16
end

section
theorem kit_sub {K : PySem.W.Frag} {D C : Addr} (hd : PySem.W.hasDictIn K C = true) (ht : PySem.W.typeIn K (.ref C) = some (.type "type")) (h : PySem.W.subIn K (.ref D) (.ref C) = some true) : PySem.W.kitOne K (.ref D) (.ref C) = some true := by
  obtain ⟨cd, hc, _⟩ := PySem.W.any_some hd
  unfold PySem.W.kitOne
  split
  · rfl
  · show (if ((PySem.W.clsIn K C).isSome && PySem.W.typeIn K (.ref C) == some (.type "type")) = true then PySem.W.subIn K (.ref D) (.ref C) else none) = some true
    rw [hc, ht, h]
    rfl
theorem kit_not {K : PySem.W.Frag} {D C : Addr} (hd : PySem.W.hasDictIn K C = true) (ht : PySem.W.typeIn K (.ref C) = some (.type "type")) (h : PySem.W.subIn K (.ref D) (.ref C) = some false) (hs : PySem.W.subIn K (.ref D) (.ref D) = some true) : PySem.W.kitOne K (.ref D) (.ref C) = some false := by
  obtain ⟨cd, hc, _⟩ := PySem.W.any_some hd
  have ne : D ≠ C := fun z => by
    subst z
    rw [hs] at h
    cases h
  unfold PySem.W.kitOne
  rw [if_neg (fun z => ne (Value.ref.inj (beq_iff_eq.mp z)))]
  show (if ((PySem.W.clsIn K C).isSome && PySem.W.typeIn K (.ref C) == some (.type "type")) = true then PySem.W.subIn K (.ref D) (.ref C) else none) = some false
  rw [hc, ht, h]
  rfl
theorem kit_typ {K : PySem.W.Frag} {D : Addr} (h : PySem.W.subIn K (.ref D) (.type "ValueError") = some true) : PySem.W.kitOne K (.ref D) (.type "ValueError") = some true := by
  unfold PySem.W.kitOne
  rw [if_neg (by simp)]
  show (if PySem.W.kitMeta "ValueError" = true then PySem.W.subIn K (.ref D) (.type "ValueError") else none) = some true
  rw [if_pos (by decide +kernel), h]
theorem all_mk {l : PySem.W.OpenLaw} {w : World} {K : PySem.W.Frag} {h : Heap} {mg : Str → Option Value} {fa : Addr} (X : K.In h) (G : h.Ns mainGlobals mg) (hfa : mg "law" = some (.ref fa))
    {f0 : Addr} {od0 an0 : Option Addr} {sl0 : Array (Option Value)} {oc0 kV0 dc0 pm0 cd0 ct0 : Value}
    {f1 : Addr} {od1 an1 : Option Addr} {sl1 : Array (Option Value)} {oc1 kV1 dc1 pm1 cd1 ct1 : Value}
    {f2 : Addr} {od2 an2 : Option Addr} {sl2 : Array (Option Value)} {oc2 kV2 dc2 pm2 cd2 ct2 : Value}
    {f3 : Addr} {od3 an3 : Option Addr} {sl3 : Array (Option Value)} {oc3 kV3 dc3 pm3 cd3 ct3 : Value}
    {f4 : Addr} {od4 an4 : Option Addr} {sl4 : Array (Option Value)} {oc4 kV4 dc4 pm4 cd4 ct4 : Value}
    {f5 : Addr} {od5 an5 : Option Addr} {sl5 : Array (Option Value)} {oc5 kV5 dc5 pm5 cd5 ct5 : Value}
    {f6 : Addr} {od6 an6 : Option Addr} {sl6 : Array (Option Value)} {oc6 kV6 dc6 pm6 cd6 ct6 : Value}
    {f7 : Addr} {od7 an7 : Option Addr} {sl7 : Array (Option Value)} {oc7 kV7 dc7 pm7 cd7 ct7 : Value}
    {f8 : Addr} {od8 an8 : Option Addr} {sl8 : Array (Option Value)} {oc8 kV8 dc8 pm8 cd8 ct8 : Value}
    {f9 : Addr} {od9 an9 : Option Addr} {sl9 : Array (Option Value)} {oc9 kV9 dc9 pm9 cd9 ct9 : Value}
    {f10 : Addr} {od10 an10 : Option Addr} {sl10 : Array (Option Value)} {oc10 kV10 dc10 pm10 cd10 ct10 : Value}
    {f11 : Addr} {od11 an11 : Option Addr} {sl11 : Array (Option Value)} {oc11 kV11 dc11 pm11 cd11 ct11 : Value}
    {f12 : Addr} {od12 an12 : Option Addr} {sl12 : Array (Option Value)} {oc12 kV12 dc12 pm12 cd12 ct12 : Value}
    {f13 : Addr} {od13 an13 : Option Addr} {sl13 : Array (Option Value)} {oc13 kV13 dc13 pm13 cd13 ct13 : Value}
    {f14 : Addr} {od14 an14 : Option Addr} {sl14 : Array (Option Value)} {oc14 kV14 dc14 pm14 cd14 ct14 : Value}
    {f15 : Addr} {od15 an15 : Option Addr} {sl15 : Array (Option Value)} {oc15 kV15 dc15 pm15 cd15 ct15 : Value}
    {f16 : Addr} {od16 an16 : Option Addr} {sl16 : Array (Option Value)} {oc16 kV16 dc16 pm16 cd16 ct16 : Value}
    {f17 : Addr} {od17 an17 : Option Addr} {sl17 : Array (Option Value)} {oc17 kV17 dc17 pm17 cd17 ct17 : Value}
    {f18 : Addr} {od18 an18 : Option Addr} {sl18 : Array (Option Value)} {oc18 kV18 dc18 pm18 cd18 ct18 : Value}
    {f19 : Addr} {od19 an19 : Option Addr} {sl19 : Array (Option Value)} {oc19 kV19 dc19 pm19 cd19 ct19 : Value}
    {f20 : Addr} {od20 an20 : Option Addr} {sl20 : Array (Option Value)} {oc20 kV20 dc20 pm20 cd20 ct20 : Value}
    {CB CH CN CT CR CU : Addr}
    {nm qn : Str} {Na : Addr} {bs : List Value} {sn : List Str} {sub : List Value} {ab : Bool} {col : Option Bool} {dd : Option Addr} {x0 x1 x2 x3 x5 : Option Value}
    {f21 : Addr} {od21 an21 : Option Addr} {sl21 : Array (Option Value)} {oc21 kV21 dc21 pm21 cd21 ct21 : Value}
    (a0 : PySem.W.nsIn K mainGlobals "is_number_from" = some (some (.ref f0)))
    (l0 : K.lookup f0 = some ⟨oc0, od0, .func (PySem.W.fnOf "is_number_from" "is_number_from" (defArgs s_is_number_from) (defBody s_is_number_from) (defScope s_is_number_from) .none kV0 dc0 pm0 an0 cd0 ct0), sl0⟩)
    (c0 : PySem.W.codeIn K cd0 "is_number_from" = true)
    (k0 : PySem.W.keepIn K (.ref f0) = true)
    (a1 : PySem.W.nsIn K mainGlobals "is_kind" = some (some (.ref f1)))
    (l1 : K.lookup f1 = some ⟨oc1, od1, .func (PySem.W.fnOf "is_kind" "is_kind" (defArgs s_is_kind) (defBody s_is_kind) (defScope s_is_kind) .none kV1 dc1 pm1 an1 cd1 ct1), sl1⟩)
    (c1 : PySem.W.codeIn K cd1 "is_kind" = true)
    (k1 : PySem.W.keepIn K (.ref f1) = true)
    (a2 : PySem.W.nsIn K mainGlobals "nested" = some (some (.ref f2)))
    (l2 : K.lookup f2 = some ⟨oc2, od2, .func (PySem.W.fnOf "nested" "nested" (defArgs s_nested) (defBody s_nested) (defScope s_nested) .none kV2 dc2 pm2 an2 cd2 ct2), sl2⟩)
    (c2 : PySem.W.codeIn K cd2 "nested" = true)
    (k2 : PySem.W.keepIn K (.ref f2) = true)
    (a3 : PySem.W.nsIn K mainGlobals "pooled" = some (some (.ref f3)))
    (l3 : K.lookup f3 = some ⟨oc3, od3, .func (PySem.W.fnOf "pooled" "pooled" (defArgs s_pooled) (defBody s_pooled) (defScope s_pooled) .none kV3 dc3 pm3 an3 cd3 ct3), sl3⟩)
    (c3 : PySem.W.codeIn K cd3 "pooled" = true)
    (k3 : PySem.W.keepIn K (.ref f3) = true)
    (a4 : PySem.W.nsIn K mainGlobals "covers" = some (some (.ref f4)))
    (l4 : K.lookup f4 = some ⟨oc4, od4, .func (PySem.W.fnOf "covers" "covers" (defArgs s_covers) (defBody s_covers) (defScope s_covers) .none kV4 dc4 pm4 an4 cd4 ct4), sl4⟩)
    (c4 : PySem.W.codeIn K cd4 "covers" = true)
    (k4 : PySem.W.keepIn K (.ref f4) = true)
    (a5 : PySem.W.nsIn K mainGlobals "_law_cell" = some (some (.ref f5)))
    (l5 : K.lookup f5 = some ⟨oc5, od5, .func (PySem.W.fnOf "_law_cell" "_law_cell" (defArgs s_cell) (defBody s_cell) (defScope s_cell) .none kV5 dc5 pm5 an5 cd5 ct5), sl5⟩)
    (c5 : PySem.W.codeIn K cd5 "_law_cell" = true)
    (k5 : PySem.W.keepIn K (.ref f5) = true)
    (a6 : PySem.W.nsIn K mainGlobals "_law_pool" = some (some (.ref f6)))
    (l6 : K.lookup f6 = some ⟨oc6, od6, .func (PySem.W.fnOf "_law_pool" "_law_pool" (defArgs s_pool) (defBody s_pool) (defScope s_pool) .none kV6 dc6 pm6 an6 cd6 ct6), sl6⟩)
    (c6 : PySem.W.codeIn K cd6 "_law_pool" = true)
    (k6 : PySem.W.keepIn K (.ref f6) = true)
    (a7 : PySem.W.nsIn K mainGlobals "_law_next" = some (some (.ref f7)))
    (l7 : K.lookup f7 = some ⟨oc7, od7, .func (PySem.W.fnOf "_law_next" "_law_next" (defArgs s_next) (defBody s_next) (defScope s_next) .none kV7 dc7 pm7 an7 cd7 ct7), sl7⟩)
    (c7 : PySem.W.codeIn K cd7 "_law_next" = true)
    (k7 : PySem.W.keepIn K (.ref f7) = true)
    (a8 : PySem.W.nsIn K mainGlobals "_law_same" = some (some (.ref f8)))
    (l8 : K.lookup f8 = some ⟨oc8, od8, .func (PySem.W.fnOf "_law_same" "_law_same" (defArgs s_same) (defBody s_same) (defScope s_same) .none kV8 dc8 pm8 an8 cd8 ct8), sl8⟩)
    (c8 : PySem.W.codeIn K cd8 "_law_same" = true)
    (k8 : PySem.W.keepIn K (.ref f8) = true)
    (a9 : PySem.W.nsIn K mainGlobals "_law_mode" = some (some (.ref f9)))
    (l9 : K.lookup f9 = some ⟨oc9, od9, .func (PySem.W.fnOf "_law_mode" "_law_mode" (defArgs s_mode) (defBody s_mode) (defScope s_mode) .none kV9 dc9 pm9 an9 cd9 ct9), sl9⟩)
    (c9 : PySem.W.codeIn K cd9 "_law_mode" = true)
    (k9 : PySem.W.keepIn K (.ref f9) = true)
    (a10 : PySem.W.nsIn K mainGlobals "_law_fits" = some (some (.ref f10)))
    (l10 : K.lookup f10 = some ⟨oc10, od10, .func (PySem.W.fnOf "_law_fits" "_law_fits" (defArgs s_fits) (defBody s_fits) (defScope s_fits) .none kV10 dc10 pm10 an10 cd10 ct10), sl10⟩)
    (c10 : PySem.W.codeIn K cd10 "_law_fits" = true)
    (k10 : PySem.W.keepIn K (.ref f10) = true)
    (a11 : PySem.W.nsIn K mainGlobals "_law_extremes" = some (some (.ref f11)))
    (l11 : K.lookup f11 = some ⟨oc11, od11, .func (PySem.W.fnOf "_law_extremes" "_law_extremes" (defArgs s_extremes) (defBody s_extremes) (defScope s_extremes) .none kV11 dc11 pm11 an11 cd11 ct11), sl11⟩)
    (c11 : PySem.W.codeIn K cd11 "_law_extremes" = true)
    (k11 : PySem.W.keepIn K (.ref f11) = true)
    (a12 : PySem.W.nsIn K mainGlobals "_law_covers" = some (some (.ref f12)))
    (l12 : K.lookup f12 = some ⟨oc12, od12, .func (PySem.W.fnOf "_law_covers" "_law_covers" (defArgs s_l_covers) (defBody s_l_covers) (defScope s_l_covers) .none kV12 dc12 pm12 an12 cd12 ct12), sl12⟩)
    (c12 : PySem.W.codeIn K cd12 "_law_covers" = true)
    (k12 : PySem.W.keepIn K (.ref f12) = true)
    (a13 : PySem.W.nsIn K mainGlobals "_law_boxed" = some (some (.ref f13)))
    (l13 : K.lookup f13 = some ⟨oc13, od13, .func (PySem.W.fnOf "_law_boxed" "_law_boxed" (defArgs s_boxed) (defBody s_boxed) (defScope s_boxed) .none kV13 dc13 pm13 an13 cd13 ct13), sl13⟩)
    (c13 : PySem.W.codeIn K cd13 "_law_boxed" = true)
    (k13 : PySem.W.keepIn K (.ref f13) = true)
    (a14 : PySem.W.nsIn K mainGlobals "_law_nested" = some (some (.ref f14)))
    (l14 : K.lookup f14 = some ⟨oc14, od14, .func (PySem.W.fnOf "_law_nested" "_law_nested" (defArgs s_l_nested) (defBody s_l_nested) (defScope s_l_nested) .none kV14 dc14 pm14 an14 cd14 ct14), sl14⟩)
    (c14 : PySem.W.codeIn K cd14 "_law_nested" = true)
    (k14 : PySem.W.keepIn K (.ref f14) = true)
    (a15 : PySem.W.nsIn K mainGlobals "_law_refused" = some (some (.ref f15)))
    (l15 : K.lookup f15 = some ⟨oc15, od15, .func (PySem.W.fnOf "_law_refused" "_law_refused" (defArgs s_refused) (defBody s_refused) (defScope s_refused) .none kV15 dc15 pm15 an15 cd15 ct15), sl15⟩)
    (c15 : PySem.W.codeIn K cd15 "_law_refused" = true)
    (k15 : PySem.W.keepIn K (.ref f15) = true)
    (a16 : PySem.W.nsIn K mainGlobals "_law_refused_at_all" = some (some (.ref f16)))
    (l16 : K.lookup f16 = some ⟨oc16, od16, .func (PySem.W.fnOf "_law_refused_at_all" "_law_refused_at_all" (defArgs s_refused_at_all) (defBody s_refused_at_all) (defScope s_refused_at_all) .none kV16 dc16 pm16 an16 cd16 ct16), sl16⟩)
    (c16 : PySem.W.codeIn K cd16 "_law_refused_at_all" = true)
    (k16 : PySem.W.keepIn K (.ref f16) = true)
    (a17 : PySem.W.nsIn K mainGlobals "_law_pair" = some (some (.ref f17)))
    (l17 : K.lookup f17 = some ⟨oc17, od17, .func (PySem.W.fnOf "_law_pair" "_law_pair" (defArgs s_pair) (defBody s_pair) (defScope s_pair) .none kV17 dc17 pm17 an17 cd17 ct17), sl17⟩)
    (c17 : PySem.W.codeIn K cd17 "_law_pair" = true)
    (k17 : PySem.W.keepIn K (.ref f17) = true)
    (a18 : PySem.W.nsIn K mainGlobals "_law_odd" = some (some (.ref f18)))
    (l18 : K.lookup f18 = some ⟨oc18, od18, .func (PySem.W.fnOf "_law_odd" "_law_odd" (defArgs s_odd) (defBody s_odd) (defScope s_odd) .none kV18 dc18 pm18 an18 cd18 ct18), sl18⟩)
    (c18 : PySem.W.codeIn K cd18 "_law_odd" = true)
    (k18 : PySem.W.keepIn K (.ref f18) = true)
    (a19 : PySem.W.nsIn K mainGlobals "_law_kinds_alone" = some (some (.ref f19)))
    (l19 : K.lookup f19 = some ⟨oc19, od19, .func (PySem.W.fnOf "_law_kinds_alone" "_law_kinds_alone" (defArgs s_kinds_alone) (defBody s_kinds_alone) (defScope s_kinds_alone) .none kV19 dc19 pm19 an19 cd19 ct19), sl19⟩)
    (c19 : PySem.W.codeIn K cd19 "_law_kinds_alone" = true)
    (k19 : PySem.W.keepIn K (.ref f19) = true)
    (a20 : PySem.W.nsIn K mainGlobals "law" = some (some (.ref f20)))
    (l20 : K.lookup f20 = some ⟨oc20, od20, .func (PySem.W.fnOf "law" "law" (defArgs s_law) (defBody s_law) (defScope s_law) .none kV20 dc20 pm20 an20 cd20 ct20), sl20⟩)
    (c20 : PySem.W.codeIn K cd20 "law" = true)
    (k20 : PySem.W.keepIn K (.ref f20) = true)
    (mCB : PySem.W.nsIn K mainGlobals "BadKind" = some (some (.ref CB)))
    (mCH : PySem.W.nsIn K mainGlobals "HeldError" = some (some (.ref CH)))
    (mCN : PySem.W.nsIn K mainGlobals "BadName" = some (some (.ref CN)))
    (mCT : PySem.W.nsIn K mainGlobals "NameTaken" = some (some (.ref CT)))
    (mCR : PySem.W.nsIn K mainGlobals "NoRoom" = some (some (.ref CR)))
    (mCU : PySem.W.nsIn K mainGlobals "UnknownName" = some (some (.ref CU)))
    (xL : K.lookup CB = some (excClassObj nm qn CB Na bs [.ref CH, .type "ValueError", .type "Exception", .type "BaseException", .type "object"] true sn sub ab col dd x0 x1 x2 x3 x5 "ValueError.__new__"))
    (a21 : PySem.W.findIn K (.ref CB) "__init__" = some (some (.ref f21)))
    (i21 : PySem.W.isFn K (.ref f21) = true)
    (l21 : K.lookup f21 = some ⟨oc21, od21, .func (PySem.W.fnOf "__init__" "BadKind.__init__" (defArgs s_BadKind___init) (defBody s_BadKind___init) (defScope s_BadKind___init) .none kV21 dc21 pm21 an21 cd21 ct21), sl21⟩)
    (c21 : PySem.W.codeIn K cd21 "BadKind.__init__" = true)
    (k21 : PySem.W.keepIn K (.ref f21) = true)
    (sa : PySem.W.findIn K (.ref CB) "__setattr__" = some (some (.builtin "object.__setattr__")))
    (ga : PySem.W.findIn K (.ref CB) "__getattribute__" = some (some (.builtin "BaseException.__getattribute__")))
    (gg : PySem.W.findIn K (.ref CB) "__getattr__" = some none)
    (nk : PySem.W.findIn K (.ref CB) "kind" = some none)
    (kC : PySem.W.keepIn K (.ref CB) = true)
    (eC : PySem.W.subIn K (.ref CB) (.type "BaseException") = some true)
    (tC : PySem.W.typeIn K (.ref CB) = some (.type "type"))
    (hC : PySem.W.hasDictIn K CB = true)
    (ha : PySem.W.findIn K (.ref CB) "__class__" = some (some (.builtin "object.__class__")))
    (hn : PySem.W.specialIn K (.builtin "object.__class__") "__get__" = some (some (.builtin "getset_descriptor.__get__")))
    (ht : PySem.W.takesIn K (.builtin "object.__class__") = some true)
    (hm : PySem.W.mroIn K CB (.type "object") = some true)
    (eH : PySem.W.subIn K (.ref CH) (.type "BaseException") = some true)
    (hH : PySem.W.hasDictIn K CH = true)
    (sV : PySem.W.subIn K (.ref CB) (.type "ValueError") = some true)
    (sB : PySem.W.subIn K (.ref CB) (.ref CB) = some true)
    (sH : PySem.W.subIn K (.ref CB) (.ref CH) = some true)
    (sN : PySem.W.subIn K (.ref CB) (.ref CN) = some false)
    (sT : PySem.W.subIn K (.ref CB) (.ref CT) = some false)
    (sR : PySem.W.subIn K (.ref CB) (.ref CR) = some false)
    (sU : PySem.W.subIn K (.ref CB) (.ref CU) = some false)
    (tCH : PySem.W.typeIn K (.ref CH) = some (.type "type"))
    (dCH : PySem.W.hasDictIn K CH = true)
    (tCN : PySem.W.typeIn K (.ref CN) = some (.type "type"))
    (dCN : PySem.W.hasDictIn K CN = true)
    (tCT : PySem.W.typeIn K (.ref CT) = some (.type "type"))
    (dCT : PySem.W.hasDictIn K CT = true)
    (tCR : PySem.W.typeIn K (.ref CR) = some (.type "type"))
    (dCR : PySem.W.hasDictIn K CR = true)
    (tCU : PySem.W.typeIn K (.ref CU) = some (.type "type"))
    (dCU : PySem.W.hasDictIn K CU = true)
    (z_isinstance : PySem.W.nsIn K mainGlobals "isinstance" = some none)
    (z_int : PySem.W.nsIn K mainGlobals "int" = some none)
    (z_bool : PySem.W.nsIn K mainGlobals "bool" = some none)
    (z_str : PySem.W.nsIn K mainGlobals "str" = some none)
    (z_tuple : PySem.W.nsIn K mainGlobals "tuple" = some none)
    (z_list : PySem.W.nsIn K mainGlobals "list" = some none)
    (z_len : PySem.W.nsIn K mainGlobals "len" = some none)
    (z_range : PySem.W.nsIn K mainGlobals "range" = some none)
    (z_abs : PySem.W.nsIn K mainGlobals "abs" = some none)
    (z_max : PySem.W.nsIn K mainGlobals "max" = some none)
    (z_min : PySem.W.nsIn K mainGlobals "min" = some none)
    (z_ValueError : PySem.W.nsIn K mainGlobals "ValueError" = some none) :
    ∃ fd : FuncData, (∀ (s : Shared) (v : Value), BindsTo s fd ⟨[v], []⟩ [("_law_script", v)]) ∧ ∀ base : Heap, K.In base → base.Ns mainGlobals mg → FnOk l.prog w K mg base CX0 6 fa fd ["_law_script"] (spLaw K) := by
  have e := hfa.symm.trans (PySem.W.mg_of X G a20)
  cases e
  have B : BOk mg := ⟨(PySem.W.mg_none_of X G z_isinstance), (PySem.W.mg_none_of X G z_int), (PySem.W.mg_none_of X G z_bool), (PySem.W.mg_none_of X G z_str), (PySem.W.mg_none_of X G z_tuple), (PySem.W.mg_none_of X G z_list), (PySem.W.mg_none_of X G z_len), (PySem.W.mg_none_of X G z_range), (PySem.W.mg_none_of X G z_abs), (PySem.W.mg_none_of X G z_max), (PySem.W.mg_none_of X G z_min)⟩
  have FL := fun_mk (st := s_law) l20 c20 k20
  have cB : (PySem.W.clsIn K CB).isSome = true := by
    obtain ⟨cd, hc, _⟩ := PySem.W.any_some hC
    rw [hc]
    rfl
  have O : OexC K CB := ⟨⟨nm, qn, Na, bs, _, sn, sub, ab, col, dd, x0, x1, x2, x3, x5, xL, by first | rfl | simp [PySem.HandSPX.refsVE]⟩, sa, eC, tC, kC⟩
  have R : Errs K mg CB CH CN CT CR CU := ⟨PySem.W.mg_of X G mCB, PySem.W.mg_of X G mCH, PySem.W.mg_of X G mCN, PySem.W.mg_of X G mCT, PySem.W.mg_of X G mCR, PySem.W.mg_of X G mCU, (PySem.W.mg_none_of X G z_ValueError), ⟨cB, ga, gg, eC, ha, hn, ht, hm⟩, ⟨ga, gg, eC, hC⟩, nk,
    PySem.W.exm_ref eC hC tC sB, PySem.W.exm_ref eH hH tCH sH, kit_sub hC tC sB, kit_sub hH tCH sH, kit_typ sV,
    kitAny_cons (kit_not dCN tCN sN sB) (fun _ => kitAny_cons (kit_not dCT tCT sT sB) (fun _ => kitAny_cons (kit_not dCR tCR sR sB) (fun _ => kitAny_cons (kit_not dCU tCU sU sB) (fun _ => rfl) (fun z => nomatch z)) (fun z => nomatch z)) (fun z => nomatch z)) (fun z => nomatch z)⟩
  refine ⟨PySem.W.fnOf "law" "law" (defArgs s_law) (defBody s_law) (defScope s_law) .none kV20 dc20 pm20 an20 cd20 ct20, fun s v => .of_eq rfl, fun base _ _ => ?_⟩
  have Fwhole : Fn l.prog w K mg base 1 "is_number_from" (spWh K) := ok_whole (top_mk X G a0 l0 c0 k0) B
  have Fkind := ok_kind (top_mk X G a1 l1 c1 k1) B Fwhole
  have Fnested : Fn l.prog w K mg base 1 "nested" spNe := ok_nested (top_mk X G a2 l2 c2 k2)
  have ER : Er l.prog w K mg base "BadKind" CB "kind" := ok_bk (topM_mk a21 i21 l21 c21 k21) O nk (PySem.W.mg_of X G mCB)
  have Fpooled := ok_pooled (top_mk X G a3 l3 c3 k3) B ER
  have Fcovers : Fn l.prog w K mg base 1 "covers" spCo := ok_covers (top_mk X G a4 l4 c4 k4)
  have Fcell : Fn l.prog w K mg base 1 "_law_cell" (spCell K) := ok_cell (top_mk X G a5 l5 c5 k5) B.len B.abs
  have Fpool := ok_pool (top_mk X G a6 l6 c6 k6) Fcell B.int
  have Fnext : Fn l.prog w K mg base 1 "_law_next" spNext := ok_next (top_mk X G a7 l7 c7 k7) B.int
  have Fs0 : Fn l.prog w K mg base 1 "_law_same" spSame0 := ok_same0 (top_mk X G a8 l8 c8 k8) B
  have FsH : FnHt l.prog w K mg base 1 "_law_same" spSame0 := ok_same0H (top_mk X G a8 l8 c8 k8) B
  have Fs1 := ok_same1 (top_mk X G a8 l8 c8 k8) B Fs0
  have Fmode := ok_mode (top_mk X G a9 l9 c9 k9) B Fnext
  have Ffits : Fn l.prog w K mg base 1 "_law_fits" spFits := ok_fits (top_mk X G a10 l10 c10 k10)
  have Fext : Fn l.prog w K mg base 1 "_law_extremes" spExt := ok_ext (top_mk X G a11 l11 c11 k11)
  have Flcov := ok_lcov (top_mk X G a12 l12 c12 k12) Fext Ffits
  have Fboxed : Fn l.prog w K mg base 1 "_law_boxed" spBox := ok_boxed (top_mk X G a13 l13 c13 k13)
  have Flnest := ok_lnest (top_mk X G a14 l14 c14 k14) Fboxed
  have Fref := ok_refused (top_mk X G a15 l15 c15 k15) B R Fpooled FsH
  have Frefa := ok_refall (top_mk X G a16 l16 c16 k16) B R Fpooled
  have Fpair := ok_pair (top_mk X G a17 l17 c17 k17) B Fs0 Fs1 Fcovers Flcov Fnested Flnest Fref Frefa Fpooled
  have Fodd : Fn l.prog w K mg base 1 "_law_odd" spOdd := ok_odd (top_mk X G a18 l18 c18 k18) B
  have Falone := ok_alone (top_mk X G a19 l19 c19 k19) B Fodd Fkind Fnext Fs0
  exact ok_law FL Fpool Fmode Flnest Fkind Fpair Fs1 Fnested Falone
theorem walk {l : PySem.W.OpenLaw} {q : Program} {loose : List Str} {XP : (Str → Option Value) → Heap → Prop} {YP : World → Heap → Prop} {d : DefRec} {K : Params → PySem.W.Frag} (hn : l.most = some 63) (hdf : d.params.defaults = [])
    (hY : ∀ (w : World) (h : Heap), YP w h → (K w.params).In h)
    (F : ∀ (w : World) (mg : Str → Option Value) (fa : Addr) (h : Heap), (K w.params).In h → h.Ns mainGlobals mg → mg d.name = some (.ref fa) →
      ∃ fd : FuncData, (∀ (s : Shared) (u : Value), BindsTo s fd ⟨[u], []⟩ [("_law_script", u)]) ∧ ∀ base : Heap, (K w.params).In base → base.Ns mainGlobals mg → FnOk l.prog w (K w.params) mg base CX0 6 fa fd ["_law_script"] (spLaw (K w.params))) :
    PySem.W.WalkO q loose XP YP l.row.toRowW d [] (fun f vs => PySem.call f vs) :=
  L2.walk_of (n := 63) (k := 6) (x := "_law_script") (CX := fun _ => CX0) (sp := fun w => spLaw (K w.params)) hn (by decide) hdf ⟨rfl, by decide, by decide⟩ hY F (fun _ _ a ns hl _ hS => ⟨a, ns, rfl, hS, hl, fun _ => rfl⟩) fun _ _ _ _ _ z => z
end
end K01
open PySem PySem.W PyProof.Rows
set_option maxRecDepth 100000 in
set_option maxHeartbeats 0 in
theorem PySem.Challenge.cw_heldproofs_k01_kinds_cover_holds : PySem.Challenge.rw_heldproofs_k01_kinds_cover.Holds := by
  w_on; o_law; k_head; (case hw => w_witness2)
  k_fill
  refine K01.walk (l := PySem.Challenge.rw_heldproofs_k01_kinds_cover) rfl rfl (fun w h Y => PySem.W.kIn_of Y) ?F
  case F =>
    intro w mg fa h KX G hmg
    refine' K01.all_mk KX G hmg ?a0 ?l0 ?c0 ?k0 ?a1 ?l1 ?c1 ?k1 ?a2 ?l2 ?c2 ?k2 ?a3 ?l3 ?c3 ?k3 ?a4 ?l4 ?c4 ?k4 ?a5 ?l5 ?c5 ?k5 ?a6 ?l6 ?c6 ?k6 ?a7 ?l7 ?c7 ?k7 ?a8 ?l8 ?c8 ?k8 ?a9 ?l9 ?c9 ?k9 ?a10 ?l10 ?c10 ?k10 ?a11 ?l11 ?c11 ?k11 ?a12 ?l12 ?c12 ?k12 ?a13 ?l13 ?c13 ?k13 ?a14 ?l14 ?c14 ?k14 ?a15 ?l15 ?c15 ?k15 ?a16 ?l16 ?c16 ?k16 ?a17 ?l17 ?c17 ?k17 ?a18 ?l18 ?c18 ?k18 ?a19 ?l19 ?c19 ?k19 ?a20 ?l20 ?c20 ?k20 ?mCB ?mCH ?mCN ?mCT ?mCR ?mCU ?xL ?a21 ?i21 ?l21 ?c21 ?k21 ?sa ?ga ?gg ?nk ?kC ?eC ?tC ?hC ?ha ?hn ?ht ?hm ?eH ?hH ?sV ?sB ?sH ?sN ?sT ?sR ?sU ?tCH ?dCH ?tCN ?dCN ?tCT ?dCT ?tCR ?dCR ?tCU ?dCU ?z_isinstance ?z_int ?z_bool ?z_str ?z_tuple ?z_list ?z_len ?z_range ?z_abs ?z_max ?z_min ?z_ValueError
    (case a0 => k_is)
    (case l0 => k_is)
    (case c0 => k_is)
    (case k0 => k_is)
    (case a1 => k_is)
    (case l1 => k_is)
    (case c1 => k_is)
    (case k1 => k_is)
    (case a2 => k_is)
    (case l2 => k_is)
    (case c2 => k_is)
    (case k2 => k_is)
    (case a3 => k_is)
    (case l3 => k_is)
    (case c3 => k_is)
    (case k3 => k_is)
    (case a4 => k_is)
    (case l4 => k_is)
    (case c4 => k_is)
    (case k4 => k_is)
    (case a5 => k_is)
    (case l5 => k_is)
    (case c5 => k_is)
    (case k5 => k_is)
    (case a6 => k_is)
    (case l6 => k_is)
    (case c6 => k_is)
    (case k6 => k_is)
    (case a7 => k_is)
    (case l7 => k_is)
    (case c7 => k_is)
    (case k7 => k_is)
    (case a8 => k_is)
    (case l8 => k_is)
    (case c8 => k_is)
    (case k8 => k_is)
    (case a9 => k_is)
    (case l9 => k_is)
    (case c9 => k_is)
    (case k9 => k_is)
    (case a10 => k_is)
    (case l10 => k_is)
    (case c10 => k_is)
    (case k10 => k_is)
    (case a11 => k_is)
    (case l11 => k_is)
    (case c11 => k_is)
    (case k11 => k_is)
    (case a12 => k_is)
    (case l12 => k_is)
    (case c12 => k_is)
    (case k12 => k_is)
    (case a13 => k_is)
    (case l13 => k_is)
    (case c13 => k_is)
    (case k13 => k_is)
    (case a14 => k_is)
    (case l14 => k_is)
    (case c14 => k_is)
    (case k14 => k_is)
    (case a15 => k_is)
    (case l15 => k_is)
    (case c15 => k_is)
    (case k15 => k_is)
    (case a16 => k_is)
    (case l16 => k_is)
    (case c16 => k_is)
    (case k16 => k_is)
    (case a17 => k_is)
    (case l17 => k_is)
    (case c17 => k_is)
    (case k17 => k_is)
    (case a18 => k_is)
    (case l18 => k_is)
    (case c18 => k_is)
    (case k18 => k_is)
    (case a19 => k_is)
    (case l19 => k_is)
    (case c19 => k_is)
    (case k19 => k_is)
    (case a20 => k_is)
    (case l20 => k_is)
    (case c20 => k_is)
    (case k20 => k_is)
    (case mCB => k_is)
    (case mCH => k_is)
    (case mCN => k_is)
    (case mCT => k_is)
    (case mCR => k_is)
    (case mCU => k_is)
    (case xL => k_is)
    (case a21 => k_is)
    (case i21 => k_is)
    (case l21 => k_is)
    (case c21 => k_is)
    (case k21 => k_is)
    (case sa => k_is)
    (case ga => k_is)
    (case gg => k_is)
    (case nk => k_is)
    (case kC => k_is)
    (case eC => k_is)
    (case tC => k_is)
    (case hC => k_is)
    (case ha => k_is)
    (case hn => k_is)
    (case ht => k_is)
    (case hm => k_is)
    (case eH => k_is)
    (case hH => k_is)
    (case sV => k_is)
    (case sB => first | rfl | k_is)
    (case sH => k_is)
    (case sN => k_is)
    (case sT => k_is)
    (case sR => k_is)
    (case sU => k_is)
    (case tCH => k_is)
    (case dCH => k_is)
    (case tCN => k_is)
    (case dCN => k_is)
    (case tCT => k_is)
    (case dCT => k_is)
    (case tCR => k_is)
    (case dCR => k_is)
    (case tCU => k_is)
    (case dCU => k_is)
    (case z_isinstance => k_is)
    (case z_int => k_is)
    (case z_bool => k_is)
    (case z_str => k_is)
    (case z_tuple => k_is)
    (case z_list => k_is)
    (case z_len => k_is)
    (case z_range => k_is)
    (case z_abs => k_is)
    (case z_max => k_is)
    (case z_min => k_is)
    (case z_ValueError => k_is)
