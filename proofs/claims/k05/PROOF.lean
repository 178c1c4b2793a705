import PyProof.Rows.All
import Wide.All
import OpenK.AllK
import Wide.FinOn
import HandS.ForMost
import HandS.IsInst
import HandS.Codes
import HandS.ForExc
import HandS.ExcInit
import HandS.ExcField
import HandS.CallSlots
import HandS.TupLe
import KE.KExcIs
import HandS.Flt
import HandS.ExcCtx
import HandS.HotCalls
import HandS.ExcInitHot
import HandS.Text
import HandS.Iter
import HandS.Wide
import HandS.Defaults
import HandS.More
import HandS.Conv
import HandS.Deep
import HandS.Set
import HandS.SetFor
import HandS.Strs
import HandS.Rev
import HandS.TupSets
import HandS.DictComp
import HandS.Dict
import HandS.Finally
import HandS.Flow
import HandS.Style
import HandS.TupAny
import PySem.Challenge.RW_heldproofs_k05_moved_there_and_back
set_option Elab.async false
set_option linter.all false
set_option maxRecDepth 100000
/-! My own layer over the hand layer: the weakest reading of a piece of syntax, and a rule a construct, chosen where the values are known. -/
namespace Wk
open PySem PySem.Spec PyProof.Rows L2
section
variable (X : Cx)
@[irreducible] def wE (e : Expr) : TE := fun σ H Q => ∀ (pins : List (Addr × Obj)) (s : Shared), Inv X pins σ H s → wpAny (model X.prog X.w) X.A (eval e X.env) (EP X pins σ Q) X.xe s
@[irreducible] def wT (e : Expr) : TT := fun σ H Q => ∀ (pins : List (Addr × Obj)) (s : Shared), Inv X pins σ H s → wpAny (model X.prog X.w) X.A (isTrue e X.env (eval e X.env)) (TP X pins σ Q) X.xe s
@[irreducible] def wW (e : Expr) : TT := fun σ H Q => ∀ (whole : Sem Value) (pins : List (Addr × Obj)) (s : Shared), Inv X pins σ H s → wpAny (model X.prog X.w) X.A (isTrue e X.env whole) (TP X pins σ Q) X.xe s
@[irreducible] def wA (es : List Expr) : TA := fun σ H Q => ∀ (pos : Pos) (pins : List (Addr × Obj)) (s : Shared), Inv X pins σ H s → wpAny (model X.prog X.w) X.A (spliced (backTo pos (starEach es X.env))) (AP X pins σ Q) X.xe s
@[irreducible] def wS (st : Stmt) : TS := fun D σ H => ∀ (pins : List (Addr × Obj)) (s : Shared), Inv X pins σ H s → wpAny (model X.prog X.w) X.A (exec st X.env) (SP X pins D) X.xe s
@[irreducible] def wL (st : List Stmt) : TS := fun D σ H => ∀ (pins : List (Addr × Obj)) (s : Shared), Inv X pins σ H s → wpAny (model X.prog X.w) X.A (execs st X.env) (SP X pins D) X.xe s
@[irreducible] def wO (f : Value → Value → Sem Value) : R2 := fun x y H Q => ∀ (pins : List (Addr × Obj)) (s : Shared) (σ : L2.St) (v u : Value), Inv X pins σ H s → RelV x v → RelV y u → wpAny (model X.prog X.w) X.A (f v u) (EP X pins σ Q) X.xe s
@[irreducible] def wB (op : Operator) : R2 := fun x y H Q => wO X (binaryOp op) x y H Q
@[irreducible] def wK (op : CmpOp) : R2 := fun x y H Q => wO X (compareOp op) x y H Q
@[irreducible] def wIx : R2 := fun x y H Q => ∀ (value slice : Expr) (pins : List (Addr × Obj)) (s : Shared) (σ : L2.St) (v u : Value), Inv X pins σ H s → RelV x v → RelV y u → subscripted slice false v u = operate [v, u] (getItem v u) → wpAny (model X.prog X.w) X.A (subscriptTail value slice v u) (EP X pins σ Q) X.xe s
@[irreducible] def wC (f : Value) : List V → Hp → VK → Prop := fun xs H Q => ∀ (pins : List (Addr × Obj)) (s : Shared) (σ : L2.St) (us : List Value), Inv X pins σ H s → Vals xs us → wpAny (model X.prog X.w) X.A (call f us) (EP X pins σ Q) X.xe s
@[irreducible] def wSet : V → V → V → Hp → (Hp → Prop) → Prop := fun o i v H Q => ∀ (pins : List (Addr × Obj)) (s : Shared) (σ : L2.St) (ov iv u : Value), Inv X pins σ H s → RelV o ov → RelV i iv → RelV v u → wpAny (model X.prog X.w) X.A (setItem ov iv u) (fun _ s' => ∃ H', Inv X pins σ H' s' ∧ Q H') X.xe s
end
section
variable {X : Cx} {e a b c : Expr} {es rest : List Expr} {st : Stmt} {sts : List Stmt} {σ : L2.St} {H : Hp} {Q : VK} {D : Ends} {pos p0 : Pos} {QT : Bool → Hp → Prop}
theorem pe : PE X e (wE X e) := ⟨fun pins s _ _ _ I h => by unfold wE at h; exact h pins s I⟩
theorem pt : PT X e (wT X e) := ⟨fun pins s _ _ _ I h => by unfold wT at h; exact h pins s I⟩
theorem pw : PW X e (wW X e) := ⟨fun wh pins s _ _ _ I h => by unfold wW at h; exact h wh pins s I⟩
theorem pa : PA X es (wA X es) := ⟨fun p pins s _ _ _ I h => by unfold wA at h; exact h p pins s I⟩
theorem ps : PS X st (wS X st) := ⟨fun pins s _ _ _ I h => by unfold wS at h; exact h pins s I⟩
theorem pl : PSs X sts (wL X sts) := ⟨fun pins s _ _ _ I h => by unfold wL at h; exact h pins s I⟩
theorem opr {f : Value → Value → Sem Value} : OpR X f (wO X f) := fun pins s σ _ _ _ v u _ I rx ry h => by unfold wO at h; exact h pins s σ v u I rx ry
theorem opb {op : Operator} : OpR X (binaryOp op) (wB X op) := fun pins s σ _ _ _ v u _ I rx ry h => by unfold wB at h; exact opr pins s σ _ _ _ v u _ I rx ry h
theorem opk {op : CmpOp} : OpR X (compareOp op) (wK X op) := fun pins s σ _ _ _ v u _ I rx ry h => by unfold wK at h; exact opr pins s σ _ _ _ v u _ I rx ry h
theorem ixr : IxR X (wIx X) := fun va sl pins s σ _ _ _ v u _ I rx ry h hs => by unfold wIx at h; exact h va sl pins s σ v u I rx ry hs
theorem cr {f : Value} : CallR X f (wC X f) := fun pins s σ _ _ us _ I r h => by unfold wC at h; exact h pins s σ us I r
theorem pset : PSet X (wSet X) := fun pins s σ _ _ _ _ ov iv u _ I ro ri rv h => by unfold wSet at h; exact h pins s σ ov iv u I ro ri rv
theorem e_of {t : TE} (h : PE X e t) (q : t σ H Q) : wE X e σ H Q := by unfold wE; exact fun pins s I => h.run pins s σ H Q I q
theorem t_of {t : TT} (h : PT X e t) (q : t σ H QT) : wT X e σ H QT := by unfold wT; exact fun pins s I => h.run pins s σ H QT I q
theorem w_of {t : TT} (h : PW X e t) (q : t σ H QT) : wW X e σ H QT := by unfold wW; exact fun wh pins s I => h.run wh pins s σ H QT I q
theorem a_of {t : TA} {QA : List V → Hp → Prop} (h : PA X es t) (q : t σ H QA) : wA X es σ H QA := by unfold wA; exact fun p pins s I => h.run p pins s σ H QA I q
theorem s_of {t : TS} (h : PS X st t) (q : t D σ H) : wS X st D σ H := by unfold wS; exact fun pins s I => h.run pins s σ H D I q
theorem l_of {t : TS} (h : PSs X sts t) (q : t D σ H) : wL X sts D σ H := by unfold wL; exact fun pins s I => h.run pins s σ H D I q
theorem o_of {f : Value → Value → Sem Value} {r : R2} {x y : V} (h : OpR X f r) (q : r x y H Q) : wO X f x y H Q := by unfold wO; exact fun pins s σ v u I rx ry => h pins s σ H x y v u Q I rx ry q
theorem b_of {op : Operator} {r : R2} {x y : V} (h : OpR X (binaryOp op) r) (q : r x y H Q) : wB X op x y H Q := by unfold wB; exact o_of h q
theorem k_of {op : CmpOp} {r : R2} {x y : V} (h : OpR X (compareOp op) r) (q : r x y H Q) : wK X op x y H Q := by unfold wK; exact o_of h q
theorem ix_of {r : R2} {x y : V} (h : IxR X r) (q : r x y H Q) : wIx X x y H Q := by unfold wIx; exact fun va sl pins s σ v u I rx ry hs => h va sl pins s σ H x y v u Q I rx ry q hs
theorem c_of {f : Value} {r : List V → Hp → VK → Prop} {xs : List V} (h : CallR X f r) (q : r xs H Q) : wC X f xs H Q := by unfold wC; exact fun pins s σ us I r => h pins s σ H xs us Q I r q
theorem set_of {t : V → V → V → Hp → (Hp → Prop) → Prop} {o i v : V} {QH : Hp → Prop} (h : PSet X t) (q : t o i v H QH) : wSet X o i v H QH := by unfold wSet; exact fun pins s σ ov iv u I ro ri rv => h pins s σ H o i v ov iv u QH I ro ri rv q

theorem e_mono {Q' : VK} (q : wE X e σ H Q) (h : ∀ v H1, Q v H1 → Q' v H1) : wE X e σ H Q' := by
  unfold wE at q ⊢
  exact fun pins s I => wpAny_mono (q pins s I) (fun _ _ ⟨v, H1, I1, r, z⟩ => ⟨v, H1, I1, r, h v H1 z⟩) fun _ _ z => z
theorem a_mono {QA QA' : List V → Hp → Prop} (q : wA X es σ H QA) (h : ∀ v H1, QA v H1 → QA' v H1) : wA X es σ H QA' := by
  unfold wA at q ⊢
  exact fun pp pins s I => wpAny_mono (q pp pins s I) (fun _ _ ⟨v, H1, I1, r, z⟩ => ⟨v, H1, I1, r, h v H1 z⟩) fun _ _ z => z

end
/-- where a name stands in a list; found by its spelling -/
inductive At {α : Type} : List α → Nat → α → Prop where
  | z {x : α} {l : List α} : At (x :: l) 0 x
  | s {x y : α} {l : List α} {i : Nat} (h : At l i x) : At (y :: l) (i + 1) x
theorem At.get {α : Type} {l : List α} {i : Nat} {x : α} (h : At l i x) : l[i]? = some x := by
  induction h with
  | z => rfl
  | s _ ih => simpa using ih
theorem At.mem {α : Type} {l : List α} {i : Nat} {x : α} (h : At l i x) : x ∈ l := List.mem_of_getElem? h.get
instance locDec {sc : Scope} {x : Str} : Decidable (Loc sc x) := inferInstanceAs (Decidable (_ ∨ _))
/-- a def's names: its own, in their slots, and the global ones -/
structure ScOk (N G : List Str) (sc : Scope) : Prop where
  nd : N.Nodup
  lo : ∀ x ∈ N, Loc sc x ∧ (x == ("__debug__" : Str)) = false ∧ (x == ("__classdict__" : Str)) = false
  gl : ∀ x ∈ G, sc.names.lookup x = some .globalImplicit ∧ (x == ("__debug__" : Str)) = false ∧ x ≠ "__name__"
/-- the body that the proof stands in -/
structure In (X : Cx) (N G : List Str) (sc : Scope) : Prop where
  ok : ScOk N G sc
  n : ∃ C, X.N = N ++ C
  nd : X.N.Nodup
  sc : X.env.scope = sc
  fn : X.fn = fun _ => true
  nev : PassesOwn (model X.prog X.w) X.A X.env X.xe
section
variable {X : Cx} {e a b c : Expr} {es rest : List Expr} {st : Stmt} {sts : List Stmt} {σ : L2.St} {H : Hp} {Q : VK} {D : Ends} {pos p0 : Pos} {QT : Bool → Hp → Prop} {N G : List Str} {sc : Scope}
theorem In.loc (I : In X N G sc) {i : Nat} {x : Str} (h : At N i x) : Loc X.env.scope x := by rw [I.sc]; exact (I.ok.lo x h.mem).1
theorem In.vis (I : In X N G sc) {i : Nat} {x : Str} (h : At N i x) : Vis X.env.scope x := by
  rcases I.loc h with z | z
  · exact .inl z
  · exact .inr (.inl z)
theorem In.hi (I : In X N G sc) {i : Nat} {x : Str} (h : At N i x) : X.N[i]? = some x := by
  obtain ⟨C, e⟩ := I.n
  have hl : i < N.length := by
    have := h.get
    exact (List.getElem?_eq_some_iff.mp this).1
  rw [e, List.getElem?_append_left hl]
  exact h.get
theorem In.f (I : In X N G sc) {x : Str} : X.fn x = true ∨ X.env.scope.names.lookup x = some .local := .inl (by rw [I.fn])
theorem In.g (I : In X N G sc) {i : Nat} {x : Str} (h : At G i x) : Gl X x := by
  show X.env.scope.names.lookup x = _
  rw [I.sc]
  exact (I.ok.gl x h.mem).1
theorem In.gd (I : In X N G sc) {i : Nat} {x : Str} (h : At G i x) : (x == ("__debug__" : Str)) = false := (I.ok.gl x h.mem).2.1
theorem In.gn (I : In X N G sc) {i : Nat} {x : Str} (h : At G i x) : x ≠ "__name__" := (I.ok.gl x h.mem).2.2
theorem In.never (I : In X N G sc) : PassesOwn (model X.prog X.w) X.A X.env X.xe := I.nev

/-! ### statements -/
theorem l_nil {nx : L2.St → Hp → Prop} {rt : VK} {bk ct : L2.St → Hp → Prop} (q : nx σ H) : wL X [] ⟨nx, rt, bk, ct⟩ σ H := l_of pss_nil q
theorem l_cons {nx : L2.St → Hp → Prop} {rt : VK} {bk ct : L2.St → Hp → Prop} (q : wS X st ⟨fun σ' H' => wL X sts ⟨nx, rt, bk, ct⟩ σ' H', rt, bk, ct⟩ σ H) : wL X (st :: sts) ⟨nx, rt, bk, ct⟩ σ H := l_of (pss_cons ps pl) q
theorem s_set {nx : L2.St → Hp → Prop} {rt : VK} {bk ct : L2.St → Hp → Prop} {i : Nat} {x : Str} {pos' : Pos} (q : wE X e σ H fun v H' => nx (σ.set i (some v)) H') (I : In X N G sc := by assumption) (hA : At N i x := by repeat (first | with_reducible apply At.z | with_reducible apply At.s)) (hs : swapsWith e (some (.Name x pos')) pos.line X.env = pure false := by rfl) :
    wS X (.Assign [.Name x pos'] e pos) ⟨nx, rt, bk, ct⟩ σ H := s_of (ps_set I.nd (I.hi hA) (I.loc hA) pe hs I.f) q
theorem s_ret {nx : L2.St → Hp → Prop} {rt : VK} {bk ct : L2.St → Hp → Prop} (q : wE X e σ H rt) : wS X (.Return (some e) pos) ⟨nx, rt, bk, ct⟩ σ H := s_of (ps_ret pe) q
theorem s_retN {nx : L2.St → Hp → Prop} {rt : VK} {bk ct : L2.St → Hp → Prop} (q : rt .non H) : wS X (.Return none pos) ⟨nx, rt, bk, ct⟩ σ H := s_of ps_retN q
theorem s_pass {nx : L2.St → Hp → Prop} {rt : VK} {bk ct : L2.St → Hp → Prop} (q : nx σ H) : wS X (.Pass pos) ⟨nx, rt, bk, ct⟩ σ H := s_of ps_pass q
theorem s_brk {nx : L2.St → Hp → Prop} {rt : VK} {bk ct : L2.St → Hp → Prop} (q : bk σ H) : wS X (.Break pos) ⟨nx, rt, bk, ct⟩ σ H := s_of ps_break q
theorem s_cnt {nx : L2.St → Hp → Prop} {rt : VK} {bk ct : L2.St → Hp → Prop} (q : ct σ H) : wS X (.Continue pos) ⟨nx, rt, bk, ct⟩ σ H := s_of ps_continue q
theorem s_expr {nx : L2.St → Hp → Prop} {rt : VK} {bk ct : L2.St → Hp → Prop} (q : wE X e σ H fun _ H' => nx σ H') (hs : swapsWith e none pos.line X.env = pure false := by rfl) : wS X (.Expr e pos) ⟨nx, rt, bk, ct⟩ σ H := s_of (ps_expr pe hs) q
theorem s_if {nx : L2.St → Hp → Prop} {rt : VK} {bk ct : L2.St → Hp → Prop} {A B : List Stmt} (q : wT X c σ H fun k H1 => if k = true then wL X A ⟨nx, rt, bk, ct⟩ σ H1 else wL X B ⟨nx, rt, bk, ct⟩ σ H1) : wS X (.If c A B pos) ⟨nx, rt, bk, ct⟩ σ H := s_of (ps_if pt pl pl) q
theorem s_fld {nx : L2.St → Hp → Prop} {rt : VK} {bk ct : L2.St → Hp → Prop} {o value : Expr} {f : Str} {pos' : Pos} (q : wE X value σ H fun y H1 => wE X o σ H1 fun x H2 => ∃ a C dx fs, x = .ref a ∧ H2 a = some (.ins C dx fs) ∧ Cls X.K C ∧ NoAttr X.K C f ∧ fs.length < 1000 ∧ nx σ (upd H2 a (.ins C dx (putF f y fs))))
    (hs : swapsWith value (some (.Attribute o f pos')) pos.line X.env = pure false := by rfl) : wS X (.Assign [.Attribute o f pos'] value pos) ⟨nx, rt, bk, ct⟩ σ H := s_of (ps_fld pe pe hs) q
/-- o[i] = v -/
theorem s_sub {nx : L2.St → Hp → Prop} {rt : VK} {bk ct : L2.St → Hp → Prop} {o i value : Expr} {pos' : Pos} (q : wE X value σ H fun v H1 => wE X o σ H1 fun x H2 => wE X i σ H2 fun y H3 => wSet X x y v H3 fun H4 => nx σ H4)
    (hs : swapsWithSole [.Subscript o i pos'] value pos.line X.env = pure false := by rfl) (hw : swappedStores [.Subscript o i pos'] value X.env = pure none := by rfl) (h1 : (assignEach [.Subscript o i pos'] X.env).map (·.2) = [assign (.Subscript o i pos') X.env] := by rfl)
    (ha : ∀ v, assign (.Subscript o i pos') X.env v = (do let ov ← holding [v] (eval o X.env); let iv ← holding [v, ov] (eval i X.env); standAt pos'; holding [v, ov, iv] (setItem ov iv v); release [v, ov, iv] []) := by intro _; rfl) : wS X (.Assign [.Subscript o i pos'] value pos) ⟨nx, rt, bk, ct⟩ σ H := s_of (ps_asg pe (pg_sub pe pe pset ha) hs hw h1) q
/-- two names from a tuple -/
theorem s_tup2 {nx : L2.St → Hp → Prop} {rt : VK} {bk ct : L2.St → Hp → Prop} {i j : Nat} {x y : Str} {k : Nat} {px py pt : Pos} (q : wE X e σ H fun v H1 => ∃ a u w, v = .ref a ∧ SqT X.K H1 a [u, w] ∧ nx ((σ.set i (some u)).set j (some w)) H1)
    (I : In X N G sc := by assumption) (hc : X.calm = true := by rfl) (hA : At N i x := by repeat (first | with_reducible apply At.z | with_reducible apply At.s)) (hB : At N j y := by repeat (first | with_reducible apply At.z | with_reducible apply At.s))
    (hs : swapsWithSole [.Tuple [.Name x px, .Name y py] k pt] e pos.line X.env = pure false := by rfl) (hw : swappedStores [.Tuple [.Name x px, .Name y py] k pt] e X.env = pure none := by rfl) (h1 : (assignEach [.Tuple [.Name x px, .Name y py] k pt] X.env).map (·.2) = [assign (.Tuple [.Name x px, .Name y py] k pt) X.env] := by rfl) :
    wS X (.Assign [.Tuple [.Name x px, .Name y py] k pt] e pos) ⟨nx, rt, bk, ct⟩ σ H := by
  refine s_of (ps_asg pe (pg_tup hc (pgs_cons (pg_name I.nd (I.hi hA) (I.loc hA) I.f) (pgs_cons (pg_name I.nd (I.hi hB) (I.loc hB) I.f) pgs_nil))) hs hw h1) (e_mono q fun v H1 q1 => ?_)
  obtain ⟨ad, u, w, ev, hq, q2⟩ := q1
  exact ⟨ad, [u, w], ev, hq, rfl, u, [w], rfl, w, [], rfl, rfl, q2⟩
/-! ### expressions -/
theorem e_var {i : Nat} {x : Str} {v : V} (q : Q v H) (I : In X N G sc := by assumption) (hA : At N i x := by repeat (first | with_reducible apply At.z | with_reducible apply At.s)) (hσ : σ[i]? = some (some v) := by exact rfl) : wE X (.Name x pos) σ H Q :=
  e_of (pe_var (I.hi hA) (I.vis hA) (I.ok.lo x hA.mem).2.1 (I.ok.lo x hA.mem).2.2) ⟨v, hσ, q⟩
theorem e_int {i : Int} {j} (q : Q (.int i) H) : wE X (.Constant (.int i) j pos) σ H Q := e_of pe_int q
theorem e_bl {k : Bool} {j} (q : Q (.bl k) H) : wE X (.Constant (.bool k) j pos) σ H Q := e_of pe_bl q
theorem e_non {j} (q : Q .non H) : wE X (.Constant .none j pos) σ H Q := e_of pe_non q
theorem e_str {x : Str} {j} (q : Q (.str x) H) : wE X (.Constant (.str x) j pos) σ H Q := e_of pe_str q
theorem e_bin {op : Operator} (q : wE X a σ H fun x H1 => wE X b σ H1 fun y H2 => wB X op x y H2 Q) : wE X (.BinOp a op b pos) σ H Q := e_of (pe_op opb pe pe) q
theorem e_cmp {op : CmpOp} (q : wE X a σ H fun x H1 => wE X b σ H1 fun y H2 => wK X op x y H2 Q) (hm : behindInMarks op b = false := by first | exact nomark _ | rfl) : wE X (.Compare a [op] [b] pos) σ H Q := e_of (pe_cmpR opk pe pe hm) q
theorem t_cmp {op : CmpOp} (q : wE X a σ H fun x H1 => wE X b σ H1 fun y H2 => wK X op x y H2 fun z H3 => ∃ k, z = .bl k ∧ QT k H3) (hm : behindInMarks op b = false := by first | exact nomark _ | rfl) : wT X (.Compare a [op] [b] pos) σ H QT := t_of (pt_cmpR opk pe pe hm) q
theorem t_val (q : wE X e σ H fun z H3 => ∃ k, z = .bl k ∧ QT k H3) (he : ∀ whole, isTrue e X.env whole = (do let v ← whole; standAt e.pos; holding [v] (truthy v)) := by intro _; rfl) : wT X e σ H QT := t_of (pt_val pe he) q
theorem t_not (q : wT X a σ H fun k H1 => QT (!k) H1) : wT X (.UnaryOp .Not a pos) σ H QT := t_of (pt_not pt) q
theorem t_w (q : wW X e σ H QT) : wT X e σ H QT := t_of pw.pt q
theorem w_and1 (q : wT X a σ H QT) : wW X (.BoolOp .And [a] pos) σ H QT := w_of (pw_and1 pt) q
theorem w_or1 (q : wT X a σ H QT) : wW X (.BoolOp .Or [a] pos) σ H QT := w_of (pw_or1 pt) q
theorem w_and (q : wT X a σ H fun k H1 => if k = true then wW X (.BoolOp .And (b :: rest) pos) σ H1 QT else QT false H1) : wW X (.BoolOp .And (a :: b :: rest) pos) σ H QT := w_of (pw_and pt pw) q
theorem w_or (q : wT X a σ H fun k H1 => if k = true then QT true H1 else wW X (.BoolOp .Or (b :: rest) pos) σ H1 QT) : wW X (.BoolOp .Or (a :: b :: rest) pos) σ H QT := w_of (pw_or pt pw) q
theorem e_one {op} (q : wE X a σ H Q) : wE X (.BoolOp op [a] pos) σ H Q := e_of (pe_one pe) q
theorem e_and (q : wE X a σ H fun x H1 => ∃ k, x = .bl k ∧ if k = true then wE X (.BoolOp .And (b :: rest) pos) σ H1 Q else Q (.bl false) H1) : wE X (.BoolOp .And (a :: b :: rest) pos) σ H Q := e_of (pe_and pe pe) q
theorem e_or (q : wE X a σ H fun x H1 => ∃ k, x = .bl k ∧ if k = true then Q (.bl true) H1 else wE X (.BoolOp .Or (b :: rest) pos) σ H1 Q) : wE X (.BoolOp .Or (a :: b :: rest) pos) σ H Q := e_of (pe_or pe pe) q
theorem e_not (q : wE X a σ H fun x H1 => ∃ k, x = .bl k ∧ Q (.bl (!k)) H1) : wE X (.UnaryOp .Not a pos) σ H Q := e_of (pe_not pe) q
theorem e_ifExp (q : wT X c σ H fun k H1 => if k = true then wE X a σ H1 Q else wE X b σ H1 Q) : wE X (.IfExp c a b pos) σ H Q := e_of (pe_ifExp pt pe pe) q
theorem e_ix (q : wE X a σ H fun x H1 => wE X b σ H1 fun y H2 => wIx X x y H2 Q) (hs : PlainIx b := by intro _ _; rfl) : wE X (.Subscript a b pos) σ H Q := e_of (pe_ix ixr pe pe hs) q
theorem e_fld {f : Str} (q : wE X e σ H fun x H1 => ∃ a C dx fs v, x = .ref a ∧ H1 a = some (.ins C dx fs) ∧ Cls X.K C ∧ NoAttr X.K C f ∧ fs.lookup f = some v ∧ Q v H1) (hb : attributeBase e f X.env (eval e X.env) = eval e X.env := by rfl) : wE X (.Attribute e f pos) σ H Q := e_of (pe_fld pe hb) q
theorem a_nil {QA : List V → Hp → Prop} (q : QA [] H) : wA X [] σ H QA := a_of pa_nil q
theorem a_cons {QA : List V → Hp → Prop} (q : wE X e σ H fun x H1 => wA X es σ H1 fun xs H2 => QA (x :: xs) H2) (hs : starEach (e :: es) X.env = (false, eval e X.env) :: starEach es X.env := by rfl) : wA X (e :: es) σ H QA := a_of (pa_cons pe pa hs) q
theorem e_tup {k} (q : wA X es σ H fun xs H1 => xs.length ≤ sizeLine ∧ ∀ p H2, Same H1 H2 → H1 p = none → H2 p = some (.tup xs) → Q (.ref p) H2) : wE X (.Tuple es k pos) σ H Q :=
  e_of (pe_tup pa) (a_mono q fun xs H1 z => ⟨z.1, fun p np => z.2 p _ (fun b o eo => by rw [upd_ne (ne_of_none eo np)]; exact eo) np upd_same⟩)
theorem e_lst (q : wA X es σ H fun xs H1 => xs.length ≤ sizeLine ∧ ∀ p H2, Same H1 H2 → H1 p = none → H2 p = some (.lst xs) → Q (.ref p) H2) : wE X (.List es pos) σ H Q :=
  e_of (pe_lst pa) (a_mono q fun xs H1 z => ⟨z.1, fun p np => z.2 p _ (fun b o eo => by rw [upd_ne (ne_of_none eo np)]; exact eo) np upd_same⟩)
/-! ### calls -/
/-- a def of the module that no exception leaves -/
structure Fn (P : Program) (w : World) (K : PySem.W.Frag) (mg : Str → Option Value) (base : Heap) (k : Nat) (x : Str) (sp : Sp) : Prop where
  ex : ∃ (f : Addr) (fd : FuncData) (ps : List Str), FnOk P w K mg base CX0 k f fd ps sp ∧ mg x = some (.ref f) ∧ PySem.W.keepIn K (.ref f) = true ∧ Binds K fd ps []
theorem e_call {g : Nat} {k n : Nat} {x : Str} {sp : Sp} (F : Fn X.prog X.w X.K X.mg X.base k x sp) (hr : Room n X.A) (hk : k ≤ n) (q : wA X (e :: es) σ H fun vs H1 => sp vs H1 Q E0) (I : In X N G sc := by assumption) (hG : At G g x := by repeat (first | with_reducible apply At.z | with_reducible apply At.s))
    (he : starEach (e :: es) X.env = (false, eval e X.env) :: starEach es X.env := by rfl) (hpl : (backTo pos (starEach es X.env)).any (·.1) = false := by rfl) : wE X (.Call (.Name x p0) (e :: es) [] pos) σ H Q := by
  obtain ⟨f, fd, ps, F0, hm, hkp, hb⟩ := F.ex
  refine e_of (pe_call F0 (hr.mono hk) (I.g hG) hm hkp hb .nil pass0 pa (I.gd hG) he hpl) ?_
  show wA X (e :: es) σ H fun vs H1 => sp (vs ++ []) H1 Q E0
  simp only [List.append_nil]
  exact q
theorem e_call0 {g : Nat} {k n : Nat} {x : Str} {sp : Sp} (F : Fn X.prog X.w X.K X.mg X.base k x sp) (hr : Room n X.A) (hk : k ≤ n) (q : sp [] H Q E0) (I : In X N G sc := by assumption) (hG : At G g x := by repeat (first | with_reducible apply At.z | with_reducible apply At.s)) : wE X (.Call (.Name x p0) [] [] pos) σ H Q := by
  obtain ⟨f, fd, ps, F0, hm, hkp, hb⟩ := F.ex
  exact e_of (pe_call0 F0 (hr.mono hk) (I.g hG) hm hkp hb .nil pass0 (I.gd hG)) q
theorem e_callB {g : Nat} {x : Str} {id : String} (hm : X.mg x = none) (hv : bootBuiltins x = some (.builtin id)) (q : wA X (e :: es) σ H fun vs H1 => wC X (.builtin id) vs H1 Q) (I : In X N G sc := by assumption) (hG : At G g x := by repeat (first | with_reducible apply At.z | with_reducible apply At.s))
    (he : starEach (e :: es) X.env = (false, eval e X.env) :: starEach es X.env := by rfl) (hpl : (backTo pos (starEach es X.env)).any (·.1) = false := by rfl) : wE X (.Call (.Name x p0) (e :: es) [] pos) σ H Q := e_of (pe_callB cr (I.g hG) hm hv pa (I.gn hG) (I.gd hG) he hpl) q
theorem e_callTy {g : Nat} {x : Str} {T : String} (hm : X.mg x = none) (hv : bootBuiltins x = some (.type T)) (q : wA X (e :: es) σ H fun vs H1 => wC X (.type T) vs H1 Q) (I : In X N G sc := by assumption) (hG : At G g x := by repeat (first | with_reducible apply At.z | with_reducible apply At.s))
    (he : starEach (e :: es) X.env = (false, eval e X.env) :: starEach es X.env := by rfl) (hpl : (backTo pos (starEach es X.env)).any (·.1) = false := by rfl) : wE X (.Call (.Name x p0) (e :: es) [] pos) σ H Q := e_of (pe_callTy cr (I.g hG) hm hv pa (I.gn hG) (I.gd hG) he hpl) q
theorem e_glob {g : Nat} {x : Str} {v : V} {u : Value} (hm : X.mg x = some u) (r : RelV v u) (q : Q v H) (I : In X N G sc := by assumption) (hG : At G g x := by repeat (first | with_reducible apply At.z | with_reducible apply At.s)) : wE X (.Name x pos) σ H Q := e_of (pe_glob (I.g hG) hm r (I.gd hG)) q
theorem e_bltn {g : Nat} {x : Str} {v : V} {u : Value} (hm : X.mg x = none) (hv : bootBuiltins x = some u) (r : RelV v u) (q : Q v H) (I : In X N G sc := by assumption) (hG : At G g x := by repeat (first | with_reducible apply At.z | with_reducible apply At.s)) : wE X (.Name x pos) σ H Q := e_of (pe_bltn (I.g hG) hm hv r (I.gn hG) (I.gd hG)) q
/-- a method of a class that no exception leaves -/
structure Mt (P : Program) (w : World) (K : PySem.W.Frag) (mg : Str → Option Value) (base : Heap) (k : Nat) (C : Addr) (m : Str) (sp : Sp) : Prop where
  ex : ∃ (f : Addr) (fd : FuncData) (ps : List Str), FnOk P w K mg base CX0 k f fd ps sp ∧ Meth K C m f ∧ Binds K fd ps [] ∧ Cls K C
theorem e_meth {k n : Nat} {o : Expr} {m : Str} {C : Addr} {apos : Pos} {pl : Sem Bool} {sp : Sp} (F : Mt X.prog X.w X.K X.mg X.base k C m sp) (hr : Room n X.A) (hk : k ≤ n)
    (q : wE X o σ H fun x H1 => ∃ a dx fs, x = .ref a ∧ H1 a = some (.ins C dx fs) ∧ fs.lookup m = none ∧ wA X (e :: es) σ H1 fun vs H2 => sp (x :: vs) H2 Q E0)
    (hst : starEach (e :: es) X.env = (false, eval e X.env) :: starEach es X.env := by rfl) (hpl : (backTo pos (starEach es X.env)).any (·.1) = false := by rfl)
    (ht : eval (.Call (.Attribute o m apos) (e :: es) [] pos) X.env = (do let ov ← eval o X.env; standAt apos.atName; let (f, first) ← holding [ov] (getMethod ov m pl); callWith pos f first (backTo pos (starEach (e :: es) X.env)) (backToKw pos (keywordEach [] X.env))) := by rfl) :
    wE X (.Call (.Attribute o m apos) (e :: es) [] pos) σ H Q := by
  obtain ⟨f, fd, ps, F0, M, hb, c⟩ := F.ex
  refine e_of (pe_meth (pl := pl) pe c M F0 (hr.mono hk) hb .nil pass0 pa hst hpl ht) ?_
  show wE X o σ H fun x H1 => ∃ a dx fs, x = .ref a ∧ H1 a = some (.ins C dx fs) ∧ fs.lookup m = none ∧ wA X (e :: es) σ H1 fun vs H2 => sp (x :: (vs ++ [])) H2 Q E0
  simp only [List.append_nil]
  exact q
theorem e_meth0 {k n : Nat} {o : Expr} {m : Str} {C : Addr} {apos : Pos} {pl : Sem Bool} {sp : Sp} (F : Mt X.prog X.w X.K X.mg X.base k C m sp) (hr : Room n X.A) (hk : k ≤ n)
    (q : wE X o σ H fun x H1 => ∃ a dx fs, x = .ref a ∧ H1 a = some (.ins C dx fs) ∧ fs.lookup m = none ∧ sp [x] H1 Q E0)
    (ht : eval (.Call (.Attribute o m apos) [] [] pos) X.env = (do let ov ← eval o X.env; standAt apos.atName; let (f, first) ← holding [ov] (getMethod ov m pl); callWith pos f first (backTo pos (starEach [] X.env)) (backToKw pos (keywordEach [] X.env))) := by rfl) :
    wE X (.Call (.Attribute o m apos) [] [] pos) σ H Q := by
  obtain ⟨f, fd, ps, F0, M, hb, c⟩ := F.ex
  exact e_of (pe_meth0 (pl := pl) pe c M F0 (hr.mono hk) hb .nil pass0 ht) q
/-- an own class whose __init__ no exception leaves -/
structure Kl (P : Program) (w : World) (K : PySem.W.Frag) (mg : Str → Option Value) (base : Heap) (k : Nat) (x : Str) (C : Addr) (sp : Sp) : Prop where
  ex : ∃ (f : Addr) (fd : FuncData) (ps : List Str), FnOk P w K mg base CX0 k f fd ps sp ∧ mg x = some (.ref C) ∧ Mk K C f ∧ Binds K fd ps []
theorem e_make {g : Nat} {k n : Nat} {x : Str} {C : Addr} {sp : Sp} (F : Kl X.prog X.w X.K X.mg X.base k x C sp) (hr : Room n X.A) (hk : k + 1 ≤ n)
    (q : wA X (e :: es) σ H fun vs H1 => ∀ x dx, H1 x = none → H1 dx = none → dx ≠ x → sp (.ref x :: vs) (upd (upd H1 dx (.own x)) x (.ins C dx [])) (fun v H2 => v = .non ∧ Q (.ref x) H2) E0)
    (I : In X N G sc := by assumption) (hG : At G g x := by repeat (first | with_reducible apply At.z | with_reducible apply At.s)) (he : starEach (e :: es) X.env = (false, eval e X.env) :: starEach es X.env := by rfl) (hpl : (backTo pos (starEach es X.env)).any (·.1) = false := by rfl) : wE X (.Call (.Name x p0) (e :: es) [] pos) σ H Q := by
  obtain ⟨f, fd, ps, F0, hm, M, hb⟩ := F.ex
  refine e_of (pe_make M F0 (hr.mono hk) (I.g hG) hm hb .nil pass0 pa (I.gd hG) he hpl) ?_
  show wA X (e :: es) σ H fun vs H1 => ∀ x dx, H1 x = none → H1 dx = none → dx ≠ x → sp (.ref x :: (vs ++ [])) (upd (upd H1 dx (.own x)) x (.ins C dx [])) (fun v H2 => v = .non ∧ Q (.ref x) H2) E0
  simp only [List.append_nil]
  exact q
end
/-! ### values -/
section
variable {X : Cx} {H : Hp} {Q : VK} {i j : Int} {σ : L2.St} {D : Ends}
theorem o_add (q : Q (.int (i + j)) H) : wB X .Add (.int i) (.int j) H Q := b_of op_add ⟨i, j, rfl, rfl, q⟩
theorem o_sub (q : Q (.int (i - j)) H) : wB X .Sub (.int i) (.int j) H Q := b_of op_sub ⟨i, j, rfl, rfl, q⟩
theorem o_mul (c : CMul i j) (q : Q (.int (i * j)) H) : wB X .Mult (.int i) (.int j) H Q := b_of op_mul ⟨i, j, rfl, rfl, c, q⟩
theorem o_mod (c : 0 < j) (q : Q (.int (i % j)) H) : wB X .Mod (.int i) (.int j) H Q := b_of op_mod ⟨i, j, rfl, rfl, c, q⟩
theorem o_fdiv (c : 0 < j ∧ j < 1073741824) (q : Q (.int (i / j)) H) : wB X .FloorDiv (.int i) (.int j) H Q := b_of op_fdiv ⟨i, j, rfl, rfl, c, q⟩
theorem o_pow (c : CPow i j) (q : Q (.int (i ^ j.toNat)) H) : wB X .Pow (.int i) (.int j) H Q := b_of op_pow ⟨i, j, rfl, rfl, c, q⟩
theorem o_lt (q : Q (.bl (decide (i < j))) H) : wK X .Lt (.int i) (.int j) H Q := k_of op_lt ⟨i, j, rfl, rfl, q⟩
theorem o_le (q : Q (.bl (decide (i ≤ j))) H) : wK X .LtE (.int i) (.int j) H Q := k_of op_le ⟨i, j, rfl, rfl, q⟩
theorem o_gt (q : Q (.bl (decide (j < i))) H) : wK X .Gt (.int i) (.int j) H Q := k_of op_gt ⟨i, j, rfl, rfl, q⟩
theorem o_ge (q : Q (.bl (decide (j ≤ i))) H) : wK X .GtE (.int i) (.int j) H Q := k_of op_ge ⟨i, j, rfl, rfl, q⟩
theorem dint {i j : Int} : decide (V.int i = V.int j) = decide (i = j) := by simp
theorem dbl {i j : Bool} : decide (V.bl i = V.bl j) = decide (i = j) := by simp
theorem dstr {i j : Str} : decide (V.str i = V.str j) = decide (i = j) := by simp
theorem o_eqI (q : Q (.bl (decide (i = j))) H) : wK X .Eq (.int i) (.int j) H Q := k_of op_eq ⟨rfl, dint ▸ q⟩
theorem o_neI (q : Q (.bl (!decide (i = j))) H) : wK X .NotEq (.int i) (.int j) H Q := k_of op_ne ⟨rfl, dint ▸ q⟩
theorem o_eqB {i j : Bool} (q : Q (.bl (decide (i = j))) H) : wK X .Eq (.bl i) (.bl j) H Q := k_of op_eq ⟨rfl, dbl ▸ q⟩
theorem o_neB {i j : Bool} (q : Q (.bl (!decide (i = j))) H) : wK X .NotEq (.bl i) (.bl j) H Q := k_of op_ne ⟨rfl, dbl ▸ q⟩
theorem o_eqS {i j : Str} (q : Q (.bl (decide (i = j))) H) : wK X .Eq (.str i) (.str j) H Q := k_of op_eq ⟨rfl, dstr ▸ q⟩
theorem o_neS {i j : Str} (q : Q (.bl (!decide (i = j))) H) : wK X .NotEq (.str i) (.str j) H Q := k_of op_ne ⟨rfl, dstr ▸ q⟩
/-- a pair of ints beside a text -/
theorem o_eqPS {n : Nat} {a : Addr} {u v : Int} {z : Str} (hr : Room n X.A) (h : H a = some (.tup [.int u, .int v])) (hz : SeqAt.shaped (.str z) = true) (q : Q (.bl false) H) : wK X .Eq (.ref a) (.str z) H Q :=
  k_of (op_eqD hr.units) ⟨.tuple [.int u, .int v], .str z, .tup (SqT.of h) (.cons (.int u) (.cons (.int v) .nil)), .str z, rfl, hz, q⟩
theorem ix_l {a : Addr} {xs : List V} {v : V} (h : SqL X.K H a xs) (e : atI xs i = some v) (q : Q v H) : wIx X (.ref a) (.int i) H Q := ix_of ix_list ⟨a, xs, i, v, rfl, rfl, h, e, q⟩
theorem ix_t {a : Addr} {xs : List V} {v : V} (h : SqT X.K H a xs) (e : atI xs i = some v) (q : Q v H) : wIx X (.ref a) (.int i) H Q := ix_of ix_tup ⟨a, xs, i, v, rfl, rfl, h, e, q⟩
theorem set_l {a : Addr} {xs : List V} {v : V} {k : Nat} {QH : Hp → Prop} (h : H a = some (.lst xs)) (e : ixN xs.length i = some k) (q : QH (upd H a (.lst (xs.set k v)))) : wSet X (.ref a) (.int i) v H QH := set_of set_list ⟨a, xs, i, k, rfl, rfl, h, e, q⟩
theorem c_int (q : Q (.int i) H) : wC X (.type "int") [.int i] H Q := c_of call_int1 (.inl ⟨i, rfl, q⟩)
theorem c_abs (q : Q (.int (if i < 0 then -i else i)) H) : wC X (.builtin "abs") [.int i] H Q := c_of call_abs ⟨i, rfl, q⟩
theorem c_max (hc : X.calm = true) (q : Q (.int (if j > i then j else i)) H) : wC X (.builtin "max") [.int i, .int j] H Q := c_of (call_max2 hc) ⟨i, j, rfl, q⟩
theorem c_min (hc : X.calm = true) (q : Q (.int (if j < i then j else i)) H) : wC X (.builtin "min") [.int i, .int j] H Q := c_of (call_min2 hc) ⟨i, j, rfl, q⟩
theorem c_lenL {a : Addr} {xs : List V} (h : SqL X.K H a xs) (q : Q (.int xs.length) H) : wC X (.builtin "len") [.ref a] H Q := c_of call_len_seq ⟨a, xs, rfl, .inl h, q⟩
theorem c_lenT {a : Addr} {xs : List V} (h : SqT X.K H a xs) (q : Q (.int xs.length) H) : wC X (.builtin "len") [.ref a] H Q := c_of call_len_seq ⟨a, xs, rfl, .inr h, q⟩
theorem c_isi {x c : V} {t u : Value} {b : Bool} (ty : TyX X.K H x t) (k : ClsV c u) (e : PySem.W.kitOne X.K t u = some b) (q : Q (.bl b) H) : wC X (.builtin "isinstance") [x, c] H Q := c_of call_isi ⟨x, c, t, u, b, rfl, k, ty, e, q⟩
theorem c_isiT {x : V} {tp : Addr} {cs : List V} {t : Value} {us : List Value} {b : Bool} (ty : TyX X.K H x t) (h : H tp = some (.tup cs)) (k : Paired ClsV cs us) (e : PySem.W.kitAny X.K t us = some b) (q : Q (.bl b) H) : wC X (.builtin "isinstance") [x, .ref tp] H Q :=
  c_of call_isiT ⟨x, tp, cs, t, us, b, rfl, h, k, ty, e, q⟩
theorem ty_non : TyX X.K H .non (.type "NoneType") := .base .non
theorem ty_bl {b : Bool} : TyX X.K H (.bl b) (.type "bool") := .base (.bl b)
theorem ty_int : TyX X.K H (.int i) (.type "int") := .base (.int i)
theorem ty_str {z : Str} : TyX X.K H (.str z) (.type "str") := .base (.str z)
theorem ty_tup {a : Addr} {xs : List V} (h : H a = some (.tup xs)) : TyX X.K H (.ref a) (.type "tuple") := .base (.tup h)
theorem ty_lst {a : Addr} {xs : List V} (h : H a = some (.lst xs)) : TyX X.K H (.ref a) (.type "list") := .base (.lst h)
theorem two_ty {a b : String} : Paired ClsV [.ty a, .ty b] [.type a, .type b] := .cons (.ty a) (.cons (.ty b) .nil)
theorem kit2 {K : PySem.W.Frag} {t a b : String} {x y : Bool} (h1 : kitB t a = some x) (h2 : kitB t b = some y) : PySem.W.kitAny K (.type t) [.type a, .type b] = some (x || y) := by
  cases x with
  | true => exact kitAny_cons (kit_ty h1) (fun z => nomatch z) fun _ => rfl
  | false =>
    refine kitAny_cons (kit_ty h1) (fun _ => ?_) (fun z => nomatch z)
    cases y with
    | true => exact kitAny_cons (kit_ty h2) (fun z => nomatch z) fun _ => rfl
    | false => exact kitAny_cons (kit_ty h2) (fun _ => rfl) (fun z => nomatch z)
theorem kb_int_tuple : kitB "int" "tuple" = some false := by decide +kernel
theorem kb_int_list : kitB "int" "list" = some false := by decide +kernel
theorem kb_int_int : kitB "int" "int" = some true := by decide +kernel
theorem kb_int_bool : kitB "int" "bool" = some false := by decide +kernel
theorem kb_int_str : kitB "int" "str" = some false := by decide +kernel
theorem kb_tuple_tuple : kitB "tuple" "tuple" = some true := by decide +kernel
theorem kb_tuple_list : kitB "tuple" "list" = some false := by decide +kernel
theorem kb_tuple_str : kitB "tuple" "str" = some false := by decide +kernel
theorem kb_tuple_int : kitB "tuple" "int" = some false := by decide +kernel
theorem kb_tuple_bool : kitB "tuple" "bool" = some false := by decide +kernel
theorem kb_list_tuple : kitB "list" "tuple" = some false := by decide +kernel
theorem kb_list_list : kitB "list" "list" = some true := by decide +kernel
theorem kb_list_str : kitB "list" "str" = some false := by decide +kernel
theorem kb_list_int : kitB "list" "int" = some false := by decide +kernel
theorem kb_list_bool : kitB "list" "bool" = some false := by decide +kernel
theorem kb_bool_bool : kitB "bool" "bool" = some true := by decide +kernel
theorem kb_bool_int : kitB "bool" "int" = some true := by decide +kernel
theorem kb_bool_str : kitB "bool" "str" = some false := by decide +kernel
theorem kb_bool_tuple : kitB "bool" "tuple" = some false := by decide +kernel
theorem kb_bool_list : kitB "bool" "list" = some false := by decide +kernel
theorem kb_str_str : kitB "str" "str" = some true := by decide +kernel
theorem kb_str_bool : kitB "str" "bool" = some false := by decide +kernel
theorem kb_str_int : kitB "str" "int" = some false := by decide +kernel
theorem kb_str_tuple : kitB "str" "tuple" = some false := by decide +kernel
theorem kb_str_list : kitB "str" "list" = some false := by decide +kernel
theorem kb_non_bool : kitB "NoneType" "bool" = some false := by decide +kernel
theorem kb_non_int : kitB "NoneType" "int" = some false := by decide +kernel
theorem kb_non_str : kitB "NoneType" "str" = some false := by decide +kernel
theorem kb_non_tuple : kitB "NoneType" "tuple" = some false := by decide +kernel
theorem kb_non_list : kitB "NoneType" "list" = some false := by decide +kernel
theorem b_int : bootBuiltins "int" = some (.type "int") := by decide +kernel
theorem b_bool : bootBuiltins "bool" = some (.type "bool") := by decide +kernel
theorem b_str : bootBuiltins "str" = some (.type "str") := by decide +kernel
theorem b_tuple : bootBuiltins "tuple" = some (.type "tuple") := by decide +kernel
theorem b_list : bootBuiltins "list" = some (.type "list") := by decide +kernel
theorem b_isi : bootBuiltins "isinstance" = some (.builtin "isinstance") := by decide +kernel
theorem b_len : bootBuiltins "len" = some (.builtin "len") := by decide +kernel
theorem b_abs : bootBuiltins "abs" = some (.builtin "abs") := by decide +kernel
theorem b_max : bootBuiltins "max" = some (.builtin "max") := by decide +kernel
theorem b_min : bootBuiltins "min" = some (.builtin "min") := by decide +kernel
/-! ### loops -/
theorem s_forR {nx : L2.St → Hp → Prop} {rt : VK} {bk ct : L2.St → Hp → Prop} {g : Nat} {N G : List Str} {sc : Scope} {x : Str} {i : Nat} {a : Expr} {body : List Stmt} {px p cp pos : Pos} (hm : X.mg "range" = none)
    (q : wE X a σ H fun v H1 => ∃ n : Nat, v = .int n ∧ n < 2 ^ 62 ∧ ∃ Pv : Nat → L2.St → Hp → Prop, Pv 0 σ H1 ∧ (∀ k σ H, k < n → Pv k σ H → wL X body ⟨Pv (k + 1), rt, nx, Pv (k + 1)⟩ (σ.set i (some (.int (k : Int)))) H) ∧ ∀ σ H, Pv n σ H → nx σ H)
    (I : In X N G sc := by assumption) (hc : X.calm = true := by rfl) (hA : At N i x := by repeat (first | with_reducible apply At.z | with_reducible apply At.s))
    (hG : At G g ("range" : Str) := by repeat (first | with_reducible apply At.z | with_reducible apply At.s)) (hs : starEach [a] X.env = [(false, eval a X.env)] := by rfl) (hs2 : ∀ z, foldedSetIterable (.Call (.Name "range" p) [a] [] cp) X.env z = pure z := by intro _; rfl)
    (hs1 : starEach (a :: []) X.env = (false, eval a X.env) :: starEach [] X.env := by rfl) :
    wS X (.For (.Name x px) (.Call (.Name "range" p) [a] [] cp) body [] pos) ⟨nx, rt, bk, ct⟩ σ H := by
  refine s_of (ps_for I.never hc (pi_range1 (I.g hG) hm (pa_cons pe pa_nil hs1) hs) (pg_name I.nd (I.hi hA) (I.loc hA) I.f) pl hs2) (e_mono q fun v H1 q1 => ?_)
  obtain ⟨n, rfl, hn, Pv, h0, hb, hd⟩ := q1
  refine ⟨(n : Int), rfl, by omega, by omega, ?_⟩
  rw [Int.toNat_natCast]
  refine for_range (n := n) Pv h0 (fun k σ H hk p => ?_) hd
  rw [Int.zero_add]
  exact hb k σ H hk p
theorem s_forL {nx : L2.St → Hp → Prop} {rt : VK} {bk ct : L2.St → Hp → Prop} {N G : List Str} {sc : Scope} {x : Str} {i : Nat} {a : Expr} {body : List Stmt} {px pos : Pos}
    (q : wE X a σ H fun v H1 => ∃ ad xs, v = .ref ad ∧ SqL X.K H1 ad xs ∧ ∃ Pv : Nat → L2.St → Hp → Prop, Pv 0 σ H1 ∧ (∀ k σ H, k ≤ xs.length → Pv k σ H → SqL X.K H ad xs) ∧ (∀ k y σ H, xs[k]? = some y → Pv k σ H → wL X body ⟨Pv (k + 1), rt, nx, Pv (k + 1)⟩ (σ.set i (some y)) H) ∧ ∀ σ H, Pv xs.length σ H → nx σ H)
    (I : In X N G sc := by assumption) (hc : X.calm = true := by rfl) (hA : At N i x := by repeat (first | with_reducible apply At.z | with_reducible apply At.s))
    (hs2 : ∀ z, foldedSetIterable a X.env z = pure z := by intro _; rfl) :
    wS X (.For (.Name x px) a body [] pos) ⟨nx, rt, bk, ct⟩ σ H := by
  refine s_of (ps_for I.never hc (pi_list pe) (pg_name I.nd (I.hi hA) (I.loc hA) I.f) pl hs2) (e_mono q fun v H1 q1 => ?_)
  obtain ⟨ad, xs, rfl, hl, Pv, h0, hk, hb, hd⟩ := q1
  exact ⟨ad, rfl, ⟨xs, hl⟩, for_list Pv h0 hk hb hd⟩
theorem s_forT {nx : L2.St → Hp → Prop} {rt : VK} {bk ct : L2.St → Hp → Prop} {N G : List Str} {sc : Scope} {x : Str} {i : Nat} {a : Expr} {body : List Stmt} {px pos : Pos}
    (q : wE X a σ H fun v H1 => ∃ ad xs, v = .ref ad ∧ SqT X.K H1 ad xs ∧ ∃ Pv : Nat → L2.St → Hp → Prop, Pv 0 σ H1 ∧ (∀ k σ H, k ≤ xs.length → Pv k σ H → SqT X.K H ad xs) ∧ (∀ k y σ H, xs[k]? = some y → Pv k σ H → wL X body ⟨Pv (k + 1), rt, nx, Pv (k + 1)⟩ (σ.set i (some y)) H) ∧ ∀ σ H, Pv xs.length σ H → nx σ H)
    (I : In X N G sc := by assumption) (hc : X.calm = true := by rfl) (hA : At N i x := by repeat (first | with_reducible apply At.z | with_reducible apply At.s))
    (hs2 : ∀ z, foldedSetIterable a X.env z = pure z := by intro _; rfl) :
    wS X (.For (.Name x px) a body [] pos) ⟨nx, rt, bk, ct⟩ σ H := by
  refine s_of (ps_for I.never hc (pi_tup pe) (pg_name I.nd (I.hi hA) (I.loc hA) I.f) pl hs2) (e_mono q fun v H1 q1 => ?_)
  obtain ⟨ad, xs, rfl, hl, Pv, h0, hk, hb, hd⟩ := q1
  exact ⟨ad, rfl, ⟨xs, hl⟩, for_tup Pv h0 hk hb hd⟩
/-! ### an own operator of an own class -/
theorem op_own {op : Operator} {k n : Nat} {C f : Addr} {fd : FuncData} {pn : List Str} {sp : Sp} (F : FnOk X.prog X.w X.K X.mg X.base CX0 k f fd pn sp) (hs : PySem.W.findIn X.K (.ref C) (PySem.dunder op.info.2) = some (some (.ref f))) (hf : PySem.W.isFn X.K (.ref f) = true)
    (hc : PySem.W.selfFirst X.K C = true) (hb : Binds X.K fd pn []) (hr : Room n X.A) (hk : k ≤ n) :
    OpR X (binaryOp op) (fun x y H Q => ∃ a b dx dy fs gs, x = .ref a ∧ y = .ref b ∧ H a = some (.ins C dx fs) ∧ H b = some (.ins C dy gs) ∧ sp [x, y] H (fun v H' => (∃ p, v = .ref p) ∧ Q v H') E0) := by
  intro pins s σ H x y u v Q I rx ry h
  obtain ⟨a, b, dx, dy, fs, gs, rfl, rfl, ha, hb', hsp⟩ := h
  cases rx
  cases ry
  obtain ⟨mA, J, _⟩ := ins_get I.hok ha
  obtain ⟨mB, J', _⟩ := ins_get I.hok hb'
  obtain ⟨od, J, _⟩ := J.look
  obtain ⟨od', J', _⟩ := J'.look
  obtain ⟨m, hF⟩ := I.fr
  refine PySem.W.binop_K hF I.ok.mod.kin J J'.type hc hs hf ?_
  refine wpAny_mono (run_fn (E := E0) F (hr.mono hk) hb .nil pass0 I (show Vals [V.ref a, V.ref b] [Value.ref a, Value.ref b] from .cons rfl (.cons rfl .nil)) (by rw [List.append_nil]; exact hsp)) (fun w s' z => ?_) fun _ _ z => z
  obtain ⟨v', H', I', rz, ⟨p, rfl⟩, q⟩ := z
  cases rz
  exact ⟨.ref p, H', I', rfl, q⟩
structure Op2 (P : Program) (w : World) (K : PySem.W.Frag) (mg : Str → Option Value) (base : Heap) (k : Nat) (C : Addr) (op : Operator) (sp : Sp) : Prop where
  ex : ∃ (f : Addr) (fd : FuncData) (pn : List Str), FnOk P w K mg base CX0 k f fd pn sp ∧ PySem.W.findIn K (.ref C) (PySem.dunder op.info.2) = some (some (.ref f)) ∧ PySem.W.isFn K (.ref f) = true ∧ PySem.W.selfFirst K C = true ∧ Binds K fd pn []
theorem o_own {op : Operator} {k n : Nat} {C a b dx dy : Addr} {fs gs : List (Str × V)} {sp : Sp} (F : Op2 X.prog X.w X.K X.mg X.base k C op sp) (hr : Room n X.A) (hk : k ≤ n) (ha : H a = some (.ins C dx fs)) (hb : H b = some (.ins C dy gs))
    (q : sp [.ref a, .ref b] H (fun v H' => (∃ p, v = .ref p) ∧ Q v H') E0) : wB X op (.ref a) (.ref b) H Q := by
  obtain ⟨f, fd, pn, G, hs, hf, hc, hb'⟩ := F.ex
  exact b_of (op_own G hs hf hc hb' hr hk) ⟨a, b, dx, dy, fs, gs, rfl, rfl, ha, hb, q⟩
end
/-! ### heaps -/
/-- all but a stays -/
def But (a : Addr) (H H' : Hp) : Prop := ∀ b o, b ≠ a → H b = some o → H' b = some o
theorem But.refl {a : Addr} {H : Hp} : But a H H := fun _ _ _ h => h
theorem But.trans {a : Addr} {H H1 H2 : Hp} (x : But a H H1) (y : But a H1 H2) : But a H H2 := fun b o n h => y b o n (x b o n h)
theorem But.of {a : Addr} {H H1 : Hp} (x : Same H H1) : But a H H1 := fun b o _ h => x b o h
theorem But.upd {a : Addr} {H H1 : Hp} {o : HO} (x : But a H H1) : But a H (L2.upd H1 a o) := fun b u n h => by
  rw [upd_ne n]
  exact x b u n h
theorem But.tup {a p : Addr} {H H1 : Hp} {l xs : List V} (x : But a H H1) (ha : H a = some (.lst l)) (hp : H p = some (.tup xs)) : H1 p = some (.tup xs) := x p _ (ne_of hp ha (by intro z; cases z)) hp
theorem But.ins {a p C dx : Addr} {H H1 : Hp} {l : List V} {fs : List (Str × V)} (x : But a H H1) (ha : H a = some (.lst l)) (hp : H p = some (.ins C dx fs)) : H1 p = some (.ins C dx fs) := x p _ (ne_of hp ha (by intro z; cases z)) hp
theorem But.frz {a p : Addr} {H H1 : Hp} {l : List V} {o : Obj} {u : HO} (x : But a H H1) (ha : H a = some (.lst l)) (hp : H p = some (.frz o u)) : H1 p = some (.frz o u) := x p _ (ne_of hp ha (by intro z; cases z)) hp
section
variable {P : Program} {w : World} {K : PySem.W.Frag} {mg : Str → Option Value} {base : Heap}
/-- a def of the module where the top has left it -/
structure Top (K : PySem.W.Frag) (mg : Str → Option Value) (x : Str) (st : Stmt) : Prop where
  ex : ∃ (f : Addr) (fd : FuncData), Fun K x x st f fd ∧ mg x = some (.ref f)
theorem top_mk {h : Heap} {x : Str} {st : Stmt} {f : Addr} {oc : Value} {od an : Option Addr} {osl : Array (Option Value)} {kV doc pm cdv ct : Value} (X : K.In h) (G : h.Ns mainGlobals mg) (a : PySem.W.nsIn K mainGlobals x = some (some (.ref f)))
    (l : K.lookup f = some ⟨oc, od, .func (PySem.W.fnOf x x (defArgs st) (defBody st) (defScope st) .none kV doc pm an cdv ct), osl⟩) (c : PySem.W.codeIn K cdv x = true) (k : PySem.W.keepIn K (.ref f) = true) : Top K mg x st :=
  ⟨f, _, fun_mk l c k, PySem.W.mg_of X G a⟩
theorem fn_ok {x : Str} {st : Stmt} {N G ps : List Str} {k : Nat} {sp : Sp} (T : Top K mg x st) (S : FnScope N ps (defScope st)) (O : ScOk N G (defScope st)) (len : ∀ vs H Q E, sp vs H Q E → vs.length = ps.length)
    (hb : ∀ (kV doc pm : Value) (an : Option Addr) (cdv ct : Value) (us : List Value), us.length = ps.length → bindArgs (PySem.W.fnOf x x (defArgs st) (defBody st) (defScope st) .none kV doc pm an cdv ct) ⟨us, []⟩ = pure (ps.zip us))
    (hbody : ∀ (f : Addr) (cdv : Value) (A : Around) (outer : List Env) (s : Shared) (H : Hp) (vs : List V) (Q : VK) (E : XK), Room k (A.deeper (envOfC x (defScope st) s.heap.objs.size f cdv)) → sp vs H Q E → In (cxOf CX0 P w K mg base N x (defScope st) f cdv A outer s H E).nox N G (defScope st) →
      wL (cxOf CX0 P w K mg base N x (defScope st) f cdv A outer s H E).nox (defBody st) { nx := fun _ H' => Q .non H', rt := Q } (start N vs) H) : Fn P w K mg base (k + 1) x sp := by
  obtain ⟨f, fd, F, hm⟩ := T.ex
  exact ⟨f, fd, ps, F.ok S len (fun cdv A outer s H vs Q E hr h => ⟨_, pl, hbody f cdv A outer s H vs Q E hr h ⟨O, ⟨[], (List.append_nil _).symm⟩, S.nd, rfl, rfl, PassesOwn.never⟩⟩), hm, F.kp, F.binds hb⟩
/-- a method where the top has left it -/
structure TopM (K : PySem.W.Frag) (C : Addr) (x qual : Str) (st : Stmt) : Prop where
  ex : ∃ (f : Addr) (fd : FuncData), Fun K x qual st f fd ∧ PySem.W.findIn K (.ref C) x = some (some (.ref f)) ∧ PySem.W.isFn K (.ref f) = true
theorem topM_mk {x qual : Str} {st : Stmt} {C f : Addr} {oc : Value} {od an : Option Addr} {osl : Array (Option Value)} {kV doc pm cdv ct : Value} (a : PySem.W.findIn K (.ref C) x = some (some (.ref f))) (i : PySem.W.isFn K (.ref f) = true)
    (l : K.lookup f = some ⟨oc, od, .func (PySem.W.fnOf x qual (defArgs st) (defBody st) (defScope st) .none kV doc pm an cdv ct), osl⟩) (c : PySem.W.codeIn K cdv qual = true) (k : PySem.W.keepIn K (.ref f) = true) : TopM K C x qual st :=
  ⟨f, _, fun_mk l c k, a, i⟩
theorem me_ok {x qual : Str} {C : Addr} {st : Stmt} {N G ps : List Str} {k : Nat} {sp : Sp} (T : TopM K C x qual st) (S : FnScope N ps (defScope st)) (O : ScOk N G (defScope st)) (len : ∀ vs H Q E, sp vs H Q E → vs.length = ps.length)
    (hb : ∀ (kV doc pm : Value) (an : Option Addr) (cdv ct : Value) (us : List Value), us.length = ps.length → bindArgs (PySem.W.fnOf x qual (defArgs st) (defBody st) (defScope st) .none kV doc pm an cdv ct) ⟨us, []⟩ = pure (ps.zip us))
    (hbody : ∀ (f : Addr) (cdv : Value) (A : Around) (outer : List Env) (s : Shared) (H : Hp) (vs : List V) (Q : VK) (E : XK), Room k (A.deeper (envOfC qual (defScope st) s.heap.objs.size f cdv)) → sp vs H Q E → In (cxOf CX0 P w K mg base N qual (defScope st) f cdv A outer s H E).nox N G (defScope st) →
      wL (cxOf CX0 P w K mg base N qual (defScope st) f cdv A outer s H E).nox (defBody st) { nx := fun _ H' => Q .non H', rt := Q } (start N vs) H) :
    ∃ (f : Addr) (fd : FuncData), FnOk P w K mg base CX0 (k + 1) f fd ps sp ∧ Binds K fd ps [] ∧ PySem.W.findIn K (.ref C) x = some (some (.ref f)) ∧ PySem.W.isFn K (.ref f) = true ∧ PySem.W.keepIn K (.ref f) = true := by
  obtain ⟨f, fd, F, hf, hi⟩ := T.ex
  exact ⟨f, fd, F.ok S len (fun cdv A outer s H vs Q E hr h => ⟨_, pl, hbody f cdv A outer s H vs Q E hr h ⟨O, ⟨[], (List.append_nil _).symm⟩, S.nd, rfl, rfl, PassesOwn.never⟩⟩), F.binds hb, hf, hi, F.kp⟩
end
/-- a bool test that is decided by a fact -/
theorem ifT {c A B : Prop} [Decidable c] (hc : c) (h : A) : if decide c = true then A else B := by
  rw [decide_eq_true hc]
  exact iteT h
theorem ifF {c A B : Prop} [Decidable c] (hc : ¬ c) (h : B) : if decide c = true then A else B := by
  rw [decide_eq_false hc]
  exact iteF h
theorem if2 {c A B : Prop} [Decidable c] (h1 : c → A) (h2 : ¬ c → B) : if decide c = true then A else B := by
  by_cases h : c
  · exact ifT h (h1 h)
  · exact ifF h (h2 h)
theorem ite_t {c : Bool} {A B : Prop} (hc : c = true) (h : A) : if c = true then A else B := by
  rw [hc]
  exact iteT h
theorem ite_f {c : Bool} {A B : Prop} (hc : c = false) (h : B) : if c = true then A else B := by
  rw [hc]
  exact iteF h
section
variable {P : Program} {w : World} {K : PySem.W.Frag} {mg : Str → Option Value} {base : Heap}
theorem run_ok {x qual : Str} {st : Stmt} {N G ps : List Str} {k : Nat} {sp : Sp} {f : Addr} {fd : FuncData} (F : Fun K x qual st f fd) (S : FnScope N ps (defScope st)) (O : ScOk N G (defScope st)) (len : ∀ vs H Q E, sp vs H Q E → vs.length = ps.length)
    (hbody : ∀ (f : Addr) (cdv : Value) (A : Around) (outer : List Env) (s : Shared) (H : Hp) (vs : List V) (Q : VK) (E : XK), Room k (A.deeper (envOfC qual (defScope st) s.heap.objs.size f cdv)) → sp vs H Q E → In (cxOf CX0 P w K mg base N qual (defScope st) f cdv A outer s H E).nox N G (defScope st) →
      wL (cxOf CX0 P w K mg base N qual (defScope st) f cdv A outer s H E).nox (defBody st) { nx := fun _ H' => Q .non H', rt := Q } (start N vs) H) : FnOk P w K mg base CX0 (k + 1) f fd ps sp :=
  F.ok S len (fun cdv A outer s H vs Q E hr h => ⟨_, pl, hbody f cdv A outer s H vs Q E hr h ⟨O, ⟨[], (List.append_nil _).symm⟩, S.nd, rfl, rfl, PassesOwn.never⟩⟩)
end
end Wk

/-! My own layer, errors: an own class of errors with fields, raised, caught, asked. -/
namespace Wk
open PySem PySem.Spec PyProof.Rows L2
section
variable {X : Cx} {N G : List Str} {sc : Scope} {e o : Expr} {es : List Expr} {σ : L2.St} {H : Hp} {Q : VK} {pos p0 np : Pos}
theorem o_isN {x : V} (q : Q (.bl (decide (x = .non))) H) : wK X .Is x .non H Q := k_of op_isN ⟨rfl, q⟩
theorem o_nisB {a b : Bool} (q : Q (.bl (!decide (a = b))) H) : wK X .IsNot (.bl a) (.bl b) H Q := k_of op_isnot_bl ⟨a, b, rfl, rfl, q⟩
/-- a def of the module that may raise -/
structure FnX (P : Program) (w : World) (K : PySem.W.Frag) (mg : Str → Option Value) (base : Heap) (k : Nat) (x : Str) (sp : Sp) : Prop where
  ex : ∃ (f : Addr) (fd : FuncData) (ps : List Str), FnOk P w K mg base (L2.CX P w) k f fd ps sp ∧ mg x = some (.ref f) ∧ PySem.W.keepIn K (.ref f) = true ∧ Binds K fd ps []
theorem e_callX {g k n : Nat} {x : Str} {sp : Sp} {W : WX} (F : FnX X.prog X.w X.K X.mg X.base k x sp) (tk : Takes X W) (hr : Room n X.A) (hk : k ≤ n) (q : wA X (e :: es) σ H fun vs H1 => sp vs H1 Q (fun cls d H' => W cls d σ H'))
    (I : In X N G sc := by assumption) (hG : At G g x := by repeat (first | with_reducible apply At.z | with_reducible apply At.s)) (he : starEach (e :: es) X.env = (false, eval e X.env) :: starEach es X.env := by rfl) (hpl : (backTo pos (starEach es X.env)).any (·.1) = false := by rfl) :
    wE X (.Call (.Name x p0) (e :: es) [] pos) σ H Q := by
  obtain ⟨f, fd, ps, F0, hm, hkp, hb⟩ := F.ex
  refine e_of (pe_callSD (E := fun σ cls d H' => W cls d σ H') F0 (hr.mono hk) (I.g hG) hm hkp hb .nil (fun σ => passAt tk σ) pa (I.gd hG) he hpl) ?_
  show wA X (e :: es) σ H fun vs H1 => sp (vs ++ []) H1 Q (fun cls d H' => W cls d σ H')
  simp only [List.append_nil]
  exact q
/-- an own class of errors whose __init__ stores its one argument in the field f -/
def sp1 (C : Addr) (f : Str) : Sp := fun vs H Q _ => ∃ (a : Addr) (v : V), vs = [.ref a, v] ∧ H a = some (exo a C none) ∧ ∀ dx, H dx = none → dx ≠ a → Q .non (upd (upd H dx (exd dx [(f, v)])) a (exo a C (some dx)))
structure Er (P : Program) (w : World) (K : PySem.W.Frag) (mg : Str → Option Value) (base : Heap) (x : Str) (C : Addr) (f : Str) : Prop where
  o : OexC K C
  mgC : mg x = some (.ref C)
  ex : ∃ (fI : Addr) (fd : FuncData) (ps : List Str), FnOk P w K mg base CX0 1 fI fd ps (sp1 C f) ∧ PySem.W.findIn K (.ref C) "__init__" = some (some (.ref fI)) ∧ PySem.W.typeIn K (.ref fI) = some (.type "function") ∧ Binds K fd ps []
/-- self.f = e of an error that is being made -/
theorem s_ost {nx : L2.St → Hp → Prop} {rt : VK} {bk ct : L2.St → Hp → Prop} {f : Str} {value : Expr} {pos' : Pos} (q : wE X value σ H fun y H1 => wE X o σ H1 fun x H2 => ∃ a C : Addr, x = .ref a ∧ OexC X.K C ∧ PySem.W.findIn X.K (.ref C) f = some none ∧ H2 a = some (exo a C none) ∧ ∀ dx, H2 dx = none → dx ≠ a → nx σ (upd (upd H2 dx (exd dx [(f, y)])) a (exo a C (some dx))))
    (hs : swapsWith value (some (.Attribute o f pos')) pos.line X.env = pure false := by rfl) : wS X (.Assign [.Attribute o f pos'] value pos) ⟨nx, rt, bk, ct⟩ σ H :=
  s_of (ps_ost pe pe hs) (e_mono q fun y H1 z => e_mono z fun x H2 ⟨a, C, h1, h2, h3, h4, h5⟩ => ⟨a, C, h1, h2, h3, .inl ⟨h4, h5⟩⟩)
/-- raise C(e) -/
theorem s_raise1 {nx : L2.St → Hp → Prop} {rt : VK} {bk ct : L2.St → Hp → Prop} {g n : Nat} {x f : Str} {C : Addr} {W : WX} {pos' : Pos} (R : Er X.prog X.w X.K X.mg X.base x C f) (tk : Takes X W) (hr : Room n X.A) (hn : 2 ≤ n)
    (q : wE X e σ H fun v H1 => ∀ d H', Same H1 H' → H1 d = none → H' d = some (.xd [(f, v)]) → W (.ref C) (some d) σ H')
    (I : In X N G sc := by assumption) (hG : At G g x := by repeat (first | with_reducible apply At.z | with_reducible apply At.s)) (hc : X.calm = true := by rfl)
    (he : starEach (e :: []) X.env = (false, eval e X.env) :: starEach [] X.env := by rfl) (hpl : (backTo pos (starEach [] X.env)).any (·.1) = false := by rfl) :
    wS X (.Raise (some (.Call (.Name x p0) [e] [] pos)) none pos') ⟨nx, rt, bk, ct⟩ σ H := by
  obtain ⟨fI, fd, ps, F0, hi, ht, hb⟩ := R.ex
  refine s_of (ps_raise hc tk (pmk_oex R.o hi ht F0 (hr.mono hn) hb .nil pass0 (I.g hG) R.mgC pa (I.gd hG) he hpl)) ?_
  refine a_cons (e_mono q fun v H1 z => a_nil ⟨by show 1 ≤ 1000; decide, fun a na => ?_⟩) he
  refine ⟨a, v, rfl, upd_same, fun dx nd ne => ⟨rfl, dx, [(f, v)], upd_same, ?_, ?_, ?_⟩⟩
  · rw [upd_ne ne, upd_same]
  · rw [upd_ne ne] at nd
    exact nd
  · refine z dx _ (fun b u hb => ?_) (by rw [upd_ne ne] at nd; exact nd) upd_same
    have h1 : b ≠ a := ne_of_none hb na
    have h2 : b ≠ dx := ne_of_none hb (by rw [upd_ne ne] at nd; exact nd)
    rw [upd_ne h2, del_ne h1, upd_ne h1, upd_ne h2, upd_ne h1]
    exact hb
/-- the suite of an except clause -/
def tsS (X : Cx) (N G : List Str) (sc : Scope) (sts : List Stmt) : Addr → Value → Option Addr → TS := fun a cls d D σ H => ∀ (oe : Obj) (pn : List (Addr × Obj)), Zc cls d oe → (∃ vs, oe.data = .fields vs) → In (X.suite a ((a, oe) :: pn)) N G sc → wL (X.suite a ((a, oe) :: pn)) sts D σ H
theorem In.tr (I : In X N G sc) {pn : List (Addr × Obj)} {xe : Value → Shared → Prop} (h : PassesOwn (model X.prog X.w) X.A X.env xe) : In (X.tr pn xe) N G sc := ⟨I.ok, I.n, I.nd, I.sc, I.fn, h⟩
theorem In.suite (I : In X N G sc) {a : Addr} {pn : List (Addr × Obj)} : In (X.suite a pn) N G sc := ⟨I.ok, I.n, I.nd, I.sc, I.fn, PassesOwn.never⟩
/-- try: body, except x as n: suite -/
theorem s_tryAs {nx : L2.St → Hp → Prop} {rt : VK} {bk ct : L2.St → Hp → Prop} {i g : Nat} {x n : Str} {c : Value} {body suite : List Stmt} {b0 : Stmt} {pos' : Pos} {Wout : WX} (hm : X.mg x = some c) (tk : Takes X Wout)
    (q : ∀ (pn : List (Addr × Obj)) (xe : Value → Shared → Prop), Takes (X.tr pn xe) (wAs X.K c i (tsS X N G sc (b0 :: suite)) Wout ⟨nx, rt, bk, ct⟩) → In (X.tr pn xe) N G sc → wL (X.tr pn xe) body ⟨nx, rt, bk, ct⟩ σ H)
    (I : In X N G sc := by assumption) (hA : At N i n := by repeat (first | with_reducible apply At.z | with_reducible apply At.s)) (hG : At G g x := by repeat (first | with_reducible apply At.z | with_reducible apply At.s))
    (hln : X.env.kindOf n = some .local := by rfl) (hs : X.stack = X.env :: X.outer := by rfl) (hf : X.env.frame = some X.env.locals := by rfl) :
    wS X (.Try body [.ExceptHandler (some (.Name x np)) (some n) (b0 :: suite) pos'] [] [] pos) ⟨nx, rt, bk, ct⟩ σ H :=
  s_of (ps_try_as (tb := fun W D σ H => ∀ (pn : List (Addr × Obj)) (xe : Value → Shared → Prop), Takes (X.tr pn xe) W → In (X.tr pn xe) N G sc → wL (X.tr pn xe) body D σ H) hs hf I.nd (I.hi hA) hln ⟨I.g hG, I.gd hG, .inl hm⟩ tk
    (fun W pn xe tk' po => ⟨fun pins s σ H D Iv h => pl.run pins s σ H D Iv (h pn xe tk' (I.tr po))⟩)
    (fun a oe cls d pn hz hd => ⟨fun pins s σ H D Iv h => pl.run pins s σ H D Iv (h oe pn hz hd I.suite)⟩)) q
/-- what the class D must say, so that isinstance asks its errors rightly -/
structure EcC (K : PySem.W.Frag) (D : Addr) : Prop where
  cl : (PySem.W.clsIn K D).isSome = true
  hg : PySem.W.findIn K (.ref D) "__getattribute__" = some (some (.builtin "BaseException.__getattribute__"))
  hk : PySem.W.findIn K (.ref D) "__getattr__" = some none
  hs : PySem.W.subIn K (.ref D) (.type "BaseException") = some true
  ha : PySem.W.findIn K (.ref D) "__class__" = some (some (.builtin "object.__class__"))
  hn : PySem.W.specialIn K (.builtin "object.__class__") "__get__" = some (some (.builtin "getset_descriptor.__get__"))
  ht : PySem.W.takesIn K (.builtin "object.__class__") = some true
  hm : PySem.W.mroIn K D (.type "object") = some true
/-- the caught error at a stands as an instance -/
theorem inst_of {pins : List (Addr × Obj)} {s : Shared} {a D : Addr} {d : Option Addr} {oe : Obj} {pn : List (Addr × Obj)} {fs : List (Str × V)} (I : Inv (X.suite a ((a, oe) :: pn)) pins σ H s) (hz : Zc (.ref D) d oe) (hf : ∃ vs, oe.data = .fields vs)
    (hd : ∀ dd, d = some dd → H dd = some (.xd fs)) : ∃ od, PySem.W.InstAt s.heap a oe D od := by
  obtain ⟨hget, _⟩ := I.pin (a, oe) (List.mem_append.mpr (.inl List.mem_cons_self))
  obtain ⟨vs, hv⟩ := hf
  have nc : PySem.W.notCls oe := by unfold PySem.W.notCls; rw [hv] <;> trivial
  cases d with
  | none => exact ⟨none, hget, hz.1, nc, by rw [hz.2]; trivial⟩
  | some dd =>
    obtain ⟨mA, hns, _⟩ := (show ObjOk X.prog X.w H s.heap dd (.xd fs) from I.hok dd _ (hd dd rfl))
    obtain ⟨od, ho, _⟩ := lookIn_ns hns
    exact ⟨some od, hget, hz.1, nc, by rw [hz.2]; exact ho⟩
theorem c_isE {a D : Addr} {d : Option Addr} {oe : Obj} {pn : List (Addr × Obj)} {fs : List (Str × V)} {c : V} {cv : Value} {b : Bool} (C : EcC X.K D) (hz : Zc (.ref D) d oe) (hf : ∃ vs, oe.data = .fields vs) (hd : ∀ dd, d = some dd → H dd = some (.xd fs))
    (k : ClsV c cv) (e : PySem.W.kitOne X.K (.ref D) cv = some b) (q : Q (.bl b) H) : wC (X.suite a ((a, oe) :: pn)) (.builtin "isinstance") [.ref a, c] H Q := by
  unfold wC
  intro pins s σ us I r
  obtain ⟨u1, u2, rfl, r1, r2⟩ := vals2 r
  cases (show u1 = Value.ref a from r1)
  have ec := k.eq r2
  subst ec
  obtain ⟨od, J⟩ := inst_of I hz hf hd
  exact PySem.W.kia_one (PySem.W.kitx_exc (od := od) C.cl C.hg C.hk C.hs C.ha C.hn C.ht C.hm) I.kIn J e (fun z => nomatch z) fun tk => ⟨.bl b, H, I.tok tk, rfl, q⟩
theorem c_isET {a D tp : Addr} {d : Option Addr} {oe : Obj} {pn : List (Addr × Obj)} {fs : List (Str × V)} {cs : List V} {us' : List Value} {b : Bool} (C : EcC X.K D) (hz : Zc (.ref D) d oe) (hf : ∃ vs, oe.data = .fields vs) (hd : ∀ dd, d = some dd → H dd = some (.xd fs))
    (hT : H tp = some (.tup cs)) (k : Paired ClsV cs us') (e : PySem.W.kitAny X.K (.ref D) us' = some b) (q : Q (.bl b) H) : wC (X.suite a ((a, oe) :: pn)) (.builtin "isinstance") [.ref a, .ref tp] H Q := by
  unfold wC
  intro pins s σ us I r
  obtain ⟨u1, u2, rfl, r1, r2⟩ := vals2 r
  cases (show u1 = Value.ref a from r1)
  cases (show u2 = Value.ref tp from r2)
  obtain ⟨od, J⟩ := inst_of I hz hf hd
  obtain ⟨_, its, rv, o, h1, h2, n, h3⟩ := (show ObjOk X.prog X.w H s.heap tp (.tup cs) from I.hok tp _ hT)
  have e3 := ClsV.all k rv
  subst e3
  obtain ⟨oc, odd, dt, sl⟩ := o
  simp only at h2 h3
  subst h2 h3
  exact PySem.W.kia_tup (PySem.W.kitx_exc (od := od) C.cl C.hg C.hk C.hs C.ha C.hn C.ht C.hm) I.kIn J h1 e (fun z => nomatch z) fun tk => ⟨.bl b, H, I.tok tk, rfl, q⟩
/-- e.f of the caught error -/
theorem e_xf {a C : Addr} {oe : Obj} {d : Option Addr} {pn : List (Addr × Obj)} {f : Str} (T : XfC X.K C) (hno : PySem.W.findIn X.K (.ref C) f = some none) (hz : Zc (.ref C) d oe) (hf : ∃ vs, oe.data = .fields vs)
    (q : wE (X.suite a ((a, oe) :: pn)) e σ H fun x H1 => x = .ref a ∧ ∃ (dd : Addr) (fs : List (Str × V)) (v : V), d = some dd ∧ H1 dd = some (.xd fs) ∧ fs.lookup f = some v ∧ Q v H1) (hb : attributeBase e f X.env (eval e X.env) = eval e X.env := by rfl) :
    wE (X.suite a ((a, oe) :: pn)) (.Attribute e f pos) σ H Q := e_of (pe_xf T hno hz hf pe hb) (e_mono q fun x H1 z => ⟨z.1, rfl, z.2⟩)
end
section
variable {P : Program} {w : World} {K : PySem.W.Frag} {mg : Str → Option Value} {base : Heap}
theorem fn_okX {x : Str} {st : Stmt} {N G ps : List Str} {k : Nat} {sp : Sp} (T : Top K mg x st) (S : FnScope N ps (defScope st)) (O : ScOk N G (defScope st)) (len : ∀ vs H Q E, sp vs H Q E → vs.length = ps.length)
    (hb : ∀ (kV doc pm : Value) (an : Option Addr) (cdv ct : Value) (us : List Value), us.length = ps.length → bindArgs (PySem.W.fnOf x x (defArgs st) (defBody st) (defScope st) .none kV doc pm an cdv ct) ⟨us, []⟩ = pure (ps.zip us))
    (hbody : ∀ (f : Addr) (cdv : Value) (A : Around) (outer : List Env) (s : Shared) (H : Hp) (vs : List V) (Q : VK) (E : XK), Room k (A.deeper (envOfC x (defScope st) s.heap.objs.size f cdv)) → sp vs H Q E → In (cxOf (L2.CX P w) P w K mg base N x (defScope st) f cdv A outer s H E) N G (defScope st) →
      Takes (cxOf (L2.CX P w) P w K mg base N x (defScope st) f cdv A outer s H E) (fun cls d _ H => E cls d H) →
      wL (cxOf (L2.CX P w) P w K mg base N x (defScope st) f cdv A outer s H E) (defBody st) { nx := fun _ H' => Q .non H', rt := Q } (start N vs) H) : FnX P w K mg base (k + 1) x sp := by
  obtain ⟨f, fd, F, hm⟩ := T.ex
  exact ⟨f, fd, ps, F.okX S len (fun cdv A outer s H vs Q E hr h => ⟨_, pl, hbody f cdv A outer s H vs Q E hr h ⟨O, ⟨[], (List.append_nil _).symm⟩, S.nd, rfl, rfl, passes_of rfl⟩ (takes_of rfl rfl rfl rfl)⟩), hm, F.kp, F.binds hb⟩
end
end Wk

/-! My own layer, errors whose context is None: raised where nothing is handled, so that defs may be called in the suite that catches them. -/
namespace Wk
open PySem PySem.Spec PyProof.Rows L2
section
variable {X : Cx} {N G : List Str} {sc : Scope} {e o : Expr} {es : List Expr} {σ : L2.St} {H : Hp} {Q : VK} {pos p0 np : Pos}
/-- C(e) of a class whose __init__ stores one field: the made error's fields are known -/
theorem pmkN {n : Nat} {x f : Str} {C : Addr} (R : Er X.prog X.w X.K X.mg X.base x C f) (hr : Room n X.A) (hn : 2 ≤ n) (hg : Gl X x) (hdb : (x == ("__debug__" : Str)) = false)
    (he : starEach (e :: []) X.env = (false, eval e X.env) :: starEach [] X.env) (hpl : (backTo pos (starEach [] X.env)).any (·.1) = false) :
    L2N.PMk X (.Call (.Name x p0) [e] [] pos) (fun σ H Q => wE X e σ H fun v H1 => ∀ d H', Same H1 H' → H1 d = none → H' d = some (.xd [(f, v)]) → Q (.ref C) (some d) H') := by
  intro pins s σ H Q I h
  obtain ⟨fI, fd, ps, F0, hi, ht, hb⟩ := R.ex
  obtain ⟨_, _, _, _, bm, _, _, _, _, _, _, _, _, _, _, hC, hbm⟩ := R.o.cls
  refine wpAny_Call_Name_kw (ld_glob I hg R.mgC ?_ hdb)
  refine PySem.W.callWith_K (h₀ := X.base) I.ok.mod.kin R.o.kC (thn ((pa_cons pe pa_nil he).run pos pins s σ H (fun vs H1 => ∃ v, vs = [v] ∧ ∀ d H', Same H1 H' → H1 d = none → H' d = some (.xd [(f, v)]) → Q (.ref C) (some d) H') I (e_mono h fun v H1 z => ⟨v, rfl, z⟩)) fun us s1 ⟨vs, H1, I1, r1, v, ev, q1⟩ => ⟨I1.kIn, ?_⟩) he hpl
  subst ev
  show wpAny _ _ (call (.ref C) us) _ _ _
  obtain ⟨hp, g, dr, tk, os⟩ := s1
  have hget0 : ((hp.push (PySem.W.kdv_tup us)).push (PySem.HandSPX.excO C hp.objs.size)).get? (hp.objs.size + 1) = some (PySem.HandSPX.excO C hp.objs.size) := by heap_get
  let a := hp.objs.size + 1
  have na : H1 a = none := I1.hok.fresh (Nat.le_succ _)
  let hp2 := (hp.push (PySem.W.kdv_tup us)).push (PySem.HandSPX.excO C hp.objs.size)
  have kk : ∀ b o, hp.get? b = some o → hp2.get? b = some o := fun b o z => Heap.get?_push_of_some _ (Heap.get?_push_of_some _ z)
  have hget : hp2.get? a = some (PySem.HandSPX.excO C hp.objs.size) := hget0
  have I2 : Inv X pins σ (upd H1 a (exo a C none)) ⟨hp2, g, dr, tk, os⟩ := I1.laid (t' := tk) (h' := hp2) kk (Nat.le_succ _) (exo_ok hget)
  have r2 : Vals (V.ref a :: [v]) (Value.ref a :: us) := .cons rfl r1
  have lu : us.length = 1 := r1.length.symm
  -- what __init__ is asked for
  have hq : sp1 C f [.ref a, v] (upd H1 a (exo a C none)) (fun w H2 => w = .non ∧ ∃ d, H2 a = some (exo a C (some d)) ∧ H2 d = some (exd d [(f, v)]) ∧ H1 d = none ∧ Q (.ref C) (some d) (upd (del H2 a) d (.xd [(f, v)]))) (fun _ _ _ => False) := by
    refine ⟨a, v, rfl, upd_same, fun dx nd ne => ⟨rfl, dx, upd_same, by rw [upd_ne ne, upd_same], by rw [upd_ne ne] at nd; exact nd, ?_⟩⟩
    rw [upd_ne ne] at nd
    refine q1 dx _ (fun b u hb => ?_) nd upd_same
    have h1 : b ≠ a := ne_of_none hb na
    have h2 : b ≠ dx := ne_of_none hb nd
    rw [upd_ne h2, del_ne h1, upd_ne h1, upd_ne h2, upd_ne h1]
    exact hb
  have lp : (Value.ref a :: us).length = ps.length := by
    have z1 := r2.length
    rw [F0.len _ _ _ _ hq] at z1
    exact z1.symm
  have bind : BindsTo ⟨hp2, g, dr, tk, os⟩ fd ⟨Value.ref a :: us, []⟩ (ps.zip (Value.ref a :: us)) := by
    have z1 := hb ⟨hp2, g, dr, tk, os⟩ (Value.ref a :: us) I2.kIn (by rw [List.append_nil]; exact lp)
    rwa [List.append_nil] at z1
  have room : Room 1 (X.A.under (.builtin "type.__call__" ⟨.ref C :: us, []⟩)) := (hr.mono hn).make C us []
  have go := F0.run _ X.stack _ _ ⟨Value.ref a :: us, []⟩ (Value.ref a :: us) [V.ref a, v] _ (fun _ _ _ => False) room (I2.env0.make C us []) bind r2 hq
  refine wpAny_call (PySem.HandSPX.call_own F.excBase_ValueError (fun Y => PySem.HandSPX.refsVE_contains Y bm hbm) (I1.kIn _ _ hC) (PySem.W.looks_findIn I1.kIn hi) (fun self => PySem.W.bind_fn I1.kIn self ht) (by rw [lu, sizeLine_eq]; decide) (codeAny_mono go fun r s' back => ?_))
  cases r with
  | error er => exact False.elim back
  | ok fl =>
    cases fl with
    | ret u =>
      obtain ⟨w, H2, o2, b2, un2, ok2, rw2, ew, d, ea, ed, nd1, q2⟩ := back
      subst ew
      obtain ⟨h2, g2, d2, t2, os'⟩ := s'
      obtain ⟨t0, Gh, J, kG, ge, hoe, nH⟩ := mk_end0 (d2 := d2) (t2 := t2) I1 (Nat.le_succ _) kk un2 ok2 o2 b2 ea ed nd1
      refine ⟨rw2, a, _, #[.ref t0, .none, .none, .none, .bool false, .none], ⟨Gh, g2, d2, t2, os'⟩, _, .ref C, some d, rfl, J, kG, ge, hoe, ⟨rfl, rfl, ?_⟩, rfl, rfl, nH, rfl, b2, raises_own R.o.exC R.o.tyC, q2⟩
      intro vs z
      cases z
      rfl
    | next => exact False.elim back
    | brk => exact False.elim back
    | cont => exact False.elim back

theorem e_dict (q : ∀ p H2, Same H H2 → H p = none → H2 p = some (.dK []) → Q (.ref p) H2) : wE X (.Dict [] [] pos) σ H Q :=
  e_of pe_dnewK fun p np => q p _ (fun b u eo => by rw [upd_ne (ne_of_none eo np)]; exact eo) np upd_same
theorem e_neg {a : Expr} (q : wE X a σ H fun x H1 => ∃ i, x = .int i ∧ Q (.int (-i)) H1) : wE X (.UnaryOp .USub a pos) σ H Q := e_of (pe_un un_neg pe) q
theorem o_cat {l b : Addr} {xs zs : List V} (h1 : H l = some (.lst xs)) (h2 : H b = some (.lst zs)) (hz : xs.length + zs.length ≤ sizeLine) (q : ∀ p H2, Same H H2 → H2 p = some (.lst (xs ++ zs)) → Q (.ref p) H2) : wB X .Add (.ref l) (.ref b) H Q :=
  b_of op_cat ⟨l, b, xs, zs, rfl, rfl, h1, h2, hz, fun p np => q p _ (fun c u eo => by rw [upd_ne (ne_of_none eo np)]; exact eo) upd_same⟩
theorem c_str {i : Int} (hl : i.natAbs.log2 < 1920) (q : Q (.str (toString i)) H) : wC X (.type "str") [.int i] H Q := c_of call_str_int ⟨i, rfl, hl, q⟩
theorem o_isB {a b : Bool} (q : Q (.bl (decide (a = b))) H) : wK X .Is (.bl a) (.bl b) H Q := k_of op_is_bl ⟨a, b, rfl, rfl, q⟩
/-- raise C(e), where nothing is handled -/
theorem s_raiseN {nx : L2.St → Hp → Prop} {rt : VK} {bk ct : L2.St → Hp → Prop} {g n : Nat} {x f : Str} {C : Addr} {W : WX} {pos' : Pos} (R : Er X.prog X.w X.K X.mg X.base x C f) (tk : L2N.Takes X W) (hr : Room n X.A) (hn : 2 ≤ n)
    (q : wE X e σ H fun v H1 => ∀ d H', Same H1 H' → H1 d = none → H' d = some (.xd [(f, v)]) → W (.ref C) (some d) σ H')
    (I : In X N G sc := by assumption) (hG : At G g x := by repeat (first | with_reducible apply At.z | with_reducible apply At.s)) (hc : X.calm = true := by rfl)
    (he : starEach (e :: []) X.env = (false, eval e X.env) :: starEach [] X.env := by rfl) (hpl : (backTo pos (starEach [] X.env)).any (·.1) = false := by rfl) :
    wS X (.Raise (some (.Call (.Name x p0) [e] [] pos)) none pos') ⟨nx, rt, bk, ct⟩ σ H :=
  s_of (L2N.ps_raise hc tk (pmkN R hr hn (I.g hG) (I.gd hG) he hpl)) q
/-- a def of the module that may raise so -/
structure FnN (P : Program) (w : World) (K : PySem.W.Frag) (mg : Str → Option Value) (base : Heap) (k : Nat) (x : Str) (sp : Sp) : Prop where
  ex : ∃ (f : Addr) (fd : FuncData) (ps : List Str), FnOk P w K mg base (L2N.CX P w) k f fd ps sp ∧ mg x = some (.ref f) ∧ PySem.W.keepIn K (.ref f) = true ∧ Binds K fd ps []
theorem e_callN {g k n : Nat} {x : Str} {sp : Sp} {W : WX} (F : FnN X.prog X.w X.K X.mg X.base k x sp) (tk : L2N.Takes X W) (hr : Room n X.A) (hk : k ≤ n) (q : wA X (e :: es) σ H fun vs H1 => sp vs H1 Q (fun cls d H' => W cls d σ H'))
    (I : In X N G sc := by assumption) (hG : At G g x := by repeat (first | with_reducible apply At.z | with_reducible apply At.s)) (he : starEach (e :: es) X.env = (false, eval e X.env) :: starEach es X.env := by rfl) (hpl : (backTo pos (starEach es X.env)).any (·.1) = false := by rfl) :
    wE X (.Call (.Name x p0) (e :: es) [] pos) σ H Q := by
  obtain ⟨f, fd, ps, F0, hm, hkp, hb⟩ := F.ex
  refine e_of (pe_callSD (E := fun σ cls d H' => W cls d σ H') F0 (hr.mono hk) (I.g hG) hm hkp hb .nil (fun σ => L2N.passAt tk σ) pa (I.gd hG) he hpl) ?_
  show wA X (e :: es) σ H fun vs H1 => sp (vs ++ []) H1 Q (fun cls d H' => W cls d σ H')
  simp only [List.append_nil]
  exact q
/-- the suite of an except clause that catches such an error -/
def tsN (X : Cx) (N G : List Str) (sc : Scope) (sts : List Stmt) : Addr → Value → Option Addr → TS := fun a cls d D σ H => ∀ (oe : Obj) (pn : List (Addr × Obj)), Zc cls d oe → (∃ vs, oe.data = .fields vs) → In (X.suite a ((a, oe) :: pn)) N G sc → L2H.HotC (X.suite a ((a, oe) :: pn)) → wL (X.suite a ((a, oe) :: pn)) sts D σ H
theorem s_tryN {nx : L2.St → Hp → Prop} {rt : VK} {bk ct : L2.St → Hp → Prop} {i g : Nat} {x n : Str} {c : Value} {body suite : List Stmt} {b0 : Stmt} {pos' : Pos} {Wout : WX} (hm : X.mg x = some c) (tk : L2N.Takes X Wout)
    (q : ∀ (pn : List (Addr × Obj)) (xe : Value → Shared → Prop), L2N.Takes (X.tr pn xe) (wAs X.K c i (tsN X N G sc (b0 :: suite)) Wout ⟨nx, rt, bk, ct⟩) → In (X.tr pn xe) N G sc → wL (X.tr pn xe) body ⟨nx, rt, bk, ct⟩ σ H)
    (I : In X N G sc := by assumption) (hA : At N i n := by repeat (first | with_reducible apply At.z | with_reducible apply At.s)) (hG : At G g x := by repeat (first | with_reducible apply At.z | with_reducible apply At.s))
    (hln : X.env.kindOf n = some .local := by rfl) (hs : X.stack = X.env :: X.outer := by rfl) (hf : X.env.frame = some X.env.locals := by rfl) :
    wS X (.Try body [.ExceptHandler (some (.Name x np)) (some n) (b0 :: suite) pos'] [] [] pos) ⟨nx, rt, bk, ct⟩ σ H :=
  s_of (L2N.ps_try_as (tb := fun W D σ H => ∀ (pn : List (Addr × Obj)) (xe : Value → Shared → Prop), L2N.Takes (X.tr pn xe) W → In (X.tr pn xe) N G sc → wL (X.tr pn xe) body D σ H) hs hf I.nd (I.hi hA) hln ⟨I.g hG, I.gd hG, .inl hm⟩ tk
    (fun W pn xe tk' po => ⟨fun pins s σ H D Iv h => pl.run pins s σ H D Iv (h pn xe tk' (I.tr po))⟩)
    (fun a oe cls d pn hz hd => ⟨fun pins s σ H D Iv h => pl.run pins s σ H D Iv (h oe pn hz.zc hd I.suite (by
      obtain ⟨vs, hv⟩ := hd
      exact ⟨(a, oe), ⟨rfl, vs, hv, hz.2.2 vs hv⟩, List.mem_cons_self⟩))⟩)) q
theorem takesN0 : L2N.Takes X (fun _ _ _ _ => False) := fun _ _ x => by
  obtain ⟨_, _, _, _, _, _, _, _, _, _, _, _, _, _, _, _, z⟩ := x
  exact z.elim
/-- a def that is called where an error is handled -/
structure FnHt (P : Program) (w : World) (K : PySem.W.Frag) (mg : Str → Option Value) (base : Heap) (k : Nat) (x : Str) (sp : Sp) : Prop where
  ex : ∃ (f : Addr) (fd : FuncData) (ps : List Str), L2H.FnH P w K mg base CX0 k f fd ps sp ∧ mg x = some (.ref f) ∧ PySem.W.keepIn K (.ref f) = true ∧ Binds K fd ps []
theorem e_callH {g k n : Nat} {x : Str} {sp : Sp} (F : FnHt X.prog X.w X.K X.mg X.base k x sp) (hr : L2H.RoomH n X.A) (hk : k ≤ n) (hh : L2H.HotC X) (q : wA X (e :: es) σ H fun vs H1 => sp vs H1 Q E0)
    (I : In X N G sc := by assumption) (hG : At G g x := by repeat (first | with_reducible apply At.z | with_reducible apply At.s)) (he : starEach (e :: es) X.env = (false, eval e X.env) :: starEach es X.env := by rfl) (hpl : (backTo pos (starEach es X.env)).any (·.1) = false := by rfl) :
    wE X (.Call (.Name x p0) (e :: es) [] pos) σ H Q := by
  obtain ⟨f, fd, ps, F0, hm, hkp, hb⟩ := F.ex
  exact e_of (L2H.pe_callH (E := fun _ => E0) F0 (hr.mono hk) hh (I.g hG) hm hkp hb (fun σ pins H s e s' I z => z.elim) pa (I.gd hG) he hpl) q
end
section
variable {P : Program} {w : World} {K : PySem.W.Frag} {mg : Str → Option Value} {base : Heap}
theorem fn_okN {x : Str} {st : Stmt} {N G ps : List Str} {k : Nat} {sp : Sp} (T : Top K mg x st) (S : FnScope N ps (defScope st)) (O : ScOk N G (defScope st)) (len : ∀ vs H Q E, sp vs H Q E → vs.length = ps.length)
    (hb : ∀ (kV doc pm : Value) (an : Option Addr) (cdv ct : Value) (us : List Value), us.length = ps.length → bindArgs (PySem.W.fnOf x x (defArgs st) (defBody st) (defScope st) .none kV doc pm an cdv ct) ⟨us, []⟩ = pure (ps.zip us))
    (hbody : ∀ (f : Addr) (cdv : Value) (A : Around) (outer : List Env) (s : Shared) (H : Hp) (vs : List V) (Q : VK) (E : XK), Room k (A.deeper (envOfC x (defScope st) s.heap.objs.size f cdv)) → sp vs H Q E → In (cxOf (L2N.CX P w) P w K mg base N x (defScope st) f cdv A outer s H E) N G (defScope st) →
      L2N.Takes (cxOf (L2N.CX P w) P w K mg base N x (defScope st) f cdv A outer s H E) (fun cls d _ H => E cls d H) →
      wL (cxOf (L2N.CX P w) P w K mg base N x (defScope st) f cdv A outer s H E) (defBody st) { nx := fun _ H' => Q .non H', rt := Q } (start N vs) H) : FnN P w K mg base (k + 1) x sp := by
  obtain ⟨f, fd, F, hm⟩ := T.ex
  obtain ⟨oc, od, kV, doc, pm, an, cdv, ct, osl, rfl, lk, hcd⟩ := id F.ex
  exact ⟨f, _, ps, fn_of lk hcd S len (fun A outer s H vs Q E hr h => ⟨_, pl, hbody f cdv A outer s H vs Q E hr h ⟨O, ⟨[], (List.append_nil _).symm⟩, S.nd, rfl, rfl, passes_of rfl⟩ (L2N.takes_of rfl rfl rfl rfl)⟩), hm, F.kp, F.binds hb⟩
theorem fn_okH {x : Str} {st : Stmt} {N G ps : List Str} {k : Nat} {sp : Sp} (T : Top K mg x st) (S : FnScope N ps (defScope st)) (O : ScOk N G (defScope st)) (len : ∀ vs H Q E, sp vs H Q E → vs.length = ps.length)
    (hb : ∀ (kV doc pm : Value) (an : Option Addr) (cdv ct : Value) (us : List Value), us.length = ps.length → bindArgs (PySem.W.fnOf x x (defArgs st) (defBody st) (defScope st) .none kV doc pm an cdv ct) ⟨us, []⟩ = pure (ps.zip us))
    (hbody : ∀ (f : Addr) (cdv : Value) (A : Around) (outer : List Env) (s : Shared) (H : Hp) (vs : List V) (Q : VK) (E : XK) (p : Addr × Obj), L2H.RoomH k (A.deeper (envOfC x (defScope st) s.heap.objs.size f cdv)) → sp vs H Q E → In (L2H.cxH CX0 P w K mg base N x (defScope st) f cdv A outer s H E p).nox N G (defScope st) →
      wL (L2H.cxH CX0 P w K mg base N x (defScope st) f cdv A outer s H E p).nox (defBody st) { nx := fun _ H' => Q .non H', rt := Q } (start N vs) H) : FnHt P w K mg base (k + 1) x sp := by
  obtain ⟨f, fd, F, hm⟩ := T.ex
  obtain ⟨oc, od, kV, doc, pm, an, cdv, ct, osl, rfl, lk, hcd⟩ := id F.ex
  exact ⟨f, _, ps, L2H.fn_ofH lk hcd S len (fun A outer s H vs Q E p hot hr h => ⟨_, PSs.nox pl, hbody f cdv A outer s H vs Q E p hr h ⟨O, ⟨[], (List.append_nil _).symm⟩, S.nd, rfl, rfl, PassesOwn.never⟩⟩), hm, F.kp, F.binds hb⟩
end
end Wk

/-! My own layer, texts: chains of comparisons, order and length of texts, a sign of a text, a loop over a text. -/
namespace Wk
open PySem PySem.Spec PyProof.Rows L2
section
variable {X : Cx} {N G : List Str} {sc : Scope} {a b c e : Expr} {es : List Expr} {σ : L2.St} {H : Hp} {Q : VK} {pos : Pos} {QT : Bool → Hp → Prop}
theorem e_chain {op op' : CmpOp} (q : wE X a σ H fun x H1 => wE X b σ H1 fun y H2 => wK X op x y H2 fun z H3 => ∃ k, z = .bl k ∧ (if k = true then wE X c σ H3 fun w H4 => wK X op' y w H4 Q else Q (.bl false) H3)) (hm : lastMarks [op, op'] [b, c] = false := by with_unfolding_all rfl) :
    wE X (.Compare a [op, op'] [b, c] pos) σ H Q := e_of (pe_chain opk opk pe pe pe hm) q
theorem t_chain {op op' : CmpOp} (q : wE X a σ H fun x H1 => wE X b σ H1 fun y H2 => wK X op x y H2 fun z H3 => ∃ k, z = .bl k ∧ (if k = true then wE X c σ H3 fun w H4 => wK X op' y w H4 fun z H5 => ∃ k, z = .bl k ∧ QT k H5 else ∃ k, V.bl false = .bl k ∧ QT k H3)) (hm : lastMarks [op, op'] [b, c] = false := by with_unfolding_all rfl) :
    wT X (.Compare a [op, op'] [b, c] pos) σ H QT := t_of (pt_chain opk opk pe pe pe hm) q
/-- one sign -/
abbrev sg (c : Nat) : Str := ⟨#[c]⟩
theorem lt1 (c d : Nat) : (([c] : List Nat) < [d]) ↔ c < d := by
  constructor
  · intro h
    cases h with
    | rel h => exact h
    | cons h => cases h
  · exact fun h => .rel h
theorem o_le1 {c d : Nat} (q : Q (.bl (decide (c ≤ d))) H) : wK X .LtE (.str (sg c)) (.str (sg d)) H Q := by
  refine k_of op_le_str ⟨sg c, sg d, rfl, rfl, ?_⟩
  have e1 : (!decide (([d] : List Nat) < [c])) = decide (c ≤ d) := by
    by_cases h : c ≤ d
    · have h2 : ¬ (([d] : List Nat) < [c]) := fun z => absurd ((lt1 d c).mp z) (by omega)
      rw [decide_eq_true h, decide_eq_false h2]
      rfl
    · have h2 : ([d] : List Nat) < [c] := (lt1 d c).mpr (by omega)
      rw [decide_eq_false h, decide_eq_true h2]
      rfl
  show Q (.bl (!decide (([d] : List Nat) < [c]))) H
  rw [e1]
  exact q
theorem c_lenS {z : Str} (h : z.length ≤ sizeLine) (q : Q (.int (z.length : Int)) H) : wC X (.builtin "len") [.str z] H Q := c_of call_len ⟨.str z, z.length, rfl, ⟨h, rfl⟩, q⟩
theorem ix_s {z : Str} {i : Int} {c : Nat} (h : z.length ≤ sizeLine) (e : atI z.cps.toList i = some c) (q : Q (.str (sg c)) H) : wIx X (.str z) (.int i) H Q := ix_of ix_str ⟨z, i, c, rfl, rfl, h, e, q⟩
theorem s_forS {nx : L2.St → Hp → Prop} {rt : VK} {bk ct : L2.St → Hp → Prop} {x : Str} {i : Nat} {body : List Stmt} {px : Pos}
    (q : wE X a σ H fun v H1 => ∃ z : Str, v = .str z ∧ ∃ Pv : Nat → L2.St → Hp → Prop, Pv 0 σ H1 ∧ (∀ k c σ H, z.cps[k]? = some c → Pv k σ H → wL X body ⟨Pv (k + 1), rt, nx, Pv (k + 1)⟩ (σ.set i (some (.str (sg c)))) H) ∧ ∀ σ H, Pv z.cps.size σ H → nx σ H)
    (I : In X N G sc := by assumption) (hc : X.calm = true := by rfl) (hA : At N i x := by repeat (first | with_reducible apply At.z | with_reducible apply At.s)) (hs2 : ∀ z, foldedSetIterable a X.env z = pure z := by intro _; rfl) :
    wS X (.For (.Name x px) a body [] pos) ⟨nx, rt, bk, ct⟩ σ H := by
  refine s_of (ps_for I.never hc (pi_str pe) (pg_name I.nd (I.hi hA) (I.loc hA) I.f) pl hs2) (e_mono q fun v H1 q1 => ?_)
  obtain ⟨z, rfl, Pv, h0, hb, hd⟩ := q1
  refine ⟨z, rfl, fun k m σ H => m = z.cps.size - k ∧ k ≤ z.cps.size ∧ Pv k σ H, ⟨z.cps.size, by simp, Nat.zero_le _, h0⟩, ?_⟩
  rintro k m σ H ⟨rfl, hk, p⟩
  by_cases hlt : k < z.cps.size
  · refine .inr ⟨hlt, Pv (k + 1), fun σ' H' p' => ⟨z.cps.size - (k + 1), by omega, rfl, hlt, p'⟩, fun y H' hy => ?_⟩
    obtain ⟨rfl, c, hc', rfl⟩ := hy
    exact hb k c σ _ hc' p
  · have e : k = z.cps.size := by omega
    subst e
    exact .inl ⟨Nat.le_refl _, hd σ H p⟩
end
end Wk

/-! My own layer, comprehensions with their own names, and ground terms: what only makes new objects, over facts that last. -/
namespace Wk
open PySem PySem.Spec PyProof.Rows L2
section
variable {P : Program} {w : World} {K : PySem.W.Frag} {mg : Str → Option Value} {base : Heap}
/-- a def with further slots C for the names of its comprehensions -/
theorem fn_okC {x : Str} {st : Stmt} {N C G ps : List Str} {k : Nat} {sp : Sp} (T : Top K mg x st) (S : FnScope (N ++ C) ps (defScope st)) (O : ScOk N G (defScope st)) (len : ∀ vs H Q E, sp vs H Q E → vs.length = ps.length)
    (hb : ∀ (kV doc pm : Value) (an : Option Addr) (cdv ct : Value) (us : List Value), us.length = ps.length → bindArgs (PySem.W.fnOf x x (defArgs st) (defBody st) (defScope st) .none kV doc pm an cdv ct) ⟨us, []⟩ = pure (ps.zip us))
    (hbody : ∀ (f : Addr) (cdv : Value) (A : Around) (outer : List Env) (s : Shared) (H : Hp) (vs : List V) (Q : VK) (E : XK), Room k (A.deeper (envOfC x (defScope st) s.heap.objs.size f cdv)) → sp vs H Q E → In (cxOf CX0 P w K mg base (N ++ C) x (defScope st) f cdv A outer s H E).nox N G (defScope st) →
      wL (cxOf CX0 P w K mg base (N ++ C) x (defScope st) f cdv A outer s H E).nox (defBody st) { nx := fun _ H' => Q .non H', rt := Q } (start (N ++ C) vs) H) : Fn P w K mg base (k + 1) x sp := by
  obtain ⟨f, fd, F, hm⟩ := T.ex
  exact ⟨f, fd, ps, F.ok S len (fun cdv A outer s H vs Q E hr h => ⟨_, pl, hbody f cdv A outer s H vs Q E hr h ⟨O, ⟨C, rfl⟩, S.nd, rfl, rfl, PassesOwn.never⟩⟩), hm, F.kp, F.binds hb⟩
end
/-! ### blocks -/
instance visDec {sc : Scope} {x : Str} : Decidable (Vis sc x) := inferInstanceAs (Decidable (_ ∨ _))
/-- the names of a comprehension's block: the seen ones with their slots, the global ones, its own at slot i -/
structure BkOk (N : List Str) (Vn : List (Nat × Str)) (G : List Str) (i : Nat) (x : Str) (sc scope : Scope) : Prop where
  lo : ∀ p ∈ Vn, N[p.1]? = some p.2 ∧ Vis (relS scope sc) p.2 ∧ (p.2 == ("__debug__" : Str)) = false ∧ (p.2 == ("__classdict__" : Str)) = false
  gl : ∀ x ∈ G, (relS scope sc).names.lookup x = some .globalImplicit ∧ (x == ("__debug__" : Str)) = false ∧ x ≠ "__name__"
  own : N[i]? = some x ∧ (relS scope sc).names.lookup x = some .local
  blk : blkC N sc scope [(x, i)] = true
structure InB (X : Cx) (Vn : List (Nat × Str)) (G : List Str) : Prop where
  nd : X.N.Nodup
  lo : ∀ p ∈ Vn, X.N[p.1]? = some p.2 ∧ Vis X.env.scope p.2 ∧ (p.2 == ("__debug__" : Str)) = false ∧ (p.2 == ("__classdict__" : Str)) = false
  gl : ∀ x ∈ G, Gl X x ∧ (x == ("__debug__" : Str)) = false ∧ x ≠ "__name__"
abbrev Bk (X : Cx) (s : Shared) (H : Hp) (scope : Scope) (C : Addr) (cl : List (Str × Addr)) (fp : List Addr) : Cx := X.blk s H scope (compEnvC scope cl C X.env) fp
section
variable {X : Cx} {e a b c elt : Expr} {es rest : List Expr} {σ : L2.St} {H : Hp} {Q : VK} {pos p0 : Pos} {N G G' : List Str} {Vn : List (Nat × Str)} {sc scope : Scope}
theorem rel_eq (h : X.env.scope = sc) (C : Addr) (cl : List (Str × Addr)) : (compEnvC scope cl C X.env).scope = relS scope sc := by
  subst h
  rfl
theorem BkOk.inB {i : Nat} {x : Str} (B : BkOk X.N Vn G' i x sc scope) (I : In X N G sc) (s : Shared) (H : Hp) (C : Addr) (cl : List (Str × Addr)) (fp : List Addr) : InB (Bk X s H scope C cl fp) Vn G' := by
  have e : (compEnvC scope cl C X.env).scope = relS scope sc := rel_eq I.sc C cl
  refine ⟨I.nd, fun p hp => ?_, fun y hy => ?_⟩
  · obtain ⟨h1, h2, h3, h4⟩ := B.lo p hp
    exact ⟨h1, by show Vis (compEnvC scope cl C X.env).scope p.2; rw [e]; exact h2, h3, h4⟩
  · obtain ⟨h1, h2, h3⟩ := B.gl y hy
    exact ⟨by show (compEnvC scope cl C X.env).scope.names.lookup y = _; rw [e]; exact h1, h2, h3⟩
theorem BkOk.pg {i : Nat} {x : Str} {px : Pos} (B : BkOk X.N Vn G' i x sc scope) (I : In X N G sc) (s : Shared) (H : Hp) (C : Addr) (cl : List (Str × Addr)) (fp : List Addr) : PG (Bk X s H scope C cl fp) (.Name x px) (gName i) := by
  have e : (compEnvC scope cl C X.env).scope = relS scope sc := rel_eq I.sc C cl
  have l : (Bk X s H scope C cl fp).env.scope.names.lookup x = some .local := by
    show (compEnvC scope cl C X.env).scope.names.lookup x = _
    rw [e]
    exact B.own.2
  exact pg_name I.nd B.own.1 (.inl l) (.inr l)
theorem BkOk.ok {i : Nat} {x : Str} (B : BkOk X.N Vn G' i x sc scope) (I : In X N G sc) : BlkOk X.N X.env.scope scope [(x, i)] := by
  rw [I.sc]
  exact blkOk_by B.blk
theorem InB.g (I : InB X Vn G) {i : Nat} {x : Str} (h : At G i x) : Gl X x := (I.gl x h.mem).1
theorem InB.gd (I : InB X Vn G) {i : Nat} {x : Str} (h : At G i x) : (x == ("__debug__" : Str)) = false := (I.gl x h.mem).2.1
theorem InB.gn (I : InB X Vn G) {i : Nat} {x : Str} (h : At G i x) : x ≠ "__name__" := (I.gl x h.mem).2.2
theorem b_var {j i : Nat} {x : Str} {v : V} (q : Q v H) (I : InB X Vn G := by assumption) (hA : At Vn j (i, x) := by repeat (first | with_reducible apply At.z | with_reducible apply At.s)) (hσ : σ[i]? = some (some v) := by exact rfl) : wE X (.Name x pos) σ H Q :=
  e_of (pe_var (I.lo _ hA.mem).1 (I.lo _ hA.mem).2.1 (I.lo _ hA.mem).2.2.1 (I.lo _ hA.mem).2.2.2) ⟨v, hσ, q⟩
theorem b_call {g : Nat} {k n : Nat} {x : Str} {sp : Sp} (F : Fn X.prog X.w X.K X.mg X.base k x sp) (hr : Room n X.A) (hk : k ≤ n) (q : wA X (e :: es) σ H fun vs H1 => sp vs H1 Q E0) (I : InB X Vn G := by assumption) (hG : At G g x := by repeat (first | with_reducible apply At.z | with_reducible apply At.s))
    (he : starEach (e :: es) X.env = (false, eval e X.env) :: starEach es X.env := by rfl) (hpl : (backTo pos (starEach es X.env)).any (·.1) = false := by rfl) : wE X (.Call (.Name x p0) (e :: es) [] pos) σ H Q := by
  obtain ⟨f, fd, ps, F0, hm, hkp, hb⟩ := F.ex
  refine e_of (pe_call F0 (hr.mono hk) (I.g hG) hm hkp hb .nil pass0 pa (I.gd hG) he hpl) ?_
  show wA X (e :: es) σ H fun vs H1 => sp (vs ++ []) H1 Q E0
  simp only [List.append_nil]
  exact q
theorem b_callB {g : Nat} {x : Str} {id : String} (hm : X.mg x = none) (hv : bootBuiltins x = some (.builtin id)) (q : wA X (e :: es) σ H fun vs H1 => wC X (.builtin id) vs H1 Q) (I : InB X Vn G := by assumption) (hG : At G g x := by repeat (first | with_reducible apply At.z | with_reducible apply At.s))
    (he : starEach (e :: es) X.env = (false, eval e X.env) :: starEach es X.env := by rfl) (hpl : (backTo pos (starEach es X.env)).any (·.1) = false := by rfl) : wE X (.Call (.Name x p0) (e :: es) [] pos) σ H Q := e_of (pe_callB cr (I.g hG) hm hv pa (I.gn hG) (I.gd hG) he hpl) q
theorem b_glob {g : Nat} {x : Str} {v : V} {u : Value} (hm : X.mg x = some u) (r : RelV v u) (q : Q v H) (I : InB X Vn G := by assumption) (hG : At G g x := by repeat (first | with_reducible apply At.z | with_reducible apply At.s)) : wE X (.Name x pos) σ H Q := e_of (pe_glob (I.g hG) hm r (I.gd hG)) q
theorem wipe1 (σ : L2.St) (i : Nat) : wipe σ [i] = σ.set i none := rfl
theorem wipe_set (σ : L2.St) (i : Nat) (v : L2.V) : wipe ((wipe σ [i]).set i (some v)) [i] = wipe σ [i] := by
  simp [wipe1, List.set_set]
/-- what the turns of a comprehension ask: over range(n) -/
def LcR (X : Cx) (Vn : List (Nat × Str)) (G' : List Str) (elt : Expr) (scope : Scope) (i n : Nat) (D : Addr) (σ : L2.St) (H1 : Hp) (Qd : Hp → Prop) : Prop := ∃ Pv : Nat → Hp → Prop, Pv 0 (upd H1 D (.lst [])) ∧
  (∀ k H2, k < n → Pv k H2 → ∀ s0 H0 C cl fp, InB (Bk X s0 H0 scope C cl fp) Vn G' → wE (Bk X s0 H0 scope C cl fp) elt ((wipe σ [i]).set i (some (.int (k : Int)))) H2 fun y H4 => ∃ acc, H4 D = some (.lst acc) ∧ acc.length < sizeLine ∧ Pv (k + 1) (upd H4 D (.lst (acc ++ [y])))) ∧
  ∀ H2, Pv n H2 → Qd H2
/-- .. over a list that stays -/
def LcL (X : Cx) (Vn : List (Nat × Str)) (G' : List Str) (elt : Expr) (scope : Scope) (i : Nat) (ad : Addr) (xs : List L2.V) (D : Addr) (σ : L2.St) (H1 : Hp) (Qd : Hp → Prop) : Prop := ∃ Pv : Nat → Hp → Prop, Pv 0 (upd H1 D (.lst [])) ∧ (∀ k H2, k ≤ xs.length → Pv k H2 → SqL X.K H2 ad xs) ∧
  (∀ k x H2, xs[k]? = some x → Pv k H2 → ∀ s0 H0 C cl fp, InB (Bk X s0 H0 scope C cl fp) Vn G' → wE (Bk X s0 H0 scope C cl fp) elt ((wipe σ [i]).set i (some x)) H2 fun y H4 => ∃ acc, H4 D = some (.lst acc) ∧ acc.length < sizeLine ∧ Pv (k + 1) (upd H4 D (.lst (acc ++ [y])))) ∧
  ∀ H2, Pv xs.length H2 → Qd H2
/-- the turn's reading, where the block may run anywhere -/
@[irreducible] def wBk (X : Cx) (Vn : List (Nat × Str)) (G' : List Str) (elt : Expr) (scope : Scope) : TE := fun σ H Q => ∀ s0 H0 C cl fp, InB (Bk X s0 H0 scope C cl fp) Vn G' → wE (Bk X s0 H0 scope C cl fp) elt σ H Q
theorem pe_bk {s0 : Shared} {H0 : Hp} {C : Addr} {cl : List (Str × Addr)} {fp : List Addr} (I : InB (Bk X s0 H0 scope C cl fp) Vn G') : PE (Bk X s0 H0 scope C cl fp) elt (wBk X Vn G' elt scope) :=
  ⟨fun pins s σ H Q Iv h => by unfold wBk at h; exact pe.run pins s σ H Q Iv (h s0 H0 C cl fp I)⟩
theorem lcR_of {i n : Nat} {D : Addr} {H1 : Hp} {Qd : Hp → Prop} (q : LcR X Vn G' elt scope i n D σ H1 Qd) : ∃ W : Nat → Nat → Hp → Prop, (∃ m, W 0 m (upd H1 D (.lst []))) ∧ ∀ k m H, W k m H →
    ((Itr 0 n).stop k H ∧ Qd H) ∨ ((Itr 0 n).go k H ∧ ∃ Nx : Hp → Prop, (∀ H', Nx H' → ∃ m', m' < m ∧ W (k + 1) m' H') ∧ ∀ x H', (Itr 0 n).yld k H x H' → gName i x (wipe σ [i]) H' fun σ2 H2 => wipe σ2 [i] = wipe σ [i] ∧ tYes σ2 H2 fun b H3 =>
      if b = true then wBk X Vn G' elt scope σ2 H3 fun y H4 => ∃ acc, H4 D = some (.lst acc) ∧ acc.length < sizeLine ∧ Nx (upd H4 D (.lst (acc ++ [y]))) else Nx H3) := by
  obtain ⟨Pv, h0, hs, hd⟩ := q
  refine lc_range Pv h0 (fun k H hk p => ?_) hd
  refine ⟨wipe_set σ i _, ?_⟩
  unfold tYes
  refine iteT ?_
  unfold wBk
  intro s0 H0 C cl fp I
  rw [Int.zero_add]
  exact hs k H hk p s0 H0 C cl fp I
theorem lcL_of {i : Nat} {ad : Addr} {xs : List L2.V} {D : Addr} {H1 : Hp} {Qd : Hp → Prop} (q : LcL X Vn G' elt scope i ad xs D σ H1 Qd) : ∃ W : Nat → Nat → Hp → Prop, (∃ m, W 0 m (upd H1 D (.lst []))) ∧ ∀ k m H, W k m H →
    ((Itl X.K ad).stop k H ∧ Qd H) ∨ ((Itl X.K ad).go k H ∧ ∃ Nx : Hp → Prop, (∀ H', Nx H' → ∃ m', m' < m ∧ W (k + 1) m' H') ∧ ∀ x H', (Itl X.K ad).yld k H x H' → gName i x (wipe σ [i]) H' fun σ2 H2 => wipe σ2 [i] = wipe σ [i] ∧ tYes σ2 H2 fun b H3 =>
      if b = true then wBk X Vn G' elt scope σ2 H3 fun y H4 => ∃ acc, H4 D = some (.lst acc) ∧ acc.length < sizeLine ∧ Nx (upd H4 D (.lst (acc ++ [y]))) else Nx H3) := by
  obtain ⟨Pv, h0, hl, hs, hd⟩ := q
  refine lc_list Pv h0 hl (fun k x H hk p => ?_) hd
  refine ⟨wipe_set σ i _, ?_⟩
  unfold tYes
  refine iteT ?_
  unfold wBk
  intro s0 H0 C cl fp I
  exact hs k x H hk p s0 H0 C cl fp I
/-- [elt for x in range(a)] -/
theorem e_lcR {i g : Nat} {x : Str} {px p cp : Pos} (B : BkOk X.N Vn G' i x sc scope) (hm : X.mg "range" = none)
    (q : wE X a σ H fun v H1 => ∃ n : Nat, v = .int n ∧ n < 2 ^ 62 ∧ ∀ D, H1 D = none → LcR X Vn G' elt scope i n D σ H1 fun H2 => Q (.ref D) H2)
    (I : In X N G sc := by assumption) (hc : X.calm = true := by rfl) (hG : At G g ("range" : Str) := by repeat (first | with_reducible apply At.z | with_reducible apply At.s)) (hs : starEach [a] X.env = [(false, eval a X.env)] := by rfl) (hs2 : ∀ z, foldedSetIterable (.Call (.Name "range" p) [a] [] cp) X.env z = pure z := by intro _; rfl)
    (hs1 : starEach (a :: []) X.env = (false, eval a X.env) :: starEach [] X.env := by rfl) :
    wE X (.ListComp elt [⟨.Name x px, .Call (.Name "range" p) [a] [] cp, [], 0⟩] scope pos) σ H Q := by
  refine e_of (pe_lc (own := [(x, i)]) (g := gName i) (tt := tYes) (te := wBk X Vn G' elt scope) hc I.nd (pi_range1 (I.g hG) hm (pa_cons pe pa_nil hs1) hs) (B.ok I) (fun s H C cl fp => B.pg I s H C cl fp) (fun _ _ _ _ _ => pts_nil) (fun s H C cl fp => pe_bk (B.inB I s H C cl fp)) hs2) (e_mono q fun v H1 q1 => ?_)
  obtain ⟨n, rfl, hn, q2⟩ := q1
  refine ⟨(n : Int), rfl, by omega, by omega, ?_⟩
  rw [Int.toNat_natCast]
  exact fun D hD => lcR_of (q2 D hD)
/-- [elt for x in a], a list -/
theorem e_lcL {i : Nat} {x : Str} {px : Pos} (B : BkOk X.N Vn G' i x sc scope)
    (q : wE X a σ H fun v H1 => ∃ ad xs, v = .ref ad ∧ SqL X.K H1 ad xs ∧ ∀ D, H1 D = none → LcL X Vn G' elt scope i ad xs D σ H1 fun H2 => Q (.ref D) H2)
    (I : In X N G sc := by assumption) (hc : X.calm = true := by rfl) (hs2 : ∀ z, foldedSetIterable a X.env z = pure z := by intro _; rfl) :
    wE X (.ListComp elt [⟨.Name x px, a, [], 0⟩] scope pos) σ H Q := by
  refine e_of (pe_lc (own := [(x, i)]) (g := gName i) (tt := tYes) (te := wBk X Vn G' elt scope) hc I.nd (pi_list pe) (B.ok I) (fun s H C cl fp => B.pg I s H C cl fp) (fun _ _ _ _ _ => pts_nil) (fun s H C cl fp => pe_bk (B.inB I s H C cl fp)) hs2) (e_mono q fun v H1 q1 => ?_)
  obtain ⟨ad, xs, rfl, hl, q2⟩ := q1
  exact ⟨ad, rfl, ⟨xs, hl⟩, fun D hD => lcL_of (q2 D hD)⟩
theorem s_lcR {nx : L2.St → Hp → Prop} {rt : VK} {bk ct : L2.St → Hp → Prop} {i j g : Nat} {x y : Str} {px py p cp spos : Pos} (B : BkOk X.N Vn G' i x sc scope) (hm : X.mg "range" = none)
    (q : wE X a σ H fun v H1 => ∃ n : Nat, v = .int n ∧ n < 2 ^ 62 ∧ ∀ D, H1 D = none → LcR X Vn G' elt scope i n D σ H1 fun H2 => nx (σ.set j (some (.ref D))) H2)
    (I : In X N G sc := by assumption) (hc : X.calm = true := by rfl) (hA : At N j y := by repeat (first | with_reducible apply At.z | with_reducible apply At.s)) (hG : At G g ("range" : Str) := by repeat (first | with_reducible apply At.z | with_reducible apply At.s))
    (hk : X.env.scope.kind = .function := by rfl) (hy : X.env.scope.names.lookup y = some .local := by rfl) (hl : (py.line == pos.line) = true := by rfl) (ha : (scope.names.any fun (n, k) => n == y && (k == .local || k == .cell)) = false := by decide +kernel)
    (hs : starEach [a] X.env = [(false, eval a X.env)] := by rfl) (hs2 : ∀ z, foldedSetIterable (.Call (.Name "range" p) [a] [] cp) X.env z = pure z := by intro _; rfl) (hs1 : starEach (a :: []) X.env = (false, eval a X.env) :: starEach [] X.env := by rfl) :
    wS X (.Assign [.Name y py] (.ListComp elt [⟨.Name x px, .Call (.Name "range" p) [a] [] cp, [], 0⟩] scope pos) spos) ⟨nx, rt, bk, ct⟩ σ H := by
  refine s_of (ps_setLc (own := [(x, i)]) (g := gName i) (tt := tYes) (te := wBk X Vn G' elt scope) hc I.nd (I.hi hA) hy (sw_true hk hy hl ha) (pi_range1 (I.g hG) hm (pa_cons pe pa_nil hs1) hs) (B.ok I) (fun s H C cl fp => B.pg I s H C cl fp) (fun _ _ _ _ _ => pts_nil) (fun s H C cl fp => pe_bk (B.inB I s H C cl fp)) hs2) (e_mono q fun v H1 q1 => ?_)
  obtain ⟨n, rfl, hn, q2⟩ := q1
  refine ⟨(n : Int), rfl, by omega, by omega, ?_⟩
  rw [Int.toNat_natCast]
  exact fun D hD => lcR_of (q2 D hD)
theorem s_lcL {nx : L2.St → Hp → Prop} {rt : VK} {bk ct : L2.St → Hp → Prop} {i j : Nat} {x y : Str} {px py spos : Pos} (B : BkOk X.N Vn G' i x sc scope)
    (q : wE X a σ H fun v H1 => ∃ ad xs, v = .ref ad ∧ SqL X.K H1 ad xs ∧ ∀ D, H1 D = none → LcL X Vn G' elt scope i ad xs D σ H1 fun H2 => nx (σ.set j (some (.ref D))) H2)
    (I : In X N G sc := by assumption) (hc : X.calm = true := by rfl) (hA : At N j y := by repeat (first | with_reducible apply At.z | with_reducible apply At.s))
    (hk : X.env.scope.kind = .function := by rfl) (hy : X.env.scope.names.lookup y = some .local := by rfl) (hl : (py.line == pos.line) = true := by rfl) (ha : (scope.names.any fun (n, k) => n == y && (k == .local || k == .cell)) = false := by decide +kernel) (hs2 : ∀ z, foldedSetIterable a X.env z = pure z := by intro _; rfl) :
    wS X (.Assign [.Name y py] (.ListComp elt [⟨.Name x px, a, [], 0⟩] scope pos) spos) ⟨nx, rt, bk, ct⟩ σ H := by
  refine s_of (ps_setLc (own := [(x, i)]) (g := gName i) (tt := tYes) (te := wBk X Vn G' elt scope) hc I.nd (I.hi hA) hy (sw_true hk hy hl ha) (pi_list pe) (B.ok I) (fun s H C cl fp => B.pg I s H C cl fp) (fun _ _ _ _ _ => pts_nil) (fun s H C cl fp => pe_bk (B.inB I s H C cl fp)) hs2) (e_mono q fun v H1 q1 => ?_)
  obtain ⟨ad, xs, rfl, hl, q2⟩ := q1
  exact ⟨ad, rfl, ⟨xs, hl⟩, fun D hD => lcL_of (q2 D hD)⟩
end
/-! ### ground terms: they make new objects and change none -/
abbrev Rl := Hp → L2.V → Prop
class Lasts (Γ : Hp → Prop) : Prop where
  up : ∀ H H', Same H H' → Γ H → Γ H'
class LastR (R : Rl) : Prop where
  up : ∀ H H' v, Same H H' → R H v → R H' v
def All2 : List Rl → Hp → List L2.V → Prop
  | [], _, vs => vs = []
  | R :: Rs, H, vs => ∃ v us, vs = v :: us ∧ R H v ∧ All2 Rs H us
@[irreducible] def Ev (X : Cx) (e : Expr) (σ : L2.St) (H : Hp) (R : Rl) : Prop := ∀ Q : VK, (∀ v H', Same H H' → R H' v → Q v H') → wE X e σ H Q
@[irreducible] def EvA (X : Cx) (es : List Expr) (σ : L2.St) (H : Hp) (Rs : List Rl) : Prop := ∀ Q : List L2.V → Hp → Prop, (∀ vs H', Same H H' → All2 Rs H' vs → Q vs H') → wA X es σ H Q
/-- a promise of a def that makes new objects alone -/
def spG {α : Type} (A : α → List Rl) (R : α → Rl) : Sp := fun vs H Q _ => ∃ x, All2 (A x) H vs ∧ ∀ v H', Same H H' → R x H' v → Q v H'
section
variable {X : Cx} {e a b c : Expr} {es : List Expr} {σ : L2.St} {H : Hp} {Q : VK} {pos p0 : Pos} {N G : List Str} {sc : Scope} {R R1 R2 : Rl} {Rs : List Rl}
theorem ev_e (h : Ev X e σ H R) (q : ∀ v H', Same H H' → R H' v → Q v H') : wE X e σ H Q := by unfold Ev at h; exact h Q q
theorem ev_of (h : ∀ Q : VK, (∀ v H', Same H H' → R H' v → Q v H') → wE X e σ H Q) : Ev X e σ H R := by unfold Ev; exact h
theorem ev_a {QA : List L2.V → Hp → Prop} (h : EvA X es σ H Rs) (q : ∀ vs H', Same H H' → All2 Rs H' vs → QA vs H') : wA X es σ H QA := by unfold EvA at h; exact h QA q
theorem ev_up {H0 : Hp} (h : Ev X e σ H R) : Ev X e σ H R := h
theorem g_var {i : Nat} {x : Str} {v : V} (r : R H v) (I : In X N G sc := by assumption) (hA : At N i x := by repeat (first | with_reducible apply At.z | with_reducible apply At.s)) (hσ : σ[i]? = some (some v) := by exact rfl) : Ev X (.Name x pos) σ H R :=
  ev_of fun Q q => e_var (q v H (Same.refl H) r) I hA hσ
theorem g_nil : EvA X [] σ H [] := by unfold EvA; exact fun Q q => a_nil (q [] H (Same.refl H) rfl)
theorem g_cons [LastR R] (h1 : Ev X e σ H R) (h2 : ∀ H', Same H H' → EvA X es σ H' Rs) (hs : starEach (e :: es) X.env = (false, eval e X.env) :: starEach es X.env := by rfl) : EvA X (e :: es) σ H (R :: Rs) := by
  unfold EvA
  exact fun Q q => a_cons (ev_e h1 fun v H1 s1 r1 => ev_a (h2 H1 s1) fun vs H2 s2 r2 => q (v :: vs) H2 (s1.trans s2) ⟨v, vs, rfl, LastR.up H1 H2 v s2 r1, r2⟩) hs
theorem g_call {α : Type} {A : α → List Rl} {R : α → Rl} {g k n : Nat} {x : Str} {z : α} (F : Fn X.prog X.w X.K X.mg X.base k x (spG A R)) (hr : Room n X.A) (hk : k ≤ n) (h : EvA X (e :: es) σ H (A z)) (I : In X N G sc := by assumption) (hG : At G g x := by repeat (first | with_reducible apply At.z | with_reducible apply At.s))
    (he : starEach (e :: es) X.env = (false, eval e X.env) :: starEach es X.env := by rfl) (hpl : (backTo pos (starEach es X.env)).any (·.1) = false := by rfl) : Ev X (.Call (.Name x p0) (e :: es) [] pos) σ H (R z) :=
  ev_of fun Q q => e_call F hr hk (ev_a h fun vs H1 s1 r1 => ⟨z, r1, fun v H2 s2 r2 => q v H2 (s1.trans s2) r2⟩) I hG he hpl
theorem g_test {QT : Bool → Hp → Prop} (h : Ev X e σ H fun _ v => v = .bl true) (q : ∀ H', Same H H' → QT true H') (he : ∀ whole, isTrue e X.env whole = (do let v ← whole; standAt e.pos; holding [v] (truthy v)) := by intro _; rfl) : wT X e σ H QT :=
  t_val (ev_e h fun v H' s r => by
    cases (show v = .bl true from r)
    exact ⟨true, rfl, q H' s⟩) he
/-- if not a or not b: return False -/
theorem s_no2 {nx : L2.St → Hp → Prop} {rt : VK} {bk ct : L2.St → Hp → Prop} {body : List Stmt} {p1 p2 p3 p4 : Pos} (h1 : Ev X a σ H fun _ v => v = .bl true) (h2 : ∀ H', Same H H' → Ev X b σ H' fun _ v => v = .bl true) (q : ∀ H', Same H H' → nx σ H')
    (he : ∀ whole, isTrue a X.env whole = (do let v ← whole; standAt a.pos; holding [v] (truthy v)) := by intro _; rfl) (he2 : ∀ whole, isTrue b X.env whole = (do let v ← whole; standAt b.pos; holding [v] (truthy v)) := by intro _; rfl) :
    wS X (.If (.BoolOp .Or [.UnaryOp .Not a p1, .UnaryOp .Not b p2] p3) body [] p4) ⟨nx, rt, bk, ct⟩ σ H := by
  refine s_if (t_w (w_or (t_not (g_test h1 (fun H1 s1 => ?_) he))))
  refine iteF (w_or1 (t_not (g_test (h2 H1 s1) (fun H2 s2 => ?_) he2)))
  exact iteF (l_nil (q H2 (s1.trans s2)))
theorem s_no1 {nx : L2.St → Hp → Prop} {rt : VK} {bk ct : L2.St → Hp → Prop} {body : List Stmt} {p1 p4 : Pos} (h1 : Ev X a σ H fun _ v => v = .bl true) (q : ∀ H', Same H H' → nx σ H')
    (he : ∀ whole, isTrue a X.env whole = (do let v ← whole; standAt a.pos; holding [v] (truthy v)) := by intro _; rfl) :
    wS X (.If (.UnaryOp .Not a p1) body [] p4) ⟨nx, rt, bk, ct⟩ σ H := by
  refine s_if (t_not (g_test h1 (fun H1 s1 => ?_) he))
  exact iteF (l_nil (q H1 s1))
theorem g_and2 (h1 : Ev X a σ H fun _ v => v = .bl true) (h2 : ∀ H', Same H H' → Ev X b σ H' fun _ v => v = .bl true) : Ev X (.BoolOp .And [a, b] pos) σ H fun _ v => v = .bl true :=
  ev_of fun Q q => e_and (ev_e h1 fun v H1 s1 r1 => by
    cases (show v = .bl true from r1)
    exact ⟨true, rfl, iteT (e_one (ev_e (h2 H1 s1) fun v H2 s2 r2 => q v H2 (s1.trans s2) r2))⟩)
theorem g_and3 (h1 : Ev X a σ H fun _ v => v = .bl true) (h2 : ∀ H', Same H H' → Ev X b σ H' fun _ v => v = .bl true) (h3 : ∀ H', Same H H' → Ev X c σ H' fun _ v => v = .bl true) : Ev X (.BoolOp .And [a, b, c] pos) σ H fun _ v => v = .bl true :=
  ev_of fun Q q => e_and (ev_e h1 fun v H1 s1 r1 => by
    cases (show v = .bl true from r1)
    refine ⟨true, rfl, iteT (e_and (ev_e (h2 H1 s1) fun v H2 s2 r2 => ?_))⟩
    cases (show v = .bl true from r2)
    exact ⟨true, rfl, iteT (e_one (ev_e (h3 H2 (s1.trans s2)) fun v H3 s3 r3 => q v H3 ((s1.trans s2).trans s3) r3))⟩)
end
section
variable {X : Cx} {H : Hp} {Q : VK} {i j : Int}
theorem o_mulW (c : CMulW i j) (q : Q (.int (i * j)) H) : wB X .Mult (.int i) (.int j) H Q := b_of op_mulW ⟨i, j, rfl, rfl, c, q⟩
end
end Wk
namespace Wk
open PySem PySem.Spec
/-- the value of a return or of an assignment, a comprehension's scope -/
def valE : Stmt → Expr
  | .Return (some e) _ => e
  | .Assign _ e _ => e
  | .Expr e _ => e
  | _ => .Name "" ⟨0, 0, 0, 0⟩
def lcSc : Expr → Scope
  | .ListComp _ _ sc _ => sc
  | _ => { kind := .function, names := [], isGenerator := false, isCoroutine := false }
end Wk
namespace Wk
open PySem PySem.Spec PyProof.Rows L2
section
variable {X : Cx} {c e : Expr} {body : List Stmt} {σ : L2.St} {H : Hp} {pos : Pos} {N G : List Str} {sc : Scope} {QT QT' : Bool → Hp → Prop}
theorem t_mono (q : wT X c σ H QT) (h : ∀ b H1, QT b H1 → QT' b H1) : wT X c σ H QT' := by
  unfold wT at q ⊢
  exact fun pins s I => wpAny_mono (q pins s I) (fun _ _ ⟨H1, I1, z⟩ => ⟨H1, I1, h _ _ z⟩) fun _ _ z => z
theorem s_while {nx : L2.St → Hp → Prop} {rt : VK} {bk ct : L2.St → Hp → Prop} (Pv : L2.St → Hp → Prop) (μ : L2.St → Hp → Nat) (h0 : Pv σ H)
    (hs : ∀ σ H, Pv σ H → wT X c σ H fun b H1 => if b = true then wL X body ⟨fun σ' H' => Pv σ' H' ∧ μ σ' H' < μ σ H, rt, nx, fun σ' H' => Pv σ' H' ∧ μ σ' H' < μ σ H⟩ σ H1 else nx σ H1)
    (I : In X N G sc := by assumption) : wS X (.While c body [] pos) ⟨nx, rt, bk, ct⟩ σ H :=
  s_of (ps_while I.never pt pl) (while_by Pv μ h0 hs fun _ _ _ _ h q => t_mono q h)
end
end Wk
namespace Wk
open PySem PySem.Spec PyProof.Rows L2
section
variable {X : Cx} {o e : Expr} {σ : L2.St} {H : Hp} {Q : VK} {pos apos : Pos}
/-- o.append(e) -/
theorem e_app (q : wE X o σ H fun x H1 => ∃ l xs0, x = .ref l ∧ SqL X.K H1 l xs0 ∧ wE X e σ H1 fun y H2 => ∃ xs, H2 l = some (.lst xs) ∧ xs.length < sizeLine ∧ Q .non (upd H2 l (.lst (xs ++ [y]))))
    (hbase : attributeBase o "append" X.env (eval o X.env) = eval o X.env := by rfl)
    (hfew : ((backTo pos (starEach (e :: []) X.env)).all (fun x => !x.1) && (backToKw pos (keywordEach [] X.env)).all (fun x => x.1.isSome)
      && decide ((e :: []).length + ([] : List Keyword).length + (if ([] : List Keyword).isEmpty then 0 else 1) < 30)) = true := by rfl)
    (hline : (apos.endLine == pos.line) = true := by rfl) (hs : starEach (e :: []) X.env = (false, eval e X.env) :: starEach [] X.env := by rfl) (hplain : (backTo pos (starEach [] X.env)).any (·.1) = false := by rfl) :
    wE X (.Call (.Attribute o "append" apos) [e] [] pos) σ H Q := by
  refine e_of (pe_bm PySem.F.plainAttrs_list PySem.F.slot_list_append PySem.F.type_list_append mt_append pe (pa_cons pe pa_nil hs) hbase hfew hline hs hplain) (e_mono q fun x H1 z => ?_)
  obtain ⟨l, xs0, rfl, hl, z⟩ := z
  refine ⟨.inl ⟨rfl, _, hl⟩, e_mono z fun y H2 z2 => ?_⟩
  obtain ⟨xs, h1, h2, h3⟩ := z2
  exact ⟨l, xs, y, rfl, rfl, h1, h2, h3⟩
end
end Wk
namespace Wk
open PySem PySem.Spec PyProof.Rows L2
theorem All2.len {Rs : List Rl} {H : Hp} : ∀ {vs : List L2.V}, All2 Rs H vs → vs.length = Rs.length := by
  induction Rs with
  | nil => intro vs h; cases (show vs = [] from h); rfl
  | cons R Rs ih => intro vs h; obtain ⟨v, us, rfl, _, h⟩ := h; simp [ih h]
end Wk
namespace Wk
open PySem PySem.Spec PyProof.Rows L2
/-- from the heap H on -/
def EvS (X : Cx) (e : Expr) (σ : L2.St) (H : Hp) (R : Rl) : Prop := ∀ H', Same H H' → Ev X e σ H' R
def EvSA (X : Cx) (es : List Expr) (σ : L2.St) (H : Hp) (Rs : List Rl) : Prop := ∀ H', Same H H' → EvA X es σ H' Rs
abbrev IsT : Rl := fun _ v => v = .bl true
section
variable {X : Cx} {e a b c : Expr} {es : List Expr} {σ : L2.St} {H H0 : Hp} {Q : VK} {pos p0 : Pos} {N G : List Str} {sc : Scope} {R R1 R2 : Rl} {Rs : List Rl}
theorem EvS.up {H1 : Hp} (h : EvS X e σ H R) (s : Same H H1) : EvS X e σ H1 R := fun H' t => h H' (s.trans t)
theorem EvS.get (h : EvS X e σ H R) (q : ∀ v H', Same H H' → R H' v → Q v H') : wE X e σ H Q := ev_e (h H (Same.refl H)) q
theorem gs_var [LastR R] {i : Nat} {x : Str} {v : L2.V} (r : R H v) (I : In X N G sc := by assumption) (hA : At N i x := by repeat (first | with_reducible apply At.z | with_reducible apply At.s)) (hσ : σ[i]? = some (some v) := by exact rfl) : EvS X (.Name x pos) σ H R :=
  fun H' s => g_var (LastR.up H H' v s r) I hA hσ
theorem gs_int {i : Int} {j} : EvS X (.Constant (.int i) j pos) σ H (fun _ v => v = .int i) := fun H' _ => ev_of fun Q q => e_int (q _ H' (Same.refl H') rfl)
theorem gs_nil : EvSA X [] σ H [] := fun _ _ => g_nil
theorem gs_cons [LastR R] (h1 : EvS X e σ H R) (h2 : EvSA X es σ H Rs) (hs : starEach (e :: es) X.env = (false, eval e X.env) :: starEach es X.env := by rfl) : EvSA X (e :: es) σ H (R :: Rs) := fun H' s => g_cons (h1 H' s) (fun H2 s2 => h2 H2 (s.trans s2)) hs
theorem gs_call {α : Type} {A : α → List Rl} {R : α → Rl} {g k n : Nat} {x : Str} {z : α} (F : Fn X.prog X.w X.K X.mg X.base k x (spG A R)) (hr : Room n X.A) (hk : k ≤ n) (h : EvSA X (e :: es) σ H (A z)) (I : In X N G sc := by assumption) (hG : At G g x := by repeat (first | with_reducible apply At.z | with_reducible apply At.s))
    (he : starEach (e :: es) X.env = (false, eval e X.env) :: starEach es X.env := by rfl) (hpl : (backTo pos (starEach es X.env)).any (·.1) = false := by rfl) : EvS X (.Call (.Name x p0) (e :: es) [] pos) σ H (R z) := fun H' s => g_call F hr hk (h H' s) I hG he hpl
/-- if not a or not b: return False; both hold -/
theorem s_nn {nx : L2.St → Hp → Prop} {rt : VK} {bk ct : L2.St → Hp → Prop} {body : List Stmt} {p1 p2 p3 p4 : Pos} (s0 : Same H0 H) (h1 : EvS X a σ H0 IsT) (h2 : EvS X b σ H0 IsT) (q : ∀ H', Same H0 H' → nx σ H')
    (he : ∀ whole, isTrue a X.env whole = (do let v ← whole; standAt a.pos; holding [v] (truthy v)) := by intro _; rfl) (he2 : ∀ whole, isTrue b X.env whole = (do let v ← whole; standAt b.pos; holding [v] (truthy v)) := by intro _; rfl) :
    wS X (.If (.BoolOp .Or [.UnaryOp .Not a p1, .UnaryOp .Not b p2] p3) body [] p4) ⟨nx, rt, bk, ct⟩ σ H := s_no2 (h1 H s0) (fun H1 s1 => h2 H1 (s0.trans s1)) (fun H1 s1 => q H1 (s0.trans s1)) he he2
theorem s_n {nx : L2.St → Hp → Prop} {rt : VK} {bk ct : L2.St → Hp → Prop} {body : List Stmt} {p1 p4 : Pos} (s0 : Same H0 H) (h1 : EvS X a σ H0 IsT) (q : ∀ H', Same H0 H' → nx σ H')
    (he : ∀ whole, isTrue a X.env whole = (do let v ← whole; standAt a.pos; holding [v] (truthy v)) := by intro _; rfl) :
    wS X (.If (.UnaryOp .Not a p1) body [] p4) ⟨nx, rt, bk, ct⟩ σ H := s_no1 (h1 H s0) (fun H1 s1 => q H1 (s0.trans s1)) he
theorem gs_and2 (h1 : EvS X a σ H IsT) (h2 : EvS X b σ H IsT) : EvS X (.BoolOp .And [a, b] pos) σ H IsT := fun H' s => g_and2 (h1 H' s) fun H2 s2 => h2 H2 (s.trans s2)
theorem gs_and3 (h1 : EvS X a σ H IsT) (h2 : EvS X b σ H IsT) (h3 : EvS X c σ H IsT) : EvS X (.BoolOp .And [a, b, c] pos) σ H IsT := fun H' s => g_and3 (h1 H' s) (fun H2 s2 => h2 H2 (s.trans s2)) fun H2 s2 => h3 H2 (s.trans s2)
theorem s_let {nx : L2.St → Hp → Prop} {rt : VK} {bk ct : L2.St → Hp → Prop} {i : Nat} {x : Str} {pos' : Pos} (s0 : Same H0 H) (h : EvS X e σ H0 R) (q : ∀ v H', Same H0 H' → R H' v → nx (σ.set i (some v)) H')
    (I : In X N G sc := by assumption) (hA : At N i x := by repeat (first | with_reducible apply At.z | with_reducible apply At.s)) (hs : swapsWith e (some (.Name x pos')) pos.line X.env = pure false := by rfl) :
    wS X (.Assign [.Name x pos'] e pos) ⟨nx, rt, bk, ct⟩ σ H := s_set ((h.up s0).get fun v H' s r => q v H' (s0.trans s) r) I hA hs
theorem s_retS {nx : L2.St → Hp → Prop} {rt : VK} {bk ct : L2.St → Hp → Prop} (s0 : Same H0 H) (h : EvS X e σ H0 R) (q : ∀ v H', Same H0 H' → R H' v → rt v H') : wS X (.Return (some e) pos) ⟨nx, rt, bk, ct⟩ σ H := s_ret ((h.up s0).get fun v H' s r => q v H' (s0.trans s) r)
end
end Wk

/-! My own layer, more: defs with loops where an error is handled, a keyword-only parameter with a default, insert. -/
namespace Wk
open PySem PySem.Spec PyProof.Rows L2
section
variable {P : Program} {w : World} {K : PySem.W.Frag} {mg : Str → Option Value} {base : Heap}
theorem fn_okH2 {x : Str} {st : Stmt} {N G ps : List Str} {k : Nat} {sp : Sp} (T : Top K mg x st) (S : FnScope N ps (defScope st)) (O : ScOk N G (defScope st)) (len : ∀ vs H Q E, sp vs H Q E → vs.length = ps.length)
    (hb : ∀ (kV doc pm : Value) (an : Option Addr) (cdv ct : Value) (us : List Value), us.length = ps.length → bindArgs (PySem.W.fnOf x x (defArgs st) (defBody st) (defScope st) .none kV doc pm an cdv ct) ⟨us, []⟩ = pure (ps.zip us))
    (hbody : ∀ (f : Addr) (cdv : Value) (A : Around) (outer : List Env) (s : Shared) (H : Hp) (vs : List L2.V) (Q : VK) (E : XK) (p : Addr × Obj), L2H.RoomH k (A.deeper (envOfC x (defScope st) s.heap.objs.size f cdv)) → sp vs H Q E → In (L2H.cxH CX0 P w K mg base N x (defScope st) f cdv A outer s H E p).nox N G (defScope st) →
      L2H.HotC (L2H.cxH CX0 P w K mg base N x (defScope st) f cdv A outer s H E p).nox →
      wL (L2H.cxH CX0 P w K mg base N x (defScope st) f cdv A outer s H E p).nox (defBody st) { nx := fun _ H' => Q .non H', rt := Q } (start N vs) H) : FnHt P w K mg base (k + 1) x sp := by
  obtain ⟨f, fd, F, hm⟩ := T.ex
  obtain ⟨oc, od, kV, doc, pm, an, cdv, ct, osl, rfl, lk, hcd⟩ := id F.ex
  exact ⟨f, _, ps, L2H.fn_ofH lk hcd S len (fun A outer s H vs Q E p hot hr h => ⟨_, PSs.nox pl, hbody f cdv A outer s H vs Q E p hr h ⟨O, ⟨[], (List.append_nil _).symm⟩, S.nd, rfl, rfl, PassesOwn.never⟩ ⟨p, ⟨hot.1, hot.2⟩, List.mem_cons_self⟩⟩), hm, F.kp, F.binds hb⟩
end
section
variable {X : Cx} {N G : List Str} {sc : Scope} {a e v o : Expr} {es : List Expr} {σ : L2.St} {H : Hp} {Q : VK} {pos p0 kpos apos : Pos}
theorem s_forRH {nx : L2.St → Hp → Prop} {rt : VK} {bk ct : L2.St → Hp → Prop} {g : Nat} {x : Str} {i : Nat} {body : List Stmt} {px p cp : Pos} (hm : X.mg "range" = none) (hot : L2H.HotC X)
    (q : wE X a σ H fun v H1 => ∃ n : Nat, v = .int n ∧ n < 2 ^ 62 ∧ ∃ Pv : Nat → L2.St → Hp → Prop, Pv 0 σ H1 ∧ (∀ k σ H, k < n → Pv k σ H → wL X body ⟨Pv (k + 1), rt, nx, Pv (k + 1)⟩ (σ.set i (some (.int (k : Int)))) H) ∧ ∀ σ H, Pv n σ H → nx σ H)
    (I : In X N G sc := by assumption) (hA : At N i x := by repeat (first | with_reducible apply At.z | with_reducible apply At.s))
    (hG : At G g ("range" : Str) := by repeat (first | with_reducible apply At.z | with_reducible apply At.s)) (hs : starEach [a] X.env = [(false, eval a X.env)] := by rfl) (hs2 : ∀ z, foldedSetIterable (.Call (.Name "range" p) [a] [] cp) X.env z = pure z := by intro _; rfl)
    (hs1 : starEach (a :: []) X.env = (false, eval a X.env) :: starEach [] X.env := by rfl) :
    wS X (.For (.Name x px) (.Call (.Name "range" p) [a] [] cp) body [] pos) ⟨nx, rt, bk, ct⟩ σ H := by
  refine s_of (L2H.ps_forH I.never hot (L2H.pi_range1H (I.g hG) hm (pa_cons pe pa_nil hs1) hs) (pg_name I.nd (I.hi hA) (I.loc hA) I.f) pl hs2) (e_mono q fun v H1 q1 => ?_)
  obtain ⟨n, rfl, hn, Pv, h0, hb, hd⟩ := q1
  refine ⟨(n : Int), rfl, by omega, by omega, ?_⟩
  rw [Int.toNat_natCast]
  refine for_range (n := n) Pv h0 (fun k σ H hk p => ?_) hd
  rw [Int.zero_add]
  exact hb k σ H hk p
/-- a def with one keyword-only parameter kw and its default d, that may raise -/
structure FnKw (P : Program) (w : World) (K : PySem.W.Frag) (mg : Str → Option Value) (base : Heap) (k : Nat) (x kw : Str) (m : Nat) (d : L2.V) (sp : Sp) : Prop where
  ex : ∃ (f : Addr) (fd : FuncData) (ps : List Str), FnOk P w K mg base (L2N.CX P w) k f fd ps sp ∧ mg x = some (.ref f) ∧ PySem.W.keepIn K (.ref f) = true ∧ (∃ ds, Vals [d] ds ∧ Binds K fd ps ds) ∧ ∃ g, KBn K fd ps m [kw] g (fun vs zs => vs ++ zs)
theorem e_callD {g k n m : Nat} {x kw : Str} {d : L2.V} {sp : Sp} {W : WX} (F : FnKw X.prog X.w X.K X.mg X.base k x kw m d sp) (tk : L2N.Takes X W) (hr : Room n X.A) (hk : k ≤ n) (q : wA X (e :: es) σ H fun vs H1 => sp (vs ++ [d]) H1 Q (fun cls d H' => W cls d σ H'))
    (I : In X N G sc := by assumption) (hG : At G g x := by repeat (first | with_reducible apply At.z | with_reducible apply At.s)) (he : starEach (e :: es) X.env = (false, eval e X.env) :: starEach es X.env := by rfl) (hpl : (backTo pos (starEach es X.env)).any (·.1) = false := by rfl) :
    wE X (.Call (.Name x p0) (e :: es) [] pos) σ H Q := by
  obtain ⟨f, fd, ps, F0, hm, hkp, ⟨ds, hd, hb⟩, _⟩ := F.ex
  exact e_of (pe_callSD (E := fun σ cls d H' => W cls d σ H') F0 (hr.mono hk) (I.g hG) hm hkp hb hd (fun σ => L2N.passAt tk σ) pa (I.gd hG) he hpl) q
theorem e_callK {g k n m : Nat} {x kw : Str} {d : L2.V} {sp : Sp} {W : WX} (F : FnKw X.prog X.w X.K X.mg X.base k x kw m d sp) (tk : L2N.Takes X W) (hr : Room n X.A) (hk : k ≤ n) (q : wA X (e :: es) σ H fun vs H1 => wE X v σ H1 fun z H2 => vs.length = m ∧ sp (vs ++ [z]) H2 Q (fun cls d H' => W cls d σ H'))
    (I : In X N G sc := by assumption) (hG : At G g x := by repeat (first | with_reducible apply At.z | with_reducible apply At.s))
    (hall : (backToKw pos (keywordEach [⟨some kw, v, kpos⟩] X.env)).all (·.1.isSome) = true := by rfl) (hks : (backToKw pos (keywordEach [⟨some kw, v, kpos⟩] X.env)).filterMap (·.1) = [kw] := by rfl)
    (he : starEach (e :: es) X.env = (false, eval e X.env) :: starEach es X.env := by rfl) (hpl : ((backTo pos (starEach (e :: es) X.env)).any (·.1) || (backToKw pos (keywordEach [⟨some kw, v, kpos⟩] X.env)).any (·.1.isNone)) = false := by rfl) :
    wE X (.Call (.Name x p0) (e :: es) [⟨some kw, v, kpos⟩] pos) σ H Q := by
  obtain ⟨f, fd, ps, F0, hm, hkp, _, g0, hb⟩ := F.ex
  unfold wE
  intro pins s I0
  refine wpAny_Call_Name_kw (ld_glob I0 (I.g hG) hm ?_ (I.gd hG))
  refine PySem.W.callWith_KW (h₀ := X.base) I0.ok.mod.kin hkp hall (thn (pa.run pos pins s σ H _ I0 q) fun us s1 ⟨vs, H1, I1, r, q1⟩ => ?_) hpl he
  refine thn ((pk_cons pe pk_nil).run pos pins s1 σ H1 (fun zs H2 => ∃ z, zs = [z] ∧ vs.length = m ∧ sp (vs ++ [z]) H2 Q (fun cls d H' => W cls d σ H')) I1 (e_mono q1 fun z H2 z2 => ⟨z, rfl, z2⟩)) fun ws s2 ⟨zs, H2, I2, rz, z, ez, l1, q2⟩ => ⟨I2.kIn, ?_⟩
  subst ez
  rw [hks]
  have r2 := hb.rel r rz
  have l2 : ws.length = [kw].length := rz.length.symm
  refine wpAny_call (codeAny_mono (F0.run X.A X.stack s2 H2 ⟨us, [kw].zip ws⟩ (g0 us ws) (vs ++ [z]) Q (fun cls d H' => W cls d σ H') (hr.mono hk) I2.env0 (hb.to s2 us ws I2.kIn (r.length.symm.trans l1) l2) r2 q2) fun r s' hq => ?_)
  cases r with
  | error e => exact L2N.passAt tk σ pins H2 s2 e s' I2 hq
  | ok fl =>
    cases fl with
    | ret u => exact I2.after hq
    | next => exact False.elim hq
    | brk => exact False.elim hq
    | cont => exact False.elim hq
/-- o.insert(0, v) and its like -/
theorem e_ins {i : Expr} (q : wE X o σ H fun x H1 => ∃ l xs0, x = .ref l ∧ SqL X.K H1 l xs0 ∧ wE X i σ H1 fun j H2 => wE X e σ H2 fun y H3 => ∃ n : Int, ∃ xs, j = .int n ∧ H3 l = some (.lst xs) ∧ xs.length < sizeLine ∧ 0 ≤ n ∧ n < 2 ^ 63 ∧ Q .non (upd H3 l (.lst (xs.take n.toNat ++ [y] ++ xs.drop n.toNat))))
    (hbase : attributeBase o "insert" X.env (eval o X.env) = eval o X.env := by rfl)
    (hfew : ((backTo pos (starEach (i :: [e]) X.env)).all (fun x => !x.1) && (backToKw pos (keywordEach [] X.env)).all (fun x => x.1.isSome)
      && decide ((i :: [e]).length + ([] : List Keyword).length + (if ([] : List Keyword).isEmpty then 0 else 1) < 30)) = true := by rfl)
    (hline : (apos.endLine == pos.line) = true := by rfl) (hs : starEach (i :: [e]) X.env = (false, eval i X.env) :: starEach [e] X.env := by rfl) (hs2 : starEach (e :: []) X.env = (false, eval e X.env) :: starEach [] X.env := by rfl) (hplain : (backTo pos (starEach [e] X.env)).any (·.1) = false := by rfl) :
    wE X (.Call (.Attribute o "insert" apos) [i, e] [] pos) σ H Q := by
  refine e_of (pe_bm PySem.F.plainAttrs_list PySem.F.slot_list_insert PySem.F.type_list_insert mt_insert pe (pa_cons pe (pa_cons pe pa_nil hs2) hs) hbase hfew hline hs hplain) (e_mono q fun x H1 z => ?_)
  obtain ⟨l, xs0, rfl, hl, z⟩ := z
  refine ⟨.inl ⟨rfl, _, hl⟩, e_mono z fun j H2 z2 => e_mono z2 fun y H3 z3 => ?_⟩
  obtain ⟨n, xs, rfl, h1, h2, h3, h4, h5⟩ := z3
  exact ⟨l, xs, n, y, rfl, rfl, h1, h2, h3, h4, h5⟩
end
end Wk
namespace Wk
open PySem PySem.Spec PyProof.Rows L2
section
variable {X : Cx} {N G : List Str} {sc : Scope} {a b e v o i : Expr} {es : List Expr} {σ : L2.St} {H : Hp} {Q : VK} {QT : Bool → Hp → Prop} {pos p0 p2 apos : Pos}
theorem t_tru (q : wE X a σ H fun x H' => ∃ k, TruV X.K x H' k ∧ QT k H') (he : ∀ whole, isTrue a X.env whole = (do let v ← whole; standAt a.pos; holding [v] (truthy v)) := by intro _; rfl) : wT X a σ H QT := t_of (pt_truth pe he) q
theorem tru_l {K : PySem.W.Frag} {l : Addr} {xs : List L2.V} (h : H l = some (.lst xs)) : TruV K (.ref l) H (!xs.isEmpty) := .inl ⟨xs, SqL.of h, rfl⟩
/-- o.pop() -/
theorem e_pop (q : wE X o σ H fun x H1 => ∃ l xs y, x = .ref l ∧ H1 l = some (.lst (xs ++ [y])) ∧ Q y (upd H1 l (.lst xs)))
    (hbase : attributeBase o "pop" X.env (eval o X.env) = eval o X.env := by rfl) (hline : (apos.endLine == pos.line) = true := by rfl) : wE X (.Call (.Attribute o "pop" apos) [] [] pos) σ H Q := by
  refine e_of (pe_bm0 PySem.F.plainAttrs_list PySem.F.slot_list_pop PySem.F.type_list_pop mt_pop pe hbase hline) (e_mono q fun x H1 z => ?_)
  obtain ⟨l, xs, y, rfl, h1, h2⟩ := z
  refine ⟨.inl ⟨rfl, _, SqL.of h1⟩, l, _, y, rfl, rfl, h1, by simp, ?_⟩
  rw [List.dropLast_concat]
  exact h2
theorem e_slL0 {r : L2.V → Option Int → Option Int → Hp → VK → Prop} (hr : SlR X r) (q : wE X e σ H fun x H1 => wE X a σ H1 fun y H2 => ∃ j, y = .int j ∧ r x (some j) none H2 Q) : wE X (.Subscript e (.Slice (some a) none none p2) pos) σ H Q :=
  e_of (pe_slice hr pe (po_some pe) po_none) (e_mono q fun x H1 z => e_mono z fun y H2 ⟨j, e, z2⟩ => ⟨j, e, z2⟩)
theorem e_slL1 {r : L2.V → Option Int → Option Int → Hp → VK → Prop} (hr : SlR X r) (q : wE X e σ H fun x H1 => wE X b σ H1 fun y H2 => ∃ j, y = .int j ∧ r x none (some j) H2 Q) : wE X (.Subscript e (.Slice none (some b) none p2) pos) σ H Q :=
  e_of (pe_slice hr pe po_none (po_some pe)) (e_mono q fun x H1 z => e_mono z fun y H2 ⟨j, e, z2⟩ => ⟨j, e, z2⟩)
theorem s_dput {nx : L2.St → Hp → Prop} {rt : VK} {bk ct : L2.St → Hp → Prop} {pos' : Pos} (hu : X.A.units + 1 < cLine) (q : wE X v σ H fun v H1 => wE X o σ H1 fun x H2 => wE X i σ H2 fun y H3 => ∃ a H4, x = .ref a ∧ DPut H3 a y v H4 ∧ nx σ H4)
    (hs : swapsWith v (some (.Subscript o i pos')) pos.line X.env = pure false := by rfl) : wS X (.Assign [.Subscript o i pos'] v pos) ⟨nx, rt, bk, ct⟩ σ H := s_of (ps_dput hu pe pe pe hs) q
theorem c_listD {p : Addr} {kvs : List (Key × L2.V)} (hc : X.calm = true) (h : H p = some (.dK kvs)) (q : ∀ l H2, Same H H2 → H2 l = some (.lst (kvs.map fun kv => kV kv.1)) → Q (.ref l) H2) : wC X (.type "list") [.ref p] H Q :=
  c_of (call_list_dK hc) ⟨p, kvs, rfl, h, fun l np => q l _ (fun c u eo => by rw [upd_ne (ne_of_none eo np)]; exact eo) upd_same⟩
theorem c_listL {p : Addr} {xs : List L2.V} (h : H p = some (.lst xs)) (q : ∀ l H2, Same H H2 → H l = none → H2 l = some (.lst xs) → Q (.ref l) H2) : wC X (.type "list") [.ref p] H Q :=
  c_of call_list_of ⟨p, xs, rfl, .inl (SqL.of h), fun l np => q l _ (fun c u eo => by rw [upd_ne (ne_of_none eo np)]; exact eo) np upd_same⟩
end
end Wk
namespace Wk
open PySem PySem.Spec PyProof.Rows L2
section
variable {X : Cx} {c e : Expr} {body : List Stmt} {σ : L2.St} {H : Hp} {pos : Pos} {N G : List Str} {sc : Scope}
theorem s_whileN {nx : L2.St → Hp → Prop} {rt : VK} {bk ct : L2.St → Hp → Prop} (Pv : Nat → L2.St → Hp → Prop) (n0 : Nat) (h0 : Pv n0 σ H)
    (hs : ∀ n σ H, Pv n σ H → wT X c σ H fun b H1 => if b = true then wL X body ⟨fun σ' H' => ∃ m, m < n ∧ Pv m σ' H', rt, nx, fun σ' H' => ∃ m, m < n ∧ Pv m σ' H'⟩ σ H1 else nx σ H1)
    (I : In X N G sc := by assumption) : wS X (.While c body [] pos) ⟨nx, rt, bk, ct⟩ σ H := by
  refine s_of (ps_while I.never pt pl) ⟨Pv, ⟨n0, h0⟩, fun n σ H p => ?_⟩
  refine t_mono (hs n σ H p) fun b H1 q => ?_
  cases b with
  | true => exact ⟨fun σ' H' => ∃ m, m < n ∧ Pv m σ' H', fun σ' H' z => z, q⟩
  | false => exact q
end
end Wk
namespace Wk
open PySem PySem.Spec PyProof.Rows L2
/-- a block with two own names -/
structure BkOk2 (N : List Str) (V : List (Nat × Str)) (G : List Str) (i j : Nat) (x y : Str) (sc scope : Scope) : Prop where
  lo : ∀ p ∈ V, N[p.1]? = some p.2 ∧ Vis (relS scope sc) p.2 ∧ (p.2 == ("__debug__" : Str)) = false ∧ (p.2 == ("__classdict__" : Str)) = false
  gl : ∀ x ∈ G, (relS scope sc).names.lookup x = some .globalImplicit ∧ (x == ("__debug__" : Str)) = false ∧ x ≠ "__name__"
  own : N[i]? = some x ∧ (relS scope sc).names.lookup x = some .local
  own2 : N[j]? = some y ∧ (relS scope sc).names.lookup y = some .local
  ne : i ≠ j
  blk : blkC N sc scope [(x, i), (y, j)] = true
section
variable {X : Cx} {e a b c elt : Expr} {es rest : List Expr} {σ : L2.St} {H : Hp} {Q : VK} {pos p0 : Pos} {N G G' : List Str} {Vn : List (Nat × Str)} {sc scope : Scope}
theorem BkOk2.inB {i j : Nat} {x y : Str} (B : BkOk2 X.N Vn G' i j x y sc scope) (I : In X N G sc) (s : Shared) (H : Hp) (C : Addr) (cl : List (Str × Addr)) (fp : List Addr) : InB (Bk X s H scope C cl fp) Vn G' := by
  have e : (compEnvC scope cl C X.env).scope = relS scope sc := rel_eq I.sc C cl
  refine ⟨I.nd, fun p hp => ?_, fun y hy => ?_⟩
  · obtain ⟨h1, h2, h3, h4⟩ := B.lo p hp
    exact ⟨h1, by show Vis (compEnvC scope cl C X.env).scope p.2; rw [e]; exact h2, h3, h4⟩
  · obtain ⟨h1, h2, h3⟩ := B.gl y hy
    exact ⟨by show (compEnvC scope cl C X.env).scope.names.lookup y = _; rw [e]; exact h1, h2, h3⟩
def gT2 (K : PySem.W.Frag) (i j : Nat) : TG := fun v σ H Q => ∃ a u w, v = .ref a ∧ SqT K H a [u, w] ∧ Q ((σ.set i (some u)).set j (some w)) H
theorem BkOk2.pg {i j : Nat} {x y : Str} {px py pt : Pos} {k : Nat} (B : BkOk2 X.N Vn G' i j x y sc scope) (hc : X.calm = true) (I : In X N G sc) (s : Shared) (H : Hp) (C : Addr) (cl : List (Str × Addr)) (fp : List Addr) : PG (Bk X s H scope C cl fp) (.Tuple [.Name x px, .Name y py] k pt) (gT2 X.K i j) := by
  have e : (compEnvC scope cl C X.env).scope = relS scope sc := rel_eq I.sc C cl
  have l : (Bk X s H scope C cl fp).env.scope.names.lookup x = some .local := by
    show (compEnvC scope cl C X.env).scope.names.lookup x = _
    rw [e]
    exact B.own.2
  have l2 : (Bk X s H scope C cl fp).env.scope.names.lookup y = some .local := by
    show (compEnvC scope cl C X.env).scope.names.lookup y = _
    rw [e]
    exact B.own2.2
  refine ⟨fun pins s σ H v u Q I0 r h => ?_⟩
  obtain ⟨ad, u1, w1, rfl, hq, q⟩ := h
  exact (pg_tup (X := Bk X _ _ scope C cl fp) hc (pgs_cons (pg_name I.nd B.own.1 (.inl l) (.inr l)) (pgs_cons (pg_name I.nd B.own2.1 (.inl l2) (.inr l2)) pgs_nil))).run pins s σ H _ u Q I0 r ⟨ad, [u1, w1], rfl, hq, rfl, u1, [w1], rfl, w1, [], rfl, rfl, q⟩
theorem BkOk2.ok {i j : Nat} {x y : Str} (B : BkOk2 X.N Vn G' i j x y sc scope) (I : In X N G sc) : BlkOk X.N X.env.scope scope [(x, i), (y, j)] := by
  rw [I.sc]
  exact blkOk_by B.blk
theorem wipe2 (σ : L2.St) (i j : Nat) : wipe σ [i, j] = (σ.set j none).set i none := rfl
theorem wipe_set2 (σ : L2.St) {i j : Nat} (h : i ≠ j) (u w : L2.V) : wipe (((wipe σ [i, j]).set i (some u)).set j (some w)) [i, j] = wipe σ [i, j] := by
  rw [wipe2, wipe2]
  apply List.ext_getElem?
  intro k
  by_cases h1 : i = k
  · subst h1
    simp [List.getElem?_set, h.symm]
  · by_cases h2 : j = k
    · subst h2
      simp [List.getElem?_set, h1]
    · simp [List.getElem?_set, h1, h2]
/-- [elt for x, y in a], a list of pairs -/
def LcL2 (X : Cx) (Vn : List (Nat × Str)) (G' : List Str) (elt : Expr) (scope : Scope) (i j : Nat) (ad : Addr) (xs : List L2.V) (D : Addr) (σ : L2.St) (H1 : Hp) (Qd : Hp → Prop) : Prop := ∃ Pv : Nat → Hp → Prop, Pv 0 (upd H1 D (.lst [])) ∧ (∀ k H2, k ≤ xs.length → Pv k H2 → SqL X.K H2 ad xs) ∧
  (∀ k x H2, xs[k]? = some x → Pv k H2 → ∃ t u w, x = .ref t ∧ SqT X.K H2 t [u, w] ∧ ∀ s0 H0 C cl fp, InB (Bk X s0 H0 scope C cl fp) Vn G' → wE (Bk X s0 H0 scope C cl fp) elt (((wipe σ [i, j]).set i (some u)).set j (some w)) H2 fun y H4 => ∃ acc, H4 D = some (.lst acc) ∧ acc.length < sizeLine ∧ Pv (k + 1) (upd H4 D (.lst (acc ++ [y])))) ∧
  ∀ H2, Pv xs.length H2 → Qd H2
theorem pe_bk2 {i j : Nat} {x y : Str} {s0 : Shared} {H0 : Hp} {C : Addr} {cl : List (Str × Addr)} {fp : List Addr} (I : InB (Bk X s0 H0 scope C cl fp) Vn G') : PE (Bk X s0 H0 scope C cl fp) elt (wBk X Vn G' elt scope) := pe_bk I
theorem lcL2_of {i j : Nat} (hij : i ≠ j) {ad : Addr} {xs : List L2.V} {D : Addr} {H1 : Hp} {Qd : Hp → Prop} (q : LcL2 X Vn G' elt scope i j ad xs D σ H1 Qd) : ∃ W : Nat → Nat → Hp → Prop, (∃ m, W 0 m (upd H1 D (.lst []))) ∧ ∀ k m H, W k m H →
    ((Itl X.K ad).stop k H ∧ Qd H) ∨ ((Itl X.K ad).go k H ∧ ∃ Nx : Hp → Prop, (∀ H', Nx H' → ∃ m', m' < m ∧ W (k + 1) m' H') ∧ ∀ x H', (Itl X.K ad).yld k H x H' → gT2 X.K i j x (wipe σ [i, j]) H' fun σ2 H2 => wipe σ2 [i, j] = wipe σ [i, j] ∧ tYes σ2 H2 fun b H3 =>
      if b = true then wBk X Vn G' elt scope σ2 H3 fun y H4 => ∃ acc, H4 D = some (.lst acc) ∧ acc.length < sizeLine ∧ Nx (upd H4 D (.lst (acc ++ [y]))) else Nx H3) := by
  obtain ⟨Pv, h0, hl, hs, hd⟩ := q
  refine lc_list Pv h0 hl (fun k x H hk p => ?_) hd
  obtain ⟨t, u, w, rfl, hq, z⟩ := hs k x H hk p
  refine ⟨t, u, w, rfl, hq, wipe_set2 σ hij u w, ?_⟩
  unfold tYes
  refine iteT ?_
  unfold wBk
  intro s0 H0 C cl fp I
  exact z s0 H0 C cl fp I
theorem e_lcL2 {i j : Nat} {x y : Str} {px py pt : Pos} {kt : Nat} (B : BkOk2 X.N Vn G' i j x y sc scope)
    (q : wE X a σ H fun v H1 => ∃ ad xs, v = .ref ad ∧ SqL X.K H1 ad xs ∧ ∀ D, H1 D = none → LcL2 X Vn G' elt scope i j ad xs D σ H1 fun H2 => Q (.ref D) H2)
    (I : In X N G sc := by assumption) (hc : X.calm = true := by rfl) (hs2 : ∀ z, foldedSetIterable a X.env z = pure z := by intro _; rfl) :
    wE X (.ListComp elt [⟨.Tuple [.Name x px, .Name y py] kt pt, a, [], 0⟩] scope pos) σ H Q := by
  refine e_of (pe_lc (own := [(x, i), (y, j)]) (g := gT2 X.K i j) (tt := tYes) (te := wBk X Vn G' elt scope) hc I.nd (pi_list pe) (B.ok I) (fun s H C cl fp => B.pg hc I s H C cl fp) (fun _ _ _ _ _ => pts_nil) (fun s H C cl fp => pe_bk (B.inB I s H C cl fp)) hs2) (e_mono q fun v H1 q1 => ?_)
  obtain ⟨ad, xs, rfl, hl, q2⟩ := q1
  exact ⟨ad, rfl, ⟨xs, hl⟩, fun D hD => lcL2_of B.ne (q2 D hD)⟩
end
end Wk
namespace Wk
open PySem PySem.Spec PyProof.Rows L2
section
variable {P : Program} {w : World} {K : PySem.W.Frag} {mg : Str → Option Value} {base : Heap}
/-- a def of the module with one keyword-only default -/
structure TopK (K : PySem.W.Frag) (mg : Str → Option Value) (x : Str) (st : Stmt) (kw : Str) (d : L2.V) : Prop where
  ex : ∃ (f : Addr) (fd : FuncData), FunD K x x (defArgs st) (defBody st) (defScope st) [] [(kw, d)] f fd ∧ mg x = some (.ref f)
theorem topK_mk {h : Heap} {x kw : Str} {d : L2.V} {u : Value} {st : Stmt} {f D : Addr} {oc : Value} {od an : Option Addr} {osl : Array (Option Value)} {doc pm cdv ct : Value} (X : K.In h) (G : h.Ns mainGlobals mg) (a : PySem.W.nsIn K mainGlobals x = some (some (.ref f)))
    (l : K.lookup f = some ⟨oc, od, .func (PySem.W.fnOf x x (defArgs st) (defBody st) (defScope st) .none (.ref D) doc pm an cdv ct), osl⟩) (c : PySem.W.codeIn K cdv x = true) (k : PySem.W.keepIn K (.ref f) = true)
    (hd : PySem.W.nsIn K D kw = some (some u)) (r : RelV d u) : TopK K mg x st kw d :=
  ⟨f, _, ⟨⟨oc, od, .none, .ref D, doc, pm, an, cdv, ct, osl, rfl, l, c, .inl ⟨rfl, rfl⟩, .inr ⟨D, rfl, fun q hq => by
    simp only [List.mem_singleton] at hq
    subst hq
    exact ⟨u, hd, r⟩⟩⟩, k⟩, PySem.W.mg_of X G a⟩
theorem fn_okKw {x kw : Str} {d : L2.V} {st : Stmt} {N G : List Str} {p1 p2 : Str} {k : Nat} {sp : Sp} (T : TopK K mg x st kw d) (S : FnScope N [p1, p2, kw] (defScope st)) (O : ScOk N G (defScope st)) (len : ∀ vs H Q E, sp vs H Q E → vs.length = 3)
    (hb : ∀ (D : Addr) (doc pm : Value) (an : Option Addr) (cdv ct : Value) (a b u : Value), KwChain D [(kw, u)] (bindArgs (PySem.W.fnOf x x (defArgs st) (defBody st) (defScope st) .none (.ref D) doc pm an cdv ct) ⟨[a, b], []⟩) [(p1, a), (p2, b), (kw, u)])
    (hb2 : ∀ (kV doc pm : Value) (an : Option Addr) (cdv ct : Value) (a b u : Value), bindArgs (PySem.W.fnOf x x (defArgs st) (defBody st) (defScope st) .none kV doc pm an cdv ct) ⟨[a, b], [(kw, u)]⟩ = pure [(p1, a), (p2, b), (kw, u)])
    (hbody : ∀ (f : Addr) (cdv : Value) (A : Around) (outer : List Env) (s : Shared) (H : Hp) (vs : List L2.V) (Q : VK) (E : XK), Room k (A.deeper (envOfC x (defScope st) s.heap.objs.size f cdv)) → sp vs H Q E → In (cxOf (L2N.CX P w) P w K mg base N x (defScope st) f cdv A outer s H E) N G (defScope st) →
      L2N.Takes (cxOf (L2N.CX P w) P w K mg base N x (defScope st) f cdv A outer s H E) (fun cls d _ H => E cls d H) →
      wL (cxOf (L2N.CX P w) P w K mg base N x (defScope st) f cdv A outer s H E) (defBody st) { nx := fun _ H' => Q .non H', rt := Q } (start N vs) H) : FnKw P w K mg base (k + 1) x kw 2 d sp := by
  obtain ⟨f, fd, F, hm⟩ := T.ex
  have hbd := FunD.binds0 (ps := [p1, p2, kw]) F 2 (by simp) rfl (fun D doc pm an cdv ct us ks l1 l2 => by
    match us, ks, l1, l2 with
    | [a, b], [u], _, _ => exact hb D doc pm an cdv ct a b u)
  obtain ⟨oc, od, dV, kV, doc, pm, an, cdv, ct, osl, rfl, lk, hcd, hD, hK⟩ := id F.ex
  obtain rfl : dV = .none := by
    rcases hD with ⟨_, h⟩ | ⟨h, _⟩
    · exact h
    · exact absurd rfl h
  refine ⟨f, _, [p1, p2, kw], fn_of lk hcd S len (fun A outer s H vs Q E hr h => ⟨_, pl, hbody f cdv A outer s H vs Q E hr h ⟨O, ⟨[], (List.append_nil _).symm⟩, S.nd, rfl, rfl, passes_of rfl⟩ (L2N.takes_of rfl rfl rfl rfl)⟩), hm, F.kp, ?_, fun us ws => us ++ ws, ⟨fun s us ws _ l1 l2 => ?_, fun r1 r2 => r1.append r2⟩⟩
  · obtain ⟨ds, h1, h2⟩ := hbd
    exact ⟨ds, h1, h2⟩
  · match us, ws, l1, l2 with
    | [a, b], [u], _, _ => exact .of_eq (hb2 kV doc pm an cdv ct a b u)
end
end Wk

set_option maxHeartbeats 4000000
/-! My own layer: sorted(set(xs)) of a list of texts. -/
namespace Wk
open PySem PySem.Spec PyProof.Rows L2
/-- one more text, if it is new -/
def addL (l : List Str) (z : Str) : List Str := if z ∈ l then l else l ++ [z]
def txE (e : Int × Value) : Str := strOf e.2
def TxE (w : World) (e : Int × Value) : Prop := ∃ z tk, e.2 = Value.str z tk ∧ e.1 = hashStr w z
/-- the set of the texts L -/
def SetTx (w : World) (h : Heap) (a : Addr) (L : List Str) : Prop :=
  ∃ ob es ep tb, h.get? a = some ob ∧ ob.ExactSet ∧ ob.data = .set es ep tb ∧ (∀ e ∈ es.toList, TxE w e) ∧ (es.toList.map txE).Perm L ∧ L.Nodup ∧
    es.size < scanBound ∧ tb.fits es.size = true ∧ Ris tb.place.toList ∧ (w.params.followText "set-order" = true ∨ tb.led = true)
section
variable {P : Program} {w : World} {h h' : Heap} {a : Addr} {L : List Str}
theorem SetTx.moves (R : SetTx w h a L) (k : ∀ o, h.get? a = some o → h'.get? a = some o) : SetTx w h' a L := by
  obtain ⟨ob, es, ep, tb, g1, rest⟩ := R
  exact ⟨ob, es, ep, tb, k ob g1, rest⟩
theorem tx_elems {l : List (Int × Value)} (g : ∀ e ∈ l, TxE w e) : ElemsOf (PySem.strKind P w) l := fun e m => by
  obtain ⟨z, tk, e1, e2⟩ := g e m
  refine ⟨⟨z, by rw [e1]; exact strKind_is P w z tk, e2⟩, ?_⟩
  rw [e1]
  rfl
theorem tx_is {e : Int × Value} (g : TxE w e) (z : Str) : (PySem.strKind P w).is z e.2 = true ↔ txE e = z := by
  obtain ⟨y, tk, e1, _⟩ := g
  have e2 : txE e = y := by unfold txE; rw [e1]; rfl
  rw [e2, e1]
  constructor
  · intro q
    obtain ⟨u, eu⟩ := Value.isStrOf_shape (x := z) (show Value.isStrOf z (.str y tk) = true from q)
    injection eu
  · rintro rfl
    exact strKind_is P w y tk
theorem tx_mem {l : List (Int × Value)} (g : ∀ e ∈ l, TxE w e) (z : Str) : z ∈ l.map txE ↔ ∃ e ∈ l, (PySem.strKind P w).is z e.2 = true := by
  rw [List.mem_map]
  exact ⟨fun ⟨e, m, q⟩ => ⟨e, m, (tx_is (g e m) z).2 q⟩, fun ⟨e, m, q⟩ => ⟨e, m, (tx_is (g e m) z).1 q⟩⟩
theorem tx_fresh (ho : h.get? a = some { cls := .type "set", dict := none, data := .set #[] 0 (.fresh 0 0 (!w.params.followText "set-order")) }) : SetTx w h a [] := by
  refine ⟨_, #[], 0, _, ho, ⟨rfl, rfl, rfl⟩, rfl, (fun e m => by simp at m), .refl _, List.nodup_nil, by decide, rfl, List.Pairwise.nil, ?_⟩
  show _ ∨ (!w.params.followText "set-order") = true
  cases w.params.followText "set-order" with
  | false => exact .inr rfl
  | true => exact .inl rfl
end
section
variable {P : Program} {w : World} {A : Around} {E : Value → Shared → Prop} {s : Shared} {a : Addr} {L : List Str}
theorem tx_tail {g : Bool → Sem Unit} (hg : ∀ (b : Bool) (s1 : Shared) (Q1 : Unit → Shared → Prop), Q1 () s1 → wpAny (model P w) A (g b) Q1 E s1)
    {ob : Obj} {es : Array (Int × Value)} {ep : Nat} {tb : SetTable} (g0 : s.heap.get? a = some ob) (gx : ob.ExactSet) (gd : ob.data = .set es ep tb)
    {fs : Array (Int × Value)} {t2 : SetTable} {M : List Str} (g1 : ∀ e ∈ fs.toList, TxE w e) (pm1 : (fs.toList.map txE).Perm M) (nd1 : M.Nodup)
    (b1 : fs.size < scanBound) (f1 : t2.fits fs.size = true) (r1 : Ris t2.place.toList) (l1 : w.params.followText "set-order" = true ∨ t2.led = true) {wd : Bool} {R : Option Bool → Shared → Prop}
    (hR : ∀ h1, Heap.SameBut a s.heap h1 → SetTx w h1 a M → R (some true) { s with heap := h1 }) :
    wpAny (model P w) A (do
        storeSet a fs t2
        if (!wd && t2.tooFull) = true then do
            g (relayAll t2 fs (SetTable.grown fs.size)).2.2
            storeSet a (relayAll t2 fs (SetTable.grown fs.size)).1 (relayAll t2 fs (SetTable.grown fs.size)).2.1
            pure (some true)
          else pure (some true)) R E s := by
  refine wpAny_bind (wpAny_storeSet_of g0 gd ?_ (fits_of_scanBound b1))
  have g02 := store_at (es' := fs) (t' := t2) g0 gd
  have sb := Heap.SameBut.update s.heap a (Obj.putSet fs t2)
  split
  · have pm := relayAll_perm t2 fs (SetTable.grown fs.size)
    have f3 := relayAll_fits t2 fs (SetTable.grown fs.size)
    have r3 := relayAll_ris t2 fs (SetTable.grown fs.size)
    have l3 := relayAll_led t2 fs (SetTable.grown fs.size)
    generalize relayAll t2 fs (SetTable.grown fs.size) = Z at pm f3 r3 l3 ⊢
    obtain ⟨gs, t3, gave⟩ := Z
    dsimp only at pm f3 r3 l3 ⊢
    have zs : gs.size = fs.size := by rw [← Array.length_toList, pm.length_eq, Array.length_toList]
    have b2 : gs.size < scanBound := zs ▸ b1
    refine wpAny_bind (hg _ _ _ (wpAny_bind (wpAny_storeSet_of g02 rfl ?_ (fits_of_scanBound b2))))
    have g03 := store_at (es' := gs) (t' := t3) g02 rfl
    refine wpAny_pure (hR _ (sb.trans (Heap.SameBut.update _ a _)) ⟨_, gs, _, t3, g03, gx, rfl, fun e m => g1 e (pm.mem_iff.mp m), (pm.map txE).trans pm1, nd1, b2, f3, r3, ?_⟩)
    rw [l3]
    exact l1
  · exact wpAny_pure (hR _ sb ⟨_, fs, _, t2, g02, gx, rfl, g1, pm1, nd1, b1, f1, r1, l1⟩)
theorem addL_in {z : Str} (m : z ∈ L) : addL L z = L := if_pos m
theorem addL_new {z : Str} (m : z ∉ L) : addL L z = L ++ [z] := if_neg m
theorem tx_add {z : Str} {tk : Tok} {Q : Bool → Shared → Prop} (R : SetTx w s.heap a L) (room : L.length + 1 < scanBound)
    (hQ : ∀ (b : Bool) h1, Heap.SameBut a s.heap h1 → SetTx w h1 a (addL L z) → Q b { s with heap := h1 }) :
    wpAny (model P w) A (setAddHashed a (.str z tk) ((PySem.strKind P w).hash z)) Q E s := by
  obtain ⟨ob, es, ep, tb, g0, gx, gd, g, pm0, nd, bb, ff, rr, ll⟩ := R
  have hkey : (PySem.strKind P w).is z (.str z tk) = true := strKind_is P w z tk
  have hsc : (Value.str z tk).scannable = true := rfl
  have hel : ElemsOf (PySem.strKind P w) es.toList := tx_elems g
  unfold setAddHashed setAddHashedIn
  refine wpAny_holding (wpAny_bind (wpAny_setState_of g0 gd ff ?_))
  dsimp only
  rw [byScan_of hsc bb hel]
  simp only [↓reduceIte]
  unfold setAddByScan
  refine wpAny_bind (wpAny_bind (wpAny_rule (wpAny_bind (wpAny_setScan_of hkey g0 gd ff hel ?_))))
  cases fi : List.findIdx? (fun e => (PySem.strKind P w).is z e.2) es.toList with
  | some j =>
    dsimp only
    obtain ⟨hj, pj, _⟩ := List.findIdx?_eq_some_iff_getElem.mp fi
    have m : z ∈ L := pm0.mem_iff.mp ((tx_mem (P := P) g z).2 ⟨es.toList[j], List.getElem_mem hj, pj⟩)
    refine wpAny_pure (wpAny_pure (hQ _ s.heap (Heap.SameBut.refl a s.heap) ?_))
    rw [addL_in m]
    exact ⟨ob, es, ep, tb, g0, gx, gd, g, pm0, nd, bb, ff, rr, ll⟩
  | none =>
    dsimp only
    have nz : z ∉ L := fun m => by
      obtain ⟨e, me, q⟩ := (tx_mem (P := P) g z).1 (pm0.mem_iff.mpr m)
      have c := List.findIdx?_eq_none_iff.mp fi e me
      rw [q] at c
      cases c
    have hgw : ∀ (b : Bool) {s1 : Shared} {Q1 : Unit → Shared → Prop}, Q1 () s1 → wpAny (model P w) A (match b with | true => rule "set.scan.the-table-gave-way" | false => pure ()) Q1 E s1 :=
      fun b s1 Q1 q => by cases b <;> first | exact wpAny_pure q | exact wpAny_rule q
    have pm := layNew_perm tb es ((PySem.strKind P w).hash z) (.str z tk)
    have f1 := layNew_fits tb es ((PySem.strKind P w).hash z) (.str z tk)
    have r1 := layNew_ris tb es ((PySem.strKind P w).hash z) (.str z tk) rr
    have l1 := layNew_led tb es ((PySem.strKind P w).hash z) (.str z tk)
    generalize layNew tb es ((PySem.strKind P w).hash z) (.str z tk) = Z at pm f1 r1 l1 ⊢
    obtain ⟨fs, t1, wd, gave⟩ := Z
    dsimp only at pm f1 r1 l1 ⊢
    rw [Array.toList_push] at pm
    have pk : (fs.toList.map txE).Perm (addL L z) := by
      rw [addL_new nz]
      refine (pm.map txE).trans ?_
      rw [List.map_append]
      exact pm0.append_right _
    have g1 : ∀ e ∈ fs.toList, TxE w e := fun e m => by
      rcases List.mem_append.mp (pm.mem_iff.mp m) with y | y
      · exact g e y
      · rw [List.mem_singleton.mp y]
        exact ⟨z, tk, rfl, rfl⟩
    have nd1 : (addL L z).Nodup := by
      rw [addL_new nz]
      exact List.nodup_append.mpr ⟨nd, by simp, fun x hx y hy e => by rw [List.mem_singleton] at hy; subst hy; subst e; exact nz hx⟩
    have zs : fs.size = L.length + 1 := by
      have q := pk.length_eq
      rw [addL_new nz, List.length_map, List.length_append, Array.length_toList] at q
      exact q
    have b1 : fs.size < scanBound := by rw [zs]; exact room
    have led : w.params.followText "set-order" = true ∨ t1.led = true := by rw [l1]; exact ll
    refine wpAny_bind (hgw _ ?_)
    split
    · refine wpAny_bind ?_
      rw [hashByValue_scannable 8 hsc]
      refine wpAny_pure (tx_tail ?_ g0 gx gd g1 pk nd1 b1 ?_ ?_ ?_ ?_)
      · intro b s1 Q1 q; cases b <;> first | exact wpAny_pure q | exact wpAny_rule q
      · first | (split <;> first | exact f1 | exact SetTable.fits_plain_off f1) | exact f1
      · first | (split <;> exact r1 rr) | exact r1 rr | (split <;> exact r1) | exact r1
      · first | (split <;> exact led) | exact led
      · intro h1 sb r; dsimp only; exact wpAny_pure (hQ true h1 sb r)
    · refine wpAny_bind (wpAny_pure ?_)
      simp only [↓reduceIte]
      refine tx_tail ?_ g0 gx gd g1 pk nd1 b1 f1 ?_ led ?_
      · intro b s1 Q1 q; cases b <;> first | exact wpAny_pure q | exact wpAny_rule q
      · first | exact r1 | exact r1 rr
      · intro h1 sb r; dsimp only; exact wpAny_pure (hQ true h1 sb r)
end
section
variable {P : Program} {w : World} {A : Around} {E : Value → Shared → Prop} {s : Shared}
def uniqL (zs : List Str) : List Str := zs.foldl addL []
theorem uniqL_snoc (zs : List Str) (z : Str) : uniqL (zs ++ [z]) = addL (uniqL zs) z := by unfold uniqL; rw [List.foldl_append]; rfl
theorem addL_len (l : List Str) (z : Str) : (addL l z).length ≤ l.length + 1 := by unfold addL; split <;> simp
theorem foldL_len : ∀ (zs l : List Str), (zs.foldl addL l).length ≤ l.length + zs.length
  | [], l => by simp
  | z :: zs, l => by
    have h1 := foldL_len zs (addL l z)
    have h2 := addL_len l z
    simp only [List.foldl_cons, List.length_cons]
    omega
theorem uniqL_len (zs : List Str) : (uniqL zs).length ≤ zs.length := by
  have h := foldL_len zs []
  simpa [uniqL] using h
theorem tx_loop {I : Addr} {fp wr : List Addr} {G : Array GenState → Array GenState → Prop} {n : Nat} {Pv : Nat → Value → Prop} {St : Nat → Shared → Prop} {R : Result → Shared → Prop}
    (W : WalksS P w A.in1 I fp wr G n Pv St) (D : Addr) (dfp : D ∉ fp) (zs : List Str) (en : n = zs.length) (hb : zs.length + 1 < scanBound) (hv : ∀ i v, Pv i v → ∃ z t, zs[i]? = some z ∧ v = .str z t) :
    ∀ (k i : Nat) (s : Shared), n - i = k → i ≤ n → St i s → SetTx w s.heap D (uniqL (zs.take i)) →
      (∀ s1, Moved (D :: wr) G s s1 → SetTx w s1.heap D (uniqL zs) → R (.ok (.ret .none)) s1) →
      codeAny (model P w) A (.builtin "set.update.loop" ⟨[.ref D, .ref I], []⟩) R s := by
  have dwr : D ∉ wr := fun m => dfp (W.sub _ m)
  have more : ∀ b ∈ wr, b ∈ D :: wr := fun b m => List.mem_cons_of_mem _ m
  intro k
  induction k with
  | zero =>
    intro i s ek hi st hD hR
    obtain rfl : i = n := by omega
    refine codeAny_builtin PyProof.Rows.F.entry_set_update_loop ?_
    rw [Around.under_plainId PyProof.Rows.F.plain_set_update_loop _]
    show wpAny _ A.in1 (pyNext (.ref I) >>= _) _ _ s
    refine wpAny_bind (W.done s _ _ st fun s1 mv => ?_)
    show wpAny _ A.in1 (ret Value.none) _ _ s1
    rw [List.take_of_length_le (by omega)] at hD
    exact wpAny_pure (hR s1 (mv.mono more) (hD.moves fun o e => mv.heap D o dwr e))
  | succ k ih =>
    intro i s ek hi st hD hR
    have lt : i < n := by omega
    refine codeAny_builtin PyProof.Rows.F.entry_set_update_loop ?_
    rw [Around.under_plainId PyProof.Rows.F.plain_set_update_loop _]
    show wpAny _ A.in1 (pyNext (.ref I) >>= _) _ _ s
    refine wpAny_bind (W.item i s _ _ lt st fun v s1 hp st1 mv => ?_)
    obtain ⟨z, t, hz, rfl⟩ := hv i v hp
    have hD1 : SetTx w s1.heap D (uniqL (zs.take i)) := hD.moves fun o e => mv.heap D o dwr e
    show wpAny _ A.in1 (holding [Value.str z t] (setAdd D (.str z t)) >>= _) _ _ s1
    refine wpAny_bind (wpAny_holding ?_)
    unfold setAdd
    refine wpAny_holding (wpAny_bind ((PySem.strKind P w).pyHash (k := z) (strKind_is _ _ _ _) ?_))
    have hl := uniqL_len (zs.take i)
    rw [List.length_take] at hl
    refine tx_add (s := { s1 with toks := s1.toks + 1 }) hD1 (by omega) fun b h1 sb hD2 => ?_
    rw [← uniqL_snoc, show zs.take i ++ [z] = zs.take (i + 1) by rw [List.take_add_one, hz]; rfl] at hD2
    refine wpAny_pure ⟨plainId_quiet PyProof.Rows.F.plain_set_update_loop _, ih (i + 1) _ (by omega) lt (W.frame _ s1 _ _ st1 (Nat.le_succ _) fun b m o e => ?_) hD2 fun s2 mv2 hD3 => ?_⟩
    · rw [sb.2 b (fun q : b = D => dfp (q ▸ m))]
      exact e
    · refine hR s2 (Moved.trans W.gtrans ((mv.mono more).then_heap (Nat.le_succ _) fun b o m e => ?_) mv2) hD3
      rw [sb.2 b (fun q : b = D => m (by rw [q]; exact List.mem_cons_self))]
      exact e
def freshSet (w : World) : Obj := { cls := .type "set", dict := none, data := .set #[] 0 (.fresh 0 0 (!w.params.followText "set-order")) }
theorem call_setTx {l : Addr} {items : Array Value} (zs : List Str) {Q : Value → Shared → Prop} (hh : A.handled = none) (hl : s.heap.IsList l items) (hit : StrsAre items.toList zs) (hb : zs.length + 1 < scanBound)
    (h : ∀ (h1 : Heap) (tk : Nat), SetTx w h1 s.heap.objs.size (uniqL zs) → (∀ b o, s.heap.get? b = some o → h1.get? b = some o) → Q (.ref s.heap.objs.size) { s with heap := h1, toks := tk }) :
    wpAny (model P w) A (call (.type "set") [.ref l]) Q E s := by
  have hisz : items.size = zs.length := by rw [← StrsAre.len_eq hit, Array.length_toList]
  obtain ⟨c, tl, hmro⟩ := PySem.F.called_set.mro
  have hmade := PySem.F.called_set.made
  have hsub := PySem.F.called_set.sub
  refine wpAny_call (codeAny_of_tree ?_)
  show wpAny _ _ (callAny (.type "set") _) _ _ _
  refine wpAny_pure ⟨Code.quiet_builtin _ (by decide +kernel), codeAny_builtin PySem.F.entry_type_call ?_⟩
  rw [Around.under_plain (weight_type_call_type "set" [.ref l] []) rfl]
  have h1 := PySem.F.called_set.notType
  have h2 := PySem.F.called_set.canCreate
  have hct := PySem.F.typeCall_set_1 (.ref l)
  repeat (any_goals (first | assumption | wp_step))
  refine codeAny_mono (code_set_led1 (.ref l) (E := E) (Q₁ := fun ov s1 => ov = .ref s.heap.objs.size ∧ s1 = { s with heap := s.heap.push (freshSet w) }) ⟨rfl, rfl⟩) fun r s1 hr => ?_
  cases r with
  | error e => exact hr
  | ok fl =>
    cases fl with
    | ret ov =>
      obtain ⟨rfl, rfl⟩ := hr
      have gS : (s.heap.push (freshSet w)).get? s.heap.objs.size = some (freshSet w) := Heap.get?_push_size _ rfl
      have gT : Shared.TypeIs { s with heap := s.heap.push (freshSet w) } (.ref s.heap.objs.size) "set" := ⟨_, gS, rfl⟩
      have hli := PySem.F.called_set.init.lookup
      have hbi := PySem.F.called_set.init.bind (.ref s.heap.objs.size)
      repeat (any_goals (first | assumption | wp_step))
      refine codeAny_mono (codeAny_call_builtin (R := wants (fun r s2 => r = .none ∧ ∃ h1 tk, s2 = { s with heap := h1, toks := tk } ∧ SetTx w h1 s.heap.objs.size (uniqL zs) ∧
          (∀ b o, s.heap.get? b = some o → h1.get? b = some o)) E) PySem.F.called_set.init.plain PySem.F.entry_set_init (check_set_init_1 gT ?_)) fun r2 s2 hr2 => ?_
      · obtain ⟨ol, hol, hcl, nl, hdl⟩ := hl
        obtain ⟨ocls, odict, odata, oslots⟩ := ol
        simp only at hcl hdl
        subst hcl; subst hdl
        have hol1 : (s.heap.push (freshSet w)).get? l = some { cls := .type "list", dict := odict, data := .seq items nl, slots := oslots } := Heap.get?_push_of_some _ hol
        have hsls := PySem.F.sub_list_set
        have hslf := PySem.F.sub_list_frozenset
        have hne : (Value.type "list" == Value.type "dict") = false := by decide
        have hl1 : (s.heap.push (freshSet w)).IsList l items := ⟨_, hol1, rfl, nl, rfl⟩
        unfold Builtin.«set.__init__» noKeywords Builtin.Frozenset.updateFrom
        generalize hPI : pyIter = PI
        wp_walk
        subst hPI
        refine wpAny_pyIter_list hl1 ?_
        refine wpAny_bind (wpAny_runValue ?_)
        have hlS : l < s.heap.objs.size := Heap.lt_size hol
        have hh3 : A.in1.in1.in1.handled = none := by simp [hh]
        have hneI : l ≠ (s.heap.push (freshSet w)).objs.size := by
          rw [Heap.size_push]; exact Nat.ne_of_lt (Nat.lt_succ_of_lt hlS)
        have hSf : s.heap.objs.size ∉ [(s.heap.push (freshSet w)).objs.size, l] := by
          rw [Heap.size_push]; simp only [List.mem_cons, List.mem_singleton, List.not_mem_nil, or_false, not_or]
          exact ⟨Nat.ne_of_lt (Nat.lt_succ_self _), Nat.ne_of_gt hlS⟩
        have hval : ∀ (i : Nat) (v : Value), items[i]? = some v → ∃ z t, zs[i]? = some z ∧ v = .str z t := fun i v hv => by
          have hi : i < zs.length := by rw [← hisz]; exact (Array.getElem?_eq_some_iff.mp hv).1
          obtain ⟨t, e⟩ := SS.strs_at hit i v (by rw [Array.getElem?_toList]; exact hv)
          refine ⟨zs[i], t, List.getElem?_eq_getElem hi, ?_⟩
          rw [e, List.getD_eq_getElem?_getD, List.getElem?_eq_getElem hi] <;> rfl
        refine tx_loop ((Walks.list hh3 _ l hneI items).toS) s.heap.objs.size hSf zs hisz hb hval (items.size - 0) 0 _ (by omega) (Nat.zero_le _)
          ⟨⟨_, Heap.get?_push_size _ rfl, rfl, rfl⟩, (hl1.push _)⟩ (tx_fresh (Heap.get?_push_of_some _ gS)) fun s3 hm hD => ?_
        obtain ⟨h3, g3, d3, tk3, os3⟩ := s3
        obtain rfl : g3 = s.gens := hm.gens
        obtain rfl : d3 = s.drawn := hm.drawn
        obtain rfl : os3 = s.os := hm.os
        show wpAny _ _ _ _ _ _
        refine wpAny_pure ?_
        show wpAny _ _ (ret Value.none) _ _ _
        refine wpAny_pure ⟨rfl, h3, tk3, rfl, hD, fun b o e => ?_⟩
        have hb0 : b < s.heap.objs.size := Heap.lt_size e
        refine hm.heap b o ?_ (Heap.get?_push_of_some _ (Heap.get?_push_of_some _ e))
        simp only [List.mem_cons, List.mem_singleton, List.not_mem_nil, or_false, not_or]
        exact ⟨Nat.ne_of_lt hb0, by rw [Heap.size_push]; exact Nat.ne_of_lt (Nat.lt_succ_of_lt hb0)⟩
      · cases r2 with
        | error e => exact hr2
        | ok fl2 =>
          cases fl2 with
          | ret r =>
            obtain ⟨rfl, h3, tk, rfl, hD, hk⟩ := hr2
            repeat (any_goals (first | assumption | wp_step))
            exact h _ _ hD hk
          | _ => exact hr2.elim
    | _ => exact hr.elim
end
end Wk

set_option maxHeartbeats 4000000
/-! My own layer: sorted of a set of texts, tuple(reversed(t)) of a tuple. -/
namespace Wk
open PySem PySem.Spec PyProof.Rows L2
section
variable {P : Program} {w : World} {A : Around} {E : Value → Shared → Prop} {s : Shared} {a : Addr} {L : List Str}
theorem sorted_setTx {Q : Value → Shared → Prop} (R : SetTx w s.heap a L) (hh : A.handled = none) (h64 : L.length < 64)
    (hQ : ∀ s1 p (out : Array Value) (c : Nat) (ys : List Str), (∀ b o, s.heap.get? b = some o → s1.heap.get? b = some o) → s1.gens = s.gens → s1.os = s.os → s.heap.objs.size ≤ p →
      s1.heap.get? p = some (seqObj "list" out c) → StrsAre out.toList ys → ys.Perm L → sortedS ys = true → Q (.ref p) s1) :
    wpAny (model P w) A (call (.builtin "sorted") [.ref a]) Q E s := by
  obtain ⟨ob, es, ep, tb, g0, gx, gd, g, pm0, nd, bb, ff, rr, ll⟩ := R
  refine Calls.call_function_entry kind_sorted plain_sorted entry_sorted (args_sorted1 _) ?_
  unfold Builtin.«sorted»
  refine wpAny_bind (m := checkCount "sorted" 1 1 _) (wpAny_pure ?_)
  refine wpAny_bind (collect_set (A := A.in1) hh ⟨ob, g0, gx.1, gd⟩ ff bb rr ll fun s1 vs k1 hz g1 o1 pm => ?_)
  have hI : StrsAre vs (vs.map strOf) := strsAre_map vs fun v hv => by
    obtain ⟨e, he, q⟩ := List.mem_map.mp (pm.mem_iff.mp hv)
    obtain ⟨z, tk, e1, _⟩ := g e he
    exact ⟨z, tk, q ▸ e1⟩
  have pk : (vs.map strOf).Perm L := by
    have q := pm.map strOf
    rw [List.map_map] at q
    exact q.trans pm0
  have hvl : vs.length = L.length := by have q := pk.length_eq; rwa [List.length_map] at q
  refine wpAny_bind (wpAny_newList ?_ (by rw [hvl, sizeLine_eq]; omega))
  have hoL : (s1.heap.push (seqObj "list" vs.toArray 0)).get? s1.heap.objs.size = some (seqObj "list" vs.toArray 0) := Heap.get?_push_size _ rfl
  refine wpAny_bind (wpAny_holding (wpAny_call_entry slot_list_sort ⟨_, hoL, rfl⟩ entry_list_sort (list_sort_treeK strKind_oneLt hoL hI.keysOf
    (fun v1 v2 rest e => keyKind_strs (ss := vs.map strOf) (by rw [← e]; exact hI)) (by rw [hvl]; exact h64) fun st hp hs => ⟨_, rfl, ?_⟩) (args_list_sort _)))
  obtain ⟨ys, y1, y2, y3⟩ := sorted_out_str hI hp hs
  obtain ⟨c, hc⟩ := sortedHeap_at (vs := vs) (out := (arrOf st).map (·.2)) hoL
  refine wpAny_pure ⟨_, rfl, hQ _ s1.heap.objs.size _ c ys (fun b u e => ?_) g1 o1 hz hc y1 (y2.trans pk) y3⟩
  have q := k1 b u e
  have lt := Heap.lt_size q
  show (sortedHeap (s1.heap.push (seqObj "list" vs.toArray 0)) s1.heap.objs.size vs ((arrOf st).map (·.2))).get? b = some u
  rw [sortedHeap_old (Nat.ne_of_lt lt) (by rw [size_push']; exact Nat.lt_succ_of_lt lt)]
  exact Heap.get?_push_of_some _ q
end
/-- the set of the texts L at a -/
def SetTO (w : World) (a : Addr) (L : List Str) : HO := .ext fun h => SetTx w h a L
section
variable {X : Cx}
theorem setTO_ok {w : World} {P : Program} {H : Hp} {h : Heap} {a : Addr} {L : List Str} (R : SetTx w h a L) : ObjOk P w H h a (SetTO w a L) := by
  have ⟨o, _, _, _, ho, _⟩ := R
  exact ⟨R, ⟨o, ho⟩, fun _ _ p k => SetTx.moves p k⟩
def rSetOfTx (w : World) (K : PySem.W.Frag) : List V → Hp → VK → Prop := fun xs H Q => ∃ (l : Addr) (zs : List Str), xs = [V.ref l] ∧ SqL K H l (zs.map V.str) ∧ zs.length + 1 < scanBound ∧ ∀ p, H p = none → Q (.ref p) (upd H p (SetTO w p (uniqL zs)))
theorem cr_setOfTx (hc : X.calm = true) : CallR X (.type "set") (rSetOfTx X.w X.K) := by
  intro pins s σ H xs us Q I r h
  obtain ⟨l, zs, rfl, hq, hb, q⟩ := h
  rw [Vals.ref1 r]
  obtain ⟨its, rv, pl, hz⟩ := I.list hq
  refine call_setTx zs (I.ok.hd hc) pl.isList (by simpa using strsAre_of rv) hb fun h1 tk hD k => ?_
  exact ⟨.ref _, upd H s.heap.objs.size (SetTO X.w s.heap.objs.size (uniqL zs)), I.laid (t' := tk) k (Nat.le_refl _) (setTO_ok hD), rfl, q _ (I.hok.fresh (Nat.le_refl _))⟩
def rSortedTx (w : World) : List V → Hp → VK → Prop := fun vs H Q => ∃ (a : Addr) (L : List Str), vs = [V.ref a] ∧ H a = some (SetTO w a L) ∧ L.length < 64 ∧
  ∀ (ys : List Str) (p : Addr), ys.Perm L → sortedS ys = true → H p = none → Q (.ref p) (upd H p (.lst (ys.map V.str)))
theorem cr_sortedTx (hc : X.calm = true) : CallR X (.builtin "sorted") (rSortedTx X.w) := by
  intro pins s σ H vs us Q I r h
  obtain ⟨a, L, rfl, ha, h64, q⟩ := h
  have R : SetTx X.w s.heap a L := (I.hok a _ ha).1
  rw [Vals.ref1 r]
  refine sorted_setTx R (I.ok.hd hc) h64 fun s1 p out c ys k g o hp hg hi pm hs => ?_
  have hlen : (ys.map V.str).length ≤ sizeLine := by rw [List.length_map, pm.length_eq, sizeLine_eq]; omega
  have hn : H p = none := I.hok.fresh hp
  have J : Inv X pins σ (upd H p (.lst (ys.map V.str))) { s with heap := s1.heap, gens := s1.gens, drawn := s1.drawn, toks := s1.toks } :=
    I.call (ch := []) (Un.laid k hp hn) (I.hok.laid k hp ⟨hlen, out.toList, c, vals_of_strs hi, hg⟩) (by rw [g]; exact I.bare) (fun _ z => nomatch z)
  have e : s1 = { s with heap := s1.heap, gens := s1.gens, drawn := s1.drawn, toks := s1.toks } := by
    cases s1
    cases s
    cases o
    rfl
  rw [e]
  exact ⟨.ref p, _, J, rfl, q ys p pm hs hn⟩
end
end Wk

set_option maxHeartbeats 4000000
/-! My own layer: tuple(reversed(t)) of a tuple. -/
namespace Wk
open PySem PySem.Spec PyProof.Rows L2 RT
theorem nolen_rt : typeLookup (.type "reversed") "__len__" = pure none := by rw [typeLookup_type, builtinLookup_eq_fast]; kernel_rfl
theorem hint_rt : typeLookup (.type "reversed") "__length_hint__" = pure (some (.builtin "reversed.__length_hint__")) := by rw [typeLookup_type, builtinLookup_eq_fast]; kernel_rfl
theorem slot_rt_hint : Slot "reversed" "__length_hint__" "reversed.__length_hint__" :=
  .of (owner := "reversed") (n := "__length_hint__") (by rw [typeLookup_type, builtinLookup_eq_fast]; kernel_rfl) (by decide +kernel) (by decide +kernel) (by decide +kernel)
    (by first | exact .inl (by decide +kernel) | exact .inr (by decide +kernel)) (by rw [isSubtype_type]; kernel_rfl)
theorem entry_rt_hint : entryFor table "reversed.__length_hint__" = some Builtin.«reversed.__length_hint__» := entryFor_of_tree (by kernel_rfl)
theorem args_rt_hint (a : Value) : argsOk "reversed.__length_hint__" ⟨[a], []⟩ := by
  unfold argsOk; rw [signature?_of (id := "reversed.__length_hint__") (n := ['_', '_', 't', 'n', 'i', 'h', '_', 'h', 't', 'g', 'n', 'e', 'l', '_', '_']) (o := ['d', 'e', 's', 'r', 'e', 'v', 'e', 'r']) (by kernel_rfl) owner_rt]; kernel_rfl
theorem bind_rt_hint (x : Value) : bindSpecial (.builtin "reversed.__length_hint__") x = pure (.builtin "reversed.__length_hint__", [x]) := by
  unfold bindSpecial
  rw [show typeOf (.builtin "reversed.__length_hint__") = pure (.type "method_descriptor") from by kernel_rfl]
  rfl
section
variable {prog : Program} {w : World} {A : Around} {E : Value → Shared → Prop} {s : Shared}
theorem walks_rt (hh : A.handled = none) (it t : Addr) (ne : t ≠ it) (items : Array Value) (hz : items.size ≤ sizeLine) :
    Walks prog w A it [it, t] [it] items.size (fun i v => items[items.size - 1 - i]? = some v) (fun i h => i ≤ items.size ∧ IsRt h it t ((items.size : Int) - 1 - (i : Int)) ∧ IsTup h t items) where
  sub := fun b m => by simp at m; simp [m]
  frame := fun _ _ _ x k => ⟨x.1, x.2.1.at fun o e => k it (by simp) o e, let ⟨o, e, z⟩ := x.2.2; ⟨o, k t (by simp) o e, z⟩⟩
  item := fun i s Q E hi x hQ => by
    have e1 : (items.size : Int) - 1 - (i : Int) = ((items.size - 1 - i : Nat) : Int) := by omega
    have hit := x.2.1
    rw [e1] at hit
    have hx : items[items.size - 1 - i]? = some (items[items.size - 1 - i]'(by omega)) := Array.getElem?_eq_getElem (by omega)
    refine next_rt_item hit x.2.2 hx hz fun h1 st sb => ?_
    have e2 : ((items.size - 1 - i : Nat) : Int) - 1 = (items.size : Int) - 1 - ((i + 1 : Nat) : Int) := by omega
    rw [e2] at st
    exact hQ _ h1 _ hx ⟨hi, st, let ⟨o, eo, z⟩ := x.2.2; ⟨o, (sb.2 t ne).trans eo, z⟩⟩ fun b o nb eo => sb.extBut b o (fun q => nb (by simp [q])) eo
  done := fun s Q E x hQ => by
    have e1 : (items.size : Int) - 1 - (items.size : Int) = -1 := by omega
    have hit := x.2.1
    rw [e1] at hit
    exact next_rt_end hh hit fun h1 he => hQ h1 s.toks fun b o nb eo => he b o (fun q => nb (by simp [q])) eo
  self := fun _ _ _ _ x hQ => iter_rt x.2.1 hQ
theorem call_rt_hint {it t : Addr} {items : Array Value} {Q : Value → Shared → Prop} (hit : IsRt s.heap it t ((items.size : Int) - 1)) (ht : IsTup s.heap t items) (hz : items.size ≤ sizeLine)
    (hQ : ∀ tk u, Q (.int items.size tk) { s with toks := u }) : wpAny (model prog w) A (call (.builtin "reversed.__length_hint__") [.ref it]) Q E s := by
  obtain ⟨o, ho, hc, hd⟩ := id hit
  have z2 := hz
  rw [sizeLine_eq] at z2
  refine wpAny_call_entry slot_rt_hint hit.typeIs entry_rt_hint ?_ (args_rt_hint _)
  unfold Builtin.«reversed.__length_hint__»
  refine wpAny_bind (wpAny_of_eq (a := Value.ref it) rfl ?_)
  try dsimp only
  refine wpAny_bind (wpAny_field ho hd (x := .ref t) rfl ?_)
  try dsimp only
  have nn : (Value.ref t == Value.none) = false := by
    first | rfl | exact beq_eq_false_iff_ne.mpr (fun z => nomatch z)
  rw [nn]
  simp only [Bool.false_eq_true, ↓reduceIte]
  refine wpAny_bind (len_tuple ht (by omega) ?_)
  refine wpAny_bind (wpAny_of_eq (a := some ((items.size : Nat) : Int)) rfl ?_)
  try dsimp only
  refine wpAny_bind (wpAny_field (s := { s with toks := s.toks + 1 + 1 }) ho hd (x := rawInt ((items.size : Int) - 1)) rfl ?_)
  show wpAny _ _ (if (items.size : Int) < (items.size : Int) - 1 + 1 then _ else _) _ _ _
  rw [if_neg (by omega)]
  have e1 : (items.size : Int) - 1 + 1 = items.size := by omega
  show wpAny _ _ (retInt ((items.size : Int) - 1 + 1)) _ _ _
  rw [e1]
  unfold retInt
  refine wpAny_bind (wpAny_mkInt ?_)
  exact wpAny_pure ⟨_, rfl, hQ _ _⟩
theorem collect_rt {it t : Addr} {items : Array Value} {Q : List Value → Shared → Prop} (hh : A.handled = none) (hit : IsRt s.heap it t ((items.size : Int) - 1)) (ht : IsTup s.heap t items) (ne : t ≠ it) (hz : items.size ≤ sizeLine)
    (hQ : ∀ (h1 : Heap) (tk : Nat) (acc : Array Value), (∀ b o, b ≠ it → s.heap.get? b = some o → h1.get? b = some o) → ItemsOf (fun i v => items[items.size - 1 - i]? = some v) acc items.size → Q acc.toList { s with heap := h1, toks := tk }) :
    wpAny (model prog w) A (collect (.ref it)) Q E s := by
  have W := (walks_rt (prog := prog) (w := w) (A := A.in1) hh it t ne items hz).toS
  obtain ⟨oi, hoi, _⟩ := id hit
  obtain ⟨ot, hot, _⟩ := id ht
  have nSi : s.heap.objs.size ≠ it := Nat.ne_of_gt (Heap.lt_size hoi)
  have nSt : s.heap.objs.size ≠ t := Nat.ne_of_gt (Heap.lt_size hot)
  have nSf : s.heap.objs.size ∉ [it, t] := by simp only [List.mem_cons, List.not_mem_nil, or_false, not_or]; exact ⟨nSi, nSt⟩
  unfold collect
  refine wpAny_bind (wpAny_runValue (codeAny_builtin F.entry_proto_collect ?_))
  rw [Around.under_plainId F.plain_proto_collect _]
  show wpAny _ A.in1 (newList [] >>= fun l' => again (.builtin "list.__iadd__" ⟨[l', .ref it], []⟩)) _ _ s
  refine wpAny_bind (wpAny_newObj_type ?_)
  refine wpAny_pure ⟨plainId_quiet F.plain_list_iadd _, codeAny_builtin F.entry_list_iadd ?_⟩
  rw [Around.under_plainId F.plain_list_iadd _]
  have gS : (s.heap.push { cls := .type "list", data := .seq ([] : List Value).toArray }).get? s.heap.objs.size = some { cls := .type "list", data := .seq ([] : List Value).toArray } := Heap.get?_push_size _ rfl
  have hit1 : IsRt (s.heap.push { cls := .type "list", data := .seq ([] : List Value).toArray }) it t ((items.size : Int) - 1) := hit.at fun o e => Heap.get?_push_of_some _ e
  have ht1 : IsTup (s.heap.push { cls := .type "list", data := .seq ([] : List Value).toArray }) t items := let ⟨o, e, z⟩ := ht; ⟨o, Heap.get?_push_of_some _ e, z⟩
  have hT : ({ s with heap := s.heap.push { cls := .type "list", data := .seq ([] : List Value).toArray } } : Shared).TypeIs (.ref it) "reversed" := IsRt.typeIs (s := { s with heap := s.heap.push { cls := .type "list", data := .seq ([] : List Value).toArray } }) hit1
  have q1 : Builtin.List.listSameRef (.ref s.heap.objs.size) (.ref it) = false := by simp [Builtin.List.listSameRef, nSi]
  show wpAny _ A.in1 (Builtin.List.listExtendWith (.ref s.heap.objs.size) (.ref it) (.ref s.heap.objs.size)) _ _ _
  unfold Builtin.List.listExtendWith
  refine wpAny_bind (wpAny_typeOf hT ?_)
  rw [if_neg (by rw [q1]; decide)]
  refine wpAny_bind (iter_rt (s := { s with heap := s.heap.push { cls := .type "list", data := .seq ([] : List Value).toArray } }) hit1 ?_)
  refine wpAny_bind (wpAny_holding ?_)
  unfold Builtin.List.listLengthHint
  refine wpAny_bind (wpAny_specialOf hT nolen_rt ?_)
  show wpAny _ A.in1 (specialOf (Value.ref it) (Str.ofString "__length_hint__") >>= _) _ _ _
  refine wpAny_bind (wpAny_specialOf hT hint_rt ?_)
  generalize hid : ("reversed.__length_hint__" : String) = id0
  wp_delta
  rw [show splitId id0 = some ("reversed", "__length_hint__") from by subst hid; decide +kernel]
  subst hid
  refine wpAny_bind (wpAny_isInstance (b := true) hT (by rw [isSubtype_type]; kernel_rfl) ?_)
  simp only [Bool.not_true, Bool.false_eq_true, ↓reduceIte]
  rw [if_neg (by decide +kernel)]
  refine wpAny_bind (wpAny_rule ?_)
  refine wpAny_bind (wpAny_of_eq (bind_rt_hint _) ?_)
  dsimp only
  have hh1 : A.in1.handled = none := hh
  refine wpAny_bind (wpAny_attempt (call_rt_hint hit1 ht1 hz fun tk u => ?_))
  have ea : asInt? (Value.int ((items.size : Nat) : Int) tk) = pure (some ((items.size : Nat) : Int)) := rfl
  simp only [ea, pure_bind]
  have z2 := hz
  rw [sizeLine_eq] at z2
  have f1 : Builtin.List.listFitsIndex ((items.size : Nat) : Int) = true := by
    unfold Builtin.List.listFitsIndex
    simp only [Bool.and_eq_true, decide_eq_true_eq]
    omega
  have f2 : ¬ (((items.size : Nat) : Int) < 0) := by omega
  have f3 : Builtin.List.listTooLong ((items.size : Nat) : Int).toNat = false := by
    unfold Builtin.List.listTooLong
    simp only [Int.toNat_natCast, decide_eq_false_iff_not]
    omega
  rw [f1]
  simp only [Bool.not_true, Bool.false_eq_true, ↓reduceIte]
  rw [if_neg f2, f3]
  simp only [Bool.false_eq_true, ↓reduceIte]
  refine wpAny_pure ?_
  have e0 : ((items.size : Nat) : Int) - 1 - ((0 : Nat) : Int) = (items.size : Int) - 1 := by omega
  split
  · refine wpAny_bind (wpAny_rule ?_)
    refine wpAny_bind ?_
    show wpAny _ A.in1 (updateSeq s.heap.objs.size (·.push .none) >>= fun _ => updateSeq s.heap.objs.size (·.pop)) _ _ _
    refine wpAny_bind (wpAny_updateSeq gS rfl ?_ (by rw [sizeLine_eq]; decide) (by rw [sizeLine_eq]; decide))
    have gS3 := Heap.get?_update_self (Obj.mapSeq (·.push Value.none)) gS rfl
    refine wpAny_updateSeq gS3 rfl ?_ (by rw [sizeLine_eq]; decide) (by rw [sizeLine_eq]; decide)
    have gS4 := Heap.get?_update_self (Obj.mapSeq (·.pop)) gS3 rfl
    have oth : ∀ b o, b ≠ s.heap.objs.size → (s.heap.push { cls := .type "list", data := .seq ([] : List Value).toArray }).get? b = some o → (((s.heap.push { cls := .type "list", data := .seq ([] : List Value).toArray }).update s.heap.objs.size (Obj.mapSeq (·.push Value.none))).update s.heap.objs.size (Obj.mapSeq (·.pop))).get? b = some o :=
      fun b o nb e => (Heap.get?_update_other _ _ (Ne.symm nb)).trans ((Heap.get?_update_other _ _ (Ne.symm nb)).trans e)
    refine wpAny_pure ⟨plainId_quiet F.plain_extend_loop _, codeAny_extend_loopS W hz _ nSf _ items.size 0 _ _ _ rfl (Nat.zero_le _) ⟨Nat.zero_le _, ?_, ?_⟩ gS4 (ItemsOf.nil _) fun s1 acc c1 hm hS1 hacc => ?_⟩
    · rw [e0]
      exact hit1.at fun o e => oth it o nSi.symm e
    · exact let ⟨o, e, z⟩ := ht1; ⟨o, oth t o nSt.symm e, z⟩
    · show wpAny _ A (load s.heap.objs.size >>= _) _ _ s1
      refine wpAny_bind (wpAny_load hS1 (wpAny_pure ?_))
      rw [Moved.eq_with hm]
      refine hQ s1.heap s1.toks acc (fun b o nb e => ?_) hacc
      have lt := Heap.lt_size e
      refine hm.heap b o (fun mm => ?_) (oth b o (Nat.ne_of_lt lt) (Heap.get?_push_of_some _ e))
      rcases List.mem_cons.mp mm with e' | mm
      · exact absurd lt (by rw [e']; exact Nat.lt_irrefl _)
      · exact nb (List.mem_singleton.mp mm)
  · have oth : ∀ b o, b ≠ s.heap.objs.size → (s.heap.push { cls := .type "list", data := .seq ([] : List Value).toArray }).get? b = some o → (s.heap.push { cls := .type "list", data := .seq ([] : List Value).toArray }).get? b = some o := fun b o _ e => e
    refine wpAny_pure ⟨plainId_quiet F.plain_extend_loop _, codeAny_extend_loopS W hz _ nSf _ items.size 0 _ _ _ rfl (Nat.zero_le _) ⟨Nat.zero_le _, ?_, ?_⟩ gS (ItemsOf.nil _) fun s1 acc c1 hm hS1 hacc => ?_⟩
    · rw [e0]
      exact hit1.at fun o e => oth it o nSi.symm e
    · exact let ⟨o, e, z⟩ := ht1; ⟨o, oth t o nSt.symm e, z⟩
    · show wpAny _ A (load s.heap.objs.size >>= _) _ _ s1
      refine wpAny_bind (wpAny_load hS1 (wpAny_pure ?_))
      rw [Moved.eq_with hm]
      refine hQ s1.heap s1.toks acc (fun b o nb e => ?_) hacc
      have lt := Heap.lt_size e
      refine hm.heap b o (fun mm => ?_) (oth b o (Nat.ne_of_lt lt) (Heap.get?_push_of_some _ e))
      rcases List.mem_cons.mp mm with e' | mm
      · exact absurd lt (by rw [e']; exact Nat.lt_irrefl _)
      · exact nb (List.mem_singleton.mp mm)
theorem code_tuple_rt {it t : Addr} {items : Array Value} {Q1 : Value → Shared → Prop} (hh : A.handled = none) (hit : IsRt s.heap it t ((items.size : Int) - 1)) (ht : IsTup s.heap t items) (ne : t ≠ it) (hz : items.size ≤ sizeLine)
    (hq : ∀ (h1 : Heap) (tk : Nat) (acc : Array Value), (∀ b o, b ≠ it → s.heap.get? b = some o → h1.get? b = some o) → ItemsOf (fun i v => items[items.size - 1 - i]? = some v) acc items.size →
      Q1 (.ref h1.objs.size) { s with heap := h1.push { cls := .type "tuple", data := .seq acc }, toks := tk }) :
    codeAny (model prog w) A (.call (.builtin "tuple.__new__") ⟨[.type "tuple", .ref it], []⟩) (wants Q1 E) s := by
  refine codeAny_of_tree ?_
  show wpAny _ A.in1 (do checkBuiltinCall "tuple.__new__" ⟨[.type "tuple", .ref it], []⟩; again (.builtin "tuple.__new__" ⟨[.type "tuple", .ref it], []⟩)) _ _ s
  refine wpAny_bind (wpAny_of_eq (F.newCall_tuple_1 _) (wpAny_pure ⟨plainId_quiet F.plain_tuple_new _, codeAny_builtin F.entry_tuple_new ?_⟩))
  rw [Around.under_plainId F.plain_tuple_new _]
  have hsub := sub_tuple_self
  have hinit := init_tuple_lookup
  have hmh := madeHere_tuple
  have hTI : s.TypeIs (.ref it) "reversed" := hit.typeIs
  have hh1 : A.in1.handled = none := hh
  wp_walk using wpAny_typeOf hTI, collect_rt (A := A.in1) hh1 hit ht ne hz
  intro h1 tk acc k hacc
  show wpAny _ _ (Builtin.Tuple.tupleExact acc.toList.toArray >>= fun v => ret v) _ _ _
  unfold Builtin.Tuple.tupleExact
  refine wpAny_bind (wpAny_newObj_type ?_ (by show acc.toList.toArray.size ≤ sizeLine; simp only [Array.toArray_toList]; rw [hacc.1]; exact hz))
  refine wpAny_pure ?_
  have e : acc.toList.toArray = acc := by simp
  rw [e]
  exact hq h1 tk acc k hacc
theorem call_tuple_rt {it t : Addr} {items : Array Value} {Q : Value → Shared → Prop} (hh : A.handled = none) (hit : IsRt s.heap it t ((items.size : Int) - 1)) (ht : IsTup s.heap t items) (ne : t ≠ it) (hz : items.size ≤ sizeLine)
    (hQ : ∀ (h1 : Heap) (tk : Nat) (acc : Array Value), (∀ b o, b ≠ it → s.heap.get? b = some o → h1.get? b = some o) → ItemsOf (fun i v => items[items.size - 1 - i]? = some v) acc items.size →
      Q (.ref h1.objs.size) { s with heap := h1.push { cls := .type "tuple", data := .seq acc }, toks := tk }) :
    wpAny (model prog w) A (call (.type "tuple") [.ref it]) Q E s := by
  refine callType_codes (Q₁ := fun ov s1 => s1.TypeIs ov "tuple" ∧ Q ov s1) F.called_tuple (F.typeCall_tuple_1 _) F.entry_object_init
    (code_tuple_rt (A := A.in1) hh hit ht ne hz fun h1 tk acc k hacc => ⟨⟨_, Heap.get?_push_size _ rfl, rfl⟩, hQ h1 tk acc k hacc⟩) fun ov s1 z => ?_
  exact ⟨z.1, F.args_object_init_2 ov _, object_init_meets F.called_tuple.init.lookup F.called_tuple.made (by decide) prog w A.in1 _ s1 ⟨z.1, rfl, z.2⟩⟩
end
section
variable {X : Cx}
/-- tuple(reversed(x)), x a tuple -/
def tTupRt (K : PySem.W.Frag) (te : TE) : TE := fun σ H Q => te σ H fun v H1 => ∃ (a : Addr) (xs : List V), v = .ref a ∧ SqT K H1 a xs ∧ ∀ q, H1 q = none → Q (.ref q) (upd H1 q (.tup xs.reverse))
theorem pe_tupRt {e : Expr} {te : TE} {p p2 pos pos2 : Pos} (hc : X.calm = true) (hg : Gl X "tuple") (hm : X.mg "tuple" = none) (hg2 : Gl X "reversed") (hm2 : X.mg "reversed" = none) (he : PE X e te)
    (hs : starEach [e] X.env = (false, eval e X.env) :: starEach [] X.env := by rfl)
    (hs2 : starEach [.Call (.Name "reversed" p2) [e] [] pos2] X.env = (false, eval (.Call (.Name "reversed" p2) [e] [] pos2) X.env) :: starEach [] X.env := by rfl) :
    PE X (.Call (.Name "tuple" p) [.Call (.Name "reversed" p2) [e] [] pos2] [] pos) (tTupRt X.K te) := by
  refine ⟨fun pins s σ H Q I h => ?_⟩
  refine Call_ (ld_blt I hg hm boot_tuple (PyProof.Rows.callWith_type1 (args_cons (Call_ (ld_blt I hg2 hm2 PyProof.Rows.boot_reversed (PyProof.Rows.callWith_type1 (args_cons (thn (he.run pins s σ H _ I h) fun u s1 ⟨v, H1, I1, r1, q1⟩ => args_nil ?_) hs) hs rfl))) hs2) hs2 rfl))
  obtain ⟨a, xs, ev, hq, q⟩ := q1
  subst ev
  obtain rfl : u = Value.ref a := r1
  obtain ⟨its, rv, p1, hz⟩ := I1.tuple hq
  have hn : its.toArray.size ≤ sizeLine := by rw [List.size_toArray, ← rv.length]; exact hz
  have hn2 := hn
  rw [sizeLine_eq] at hn2
  refine call_reversed_tup p1 (fun A E Q k => len_tuple p1 (by omega) k) (args_nil ?_)
  have I1' : Inv X pins σ H1 { s1 with toks := s1.toks + 1 + 1 } := I1.tok _
  have k0 : ∀ b o, s1.heap.get? b = some o → (s1.heap.push (rtObj a ((its.toArray.size : Int) - 1))).get? b = some o := fun b o e => Heap.get?_push_of_some _ e
  have I2 : Inv X pins σ H1 { s1 with heap := s1.heap.push (rtObj a ((its.toArray.size : Int) - 1)), toks := s1.toks + 1 + 1 } := I1.kept (t' := s1.toks + 1 + 1) k0
  obtain ⟨f0, f1, f2, f3, f4, f5⟩ := I1.fpOk (H' := H1) (b := s1.heap.objs.size) (Nat.le_refl _) (I1.hok.fresh (Nat.le_refl _))
  obtain ⟨ol, hol, hol2⟩ := id p1
  have ne : a ≠ s1.heap.objs.size := Nat.ne_of_lt (Heap.lt_size hol)
  refine call_tuple_rt (s := { s1 with heap := s1.heap.push (rtObj a ((its.toArray.size : Int) - 1)), toks := s1.toks + 1 + 1 }) (I1.ok.hd hc) ⟨_, Heap.get?_push_size _ rfl, rfl, rfl⟩ ⟨ol, k0 _ _ hol, hol2⟩ ne hn fun h1 tk acc hk hi => ?_
  have I3 : Inv X pins σ H1 { s1 with heap := h1, toks := tk } := I2.turned (t' := tk) (fun b o nb e => hk b o nb e) f0 f1 f3 f4 f5
  refine ⟨.ref h1.objs.size, upd H1 h1.objs.size (.tup xs.reverse), I3.laid (t' := tk) (fun c o e => Heap.get?_push_of_some _ e) (Nat.le_refl _) (show ObjOk X.prog X.w _ _ _ (.tup xs.reverse) from ⟨by rw [List.length_reverse]; exact hz, acc.toList, vals_rev rv hi, ?_⟩), rfl, q _ (I3.hok.fresh (Nat.le_refl _))⟩
  rw [Array.toArray_toList]
  exact IsTup.new _ _
end
end Wk

set_option maxHeartbeats 4000000
/-! My own layer: comprehensions with a test, over a list and over a dict; dict comprehensions; dicts; loops over tuples of three. -/
namespace Wk
open PySem PySem.Spec PyProof.Rows L2
section
variable {X : Cx} {e a b c elt kx vx : Expr} {es rest : List Expr} {σ : L2.St} {H : Hp} {Q : VK} {pos p0 : Pos} {N G G' : List Str} {Vn : List (Nat × Str)} {sc scope : Scope}
@[irreducible] def wBkT (X : Cx) (Vn : List (Nat × Str)) (G' : List Str) (c : Expr) (scope : Scope) : TT := fun σ H Q => ∀ s0 H0 C cl fp, InB (Bk X s0 H0 scope C cl fp) Vn G' → wT (Bk X s0 H0 scope C cl fp) c σ H Q
theorem pts_bk {s0 : Shared} {H0 : Hp} {C : Addr} {cl : List (Str × Addr)} {fp : List Addr} (I : InB (Bk X s0 H0 scope C cl fp) Vn G') : PTs (Bk X s0 H0 scope C cl fp) [c] (wBkT X Vn G' c scope) :=
  pts_one ⟨fun pins s σ H Q Iv h => by unfold wBkT at h; exact pt.run pins s σ H Q Iv (h s0 H0 C cl fp I)⟩
/-- what the turns ask where there is a test -/
def Turn1 (X : Cx) (Vn : List (Nat × Str)) (G' : List Str) (elt c : Expr) (scope : Scope) (i : Nat) (D : Addr) (σ : L2.St) (x : L2.V) (H2 : Hp) (Nx : Hp → Prop) : Prop :=
  ∀ s0 H0 C cl fp, InB (Bk X s0 H0 scope C cl fp) Vn G' → wT (Bk X s0 H0 scope C cl fp) c ((wipe σ [i]).set i (some x)) H2 fun b H3 =>
    if b = true then ∀ s0 H0 C cl fp, InB (Bk X s0 H0 scope C cl fp) Vn G' → wE (Bk X s0 H0 scope C cl fp) elt ((wipe σ [i]).set i (some x)) H3 fun y H4 => ∃ acc, H4 D = some (.lst acc) ∧ acc.length < sizeLine ∧ Nx (upd H4 D (.lst (acc ++ [y]))) else Nx H3
theorem turn1_of {i : Nat} {D : Addr} {x : L2.V} {H2 : Hp} {Nx : Hp → Prop} (q : Turn1 X Vn G' elt c scope i D σ x H2 Nx) : gName i x (wipe σ [i]) H2 fun σ2 H3 => wipe σ2 [i] = wipe σ [i] ∧ wBkT X Vn G' c scope σ2 H3 fun b H4 =>
    if b = true then wBk X Vn G' elt scope σ2 H4 fun y H5 => ∃ acc, H5 D = some (.lst acc) ∧ acc.length < sizeLine ∧ Nx (upd H5 D (.lst (acc ++ [y]))) else Nx H4 := by
  refine ⟨wipe_set σ i _, ?_⟩
  unfold wBkT
  intro s0 H0 C cl fp I
  refine t_mono (q s0 H0 C cl fp I) fun b H4 z => ?_
  cases b with
  | true =>
    unfold wBk
    exact iteT z
  | false => exact iteF z
def LcLf (X : Cx) (Vn : List (Nat × Str)) (G' : List Str) (elt c : Expr) (scope : Scope) (i : Nat) (ad : Addr) (xs : List L2.V) (D : Addr) (σ : L2.St) (H1 : Hp) (Qd : Hp → Prop) : Prop := ∃ Pv : Nat → Hp → Prop, Pv 0 (upd H1 D (.lst [])) ∧ (∀ k H2, k ≤ xs.length → Pv k H2 → SqL X.K H2 ad xs) ∧
  (∀ k x H2, xs[k]? = some x → Pv k H2 → Turn1 X Vn G' elt c scope i D σ x H2 (Pv (k + 1))) ∧ ∀ H2, Pv xs.length H2 → Qd H2
def LcDf (X : Cx) (Vn : List (Nat × Str)) (G' : List Str) (elt c : Expr) (scope : Scope) (i : Nat) (d : Addr) (o : Obj) (kvs : List (Key × L2.V)) (D : Addr) (σ : L2.St) (H1 : Hp) (Qd : Hp → Prop) : Prop := ∃ Pv : Nat → Hp → Prop, Pv 0 (upd H1 D (.lst [])) ∧ (∀ k H2, k ≤ kvs.length → Pv k H2 → H2 d = some (.frz o (.dK kvs))) ∧
  (∀ k y v H2, kvs[k]? = some (y, v) → Pv k H2 → Turn1 X Vn G' elt c scope i D σ (kV y) H2 (Pv (k + 1))) ∧ ∀ H2, Pv kvs.length H2 → Qd H2
theorem lcLf_of {i : Nat} {ad : Addr} {xs : List L2.V} {D : Addr} {H1 : Hp} {Qd : Hp → Prop} (q : LcLf X Vn G' elt c scope i ad xs D σ H1 Qd) : ∃ W : Nat → Nat → Hp → Prop, (∃ m, W 0 m (upd H1 D (.lst []))) ∧ ∀ k m H, W k m H →
    ((Itl X.K ad).stop k H ∧ Qd H) ∨ ((Itl X.K ad).go k H ∧ ∃ Nx : Hp → Prop, (∀ H', Nx H' → ∃ m', m' < m ∧ W (k + 1) m' H') ∧ ∀ x H', (Itl X.K ad).yld k H x H' → gName i x (wipe σ [i]) H' fun σ2 H2 => wipe σ2 [i] = wipe σ [i] ∧ wBkT X Vn G' c scope σ2 H2 fun b H3 =>
      if b = true then wBk X Vn G' elt scope σ2 H3 fun y H4 => ∃ acc, H4 D = some (.lst acc) ∧ acc.length < sizeLine ∧ Nx (upd H4 D (.lst (acc ++ [y]))) else Nx H3) := by
  obtain ⟨Pv, h0, hl, hs, hd⟩ := q
  exact lc_list Pv h0 hl (fun k x H hk p => turn1_of (hs k x H hk p)) hd
theorem lcDf_of {i : Nat} {d : Addr} {o : Obj} {kvs : List (Key × L2.V)} {D : Addr} {H1 : Hp} {Qd : Hp → Prop} (q : LcDf X Vn G' elt c scope i d o kvs D σ H1 Qd) : ∃ W : Nat → Nat → Hp → Prop, (∃ m, W 0 m (upd H1 D (.lst []))) ∧ ∀ k m H, W k m H →
    ((Itk d o kvs).stop k H ∧ Qd H) ∨ ((Itk d o kvs).go k H ∧ ∃ Nx : Hp → Prop, (∀ H', Nx H' → ∃ m', m' < m ∧ W (k + 1) m' H') ∧ ∀ x H', (Itk d o kvs).yld k H x H' → gName i x (wipe σ [i]) H' fun σ2 H2 => wipe σ2 [i] = wipe σ [i] ∧ wBkT X Vn G' c scope σ2 H2 fun b H3 =>
      if b = true then wBk X Vn G' elt scope σ2 H3 fun y H4 => ∃ acc, H4 D = some (.lst acc) ∧ acc.length < sizeLine ∧ Nx (upd H4 D (.lst (acc ++ [y]))) else Nx H3) := by
  obtain ⟨Pv, h0, hl, hs, hd⟩ := q
  refine ⟨fun k m H => m = kvs.length - k ∧ k ≤ kvs.length ∧ Pv k H, ⟨kvs.length, rfl, Nat.zero_le _, h0⟩, ?_⟩
  rintro k m H ⟨rfl, hk, p⟩
  have fz := hl k H hk p
  by_cases lt : k < kvs.length
  · refine .inr ⟨⟨fz, lt⟩, Pv (k + 1), fun H' p' => ⟨kvs.length - (k + 1), by omega, rfl, lt, p'⟩, fun x H' y => ?_⟩
    obtain ⟨rfl, ky, v, hkv, rfl⟩ := y
    exact turn1_of (hs k ky v _ hkv p)
  · have ek : k = kvs.length := by omega
    subst ek
    exact .inl ⟨⟨fz, Nat.le_refl _⟩, hd H p⟩
theorem e_lcLf {i : Nat} {x : Str} {px : Pos} (B : BkOk X.N Vn G' i x sc scope)
    (q : wE X a σ H fun v H1 => ∃ ad xs, v = .ref ad ∧ SqL X.K H1 ad xs ∧ ∀ D, H1 D = none → LcLf X Vn G' elt c scope i ad xs D σ H1 fun H2 => Q (.ref D) H2)
    (I : In X N G sc := by assumption) (hc : X.calm = true := by rfl) (hs2 : ∀ z, foldedSetIterable a X.env z = pure z := by intro _; rfl) :
    wE X (.ListComp elt [⟨.Name x px, a, [c], 0⟩] scope pos) σ H Q := by
  refine e_of (pe_lc (own := [(x, i)]) (g := gName i) (tt := wBkT X Vn G' c scope) (te := wBk X Vn G' elt scope) hc I.nd (pi_list pe) (B.ok I) (fun s H C cl fp => B.pg I s H C cl fp) (fun s H C cl fp => pts_bk (B.inB I s H C cl fp)) (fun s H C cl fp => pe_bk (B.inB I s H C cl fp)) hs2) (e_mono q fun v H1 q1 => ?_)
  obtain ⟨ad, xs, rfl, hl, q2⟩ := q1
  exact ⟨ad, rfl, ⟨xs, hl⟩, fun D hD => lcLf_of (q2 D hD)⟩
theorem s_lcLf {nx : L2.St → Hp → Prop} {rt : VK} {bk ct : L2.St → Hp → Prop} {i j : Nat} {x y : Str} {px py spos : Pos} (B : BkOk X.N Vn G' i x sc scope)
    (q : wE X a σ H fun v H1 => ∃ ad xs, v = .ref ad ∧ SqL X.K H1 ad xs ∧ ∀ D, H1 D = none → LcLf X Vn G' elt c scope i ad xs D σ H1 fun H2 => nx (σ.set j (some (.ref D))) H2)
    (I : In X N G sc := by assumption) (hc : X.calm = true := by rfl) (hA : At N j y := by repeat (first | with_reducible apply At.z | with_reducible apply At.s))
    (hk : X.env.scope.kind = .function := by rfl) (hy : X.env.scope.names.lookup y = some .local := by rfl) (hl : (py.line == pos.line) = true := by rfl) (ha : (scope.names.any fun (n, k) => n == y && (k == .local || k == .cell)) = false := by decide +kernel) (hs2 : ∀ z, foldedSetIterable a X.env z = pure z := by intro _; rfl) :
    wS X (.Assign [.Name y py] (.ListComp elt [⟨.Name x px, a, [c], 0⟩] scope pos) spos) ⟨nx, rt, bk, ct⟩ σ H := by
  refine s_of (ps_setLc (own := [(x, i)]) (g := gName i) (tt := wBkT X Vn G' c scope) (te := wBk X Vn G' elt scope) hc I.nd (I.hi hA) hy (sw_true hk hy hl ha) (pi_list pe) (B.ok I) (fun s H C cl fp => B.pg I s H C cl fp) (fun s H C cl fp => pts_bk (B.inB I s H C cl fp)) (fun s H C cl fp => pe_bk (B.inB I s H C cl fp)) hs2) (e_mono q fun v H1 q1 => ?_)
  obtain ⟨ad, xs, rfl, hl, q2⟩ := q1
  exact ⟨ad, rfl, ⟨xs, hl⟩, fun D hD => lcLf_of (q2 D hD)⟩
/-- [elt for x in d if c], d a dict that stands at ad -/
theorem e_lcDf {i : Nat} {x : Str} {px : Pos} {ad : Addr} {kvs : List (Key × L2.V)} (B : BkOk X.N Vn G' i x sc scope) (hd : H ad = some (.dK kvs))
    (q : ∀ o, wE X a σ (upd H ad (.frz o (.dK kvs))) fun v H1 => v = .ref ad ∧ H1 ad = some (.frz o (.dK kvs)) ∧ ∀ D, H1 D = none → LcDf X Vn G' elt c scope i ad o kvs D σ H1 fun H2 => H2 ad = some (.frz o (.dK kvs)) ∧ Q (.ref D) (upd H2 ad (.dK kvs)))
    (I : In X N G sc := by assumption) (hc : X.calm = true := by rfl) (hs2 : ∀ z, foldedSetIterable a X.env z = pure z := by intro _; rfl) :
    wE X (.ListComp elt [⟨.Name x px, a, [c], 0⟩] scope pos) σ H Q := by
  refine e_of (pe_lock (pe_lc (own := [(x, i)]) (g := gName i) (tt := wBkT X Vn G' c scope) (te := wBk X Vn G' elt scope) hc I.nd (pi_keys pe) (B.ok I) (fun s H C cl fp => B.pg I s H C cl fp) (fun s H C cl fp => pts_bk (B.inB I s H C cl fp)) (fun s H C cl fp => pe_bk (B.inB I s H C cl fp)) hs2)) ?_
  refine ⟨ad, .dK kvs, hd, trivial, fun o => e_mono (q o) fun v H1 q1 => ?_⟩
  obtain ⟨rfl, h1, q2⟩ := q1
  exact ⟨ad, o, rfl, .inl ⟨kvs, h1, fun D hD => lcDf_of (q2 D hD)⟩⟩
end
end Wk
namespace Wk
open PySem PySem.Spec PyProof.Rows L2
section
variable {X : Cx} {e a b c elt kx vx o : Expr} {es rest : List Expr} {σ : L2.St} {H : Hp} {Q : VK} {pos p0 apos : Pos} {N G G' : List Str} {Vn : List (Nat × Str)} {sc scope : Scope}
theorem sw_trueD {gs : List Comprehension} {py : Pos} {y : Str} {l : Nat} {env : Env} (hk : env.scope.kind = .function) (hy : env.scope.names.lookup y = some .local) (hl : (py.line == pos.line) = true)
    (ha : (scope.names.any fun (n, k) => n == y && (k == .local || k == .cell)) = false) : swapsWith (.DictComp kx vx gs scope pos) (some (.Name y py)) l env = pure true := by
  have ky : env.kindOf y = some .local := hy
  have hb : env.blockKind = .function := by unfold Env.blockKind; rw [hk]; rfl
  unfold swapsWith
  simp only [hb, ky, ha, Expr.pos, hl]
  rfl
theorem ps_setDc {i : Nat} {y : Str} {py : Pos} {tg iter : Expr} {ifs : List Expr} {own : List (Str × Nat)} {spos : Pos} {wi : TI} {g : TG} {tt : TT} {tk tv : TE} (hc : X.calm = true) (hN : X.N.Nodup) (hy : X.N[i]? = some y) (hyl : X.env.scope.names.lookup y = some .local)
    (hsw : swapsWith (.DictComp kx vx [⟨tg, iter, ifs, 0⟩] scope pos) (some (.Name y py)) spos.line X.env = pure true) (hi : PI X tg iter wi) (ok : BlkOk X.N X.env.scope scope own)
    (hg : ∀ (s : Shared) (H : Hp) (C : Addr) (cl : List (Str × Addr)) (fp : List Addr), PG (X.blk s H scope (compEnvC scope cl C X.env) fp) tg g) (ht : ∀ (s : Shared) (H : Hp) (C : Addr) (cl : List (Str × Addr)) (fp : List Addr), PTs (X.blk s H scope (compEnvC scope cl C X.env) fp) ifs tt)
    (hkx : ∀ (s : Shared) (H : Hp) (C : Addr) (cl : List (Str × Addr)) (fp : List Addr), PE (X.blk s H scope (compEnvC scope cl C X.env) fp) kx tk)
    (hvx : ∀ (s : Shared) (H : Hp) (C : Addr) (cl : List (Str × Addr)) (fp : List Addr), PE (X.blk s H scope (compEnvC scope cl C X.env) fp) vx tv) (hs : ∀ x, foldedSetIterable iter X.env x = pure x) :
    PS X (.Assign [.Name y py] (.DictComp kx vx [⟨tg, iter, ifs, 0⟩] scope pos) spos) (tAsg (tDc wi g tt tk tv (own.map (·.2))) (gName i)) := by
  refine ⟨fun pins s σ H D I h => ?_⟩
  rw [exec_Assign_Name_used _ _ _ _ hsw]
  refine wpAny_bind (wpAny_standAt (wpAny_bind ?_))
  show wpAny _ X.A (do let _ ← comprehension (.DictComp kx vx [⟨tg, iter, ifs, 0⟩] scope pos) scope X.env (firstIterPos [⟨tg, iter, ifs, 0⟩] pos) newDict false (eval iter X.env) (some (assign (.Name y py) X.env))) _ _ s
  have h : tDc wi g tt tk tv (own.map (·.2)) σ H (fun x H1 => gName i x σ H1 D.nx) := h
  refine wpAny_bind (thn (dc_core (Qf := fun _ s' => SP X pins D .next s') hc hN I hi ok hg ht hkx hvx hs h fun L C s' m H' I' q hn f => ?_) fun _ s' hq => wpAny_pure (wpAny_pure hq))
  show wpAny _ _ (assign (.Name y py) X.env (.ref L)) _ _ _
  refine wpAny_assign_Name (store_ok2 (v := V.ref L) I' hN hy (.inl hyl) rfl (fun s2 I2 ⟨ad, sb, had⟩ => ?_) (.inr hyl))
  obtain ⟨f0, f1, f2, f3, f4, f5⟩ := f
  have nC : C ≠ ad := by
    rcases had with z | z
    · rw [z]; exact f1
    · exact fun e => f4 y ad z e.symm
  exact ⟨m, hn.sameBut sb nC, fun h3 sb3 => ⟨_, H', I2.turned (t' := s2.toks) (fun b o hb e => (sb3.2 b hb).trans e) f0 f1 f3 f4 f5, q⟩⟩
/-- d = {k: v for x in a}, a a list that stays -/
def DcL (X : Cx) (Vn : List (Nat × Str)) (G' : List Str) (kx vx : Expr) (scope : Scope) (i : Nat) (ad : Addr) (xs : List L2.V) (D : Addr) (σ : L2.St) (H1 : Hp) (Qd : Hp → Prop) : Prop := ∃ Pv : Nat → Hp → Prop, Pv 0 (upd H1 D (.dK [])) ∧ (∀ k H2, k ≤ xs.length → Pv k H2 → SqL X.K H2 ad xs) ∧
  (∀ k x H2, xs[k]? = some x → Pv k H2 → ∀ s0 H0 C cl fp, InB (Bk X s0 H0 scope C cl fp) Vn G' → wE (Bk X s0 H0 scope C cl fp) kx ((wipe σ [i]).set i (some x)) H2 fun y H3 => ∀ s0 H0 C cl fp, InB (Bk X s0 H0 scope C cl fp) Vn G' →
    wE (Bk X s0 H0 scope C cl fp) vx ((wipe σ [i]).set i (some x)) H3 fun z H4 => ∃ kvs ky, y = kV ky ∧ H4 D = some (.dK kvs) ∧ kvs.length < sizeLine ∧ Pv (k + 1) (upd H4 D (.dK (putK kvs ky z)))) ∧
  ∀ H2, Pv xs.length H2 → Qd H2
theorem dcL_of {i : Nat} {ad : Addr} {xs : List L2.V} {D : Addr} {H1 : Hp} {Qd : Hp → Prop} (q : DcL X Vn G' kx vx scope i ad xs D σ H1 Qd) : ∃ W : Nat → Nat → Hp → Prop, (∃ m, W 0 m (upd H1 D (.dK []))) ∧ ∀ k m H, W k m H →
    ((Itl X.K ad).stop k H ∧ Qd H) ∨ ((Itl X.K ad).go k H ∧ ∃ Nx : Hp → Prop, (∀ H', Nx H' → ∃ m', m' < m ∧ W (k + 1) m' H') ∧ ∀ x H', (Itl X.K ad).yld k H x H' → gName i x (wipe σ [i]) H' fun σ2 H2 => wipe σ2 [i] = wipe σ [i] ∧ tYes σ2 H2 fun b H3 =>
      if b = true then wBk X Vn G' kx scope σ2 H3 fun y H4 => wBk X Vn G' vx scope σ2 H4 fun z H5 => ∃ kvs k, y = kV k ∧ H5 D = some (.dK kvs) ∧ kvs.length < sizeLine ∧ Nx (upd H5 D (.dK (putK kvs k z))) else Nx H3) := by
  obtain ⟨Pv, h0, hl, hs, hd⟩ := q
  refine ⟨fun k m H => m = xs.length - k ∧ k ≤ xs.length ∧ Pv k H, ⟨xs.length, rfl, Nat.zero_le _, h0⟩, ?_⟩
  rintro k m H ⟨rfl, hk, p⟩
  have sq := hl k H hk p
  by_cases lt : k < xs.length
  · refine .inr ⟨⟨xs, xs[k], sq, by simp [lt]⟩, Pv (k + 1), fun H' p' => ⟨xs.length - (k + 1), by omega, rfl, lt, p'⟩, fun x H' y => ?_⟩
    obtain ⟨rfl, y⟩ := y
    refine ⟨wipe_set σ i _, ?_⟩
    unfold tYes
    refine iteT ?_
    unfold wBk
    intro s0 H0 C cl fp I
    exact hs k x _ (y xs sq) p s0 H0 C cl fp I
  · have ek : k = xs.length := by omega
    subst ek
    exact .inl ⟨⟨xs, sq, Nat.le_refl _⟩, hd H p⟩
theorem s_dcL {nx : L2.St → Hp → Prop} {rt : VK} {bk ct : L2.St → Hp → Prop} {i j : Nat} {x y : Str} {px py spos : Pos} (B : BkOk X.N Vn G' i x sc scope)
    (q : wE X a σ H fun v H1 => ∃ ad xs, v = .ref ad ∧ SqL X.K H1 ad xs ∧ ∀ D, H1 D = none → DcL X Vn G' kx vx scope i ad xs D σ H1 fun H2 => nx (σ.set j (some (.ref D))) H2)
    (I : In X N G sc := by assumption) (hc : X.calm = true := by rfl) (hA : At N j y := by repeat (first | with_reducible apply At.z | with_reducible apply At.s))
    (hk : X.env.scope.kind = .function := by rfl) (hy : X.env.scope.names.lookup y = some .local := by rfl) (hl : (py.line == pos.line) = true := by rfl) (ha : (scope.names.any fun (n, k) => n == y && (k == .local || k == .cell)) = false := by decide +kernel) (hs2 : ∀ z, foldedSetIterable a X.env z = pure z := by intro _; rfl) :
    wS X (.Assign [.Name y py] (.DictComp kx vx [⟨.Name x px, a, [], 0⟩] scope pos) spos) ⟨nx, rt, bk, ct⟩ σ H := by
  refine s_of (ps_setDc (own := [(x, i)]) (g := gName i) (tt := tYes) (tk := wBk X Vn G' kx scope) (tv := wBk X Vn G' vx scope) hc I.nd (I.hi hA) hy (sw_trueD hk hy hl ha) (pi_list pe) (B.ok I) (fun s H C cl fp => B.pg I s H C cl fp) (fun _ _ _ _ _ => pts_nil) (fun s H C cl fp => pe_bk (B.inB I s H C cl fp)) (fun s H C cl fp => pe_bk (B.inB I s H C cl fp)) hs2) (e_mono q fun v H1 q1 => ?_)
  obtain ⟨ad, xs, rfl, hl, q2⟩ := q1
  exact ⟨ad, rfl, ⟨xs, hl⟩, fun D hD => dcL_of (q2 D hD)⟩
theorem e_dcL {i : Nat} {x : Str} {px : Pos} (B : BkOk X.N Vn G' i x sc scope)
    (q : wE X a σ H fun v H1 => ∃ ad xs, v = .ref ad ∧ SqL X.K H1 ad xs ∧ ∀ D, H1 D = none → DcL X Vn G' kx vx scope i ad xs D σ H1 fun H2 => Q (.ref D) H2)
    (I : In X N G sc := by assumption) (hc : X.calm = true := by rfl) (hs2 : ∀ z, foldedSetIterable a X.env z = pure z := by intro _; rfl) :
    wE X (.DictComp kx vx [⟨.Name x px, a, [], 0⟩] scope pos) σ H Q := by
  refine e_of (pe_dc (own := [(x, i)]) (g := gName i) (tt := tYes) (tk := wBk X Vn G' kx scope) (tv := wBk X Vn G' vx scope) hc I.nd (pi_list pe) (B.ok I) (fun s H C cl fp => B.pg I s H C cl fp) (fun _ _ _ _ _ => pts_nil) (fun s H C cl fp => pe_bk (B.inB I s H C cl fp)) (fun s H C cl fp => pe_bk (B.inB I s H C cl fp)) hs2) (e_mono q fun v H1 q1 => ?_)
  obtain ⟨ad, xs, rfl, hl, q2⟩ := q1
  exact ⟨ad, rfl, ⟨xs, hl⟩, fun D hD => dcL_of (q2 D hD)⟩
/-- for x, y, z in t, a tuple of triples -/
theorem s_forT3 {nx : L2.St → Hp → Prop} {rt : VK} {bk ct : L2.St → Hp → Prop} {x y z : Str} {i j k : Nat} {body : List Stmt} {px py pz pt : Pos} {kk : Nat}
    (q : wE X a σ H fun v H1 => ∃ ad xs, v = .ref ad ∧ SqT X.K H1 ad xs ∧ ∃ Pv : Nat → L2.St → Hp → Prop, Pv 0 σ H1 ∧ (∀ n σ H, n ≤ xs.length → Pv n σ H → SqT X.K H ad xs) ∧
      (∀ n u σ H, xs[n]? = some u → Pv n σ H → ∃ t u1 u2 u3, u = .ref t ∧ SqT X.K H t [u1, u2, u3] ∧ wL X body ⟨Pv (n + 1), rt, nx, Pv (n + 1)⟩ (((σ.set i (some u1)).set j (some u2)).set k (some u3)) H) ∧ ∀ σ H, Pv xs.length σ H → nx σ H)
    (I : In X N G sc := by assumption) (hc : X.calm = true := by rfl) (hA : At N i x := by repeat (first | with_reducible apply At.z | with_reducible apply At.s)) (hB : At N j y := by repeat (first | with_reducible apply At.z | with_reducible apply At.s)) (hC : At N k z := by repeat (first | with_reducible apply At.z | with_reducible apply At.s))
    (hs2 : ∀ z, foldedSetIterable a X.env z = pure z := by intro _; rfl) :
    wS X (.For (.Tuple [.Name x px, .Name y py, .Name z pz] kk pt) a body [] pos) ⟨nx, rt, bk, ct⟩ σ H := by
  refine s_of (ps_for I.never hc (pi_tup pe) (pg_tup hc (pgs_cons (pg_name I.nd (I.hi hA) (I.loc hA) I.f) (pgs_cons (pg_name I.nd (I.hi hB) (I.loc hB) I.f) (pgs_cons (pg_name I.nd (I.hi hC) (I.loc hC) I.f) pgs_nil)))) pl hs2) (e_mono q fun v H1 q1 => ?_)
  obtain ⟨ad, xs, rfl, hl, Pv, h0, hk, hb, hd⟩ := q1
  refine ⟨ad, rfl, ⟨xs, hl⟩, for_tup Pv h0 hk (fun n u σ H hu p => ?_) hd⟩
  obtain ⟨t, u1, u2, u3, rfl, hq, z⟩ := hb n u σ H hu p
  exact ⟨t, [u1, u2, u3], rfl, hq, rfl, u1, [u2, u3], rfl, u2, [u3], rfl, u3, [], rfl, rfl, z⟩
end
end Wk

set_option maxHeartbeats 4000000
/-! My own layer: dicts, membership, least and greatest of a list, and the like. -/
namespace Wk
open PySem PySem.Spec PyProof.Rows L2
section
variable {X : Cx} {e a b c f o i : Expr} {es rest : List Expr} {σ : L2.St} {H : Hp} {Q : VK} {pos p0 apos : Pos} {N G G' : List Str} {Vn : List (Nat × Str)} {sc scope : Scope} {n : Nat}
theorem e_dg (hr : Room n X.A) (q : wE X o σ H fun x H1 => wE X i σ H1 fun y H2 => ∃ a v, x = .ref a ∧ DGet H2 a y (some v) ∧ Q v H2) (hs : NoSl i := by intro _ _; rfl) : wE X (.Subscript o i pos) σ H Q := e_of (pe_dget (hu_of hr) pe pe hs) q
theorem dg_k {ad : Addr} {kvs : List (Key × L2.V)} {z : Str} {v : L2.V} (h : H ad = some (.dK kvs)) (e : valV kvs (Sum.inr z) = some v) : DGet H ad (.str z) (some v) := by
  have g := DGet.k (k := (Sum.inr z : Key)) h
  rw [e] at g
  exact g
theorem dg_f {ad : Addr} {ob : Obj} {kvs : List (Key × L2.V)} {z : Str} {v : L2.V} (h : H ad = some (.frz ob (.dK kvs))) (e : valV kvs (Sum.inr z) = some v) : DGet H ad (.str z) (some v) :=
  .inl ⟨kvs, Sum.inr z, .inr ⟨ob, h⟩, rfl, e.symm⟩
theorem e_dget2 (hr : Room n X.A) (q : wE X o σ H fun x H1 => ∃ a, x = .ref a ∧ IsD H1 a ∧ wE X e σ H1 fun y H2 => wE X f σ H2 fun z H3 => ∃ o, DGet H3 a y o ∧ Q (o.getD z) H3)
    (m : M2 X o "get" apos e f pos := by exact ⟨rfl, rfl, rfl, rfl⟩) : wE X (.Call (.Attribute o "get" apos) [e, f] [] pos) σ H Q := e_of (pe_dget2 (hu_of hr) pe pe pe m) q
theorem e_dnew (q : ∀ p, H p = none → Q (.ref p) (upd H p (.dK []))) : wE X (.Dict [] [] pos) σ H Q := e_of pe_dnewK q
theorem o_in {x : L2.V} {p : Addr} {xs : List L2.V} (h : SqL X.K H p xs) (hx : flatV x = true) (hs : xs.all flatV = true) (q : Q (.bl (inV x xs)) H) : wK X .In x (.ref p) H Q := k_of op_in_seq ⟨p, xs, rfl, .inl h, hx, hs, q⟩
theorem o_nin {x : L2.V} {p : Addr} {xs : List L2.V} (h : SqL X.K H p xs) (hx : flatV x = true) (hs : xs.all flatV = true) (q : Q (.bl (!inV x xs)) H) : wK X .NotIn x (.ref p) H Q := k_of op_notIn_seq ⟨p, xs, rfl, .inl h, hx, hs, q⟩
theorem o_inS {c : Nat} {z : Str} (q : Q (.bl (decide (c ∈ z.cps.toList))) H) : wK X .In (.str ⟨#[c]⟩) (.str z) H Q := k_of op_in_sign ⟨c, z, rfl, rfl, q⟩
theorem c_minL {p : Addr} {ns : List Int} (hc : X.calm = true) (h : SqL X.K H p (ns.map V.int)) (h0 : 0 < ns.length) {m0 : Int} (h1 : m0 ∈ ns) (h2 : ∀ y ∈ ns, m0 ≤ y) (q : Q (.int m0) H) : wC X (.builtin "min") [.ref p] H Q :=
  c_of (cr_min hc) ⟨p, ns, rfl, h, h0, fun m hm hle => by
    have e : m = m0 := Int.le_antisymm (hle m0 h1) (h2 m hm)
    rw [e]
    exact q⟩
theorem c_maxL {p : Addr} {ns : List Int} (hc : X.calm = true) (h : SqL X.K H p (ns.map V.int)) (h0 : 0 < ns.length) {m0 : Int} (h1 : m0 ∈ ns) (h2 : ∀ y ∈ ns, y ≤ m0) (q : Q (.int m0) H) : wC X (.builtin "max") [.ref p] H Q :=
  c_of (cr_max hc) ⟨p, ns, rfl, h, h0, fun m hm hle => by
    have e : m = m0 := Int.le_antisymm (h2 m hm) (hle m0 h1)
    rw [e]
    exact q⟩
theorem c_setTx {l : Addr} {zs : List Str} (hc : X.calm = true) (h : SqL X.K H l (zs.map V.str)) (hb : zs.length + 1 < scanBound) (q : ∀ p, H p = none → Q (.ref p) (upd H p (SetTO X.w p (uniqL zs)))) : wC X (.type "set") [.ref l] H Q := c_of (cr_setOfTx hc) ⟨l, zs, rfl, h, hb, q⟩
theorem c_sortedTx {p : Addr} {L : List Str} (hc : X.calm = true) (h : H p = some (SetTO X.w p L)) (h64 : L.length < 64) (q : ∀ (ys : List Str) (l : Addr) H2, ys.Perm L → sortedS ys = true → Same H H2 → H l = none → H2 l = some (.lst (ys.map V.str)) → Q (.ref l) H2) : wC X (.builtin "sorted") [.ref p] H Q :=
  c_of (cr_sortedTx hc) ⟨p, L, rfl, h, h64, fun ys l pm hs np => q ys l _ pm hs (fun b o eo => by rw [upd_ne (ne_of_none eo np)]; exact eo) np upd_same⟩
theorem c_sortedL {p : Addr} {zs : List Str} (h : SqL X.K H p (zs.map V.str)) (h64 : zs.length < 64) (q : ∀ (ys : List Str) (l : Addr) H2, ys.Perm zs → sortedS ys = true → Same H H2 → H l = none → H2 l = some (.lst (ys.map V.str)) → Q (.ref l) H2) : wC X (.builtin "sorted") [.ref p] H Q :=
  c_of cr_sortedS ⟨p, zs, rfl, h, h64, fun ys l pm hs np => q ys l _ pm hs (fun b o eo => by rw [upd_ne (ne_of_none eo np)]; exact eo) np upd_same⟩
theorem c_tupL {p : Addr} {xs : List L2.V} (h : SqL X.K H p xs) (q : ∀ l H2, Same H H2 → H l = none → H2 l = some (.tup xs) → Q (.ref l) H2) : wC X (.type "tuple") [.ref p] H Q :=
  c_of call_tuple_of ⟨p, xs, rfl, .inl ⟨h, fun l np => q l _ (fun b o eo => by rw [upd_ne (ne_of_none eo np)]; exact eo) np upd_same⟩⟩
theorem c_strI {k : Int} (h : k.natAbs.log2 < 1920) (q : Q (.str (toString k)) H) : wC X (.type "str") [.int k] H Q := c_of call_str_int ⟨k, rfl, h, q⟩
theorem c_intB {k : Bool} (q : Q (.int (if k then 1 else 0)) H) : wC X (.type "int") [.bl k] H Q := c_of call_int1 (.inr ⟨k, rfl, q⟩)
theorem e_tupRev {g1 g2 : Nat} {p p2 pos2 : Pos} (hm : X.mg "tuple" = none) (hm2 : X.mg "reversed" = none) (q : wE X e σ H fun v H1 => ∃ (a : Addr) (xs : List L2.V), v = .ref a ∧ SqT X.K H1 a xs ∧ ∀ q H2, Same H1 H2 → H1 q = none → H2 q = some (.tup xs.reverse) → Q (.ref q) H2)
    (I : In X N G sc := by assumption) (hc : X.calm = true := by rfl) (hG : At G g1 ("tuple" : Str) := by repeat (first | with_reducible apply At.z | with_reducible apply At.s)) (hG2 : At G g2 ("reversed" : Str) := by repeat (first | with_reducible apply At.z | with_reducible apply At.s))
    (hs : starEach [e] X.env = (false, eval e X.env) :: starEach [] X.env := by rfl) (hs2 : starEach [.Call (.Name "reversed" p2) [e] [] pos2] X.env = (false, eval (.Call (.Name "reversed" p2) [e] [] pos2) X.env) :: starEach [] X.env := by rfl) :
    wE X (.Call (.Name "tuple" p) [.Call (.Name "reversed" p2) [e] [] pos2] [] pos) σ H Q :=
  e_of (pe_tupRt hc (I.g hG) hm (I.g hG2) hm2 pe hs hs2) (e_mono q fun v H1 ⟨a, xs, ev, hq, z⟩ => ⟨a, xs, ev, hq, fun l np => z l _ (fun b o eo => by rw [upd_ne (ne_of_none eo np)]; exact eo) np upd_same⟩)
theorem e_clear (q : wE X o σ H fun x H1 => ∃ l xs, x = .ref l ∧ H1 l = some (.lst xs) ∧ Q .non (upd H1 l (.lst [])))
    (hbase : attributeBase o "clear" X.env (eval o X.env) = eval o X.env := by rfl) (hline : (apos.endLine == pos.line) = true := by rfl) : wE X (.Call (.Attribute o "clear" apos) [] [] pos) σ H Q := by
  refine e_of (pe_bm0 PySem.F.plainAttrs_list PySem.F.slot_list_clear PySem.F.type_list_clear mt_clear pe hbase hline) (e_mono q fun x H1 z => ?_)
  obtain ⟨l, xs, rfl, h1, h2⟩ := z
  exact ⟨.inl ⟨rfl, _, SqL.of h1⟩, l, xs, rfl, rfl, h1, h2⟩
theorem b_callTy {g : Nat} {x : Str} {T : String} (hm : X.mg x = none) (hv : bootBuiltins x = some (.type T)) (q : wA X (e :: es) σ H fun vs H1 => wC X (.type T) vs H1 Q) (I : InB X Vn G := by assumption) (hG : At G g x := by repeat (first | with_reducible apply At.z | with_reducible apply At.s))
    (he : starEach (e :: es) X.env = (false, eval e X.env) :: starEach es X.env := by rfl) (hpl : (backTo pos (starEach es X.env)).any (·.1) = false := by rfl) : wE X (.Call (.Name x p0) (e :: es) [] pos) σ H Q := e_of (pe_callTy cr (I.g hG) hm hv pa (I.gn hG) (I.gd hG) he hpl) q
theorem b_bltn {g : Nat} {x : Str} {v : L2.V} {u : Value} (hm : X.mg x = none) (hv : bootBuiltins x = some u) (r : RelV v u) (q : Q v H) (I : InB X Vn G := by assumption) (hG : At G g x := by repeat (first | with_reducible apply At.z | with_reducible apply At.s)) : wE X (.Name x pos) σ H Q := e_of (pe_bltn (I.g hG) hm hv r (I.gn hG) (I.gd hG)) q
theorem o_eqD {x y : L2.V} {d e : PyData} (hr : Room n X.A) (h1 : Dp X.K H x d) (h2 : Dp X.K H y e) (s1 : SeqAt.shaped d = true) (s2 : SeqAt.shaped e = true) (q : Q (.bl (PyData.eqv d e)) H) : wK X .Eq x y H Q := k_of (op_eqD hr.units) ⟨d, e, h1, h2, s1, s2, q⟩
theorem o_neD {x y : L2.V} {d e : PyData} (hr : Room n X.A) (h1 : Dp X.K H x d) (h2 : Dp X.K H y e) (s1 : SeqAt.shaped d = true) (s2 : SeqAt.shaped e = true) (q : Q (.bl (!PyData.eqv d e)) H) : wK X .NotEq x y H Q := k_of (op_neD hr.units) ⟨d, e, h1, h2, s1, s2, q⟩
theorem b_set : bootBuiltins "set" = some (.type "set") := by decide +kernel
theorem b_sorted : bootBuiltins "sorted" = some (.builtin "sorted") := by decide +kernel
theorem ixr_d (hu : X.A.units + 1 < cLine) : IxR X (fun x y H Q => ∃ a v, x = .ref a ∧ DGet H a y (some v) ∧ Q v H) := by
  intro value slice pins s σ H x y v u Q I rx ry h hs
  obtain ⟨ad, z, rfl, g, q⟩ := h
  cases rx
  have hT := dict_typeIs I g
  unfold subscriptTail
  refine wpAny_bind ?_
  rw [getitemInPython_of_ne hT.not_modules]
  refine wpAny_bind (wpAny_specialOf hT PySem.F.slot_dict_getitem.lookup ?_)
  have fin : wpAny (model X.prog X.w) X.A (subscripted slice false (.ref ad) u) (fun r s3 => wpAny (model X.prog X.w) X.A (letTemporaryGo value (.ref ad) r >>= fun _ => pure r) (EP X pins σ Q) X.xe s3) X.xe s := by
    rw [hs]
    refine wpAny_operating (d_getItem hu I g ry fun w2 s2 I2 r2 => wpAny_bind (wpAny_letTemporaryGo (wpAny_pure ?_)))
    exact ⟨z, H, I2, r2, q⟩
  first
    | exact wpAny_pure (wpAny_bind fin)
    | exact wpAny_bind fin
    | exact wpAny_pure fin
theorem ix_d {x y : L2.V} (hr : Room n X.A) (q : ∃ a v, x = .ref a ∧ DGet H a y (some v) ∧ Q v H) : wIx X x y H Q := ix_of (ixr_d (hu_of hr)) q
end
end Wk

set_option maxHeartbeats 4000000
/-! My own layer: dicts of the module's top, comprehensions over a tuple with a test, slices of tuples, xs[::-1], extend, reversed, displayed dicts, copies and == of dicts, walks over a dict. -/
namespace Wk
open PySem PySem.Spec PyProof.Rows L2
/-- a dict of the module's top, its keys ints and texts -/
def KDict (w : World) (K : PySem.W.Frag) (D : Addr) (kvs : List (Key × L2.V)) : Prop := ∃ (o : Obj) (vs : List (Key × Value)), K.lookup D = some o ∧ KV kvs vs ∧ ∀ P, PySem.Obj.IsDictOf (mixKind P w) o vs
theorem pairs_mk {P : Program} {w : World} : ∀ (ts : List (Str × Tok × Value)), Pairs (mixKind P w) (ts.map fun x => (⟨hashStr w x.1, .str x.1 x.2.1, x.2.2⟩ : DictEntry)) (ts.map fun x => ((Sum.inr x.1 : Key), x.2.2))
  | [] => .nil
  | t :: ts => .cons (mixKind_str P w _ _) rfl (pairs_mk ts)
theorem kdict_mk {w : World} {K : PySem.W.Frag} {D : Addr} {o : Obj} {n : Nat} {kvs : List (Key × L2.V)} (ts : List (Str × Tok × Value)) (l : K.lookup D = some o) (hx : o.ExactDict) (hd : o.data = .dict (ts.map fun x => (⟨hashStr w x.1, .str x.1 x.2.1, x.2.2⟩ : DictEntry)).toArray n)
    (hk : KV kvs (ts.map fun x => ((Sum.inr x.1 : Key), x.2.2))) (nd : (ts.map (·.1)).Nodup) : KDict w K D kvs := by
  refine ⟨o, _, l, hk, fun P => ⟨_, n, hx, hd, ?_, ?_, ?_⟩⟩
  · intro e he
    obtain ⟨t, ht, rfl⟩ := List.mem_map.mp (List.mem_toArray.mp he)
    exact ⟨Sum.inr t.1, mixKind_str P w _ _, rfl⟩
  · rw [List.toList_toArray]
    exact pairs_mk ts
  · rw [List.map_map]
    have e : (ts.map ((fun x : Key × Value => x.1) ∘ fun x : Str × Tok × Value => ((Sum.inr x.1 : Key), x.2.2))) = (ts.map (·.1)).map Sum.inr := by rw [List.map_map]; rfl
    rw [e]
    exact List.pairwise_map.mpr (List.Pairwise.imp (fun h e => h (Sum.inr.inj e)) nd)
section
variable {X : Cx} {e a b c elt : Expr} {es rest : List Expr} {σ : L2.St} {H : Hp} {Q : VK} {pos p0 : Pos} {N G G' : List Str} {Vn : List (Nat × Str)} {sc scope : Scope}
theorem ixr_kd : IxR X (fun x y H Q => ∃ a kvs z v, x = .ref a ∧ y = .str z ∧ KDict X.w X.K a kvs ∧ valV kvs (Sum.inr z) = some v ∧ Q v H) := by
  intro value slice pins s σ H x y v u Q I rx ry h hs
  obtain ⟨ad, kvs, z, v0, rfl, rfl, ⟨o, vs, hl, hkv, hd⟩, hv, q⟩ := h
  cases rx
  have dd : s.heap.DictOf (mixKind X.prog X.w) ad vs := Heap.dictOf_iff.mpr ⟨o, I.kIn ad o hl, hd X.prog⟩
  have hT := dd.typeIs
  unfold subscriptTail
  refine wpAny_bind ?_
  rw [getitemInPython_of_ne hT.not_modules]
  refine wpAny_bind (wpAny_specialOf hT PySem.F.slot_dict_getitem.lookup ?_)
  obtain ⟨w', hw, rw'⟩ := RelO.some_of (v := v0) (o := valueAt vs (Sum.inr z)) (by rw [← hv]; exact hkv.val (Sum.inr z))
  have fin : wpAny (model X.prog X.w) X.A (subscripted slice false (.ref ad) u) (fun r s3 => wpAny (model X.prog X.w) X.A (letTemporaryGo value (.ref ad) r >>= fun _ => pure r) (EP X pins σ Q) X.xe s3) X.xe s := by
    rw [hs]
    refine wpAny_operating (wpAny_getItem_of (knd := mixKind X.prog X.w) (k := (Sum.inr z : Key)) (kV_is (k := Sum.inr z) ry) dd.mapOf hw ?_)
    refine wpAny_bind (wpAny_letTemporaryGo (wpAny_pure ?_))
    exact ⟨v0, H, I.tok _, rw', q⟩
  first
    | exact wpAny_pure (wpAny_bind fin)
    | exact wpAny_bind fin
    | exact wpAny_pure fin
theorem ix_kd {D : Addr} {kvs : List (Key × L2.V)} {z : Str} {v : L2.V} (h : KDict X.w X.K D kvs) (e : valV kvs (Sum.inr z) = some v) (q : Q v H) : wIx X (.ref D) (.str z) H Q := ix_of ixr_kd ⟨D, kvs, z, v, rfl, rfl, h, e, q⟩
theorem o_inT {x : L2.V} {p : Addr} {xs : List L2.V} (h : SqT X.K H p xs) (hx : flatV x = true) (hs : xs.all flatV = true) (q : Q (.bl (inV x xs)) H) : wK X .In x (.ref p) H Q := k_of op_in_seq ⟨p, xs, rfl, .inr h, hx, hs, q⟩
theorem o_catA {p r : Addr} {xs ys : List L2.V} (h1 : H p = some (.tup xs)) (h2 : H r = some (.tup ys)) (hz : xs.length + ys.length ≤ 200000) (q : ∀ t H2, Same H H2 → H2 t = some (.tup (xs ++ ys)) → Q (.ref t) H2) : wB X .Add (.ref p) (.ref r) H Q := by
  refine b_of op_catA ⟨p, r, xs, ys, rfl, rfl, SqT.of h1, SqT.of h2, by show _ ≤ 2 ^ 24; omega, fun e => ?_, fun _ e => ?_, fun _ _ t ht => ?_⟩
  · subst e
    exact q r H (Same.refl H) h2
  · subst e
    refine q p H (Same.refl H) ?_
    rw [List.append_nil]
    exact h1
  · exact q t _ (fun c u eo => by rw [upd_ne (ne_of_none eo ht)]; exact eo) upd_same
theorem cut_hi {xs ys : List L2.V} : cutV (xs ++ ys) none (some (xs.length : Int)) = xs := by
  unfold cutV
  rw [HT.sIx_none, HT.sIx_nat, List.length_append, Nat.min_eq_left (by omega), List.drop_zero, Nat.sub_zero, List.take_left]
theorem cut_lo {xs ys : List L2.V} : cutV (xs ++ ys) (some (xs.length : Int)) none = ys := by
  unfold cutV
  rw [HT.sIx_none, HT.sIx_nat, List.length_append, Nat.min_eq_left (by omega), List.drop_left, Nat.add_sub_cancel_left, List.take_length]
/-- t[:k] of t = xs ++ ys, k the length of xs -/
theorem e_tHi (q : wE X e σ H fun x H1 => wE X b σ H1 fun y H2 => ∃ p xs ys, x = .ref p ∧ y = .int (xs.length : Int) ∧ H2 p = some (.tup (xs ++ ys)) ∧ ∀ t H3, Same H2 H3 → H3 t = some (.tup xs) → Q (.ref t) H3) {p2 : Pos} : wE X (.Subscript e (.Slice none (some b) none p2) pos) σ H Q := by
  refine e_slL1 sl_tupA (e_mono q fun x H1 z => e_mono z fun y H2 ⟨p, xs, ys, ex, ey, ht, q⟩ => ⟨_, ey, p, xs ++ ys, ex, SqT.of ht, fun hw => ?_, fun _ t nt => ?_⟩)
  · refine q p H2 (Same.refl H2) ?_
    have e : xs ++ ys = xs := by
      have h2 := hw.2
      rw [HT.sIx_nat, List.length_append] at h2
      have : ys = [] := by
        cases ys with
        | nil => rfl
        | cons y ys => simp only [List.length_cons] at h2; omega
      rw [this, List.append_nil]
    rw [e] at ht
    exact ht
  · refine q t _ (fun c u eo => by rw [upd_ne (ne_of_none eo nt)]; exact eo) ?_
    rw [cut_hi]
    exact upd_same
theorem e_tLo (q : wE X e σ H fun x H1 => wE X a σ H1 fun y H2 => ∃ p xs ys, x = .ref p ∧ y = .int (xs.length : Int) ∧ H2 p = some (.tup (xs ++ ys)) ∧ ∀ t H3, Same H2 H3 → H3 t = some (.tup ys) → Q (.ref t) H3) {p2 : Pos} : wE X (.Subscript e (.Slice (some a) none none p2) pos) σ H Q := by
  refine e_slL0 sl_tupA (e_mono q fun x H1 z => e_mono z fun y H2 ⟨p, xs, ys, ex, ey, ht, q⟩ => ⟨_, ey, p, xs ++ ys, ex, SqT.of ht, fun hw => ?_, fun _ t nt => ?_⟩)
  · refine q p H2 (Same.refl H2) ?_
    have e : xs ++ ys = ys := by
      have h2 := hw.1
      rw [HT.sIx_nat, List.length_append] at h2
      have : xs = [] := by
        cases xs with
        | nil => rfl
        | cons y xs => simp only [List.length_cons] at h2; omega
      rw [this, List.nil_append]
    rw [e] at ht
    exact ht
  · refine q t _ (fun c u eo => by rw [upd_ne (ne_of_none eo nt)]; exact eo) ?_
    rw [cut_lo]
    exact upd_same
theorem e_rev {k : Nat} {p1 p2 p3 : Pos} (q : wE X e σ H fun x H1 => ∃ p xs, x = .ref p ∧ SqL X.K H1 p xs ∧ ∀ t H2, Same H1 H2 → H1 t = none → H2 t = some (.lst xs.reverse) → Q (.ref t) H2) : wE X (.Subscript e (.Slice none none (some (.UnaryOp .USub (.Constant (.int 1) k p1) p2)) p3) pos) σ H Q :=
  e_of (pe_revL pe) (e_mono q fun x H1 ⟨p, xs, ex, h, q⟩ => ⟨p, xs, ex, h, fun t nt => q t _ (fun c u eo => by rw [upd_ne (ne_of_none eo nt)]; exact eo) nt upd_same⟩)
theorem e_ext {o : Expr} {apos : Pos} (q : wE X o σ H fun x H1 => ∃ l xs0, x = .ref l ∧ SqL X.K H1 l xs0 ∧ wE X e σ H1 fun y H2 => ∃ r xs zs, y = .ref r ∧ H2 l = some (.lst xs) ∧ H2 r = some (.lst zs) ∧ xs.length + zs.length ≤ 200000 ∧ Q .non (upd H2 l (.lst (xs ++ zs))))
    (hbase : attributeBase o "extend" X.env (eval o X.env) = eval o X.env := by rfl)
    (hfew : ((backTo pos (starEach (e :: []) X.env)).all (fun x => !x.1) && (backToKw pos (keywordEach [] X.env)).all (fun x => x.1.isSome)
      && decide ((e :: []).length + ([] : List Keyword).length + (if ([] : List Keyword).isEmpty then 0 else 1) < 30)) = true := by rfl)
    (hline : (apos.endLine == pos.line) = true := by rfl) (hs : starEach (e :: []) X.env = (false, eval e X.env) :: starEach [] X.env := by rfl) (hplain : (backTo pos (starEach [] X.env)).any (·.1) = false := by rfl) :
    wE X (.Call (.Attribute o "extend" apos) [e] [] pos) σ H Q := by
  refine e_of (pe_bm PySem.F.plainAttrs_list PySem.F.slot_list_extend PySem.F.type_list_extend mt_extend pe (pa_cons pe pa_nil hs) hbase hfew hline hs hplain) (e_mono q fun x H1 z => ?_)
  obtain ⟨l, xs0, rfl, hl, z⟩ := z
  refine ⟨.inl ⟨rfl, _, hl⟩, e_mono z fun y H2 z2 => ?_⟩
  obtain ⟨r, xs, zs, rfl, h1, h2, h3, h4⟩ := z2
  exact ⟨l, r, xs, zs, rfl, rfl, h1, h2, by show _ ≤ 2 ^ 24; omega, h4⟩
theorem c_dict {p : Addr} {kvs : List (Key × L2.V)} (h : H p = some (.dK kvs)) (q : ∀ t H2, Same H H2 → H t = none → H2 t = some (.dK kvs) → Q (.ref t) H2) : wC X (.type "dict") [.ref p] H Q :=
  c_of call_dictD ⟨p, kvs, rfl, .inl h, fun t nt => q t _ (fun c u eo => by rw [upd_ne (ne_of_none eo nt)]; exact eo) nt upd_same⟩
theorem c_listT {p : Addr} {xs : List L2.V} (h : H p = some (.tup xs)) (q : ∀ l H2, Same H H2 → H l = none → H2 l = some (.lst xs) → Q (.ref l) H2) : wC X (.type "list") [.ref p] H Q :=
  c_of call_list_of ⟨p, xs, rfl, .inr (SqT.of h), fun l np => q l _ (fun c u eo => by rw [upd_ne (ne_of_none eo np)]; exact eo) np upd_same⟩
theorem c_listDn {p : Addr} {kvs : List (Key × L2.V)} (hc : X.calm = true) (h : H p = some (.dK kvs)) (q : ∀ l H2, Same H H2 → H l = none → H2 l = some (.lst (kvs.map fun kv => kV kv.1)) → Q (.ref l) H2) : wC X (.type "list") [.ref p] H Q :=
  c_of (call_list_dK hc) ⟨p, kvs, rfl, h, fun l np => q l _ (fun c u eo => by rw [upd_ne (ne_of_none eo np)]; exact eo) np upd_same⟩
theorem o_eqDt {n : Nat} {p r : Addr} {ks ls : List (Key × L2.V)} (hr : Room n X.A) (h1 : H p = some (.dK ks)) (h2 : H r = some (.dK ls)) (hl : ks.length = ls.length) (hv : ∀ p ∈ ks, valV ls p.1 = some p.2 ∧ flatB p.2 = true) (q : Q (.bl true) H) : wK X .Eq (.ref p) (.ref r) H Q :=
  k_of (op_eq_dictA (by have := hr.units; omega)) ⟨p, r, ks, ls, rfl, rfl, h1, h2, hl, hv, q⟩
/-- {k: v} and {k: v, k2: v2} -/
theorem e_d1 {k v : Expr} (q : ∀ p, H p = none → wE X k σ (upd H p (.dK [])) fun x H1 => wE X v σ H1 fun y H2 => H2 p = some (.dK []) ∧ ∃ z, x = .str z ∧ Q (.ref p) (upd H2 p (.dK [(Sum.inr z, y)]))) : wE X (.Dict [some k] [v] pos) σ H Q := by
  refine e_of (pe_disp (pps_cons pe pe pps_nil) rfl rfl (by simp) (by simp)) fun p np => e_mono (q p np) fun x H1 q1 => e_mono q1 fun y H2 q2 => ?_
  obtain ⟨h, z, rfl, q3⟩ := q2
  exact ⟨h, [(Sum.inr z, y)], rfl, by simp, q3⟩
theorem e_d2 {k v k2 v2 : Expr} (q : ∀ p, H p = none → wE X k σ (upd H p (.dK [])) fun x H1 => wE X v σ H1 fun y H2 => wE X k2 σ H2 fun x2 H3 => wE X v2 σ H3 fun y2 H4 => H4 p = some (.dK []) ∧ ∃ z z2, x = .str z ∧ x2 = .str z2 ∧ z ≠ z2 ∧ Q (.ref p) (upd H4 p (.dK [(Sum.inr z, y), (Sum.inr z2, y2)]))) :
    wE X (.Dict [some k, some k2] [v, v2] pos) σ H Q := by
  refine e_of (pe_disp (pps_cons pe pe (pps_cons pe pe pps_nil)) rfl rfl (by simp) (by simp)) fun p np => e_mono (q p np) fun x H1 q1 => e_mono q1 fun y H2 q2 => e_mono q2 fun x2 H3 q3 => e_mono q3 fun y2 H4 q4 => ?_
  obtain ⟨h, z, z2, rfl, rfl, ne, q5⟩ := q4
  refine ⟨h, [(Sum.inr z, y), (Sum.inr z2, y2)], rfl, by simp, ?_⟩
  have e : mergeK [] [((Sum.inr z : Key), y), (Sum.inr z2, y2)] = [(Sum.inr z, y), (Sum.inr z2, y2)] := by
    show putK (putK [] (Sum.inr z) y) (Sum.inr z2) y2 = _
    unfold putK
    simp [ne]
  rw [e]
  exact q5
/-- for x in reversed(xs), xs a list -/
theorem s_forRv {nx : L2.St → Hp → Prop} {rt : VK} {bk ct : L2.St → Hp → Prop} {g : Nat} {x : Str} {i : Nat} {body : List Stmt} {px p cp pos : Pos} (hm : X.mg "reversed" = none)
    (q : wE X a σ H fun v H1 => ∃ ad xs, v = .ref ad ∧ SqL X.K H1 ad xs ∧ ∃ Pv : Nat → L2.St → Hp → Prop, Pv 0 σ H1 ∧ (∀ k σ H, k ≤ xs.length → Pv k σ H → SqL X.K H ad xs) ∧ (∀ k y σ H, xs.reverse[k]? = some y → Pv k σ H → wL X body ⟨Pv (k + 1), rt, nx, Pv (k + 1)⟩ (σ.set i (some y)) H) ∧ ∀ σ H, Pv xs.length σ H → nx σ H)
    (I : In X N G sc := by assumption) (hc : X.calm = true := by rfl) (hA : At N i x := by repeat (first | with_reducible apply At.z | with_reducible apply At.s)) (hG : At G g ("reversed" : Str) := by repeat (first | with_reducible apply At.z | with_reducible apply At.s))
    (hs : starEach [a] X.env = (false, eval a X.env) :: starEach [] X.env := by rfl) (hs2 : ∀ z, foldedSetIterable (.Call (.Name "reversed" p) [a] [] cp) X.env z = pure z := by intro _; rfl) :
    wS X (.For (.Name x px) (.Call (.Name "reversed" p) [a] [] cp) body [] pos) ⟨nx, rt, bk, ct⟩ σ H := by
  refine s_of (ps_for I.never hc (RT.pi_revA (I.g hG) hm pe hs) (pg_name I.nd (I.hi hA) (I.loc hA) I.f) pl hs2) (e_mono q fun v H1 q1 => ?_)
  obtain ⟨ad, xs, rfl, hl, Pv, h0, hk, hb, hd⟩ := q1
  refine ⟨ad, xs, rfl, .inl ⟨hl, fun k m σ H => m = xs.length - k ∧ k ≤ xs.length ∧ Pv k σ H, ⟨xs.length, by simp, Nat.zero_le _, h0⟩, ?_⟩⟩
  rintro k m σ H ⟨rfl, hi, p⟩
  have q := hk k σ H hi p
  by_cases hlt : k < xs.length
  · refine .inr ⟨⟨hlt, xs, xs[xs.length - 1 - k]'(by omega), q, by simp⟩, Pv (k + 1), fun σ' H' p' => ⟨xs.length - (k + 1), by omega, rfl, hlt, p'⟩, fun x H' y => ?_⟩
    obtain ⟨e, y⟩ := y
    subst e
    refine hb k x σ _ ?_ p
    rw [List.getElem?_reverse hlt]
    exact y xs q
  · have e : k = xs.length := by omega
    subst e
    exact .inl ⟨Nat.le_refl _, hd σ H p⟩
/-- for x in d, d a dict that stands at ad -/
theorem s_forD {nx : L2.St → Hp → Prop} {rt : VK} {bk ct : L2.St → Hp → Prop} {x : Str} {i : Nat} {body : List Stmt} {px pos : Pos} {ad : Addr} {kvs : List (Key × L2.V)} (h : H ad = some (.dK kvs))
    (q : ∀ o, wE X a σ (upd H ad (.frz o (.dK kvs))) fun v H1 => v = .ref ad ∧ H1 ad = some (.frz o (.dK kvs)) ∧ ∃ Pv : Nat → L2.St → Hp → Prop, Pv 0 σ H1 ∧ (∀ k σ H, k ≤ kvs.length → Pv k σ H → H ad = some (.frz o (.dK kvs))) ∧
      (∀ k y v σ H, kvs[k]? = some (y, v) → Pv k σ H → wL X body ⟨Pv (k + 1), fun v H' => H' ad = some (.frz o (.dK kvs)) ∧ rt v (upd H' ad (.dK kvs)), fun σ' H' => H' ad = some (.frz o (.dK kvs)) ∧ nx σ' (upd H' ad (.dK kvs)), Pv (k + 1)⟩ (σ.set i (some (kV y))) H) ∧ ∀ σ H, Pv kvs.length σ H → nx σ (upd H ad (.dK kvs)))
    (I : In X N G sc := by assumption) (hc : X.calm = true := by rfl) (hA : At N i x := by repeat (first | with_reducible apply At.z | with_reducible apply At.s)) (hs2 : ∀ z, foldedSetIterable a X.env z = pure z := by intro _; rfl) :
    wS X (.For (.Name x px) a body [] pos) ⟨nx, rt, bk, ct⟩ σ H := by
  refine s_of (ps_lock (ps_for I.never hc (pi_keys pe) (pg_name I.nd (I.hi hA) (I.loc hA) I.f) pl hs2)) ?_
  refine ⟨ad, .dK kvs, h, trivial, fun o => e_mono (q o) fun v H1 q1 => ?_⟩
  obtain ⟨rfl, h1, Pv, h0, hk, hb, hd⟩ := q1
  refine ⟨ad, o, rfl, .inl ⟨kvs, h1, fun k m σ H => m = kvs.length - k ∧ k ≤ kvs.length ∧ Pv k σ H, ⟨kvs.length, by simp, Nat.zero_le _, h0⟩, ?_⟩⟩
  rintro k m σ H ⟨rfl, hi, p⟩
  have q := hk k σ H hi p
  by_cases hlt : k < kvs.length
  · refine .inr ⟨⟨q, hlt⟩, Pv (k + 1), fun σ' H' p' => ⟨kvs.length - (k + 1), by omega, rfl, hlt, p'⟩, fun x H' y => ?_⟩
    obtain ⟨rfl, ky, v, hkv, rfl⟩ := y
    exact hb k ky v σ _ hkv p
  · have e : k = kvs.length := by omega
    subst e
    exact .inl ⟨⟨q, Nat.le_refl _⟩, q, hd σ H p⟩
/-- [elt for x in t if c], t a tuple -/
def LcTf (X : Cx) (Vn : List (Nat × Str)) (G' : List Str) (elt c : Expr) (scope : Scope) (i : Nat) (ad : Addr) (xs : List L2.V) (D : Addr) (σ : L2.St) (H1 : Hp) (Qd : Hp → Prop) : Prop := ∃ Pv : Nat → Hp → Prop, Pv 0 (upd H1 D (.lst [])) ∧ (∀ k H2, k ≤ xs.length → Pv k H2 → SqT X.K H2 ad xs) ∧
  (∀ k x H2, xs[k]? = some x → Pv k H2 → Turn1 X Vn G' elt c scope i D σ x H2 (Pv (k + 1))) ∧ ∀ H2, Pv xs.length H2 → Qd H2
theorem e_lcTf {i : Nat} {x : Str} {px : Pos} (B : BkOk X.N Vn G' i x sc scope)
    (q : wE X a σ H fun v H1 => ∃ ad xs, v = .ref ad ∧ SqT X.K H1 ad xs ∧ ∀ D, H1 D = none → LcTf X Vn G' elt c scope i ad xs D σ H1 fun H2 => Q (.ref D) H2)
    (I : In X N G sc := by assumption) (hc : X.calm = true := by rfl) (hs2 : ∀ z, foldedSetIterable a X.env z = pure z := by intro _; rfl) :
    wE X (.ListComp elt [⟨.Name x px, a, [c], 0⟩] scope pos) σ H Q := by
  refine e_of (pe_lc (own := [(x, i)]) (g := gName i) (tt := wBkT X Vn G' c scope) (te := wBk X Vn G' elt scope) hc I.nd (pi_tup pe) (B.ok I) (fun s H C cl fp => B.pg I s H C cl fp) (fun s H C cl fp => pts_bk (B.inB I s H C cl fp)) (fun s H C cl fp => pe_bk (B.inB I s H C cl fp)) hs2) (e_mono q fun v H1 q1 => ?_)
  obtain ⟨ad, xs, rfl, hl, q2⟩ := q1
  refine ⟨ad, rfl, ⟨xs, hl⟩, fun D hD => ?_⟩
  obtain ⟨Pv, h0, hk, hs, hd⟩ := q2 D hD
  exact lc_tup Pv h0 hk (fun k x H hx p => turn1_of (hs k x H hx p)) hd
/-- y = [elt for x in range(a) if c] -/
def LcRf (X : Cx) (Vn : List (Nat × Str)) (G' : List Str) (elt c : Expr) (scope : Scope) (i n : Nat) (D : Addr) (σ : L2.St) (H1 : Hp) (Qd : Hp → Prop) : Prop := ∃ Pv : Nat → Hp → Prop, Pv 0 (upd H1 D (.lst [])) ∧
  (∀ k H2, k < n → Pv k H2 → Turn1 X Vn G' elt c scope i D σ (.int (k : Int)) H2 (Pv (k + 1))) ∧ ∀ H2, Pv n H2 → Qd H2
theorem lcRf_of {i n : Nat} {D : Addr} {H1 : Hp} {Qd : Hp → Prop} (q : LcRf X Vn G' elt c scope i n D σ H1 Qd) : ∃ W : Nat → Nat → Hp → Prop, (∃ m, W 0 m (upd H1 D (.lst []))) ∧ ∀ k m H, W k m H →
    ((Itr 0 n).stop k H ∧ Qd H) ∨ ((Itr 0 n).go k H ∧ ∃ Nx : Hp → Prop, (∀ H', Nx H' → ∃ m', m' < m ∧ W (k + 1) m' H') ∧ ∀ x H', (Itr 0 n).yld k H x H' → gName i x (wipe σ [i]) H' fun σ2 H2 => wipe σ2 [i] = wipe σ [i] ∧ wBkT X Vn G' c scope σ2 H2 fun b H3 =>
      if b = true then wBk X Vn G' elt scope σ2 H3 fun y H4 => ∃ acc, H4 D = some (.lst acc) ∧ acc.length < sizeLine ∧ Nx (upd H4 D (.lst (acc ++ [y]))) else Nx H3) := by
  obtain ⟨Pv, h0, hs, hd⟩ := q
  refine lc_range Pv h0 (fun k H hk p => ?_) hd
  rw [Int.zero_add]
  exact turn1_of (hs k H hk p)
theorem s_lcRf {nx : L2.St → Hp → Prop} {rt : VK} {bk ct : L2.St → Hp → Prop} {i j g : Nat} {x y : Str} {px py p cp spos : Pos} (B : BkOk X.N Vn G' i x sc scope) (hm : X.mg "range" = none)
    (q : wE X a σ H fun v H1 => ∃ n : Nat, v = .int n ∧ n < 2 ^ 62 ∧ ∀ D, H1 D = none → LcRf X Vn G' elt c scope i n D σ H1 fun H2 => nx (σ.set j (some (.ref D))) H2)
    (I : In X N G sc := by assumption) (hc : X.calm = true := by rfl) (hA : At N j y := by repeat (first | with_reducible apply At.z | with_reducible apply At.s)) (hG : At G g ("range" : Str) := by repeat (first | with_reducible apply At.z | with_reducible apply At.s))
    (hk : X.env.scope.kind = .function := by rfl) (hy : X.env.scope.names.lookup y = some .local := by rfl) (hl : (py.line == pos.line) = true := by rfl) (ha : (scope.names.any fun (n, k) => n == y && (k == .local || k == .cell)) = false := by decide +kernel)
    (hs : starEach [a] X.env = [(false, eval a X.env)] := by rfl) (hs2 : ∀ z, foldedSetIterable (.Call (.Name "range" p) [a] [] cp) X.env z = pure z := by intro _; rfl) (hs1 : starEach (a :: []) X.env = (false, eval a X.env) :: starEach [] X.env := by rfl) :
    wS X (.Assign [.Name y py] (.ListComp elt [⟨.Name x px, .Call (.Name "range" p) [a] [] cp, [c], 0⟩] scope pos) spos) ⟨nx, rt, bk, ct⟩ σ H := by
  refine s_of (ps_setLc (own := [(x, i)]) (g := gName i) (tt := wBkT X Vn G' c scope) (te := wBk X Vn G' elt scope) hc I.nd (I.hi hA) hy (sw_true hk hy hl ha) (pi_range1 (I.g hG) hm (pa_cons pe pa_nil hs1) hs) (B.ok I) (fun s H C cl fp => B.pg I s H C cl fp) (fun s H C cl fp => pts_bk (B.inB I s H C cl fp)) (fun s H C cl fp => pe_bk (B.inB I s H C cl fp)) hs2) (e_mono q fun v H1 q1 => ?_)
  obtain ⟨n, rfl, hn, q2⟩ := q1
  refine ⟨(n : Int), rfl, by omega, by omega, ?_⟩
  rw [Int.toNat_natCast]
  exact fun D hD => lcRf_of (q2 D hD)
end
end Wk

set_option maxHeartbeats 4000000
namespace K05
open PySem PySem.Spec PyProof.Rows L2 Wk
def topS (i : Nat) : Stmt := PySem.Challenge.pw_heldproofs_k05_moved_there_and_back.main.body.getD i (.Pass ⟨0, 0, 0, 0⟩)
abbrev s_refers : Stmt := topS 3
abbrev N_refers : List Str := ["row"]
abbrev P_refers : List Str := ["row"]
abbrev G_refers : List Str := ["FIELDS"]
theorem so_refers : ScOk N_refers G_refers (defScope s_refers) := ⟨by decide +kernel, by decide +kernel, by decide +kernel⟩
theorem sc_refers : FnScope N_refers P_refers (defScope s_refers) := ⟨rfl, rfl, rfl, by decide +kernel, rfl, by decide +kernel, by decide +kernel⟩
abbrev s_premises : Stmt := topS 4
abbrev N_premises : List Str := ["derivation"]
abbrev P_premises : List Str := ["derivation"]
abbrev G_premises : List Str := ["list", "len", "FIELDS"]
theorem so_premises : ScOk N_premises G_premises (defScope s_premises) := ⟨by decide +kernel, by decide +kernel, by decide +kernel⟩
theorem sc_premises : FnScope N_premises P_premises (defScope s_premises) := ⟨rfl, rfl, rfl, by decide +kernel, rfl, by decide +kernel, by decide +kernel⟩
abbrev s_head_of : Stmt := topS 5
abbrev N_head_of : List Str := ["row"]
abbrev P_head_of : List Str := ["row"]
abbrev G_head_of : List Str := ["len", "FIELDS"]
theorem so_head_of : ScOk N_head_of G_head_of (defScope s_head_of) := ⟨by decide +kernel, by decide +kernel, by decide +kernel⟩
theorem sc_head_of : FnScope N_head_of P_head_of (defScope s_head_of) := ⟨rfl, rfl, rfl, by decide +kernel, rfl, by decide +kernel, by decide +kernel⟩
abbrev s_heads : Stmt := topS 6
abbrev N_heads : List Str := ["derivation", "found", "waiting", "row"]
abbrev P_heads : List Str := ["derivation"]
abbrev G_heads : List Str := ["head_of", "premises"]
theorem so_heads : ScOk N_heads G_heads (defScope s_heads) := ⟨by decide +kernel, by decide +kernel, by decide +kernel⟩
theorem sc_heads : FnScope N_heads P_heads (defScope s_heads) := ⟨rfl, rfl, rfl, by decide +kernel, rfl, by decide +kernel, by decide +kernel⟩
abbrev s_from_heads : Stmt := topS 7
abbrev N_from_heads : List Str := ["found", "made", "head", "row", "_"]
abbrev P_from_heads : List Str := ["found"]
abbrev G_from_heads : List Str := ["reversed", "range", "PREMISES"]
theorem so_from_heads : ScOk N_from_heads G_from_heads (defScope s_from_heads) := ⟨by decide +kernel, by decide +kernel, by decide +kernel⟩
theorem sc_from_heads : FnScope N_from_heads P_from_heads (defScope s_from_heads) := ⟨rfl, rfl, rfl, by decide +kernel, rfl, by decide +kernel, by decide +kernel⟩
abbrev s_moved : Stmt := topS 9
abbrev N_moved : List Str := ["derivation", "old", "new", "renamed"]
abbrev P_moved : List Str := ["derivation", "old", "new", "renamed"]
abbrev G_moved : List Str := ["from_heads", "heads"]
theorem so_moved : ScOk N_moved G_moved (defScope s_moved) := ⟨by decide +kernel, by decide +kernel, by decide +kernel⟩
abbrev C_moved : List Str := ["head"]
theorem sc_moved : FnScope (N_moved ++ C_moved) P_moved (defScope s_moved) := ⟨rfl, rfl, rfl, by decide +kernel, rfl, by decide +kernel, by decide +kernel⟩
abbrev s_moved_head : Stmt := topS 10
abbrev N_moved_head : List Str := ["head", "old", "new", "renamed", "ref"]
abbrev P_moved_head : List Str := ["head", "old", "new", "renamed"]
abbrev G_moved_head : List Str := ["refers", "is_below"]
theorem so_moved_head : ScOk N_moved_head G_moved_head (defScope s_moved_head) := ⟨by decide +kernel, by decide +kernel, by decide +kernel⟩
theorem sc_moved_head : FnScope N_moved_head P_moved_head (defScope s_moved_head) := ⟨rfl, rfl, rfl, by decide +kernel, rfl, by decide +kernel, by decide +kernel⟩
abbrev s_is_below : Stmt := topS 11
abbrev N_is_below : List Str := ["ref", "level"]
abbrev P_is_below : List Str := ["ref", "level"]
abbrev G_is_below : List Str := ["isinstance", "str"]
theorem so_is_below : ScOk N_is_below G_is_below (defScope s_is_below) := ⟨by decide +kernel, by decide +kernel, by decide +kernel⟩
theorem sc_is_below : FnScope N_is_below P_is_below (defScope s_is_below) := ⟨rfl, rfl, rfl, by decide +kernel, rfl, by decide +kernel, by decide +kernel⟩
abbrev s_free_refs : Stmt := topS 12
abbrev N_free_refs : List Str := ["derivation", "level", "found", "head"]
abbrev P_free_refs : List Str := ["derivation", "level"]
abbrev G_free_refs : List Str := ["heads", "refers", "is_below", "list"]
theorem so_free_refs : ScOk N_free_refs G_free_refs (defScope s_free_refs) := ⟨by decide +kernel, by decide +kernel, by decide +kernel⟩
theorem sc_free_refs : FnScope N_free_refs P_free_refs (defScope s_free_refs) := ⟨rfl, rfl, rfl, by decide +kernel, rfl, by decide +kernel, by decide +kernel⟩
abbrev s_cell : Stmt := topS 14
abbrev N_cell : List Str := ["_law_script", "_law_k"]
abbrev P_cell : List Str := ["_law_script", "_law_k"]
abbrev G_cell : List Str := ["len", "abs"]
theorem so_cell : ScOk N_cell G_cell (defScope s_cell) := ⟨by decide +kernel, by decide +kernel, by decide +kernel⟩
theorem sc_cell : FnScope N_cell P_cell (defScope s_cell) := ⟨rfl, rfl, rfl, by decide +kernel, rfl, by decide +kernel, by decide +kernel⟩
abbrev s_pool : Stmt := topS 15
abbrev N_pool : List Str := ["_law_script", "_law_k", "_law_cell_here"]
abbrev P_pool : List Str := ["_law_script", "_law_k"]
abbrev G_pool : List Str := ["_law_cell", "int"]
theorem so_pool : ScOk N_pool G_pool (defScope s_pool) := ⟨by decide +kernel, by decide +kernel, by decide +kernel⟩
theorem sc_pool : FnScope N_pool P_pool (defScope s_pool) := ⟨rfl, rfl, rfl, by decide +kernel, rfl, by decide +kernel, by decide +kernel⟩
abbrev s_next : Stmt := topS 16
abbrev N_next : List Str := ["_law_pool_here", "_law_many", "_law_digit", "_law_mixed"]
abbrev P_next : List Str := ["_law_pool_here", "_law_many"]
abbrev G_next : List Str := ["int"]
theorem so_next : ScOk N_next G_next (defScope s_next) := ⟨by decide +kernel, by decide +kernel, by decide +kernel⟩
theorem sc_next : FnScope N_next P_next (defScope s_next) := ⟨rfl, rfl, rfl, by decide +kernel, rfl, by decide +kernel, by decide +kernel⟩
abbrev s_is_number : Stmt := topS 17
abbrev N_is_number : List Str := ["_law_value"]
abbrev P_is_number : List Str := ["_law_value"]
abbrev G_is_number : List Str := ["isinstance", "int", "bool"]
theorem so_is_number : ScOk N_is_number G_is_number (defScope s_is_number) := ⟨by decide +kernel, by decide +kernel, by decide +kernel⟩
theorem sc_is_number : FnScope N_is_number P_is_number (defScope s_is_number) := ⟨rfl, rfl, rfl, by decide +kernel, rfl, by decide +kernel, by decide +kernel⟩
abbrev s_row : Stmt := topS 18
abbrev N_row : List Str := ["_law_item", "_law_names"]
abbrev P_row : List Str := ["_law_item"]
abbrev G_row : List Str := ["isinstance", "tuple", "len"]
theorem so_row : ScOk N_row G_row (defScope s_row) := ⟨by decide +kernel, by decide +kernel, by decide +kernel⟩
theorem sc_row : FnScope N_row P_row (defScope s_row) := ⟨rfl, rfl, rfl, by decide +kernel, rfl, by decide +kernel, by decide +kernel⟩
abbrev s_parts : Stmt := topS 19
abbrev N_parts : List Str := ["_law_tree"]
abbrev P_parts : List Str := ["_law_tree"]
abbrev G_parts : List Str := []
theorem so_parts : ScOk N_parts G_parts (defScope s_parts) := ⟨by decide +kernel, by decide +kernel, by decide +kernel⟩
abbrev C_parts : List Str := ["_law_item"]
theorem sc_parts : FnScope (N_parts ++ C_parts) P_parts (defScope s_parts) := ⟨rfl, rfl, rfl, by decide +kernel, rfl, by decide +kernel, by decide +kernel⟩
theorem bk_parts0 : BkOk (N_parts ++ C_parts) [(1, "_law_item")] ["_law_row"] 1 "_law_item" (defScope s_parts) (lcSc (valE ((defBody s_parts).getD 0 (.Pass ⟨0, 0, 0, 0⟩)))) := ⟨by decide +kernel, by decide +kernel, by decide +kernel, by decide +kernel⟩
abbrev s_paths : Stmt := topS 20
abbrev N_paths : List Str := ["_law_tree", "_law_path", "_law_found", "_law_parts_here", "_law_k"]
abbrev P_paths : List Str := ["_law_tree", "_law_path"]
abbrev G_paths : List Str := ["_law_parts", "range", "len", "_law_paths"]
theorem so_paths : ScOk N_paths G_paths (defScope s_paths) := ⟨by decide +kernel, by decide +kernel, by decide +kernel⟩
theorem sc_paths : FnScope N_paths P_paths (defScope s_paths) := ⟨rfl, rfl, rfl, by decide +kernel, rfl, by decide +kernel, by decide +kernel⟩
abbrev s_at : Stmt := topS 21
abbrev N_at : List Str := ["_law_tree", "_law_path", "_law_k"]
abbrev P_at : List Str := ["_law_tree", "_law_path"]
abbrev G_at : List Str := ["_law_parts"]
theorem so_at : ScOk N_at G_at (defScope s_at) := ⟨by decide +kernel, by decide +kernel, by decide +kernel⟩
theorem sc_at : FnScope N_at P_at (defScope s_at) := ⟨rfl, rfl, rfl, by decide +kernel, rfl, by decide +kernel, by decide +kernel⟩
abbrev s_same : Stmt := topS 22
abbrev N_same : List Str := ["_law_told", "_law_due", "_law_k"]
abbrev P_same : List Str := ["_law_told", "_law_due"]
abbrev G_same : List Str := ["isinstance", "str", "tuple", "list", "_law_is_number", "len", "range", "_law_same"]
theorem so_same : ScOk N_same G_same (defScope s_same) := ⟨by decide +kernel, by decide +kernel, by decide +kernel⟩
theorem sc_same : FnScope N_same P_same (defScope s_same) := ⟨rfl, rfl, rfl, by decide +kernel, rfl, by decide +kernel, by decide +kernel⟩
abbrev s_mode : Stmt := topS 23
abbrev N_mode : List Str := ["_law_pool_here", "_law_room", "_law_mode_here"]
abbrev P_mode : List Str := ["_law_pool_here", "_law_room"]
abbrev G_mode : List Str := ["_law_next"]
theorem so_mode : ScOk N_mode G_mode (defScope s_mode) := ⟨by decide +kernel, by decide +kernel, by decide +kernel⟩
theorem sc_mode : FnScope N_mode P_mode (defScope s_mode) := ⟨rfl, rfl, rfl, by decide +kernel, rfl, by decide +kernel, by decide +kernel⟩
abbrev s_free_one : Stmt := topS 24
abbrev N_free_one : List Str := ["_law_way", "_law_many", "_law_level", "_law_room", "_law_name", "_law_ref", "_law_which", "_law_index", "_law_body"]
abbrev P_free_one : List Str := ["_law_way", "_law_many", "_law_level", "_law_room", "_law_name", "_law_ref", "_law_which"]
abbrev G_free_one : List Str := ["_law_next", "_law_free", "int"]
theorem so_free_one : ScOk N_free_one G_free_one (defScope s_free_one) := ⟨by decide +kernel, by decide +kernel, by decide +kernel⟩
theorem sc_free_one : FnScope N_free_one P_free_one (defScope s_free_one) := ⟨rfl, rfl, rfl, by decide +kernel, rfl, by decide +kernel, by decide +kernel⟩
abbrev s_free_two : Stmt := topS 25
abbrev N_free_two : List Str := ["_law_way", "_law_many", "_law_level", "_law_room", "_law_name", "_law_ref", "_law_which", "_law_pool_here", "_law_first", "_law_mode_here", "_law_one", "_law_inner", "_law_two"]
abbrev P_free_two : List Str := ["_law_way", "_law_many", "_law_level", "_law_room", "_law_name", "_law_ref", "_law_which"]
abbrev G_free_two : List Str := ["_law_next", "_law_mode", "_law_free"]
theorem so_free_two : ScOk N_free_two G_free_two (defScope s_free_two) := ⟨by decide +kernel, by decide +kernel, by decide +kernel⟩
theorem sc_free_two : FnScope N_free_two P_free_two (defScope s_free_two) := ⟨rfl, rfl, rfl, by decide +kernel, rfl, by decide +kernel, by decide +kernel⟩
abbrev s_free : Stmt := topS 26
abbrev N_free : List Str := ["_law_way", "_law_many", "_law_level", "_law_room", "_law_pool_here", "_law_names", "_law_name", "_law_ref", "_law_pick"]
abbrev P_free : List Str := ["_law_way", "_law_many", "_law_level", "_law_room"]
abbrev G_free : List Str := ["_law_next", "_law_free_one", "int", "_law_free_two"]
theorem so_free : ScOk N_free G_free (defScope s_free) := ⟨by decide +kernel, by decide +kernel, by decide +kernel⟩
theorem sc_free : FnScope N_free P_free (defScope s_free) := ⟨rfl, rfl, rfl, by decide +kernel, rfl, by decide +kernel, by decide +kernel⟩
abbrev s_others : Stmt := topS 27
abbrev N_others : List Str := ["_law_tree", "_law_level", "_law_found", "_law_path", "_law_row_here"]
abbrev P_others : List Str := ["_law_tree", "_law_level"]
abbrev G_others : List Str := ["_law_paths", "_law_at", "isinstance", "str"]
theorem so_others : ScOk N_others G_others (defScope s_others) := ⟨by decide +kernel, by decide +kernel, by decide +kernel⟩
theorem sc_others : FnScope N_others P_others (defScope s_others) := ⟨rfl, rfl, rfl, by decide +kernel, rfl, by decide +kernel, by decide +kernel⟩
abbrev s_beside : Stmt := topS 28
abbrev N_beside : List Str := ["_law_one", "_law_two", "_law_old", "_law_new", "_law_names", "_law_k", "_law_due"]
abbrev P_beside : List Str := ["_law_one", "_law_two", "_law_old", "_law_new", "_law_names"]
abbrev G_beside : List Str := ["isinstance", "tuple", "len", "range", "int", "_law_same", "_law_row", "_law_beside"]
theorem so_beside : ScOk N_beside G_beside (defScope s_beside) := ⟨by decide +kernel, by decide +kernel, by decide +kernel⟩
theorem sc_beside : FnScope N_beside P_beside (defScope s_beside) := ⟨rfl, rfl, rfl, by decide +kernel, rfl, by decide +kernel, by decide +kernel⟩
abbrev s_target : Stmt := topS 29
abbrev N_target : List Str := ["_law_pool_here"]
abbrev P_target : List Str := ["_law_pool_here"]
abbrev G_target : List Str := ["_law_next"]
theorem so_target : ScOk N_target G_target (defScope s_target) := ⟨by decide +kernel, by decide +kernel, by decide +kernel⟩
theorem sc_target : FnScope N_target P_target (defScope s_target) := ⟨rfl, rfl, rfl, by decide +kernel, rfl, by decide +kernel, by decide +kernel⟩
abbrev s_wild : Stmt := topS 30
abbrev N_wild : List Str := ["_law_pool_here", "_law_others_here", "_law_level", "_law_names", "_law_ref"]
abbrev P_wild : List Str := ["_law_pool_here", "_law_others_here", "_law_level"]
abbrev G_wild : List Str := ["_law_next", "_law_target"]
theorem so_wild : ScOk N_wild G_wild (defScope s_wild) := ⟨by decide +kernel, by decide +kernel, by decide +kernel⟩
theorem sc_wild : FnScope N_wild P_wild (defScope s_wild) := ⟨rfl, rfl, rfl, by decide +kernel, rfl, by decide +kernel, by decide +kernel⟩
abbrev s_ring : Stmt := topS 31
abbrev N_ring : List Str := ["_law_pool_here", "_law_others_here", "_law_level", "_law_new", "_law_names", "_law_turning", "_law_ref", "_law_k", "_law_spare"]
abbrev P_ring : List Str := ["_law_pool_here", "_law_others_here", "_law_level", "_law_new"]
abbrev G_ring : List Str := ["isinstance", "int", "str", "_law_next", "range", "len"]
theorem so_ring : ScOk N_ring G_ring (defScope s_ring) := ⟨by decide +kernel, by decide +kernel, by decide +kernel⟩
theorem sc_ring : FnScope N_ring P_ring (defScope s_ring) := ⟨rfl, rfl, rfl, by decide +kernel, rfl, by decide +kernel, by decide +kernel⟩
theorem bk_ring0 : BkOk N_ring [(7, "_law_k"), (1, "_law_others_here")] [] 7 "_law_k" (defScope s_ring) (lcSc (valE ((defBody s_ring).getD 3 (.Pass ⟨0, 0, 0, 0⟩)))) := ⟨by decide +kernel, by decide +kernel, by decide +kernel, by decide +kernel⟩
abbrev s_moves : Stmt := topS 32
abbrev N_moves : List Str := ["_law_tree", "_law_level", "_law_new", "_law_names", "_law_handed", "_law_told"]
abbrev P_moves : List Str := ["_law_tree", "_law_level", "_law_new", "_law_names"]
abbrev G_moves : List Str := ["dict", "moved", "_law_beside"]
theorem so_moves : ScOk N_moves G_moves (defScope s_moves) := ⟨by decide +kernel, by decide +kernel, by decide +kernel⟩
theorem sc_moves : FnScope N_moves P_moves (defScope s_moves) := ⟨rfl, rfl, rfl, by decide +kernel, rfl, by decide +kernel, by decide +kernel⟩
abbrev s_listed : Stmt := topS 33
abbrev N_listed : List Str := ["_law_tree", "_law_level", "_law_due", "_law_told"]
abbrev P_listed : List Str := ["_law_tree", "_law_level", "_law_due"]
abbrev G_listed : List Str := ["free_refs", "_law_same"]
theorem so_listed : ScOk N_listed G_listed (defScope s_listed) := ⟨by decide +kernel, by decide +kernel, by decide +kernel⟩
theorem sc_listed : FnScope N_listed P_listed (defScope s_listed) := ⟨rfl, rfl, rfl, by decide +kernel, rfl, by decide +kernel, by decide +kernel⟩
abbrev s_law : Stmt := topS 34
abbrev N_law : List Str := ["_law_script", "_law_pool_here", "_law_level", "_law_many", "_law_tree", "_law_new", "_law_others_here", "_law_names", "_law_told", "_law_ref", "_law_back"]
abbrev P_law : List Str := ["_law_script"]
abbrev G_law : List Str := ["_law_pool", "_law_next", "_law_free", "_law_others", "_law_listed", "_law_moves", "_law_wild", "_law_ring", "moved", "dict", "_law_same"]
theorem so_law : ScOk N_law G_law (defScope s_law) := ⟨by decide +kernel, by decide +kernel, by decide +kernel⟩
theorem sc_law : FnScope N_law P_law (defScope s_law) := ⟨rfl, rfl, rfl, by decide +kernel, rfl, by decide +kernel, by decide +kernel⟩
local macro_rules | `(tactic| walk_at "bl") => `(tactic| first
  | refine e_callB (x := "len") (by assumption) b_len ?_
  | refine e_callB (x := "isinstance") (by assumption) b_isi ?_
  | refine e_callB (x := "abs") (by assumption) b_abs ?_
  | refine e_callB (x := "max") (by assumption) b_max ?_
  | refine e_callB (x := "min") (by assumption) b_min ?_
  | refine e_callTy (x := "str") (by assumption) b_str ?_
  | refine e_callTy (x := "int") (by assumption) b_int ?_)
local macro_rules | `(tactic| walk_at "gl") => `(tactic| first
  | refine e_bltn (x := "int") (v := .ty "int") (by assumption) b_int rfl ?_
  | refine e_bltn (x := "bool") (v := .ty "bool") (by assumption) b_bool rfl ?_
  | refine e_bltn (x := "str") (v := .ty "str") (by assumption) b_str rfl ?_
  | refine e_bltn (x := "tuple") (v := .ty "tuple") (by assumption) b_tuple rfl ?_
  | refine e_bltn (x := "list") (v := .ty "list") (by assumption) b_list rfl ?_)
local macro_rules | `(tactic| walk_at "st") => `(tactic| first
  | refine l_cons ?_
  | refine s_ret ?_
  | refine s_if ?_
  | refine s_set ?_
  | refine s_sub ?_
  | refine e_var ?_
  | refine e_int ?_
  | refine e_ix ?_
  | refine a_cons ?_
  | refine a_nil ?_
  | refine t_cmp ?_
  | refine t_not ?_
  | refine t_w (w_and ?_)
  | refine t_w (w_or ?_)
  | refine w_and ?_
  | refine w_or ?_
  | refine w_and1 ?_
  | refine w_or1 ?_
  | refine t_val ?_
  | refine e_str ?_
  | refine e_bl ?_
  | refine e_non ?_
  | refine e_bin ?_
  | refine e_cmp ?_
  | refine e_and ?_
  | refine e_or ?_
  | refine e_not ?_
  | refine e_one ?_
  | refine l_nil ?_
  | refine s_expr ?_
  | refine e_tup ?_
  | refine e_lst ?_
  | refine ⟨_, rfl, ?_⟩
  | ((with_reducible refine ite_t ?hc ?_); (case hc => exact rfl))
  | ((with_reducible refine ite_f ?hc ?_); (case hc => exact rfl))
  | refine o_add ?_
  | refine o_sub ?_
  | refine o_lt ?_
  | refine o_le ?_
  | refine o_gt ?_
  | refine o_ge ?_
  | refine o_eqI ?_
  | refine o_neI ?_
  | refine o_eqS ?_
  | refine o_neB ?_
  | refine o_isN ?_
  | refine o_nisB ?_
  | refine o_isB ?_
  | refine e_neg ?_
  | refine o_eqB ?_
  | refine c_int ?_
  | refine c_abs ?_
  | refine c_max rfl ?_
  | refine c_min rfl ?_
  | refine a_cons (e_fld ?_)
  | walk_at "bl"
  | walk_at "gl")
local macro_rules | `(tactic| walk_at "sts") => `(tactic| repeat walk_at "st")
section
variable {P : Program} {w : World} {K : PySem.W.Frag} {mg : Str → Option Value} {base : Heap}
def PoolAt (H : Hp) (a : Addr) : Prop := ∃ x y z : Int, H a = some (.lst [.int x, .int y, .int z])
def spCell (K : PySem.W.Frag) : Sp := fun vs H Q _ => ∃ (a : Addr) (ns : List Int) (k : Nat), vs = [.ref a, .int k] ∧ SqL K H a (ns.map V.int) ∧ ∀ z : Int, 0 ≤ z → Q (.int z) H
theorem ok_cell (T : Top K mg "_law_cell" s_cell) (mLen : mg "len" = none) (mAbs : mg "abs" = none) : Fn P w K mg base 1 "_law_cell" (spCell K) := by
  refine fn_ok T sc_cell so_cell (fun vs H Q E h => ?_) (fun _ _ _ _ _ _ us hl => match us, hl with | [_, _], _ => rfl) fun f cdv A outer s H vs Q E hr h nd => ?_
  · obtain ⟨a, ns, k, rfl, _⟩ := h
    rfl
  · obtain ⟨a, ns, k, rfl, hS, q⟩ := h
    walk_at "sts"
    refine c_lenL (by exact hS) ?_
    walk_at "sts"
    refine if2 (fun h => ?_) (fun h => ?_)
    · rw [List.length_map] at h
      have hk : k < ns.length := by omega
      walk_at "sts"
      refine ix_l (by exact hS) (atI_nat (v := .int ns[k]) (by simp [hk])) ?_
      walk_at "sts"
      exact q _ (by split <;> omega)
    · walk_at "sts"
      exact q _ (Int.le_refl _)
def spPool (K : PySem.W.Frag) : Sp := fun vs H Q _ => ∃ (a : Addr) (ns : List Int) (k : Nat), vs = [.ref a, .int k] ∧ SqL K H a (ns.map V.int) ∧ ∀ p H', Same H H' → H p = none → PoolAt H' p → Q (.ref p) H'
theorem ok_pool (T : Top K mg "_law_pool" s_pool) (F : Fn P w K mg base 1 "_law_cell" (spCell K)) (mInt : mg "int" = none) : Fn P w K mg base 2 "_law_pool" (spPool K) := by
  refine fn_ok T sc_pool so_pool (fun vs H Q E h => ?_) (fun _ _ _ _ _ _ us hl => match us, hl with | [_, _], _ => rfl) fun f cdv A outer s H vs Q E hr h nd => ?_
  · obtain ⟨a, ns, k, rfl, _⟩ := h
    rfl
  · obtain ⟨a, ns, k, rfl, hS, q⟩ := h
    walk_at "sts"
    refine e_call (by exact F) (by exact hr) (by decide) ?_
    walk_at "sts"
    refine ⟨a, ns, k, rfl, hS, fun z hz => ?_⟩
    walk_at "sts"
    refine o_pow ⟨by decide, by decide, by decide⟩ ?_
    walk_at "sts"
    refine if2 (fun h => ?_) (fun h => ?_)
    · walk_at "sts"
      refine o_mod (by decide) ?_
      walk_at "sts"
      refine ⟨by show 3 ≤ sizeLine; decide, fun p H2 e np hp => ?_⟩
      exact q p H2 e np ⟨_, _, _, hp⟩
    · walk_at "sts"
      refine ⟨by show 3 ≤ sizeLine; decide, fun p H2 e np hp => ?_⟩
      exact q p H2 e np ⟨_, _, _, hp⟩
def spNext : Sp := fun vs H Q _ => ∃ (a : Addr) (m : Int), vs = [.ref a, .int m] ∧ 0 < m ∧ m < 1073741824 ∧ PoolAt H a ∧ ∀ d H', 0 ≤ d → d < m → But a H H' → PoolAt H' a → Q (.int d) H'
theorem ok_next (T : Top K mg "_law_next" s_next) (mInt : mg "int" = none) : Fn P w K mg base 1 "_law_next" spNext := by
  refine fn_ok T sc_next so_next (fun vs H Q E h => ?_) (fun _ _ _ _ _ _ us hl => match us, hl with | [_, _], _ => rfl) fun f cdv A outer s H vs Q E hr h nd => ?_
  · obtain ⟨a, m, rfl, _⟩ := h
    rfl
  · obtain ⟨a, m, rfl, m0, m1, ⟨x, y, z, hp⟩, q⟩ := h
    walk_at "sts"
    refine ix_l (by exact SqL.of hp) rfl ?_
    walk_at "sts"
    refine if2 (fun h => ?_) (fun h => ?_)
    · walk_at "sts"
      refine ix_l (by exact SqL.of hp) rfl ?_
      walk_at "sts"
      refine o_mod m0 ?_
      walk_at "sts"
      refine ix_l (by exact SqL.of hp) rfl ?_
      walk_at "sts"
      refine o_fdiv ⟨m0, m1⟩ ?_
      walk_at "sts"
      refine set_l hp rfl ?_
      walk_at "sts"
      exact q _ _ (Int.emod_nonneg _ (by omega)) (Int.emod_lt_of_pos _ m0) (But.refl.upd) ⟨_, _, _, upd_same⟩
    · walk_at "sts"
      refine ix_l (by exact SqL.of hp) rfl ?_
      walk_at "sts"
      refine set_l hp rfl ?_
      walk_at "sts"
      refine ix_l (by exact SqL.of upd_same) rfl ?_
      walk_at "sts"
      refine ix_l (by exact SqL.of upd_same) rfl ?_
      walk_at "sts"
      refine o_mul (.inl (by decide)) ?_
      walk_at "sts"
      refine o_mod (by decide) ?_
      walk_at "sts"
      have b1 := Int.emod_nonneg (z + 7919 * (y + 1) + 13) (show (2147483647 : Int) ≠ 0 by decide)
      have b2 := Int.emod_lt_of_pos (z + 7919 * (y + 1) + 13) (show (0 : Int) < 2147483647 by decide)
      refine o_mul (.inl ⟨by omega, by omega⟩) ?_
      walk_at "sts"
      refine o_mod (by decide) ?_
      walk_at "sts"
      generalize (z + 7919 * (y + 1) + 13) % 2147483647 = u at *
      have c1 := Int.emod_nonneg (u * (u + 48271)) (show (2147483629 : Int) ≠ 0 by decide)
      have c2 := Int.emod_lt_of_pos (u * (u + 48271)) (show (0 : Int) < 2147483629 by decide)
      refine o_mul (.inl ⟨by omega, by omega⟩) ?_
      walk_at "sts"
      refine ix_l (by exact SqL.of upd_same) rfl ?_
      walk_at "sts"
      refine o_mul (.inl (by decide)) ?_
      walk_at "sts"
      refine o_mod (by decide) ?_
      walk_at "sts"
      refine o_fdiv (by decide) ?_
      walk_at "sts"
      refine o_mod m0 ?_
      walk_at "sts"
      exact q _ _ (Int.emod_nonneg _ (by omega)) (Int.emod_lt_of_pos _ m0) (But.refl.upd) ⟨_, _, _, upd_same⟩
end
theorem none_of {H H' : Hp} {p : Addr} (s : Same H H') (n : H' p = none) : H p = none := by
  cases hz : H p with
  | none => rfl
  | some o => exact absurd (s p o hz) (by rw [n]; intro z; cases z)
/-- all tuples stay -/
def TS (H H' : Hp) : Prop := ∀ t xs, H t = some (.tup xs) → H' t = some (.tup xs)
theorem Same.ts {H H' : Hp} (s : Same H H') : TS H H' := fun t xs h => s t _ h
theorem But.ts {a : Addr} {H H' : Hp} {l : List V} (b : But a H H') (ha : H a = some (.lst l)) : TS H H' := fun t xs h => b.tup ha h
theorem PoolAt.ts {a : Addr} {H H' : Hp} (h : PoolAt H a) (b : But a H H') : TS H H' := let ⟨_, _, _, e⟩ := h; But.ts b e
theorem TS.upd {a : Addr} {H : Hp} {l : List V} {o : HO} (ha : H a = some (.lst l)) : TS H (L2.upd H a o) := fun t xs h => by
  rw [upd_ne (ne_of h ha (by intro z; cases z))]
  exact h
theorem TS.trans {H H1 H2 : Hp} (a : TS H H1) (b : TS H1 H2) : TS H H2 := fun t xs h => b t xs (a t xs h)
/-! ### rows, as data -/
inductive Kd where
  | own | take | offer | pick | pay | make | open_ | cut | cite
  deriving DecidableEq
def Kd.nm : Kd → Str
  | .own => "own" | .take => "take" | .offer => "offer" | .pick => "pick" | .pay => "pay" | .make => "make" | .open_ => "open" | .cut => "cut" | .cite => "cite"
def Kd.fs : Kd → List Str
  | .own => ["ref"] | .take => [] | .offer => [] | .pick => ["ref", "side"] | .pay => ["ref", "kind"] | .make => ["name", "index"] | .open_ => ["ref", "name", "index"] | .cut => ["kind", "sentence"] | .cite => ["name"]
def Kd.pr : Kd → Nat
  | .own => 0 | .take => 1 | .offer => 2 | .pick => 1 | .pay => 2 | .make => 1 | .open_ => 1 | .cut => 2 | .cite => 0
def Kd.rf : Kd → Bool
  | .own => true | .pick => true | .pay => true | .open_ => true | _ => false
abbrev allKd : List Kd := [.own, .take, .offer, .pick, .pay, .make, .open_, .cut, .cite]
/-- a field that is no row and no reference: a number, a text, a kind in stock, a cut's sentence -/
inductive Fd where
  | i (n : Int) | s (z : Str) | p (a b : Int) | c (z : Str)
def FdV (H : Hp) : Fd → V → Prop
  | .i n, v => v = .int n
  | .s z, v => v = .str z
  | .p a b, v => ∃ t, v = .ref t ∧ H t = some (.tup [.int a, .int b])
  | .c z, v => ∃ t a b, v = .ref t ∧ H t = some (.tup [.str "menu", .ref a, .ref b]) ∧ H a = some (.tup [.str "word", .str "own"]) ∧ H b = some (.tup [.str "word", .str z])
theorem FdV.ts {H H' : Hp} (e : TS H H') : ∀ {f : Fd} {v : V}, FdV H f v → FdV H' f v
  | .i _, _, h => h
  | .s _, _, h => h
  | .p _ _, _, ⟨t, h1, h2⟩ => ⟨t, h1, e _ _ h2⟩
  | .c _, _, ⟨t, a, b, h1, h2, h3, h4⟩ => ⟨t, a, b, h1, e _ _ h2, e _ _ h3, e _ _ h4⟩
def FsV (H : Hp) : List Fd → List V → Prop
  | [], vs => vs = []
  | f :: fs, vs => ∃ v us, vs = v :: us ∧ FdV H f v ∧ FsV H fs us
theorem FsV.ts {H H' : Hp} (e : TS H H') : ∀ {f : List Fd} {v : List V}, FsV H f v → FsV H' f v
  | [], _, h => h
  | _ :: _, _, ⟨v, us, h1, h2, h3⟩ => ⟨v, us, h1, h2.ts e, h3.ts e⟩
theorem FsV.len {H : Hp} : ∀ {f : List Fd} {v : List V}, FsV H f v → v.length = f.length
  | [], _, h => by rw [show _ = _ from h]; rfl
  | _ :: _, _, ⟨v, us, h1, h2, h3⟩ => by rw [h1, List.length_cons, List.length_cons, h3.len]
structure Hd where
  k : Kd
  r : Option Key
  f : List Fd
def rL (r : Option Key) : List V := (r.map kV).toList
/-- a head that is well formed -/
def Hd.Ok (h : Hd) : Prop := h.r.isSome = h.k.rf ∧ (rL h.r).length + h.f.length = h.k.fs.length
def HdL (H : Hp) (h : Hd) (xs : List V) : Prop := ∃ fs, xs = .str h.k.nm :: (rL h.r ++ fs) ∧ FsV H h.f fs
theorem HdL.ts {H H' : Hp} (e : TS H H') {h : Hd} {xs : List V} : HdL H h xs → HdL H' h xs := fun ⟨fs, h1, h2⟩ => ⟨fs, h1, h2.ts e⟩
theorem HdL.len {H : Hp} {h : Hd} {xs : List V} (o : h.Ok) : HdL H h xs → xs.length = 1 + h.k.fs.length := fun ⟨fs, h1, h2⟩ => by
  rw [h1, List.length_cons, List.length_append, h2.len, ← o.2, Nat.add_comm]
def HdV (H : Hp) (h : Hd) (v : V) : Prop := ∃ t xs, v = .ref t ∧ H t = some (.tup xs) ∧ HdL H h xs
theorem HdV.ts {H H' : Hp} (e : TS H H') {h : Hd} {v : V} : HdV H h v → HdV H' h v := fun ⟨t, xs, h1, h2, h3⟩ => ⟨t, xs, h1, e _ _ h2, h3.ts e⟩
inductive Tr where
  | le (h : Hd) | un (h : Hd) (a : Tr) | bi (h : Hd) (a b : Tr)
def Tr.hd : Tr → Hd
  | .le h => h | .un h _ => h | .bi h _ _ => h
def Tr.ks : Tr → List Tr
  | .le _ => [] | .un _ a => [a] | .bi _ a b => [a, b]
def Tr.Ok : Tr → Prop
  | .le h => h.Ok ∧ h.k.pr = 0
  | .un h a => h.Ok ∧ h.k.pr = 1 ∧ a.Ok
  | .bi h a b => h.Ok ∧ h.k.pr = 2 ∧ a.Ok ∧ b.Ok
def Tr.size : Tr → Nat
  | .le _ => 1 | .un _ a => a.size + 1 | .bi _ a b => a.size + b.size + 1
def Tr.dep : Tr → Nat
  | .le _ => 0 | .un _ a => a.dep + 1 | .bi _ a b => max a.dep b.dep + 1
def TrV (H : Hp) : Tr → V → Prop
  | .le h, v => ∃ t xs, v = .ref t ∧ H t = some (.tup (xs ++ [])) ∧ HdL H h xs
  | .un h a, v => ∃ t xs x, v = .ref t ∧ H t = some (.tup (xs ++ [x])) ∧ HdL H h xs ∧ TrV H a x
  | .bi h a b, v => ∃ t xs x y, v = .ref t ∧ H t = some (.tup (xs ++ [x, y])) ∧ HdL H h xs ∧ TrV H a x ∧ TrV H b y
theorem TrV.ts {H H' : Hp} (e : TS H H') : ∀ {t : Tr} {v : V}, TrV H t v → TrV H' t v
  | .le _, _, ⟨t, xs, h1, h2, h3⟩ => ⟨t, xs, h1, e _ _ h2, h3.ts e⟩
  | .un _ _, _, ⟨t, xs, x, h1, h2, h3, h4⟩ => ⟨t, xs, x, h1, e _ _ h2, h3.ts e, h4.ts e⟩
  | .bi _ _ _, _, ⟨t, xs, x, y, h1, h2, h3, h4, h5⟩ => ⟨t, xs, x, y, h1, e _ _ h2, h3.ts e, h4.ts e, h5.ts e⟩
def TrsV (H : Hp) : List Tr → List V → Prop
  | [], vs => vs = []
  | t :: ts, vs => ∃ v us, vs = v :: us ∧ TrV H t v ∧ TrsV H ts us
theorem TrsV.ts {H H' : Hp} (e : TS H H') : ∀ {f : List Tr} {v : List V}, TrsV H f v → TrsV H' f v
  | [], _, h => h
  | _ :: _, _, ⟨v, us, h1, h2, h3⟩ => ⟨v, us, h1, h2.ts e, h3.ts e⟩
theorem TrsV.len {H : Hp} : ∀ {f : List Tr} {v : List V}, TrsV H f v → v.length = f.length
  | [], _, h => by rw [show _ = _ from h]; rfl
  | _ :: _, _, ⟨v, us, h1, h2, h3⟩ => by rw [h1, List.length_cons, List.length_cons, h3.len]
theorem TrsV.append {H : Hp} : ∀ {f g : List Tr} {v u : List V}, TrsV H f v → TrsV H g u → TrsV H (f ++ g) (v ++ u)
  | [], _, _, _, h, k => by rw [show _ = _ from h]; exact k
  | _ :: _, _, _, _, ⟨v, us, h1, h2, h3⟩, k => by
    subst h1
    exact ⟨v, _, rfl, h2, h3.append k⟩
theorem TrsV.reverse {H : Hp} : ∀ {f : List Tr} {v : List V}, TrsV H f v → TrsV H f.reverse v.reverse
  | [], _, h => by rw [show _ = _ from h]; exact rfl
  | _ :: _, _, ⟨v, us, h1, h2, h3⟩ => by
    subst h1
    rw [List.reverse_cons, List.reverse_cons]
    exact h3.reverse.append ⟨v, [], rfl, h2, rfl⟩
/-- a tree's tuple: the head's items, then the premises -/
theorem TrV.split {H : Hp} : ∀ {t : Tr} {v : V}, TrV H t v → ∃ p xs ys, v = .ref p ∧ H p = some (.tup (xs ++ ys)) ∧ HdL H t.hd xs ∧ TrsV H t.ks ys
  | .le _, _, ⟨t, xs, h1, h2, h3⟩ => ⟨t, xs, [], h1, h2, h3, rfl⟩
  | .un _ _, _, ⟨t, xs, x, h1, h2, h3, h4⟩ => ⟨t, xs, [x], h1, h2, h3, x, [], rfl, h4, rfl⟩
  | .bi _ _ _, _, ⟨t, xs, x, y, h1, h2, h3, h4, h5⟩ => ⟨t, xs, [x, y], h1, h2, h3, x, [y], rfl, h4, y, [], rfl, h5, rfl⟩
theorem Tr.Ok.hd : ∀ {t : Tr}, t.Ok → t.hd.Ok ∧ t.hd.k.pr = t.ks.length ∧ ∀ a ∈ t.ks, a.Ok
  | .le _, ⟨h1, h2⟩ => ⟨h1, h2, by simp [Tr.ks]⟩
  | .un _ a, ⟨h1, h2, h3⟩ => ⟨h1, h2, by simpa [Tr.ks] using h3⟩
  | .bi _ a b, ⟨h1, h2, h3, h4⟩ => ⟨h1, h2, by simpa [Tr.ks] using ⟨h3, h4⟩⟩
/-- the heads in preorder -/
def hds : Tr → List Hd
  | .le h => [h] | .un h a => h :: hds a | .bi h a b => h :: (hds a ++ hds b)
def hdsL (ts : List Tr) : List Hd := ts.flatMap hds
theorem hds_eq (t : Tr) : hds t = t.hd :: hdsL t.ks := by
  cases t <;> simp [hds, hdsL, Tr.hd, Tr.ks]
/-- a stack of trees out of heads -/
def fstep (h : Hd) : Nat → List Tr → List Tr
  | 0, ts => .le h :: ts
  | 1, a :: ts => .un h a :: ts
  | 2, a :: b :: ts => .bi h a b :: ts
  | _, ts => ts
def fh : List Hd → List Tr
  | [] => []
  | h :: hs => fstep h h.k.pr (fh hs)
def Enough : List Hd → Prop
  | [] => True
  | h :: hs => Enough hs ∧ h.k.pr ≤ (fh hs).length
theorem fh_hds : ∀ {t : Tr} (_ : t.Ok) (s : List Hd), fh (hds t ++ s) = t :: fh s
  | .le h, ⟨_, h2⟩, s => by
    show fstep h h.k.pr (fh s) = _
    rw [h2]; rfl
  | .un h a, ⟨_, h2, h3⟩, s => by
    show fstep h h.k.pr (fh (hds a ++ s)) = _
    rw [h2, fh_hds h3]; rfl
  | .bi h a b, ⟨_, h2, h3, h4⟩, s => by
    show fstep h h.k.pr (fh (hds a ++ hds b ++ s)) = _
    rw [h2, List.append_assoc, fh_hds h3, fh_hds h4]; rfl
theorem enough_hds : ∀ {t : Tr} (_ : t.Ok) (s : List Hd), Enough s → Enough (hds t ++ s)
  | .le h, ⟨_, h2⟩, s, e => ⟨e, by rw [h2]; omega⟩
  | .un h a, ⟨_, h2, h3⟩, s, e => ⟨enough_hds h3 s e, by rw [h2]; show 1 ≤ (fh (hds a ++ s)).length; rw [fh_hds h3]; simp⟩
  | .bi h a b, ⟨_, h2, h3, h4⟩, s, e => by
    show Enough (h :: (hds a ++ hds b ++ s))
    rw [List.append_assoc]
    exact ⟨enough_hds h3 _ (enough_hds h4 s e), by rw [h2, fh_hds h3, fh_hds h4]; simp⟩
def Tr.map (g : Hd → Hd) : Tr → Tr
  | .le h => .le (g h) | .un h a => .un (g h) (a.map g) | .bi h a b => .bi (g h) (a.map g) (b.map g)
theorem hds_map (g : Hd → Hd) : ∀ t : Tr, hds (t.map g) = (hds t).map g
  | .le h => rfl
  | .un h a => by simp [Tr.map, hds, hds_map g a]
  | .bi h a b => by simp [Tr.map, hds, hds_map g a, hds_map g b]
/-- the tables of the module's top -/
def fsK (T : Kd → Addr) : List (Key × V) := allKd.map fun k => ((Sum.inr k.nm : Key), V.ref (T k))
def prK : List (Key × V) := allKd.map fun k => ((Sum.inr k.nm : Key), V.int (k.pr : Int))
structure Tabs (w : World) (K : PySem.W.Frag) (mg : Str → Option Value) : Prop where
  ex : ∃ (F D : Addr) (T : Kd → Addr), mg "FIELDS" = some (.ref F) ∧ mg "PREMISES" = some (.ref D) ∧ KDict w K F (fsK T) ∧ KDict w K D prK ∧ ∀ (H : Hp) k, SqT K H (T k) (k.fs.map V.str)
theorem fs_val (T : Kd → Addr) (k : Kd) : valV (fsK T) (Sum.inr k.nm) = some (V.ref (T k)) := by
  cases k <;> rfl
theorem pr_val (k : Kd) : valV prK (Sum.inr k.nm) = some (V.int (k.pr : Int)) := by
  cases k <;> rfl
theorem rf_in (k : Kd) : inV (.str "ref") (k.fs.map V.str) = k.rf := by
  cases k <;> decide +kernel
theorem fs_flat (k : Kd) : (k.fs.map V.str).all flatV = true := by
  cases k <;> rfl
theorem at0 {x : V} {l : List V} : atI (x :: l) 0 = some x := atI_nat (j := 0) rfl
theorem at1 {x y : V} {l : List V} : atI (x :: y :: l) 1 = some y := atI_nat (j := 1) rfl


section
variable {P : Program} {w : World} {K : PySem.W.Frag} {mg : Str → Option Value} {base : Heap}
def spRef : Sp := fun vs H Q _ => ∃ p k rest, vs = [.ref p] ∧ H p = some (.tup (.str (Kd.nm k) :: rest)) ∧ Q (.bl k.rf) H
theorem ok_refers (T : Top K mg "refers" s_refers) (TB : Tabs w K mg) : Fn P w K mg base 1 "refers" spRef := by
  refine fn_ok T sc_refers so_refers (fun vs H Q E h => by obtain ⟨p, k, rest, rfl, _⟩ := h; rfl) (fun _ _ _ _ _ _ us hl => match us, hl with | [_], _ => rfl) fun f cdv A outer s H vs Q E hr h nd => ?_
  obtain ⟨p, k, rest, rfl, hp, q⟩ := h
  obtain ⟨FA, DA, TT, hF, hD, kF, kD, hT⟩ := TB.ex
  walk_at "sts"
  refine e_glob (x := "FIELDS") (v := .ref FA) (u := .ref FA) (by exact hF) (by exact rfl) ?_
  walk_at "sts"
  refine ix_t (by exact SqT.of hp) at0 ?_
  refine ix_kd (by exact kF) (by exact fs_val TT k) ?_
  refine o_inT (hT _ k) rfl (fs_flat k) ?_
  rw [rf_in]
  exact q
def spPrem : Sp := fun vs H Q _ => ∃ p k rest xs ys, vs = [.ref p] ∧ H p = some (.tup (xs ++ ys)) ∧ xs = .str (Kd.nm k) :: rest ∧ xs.length = 1 + k.fs.length ∧ ∀ l H', Same H H' → H l = none → H' l = some (.lst ys) → Q (.ref l) H'
theorem ok_premises (T : Top K mg "premises" s_premises) (TB : Tabs w K mg) (mList : mg "list" = none) (mLen : mg "len" = none) : Fn P w K mg base 1 "premises" spPrem := by
  refine fn_ok T sc_premises so_premises (fun vs H Q E h => by obtain ⟨p, k, rest, xs, ys, rfl, _⟩ := h; rfl) (fun _ _ _ _ _ _ us hl => match us, hl with | [_], _ => rfl) fun f cdv A outer s H vs Q E hr h nd => ?_
  obtain ⟨p, k, rest, xs, ys, rfl, hp, ex, hl, q⟩ := h
  obtain ⟨FA, DA, TT, hF, hD, kF, kD, hT⟩ := TB.ex
  have hp0 : H p = some (.tup (.str (Kd.nm k) :: (rest ++ ys))) := by rw [hp, ex]; rfl
  refine l_cons (s_ret (e_callTy (x := "list") (by assumption) b_list (a_cons (e_tLo ?_))))
  walk_at "sts"
  refine e_glob (x := "FIELDS") (v := .ref FA) (u := .ref FA) (by exact hF) (by exact rfl) ?_
  walk_at "sts"
  refine ix_t (by exact SqT.of hp0) at0 ?_
  refine ix_kd (by exact kF) (by exact fs_val TT k) ?_
  walk_at "sts"
  refine c_lenT (hT _ k) ?_
  walk_at "sts"
  refine ⟨p, xs, ys, rfl, congrArg V.int ?_, hp, fun t H1 e1 h1 => ?_⟩
  · rw [List.length_map, hl]; omega
  · refine a_nil (c_listT h1 fun l H2 e2 n2 h2 => q l H2 (e1.trans e2) (none_of e1 n2) h2)
def spHead : Sp := fun vs H Q _ => ∃ p k rest xs ys, vs = [.ref p] ∧ H p = some (.tup (xs ++ ys)) ∧ xs = .str (Kd.nm k) :: rest ∧ xs.length = 1 + k.fs.length ∧ ∀ l H', Same H H' → H' l = some (.tup xs) → Q (.ref l) H'
theorem ok_head_of (T : Top K mg "head_of" s_head_of) (TB : Tabs w K mg) (mLen : mg "len" = none) : Fn P w K mg base 1 "head_of" spHead := by
  refine fn_ok T sc_head_of so_head_of (fun vs H Q E h => by obtain ⟨p, k, rest, xs, ys, rfl, _⟩ := h; rfl) (fun _ _ _ _ _ _ us hl => match us, hl with | [_], _ => rfl) fun f cdv A outer s H vs Q E hr h nd => ?_
  obtain ⟨p, k, rest, xs, ys, rfl, hp, ex, hl, q⟩ := h
  obtain ⟨FA, DA, TT, hF, hD, kF, kD, hT⟩ := TB.ex
  have hp0 : H p = some (.tup (.str (Kd.nm k) :: (rest ++ ys))) := by rw [hp, ex]; rfl
  refine l_cons (s_ret (e_tHi ?_))
  walk_at "sts"
  refine e_glob (x := "FIELDS") (v := .ref FA) (u := .ref FA) (by exact hF) (by exact rfl) ?_
  walk_at "sts"
  refine ix_t (by exact SqT.of hp0) at0 ?_
  refine ix_kd (by exact kF) (by exact fs_val TT k) ?_
  walk_at "sts"
  refine c_lenT (hT _ k) ?_
  walk_at "sts"
  refine ⟨p, xs, ys, rfl, congrArg V.int ?_, hp, fun t H1 e1 h1 => q t H1 e1 h1⟩
  rw [List.length_map, hl]; omega
def HdsV (H : Hp) : List Hd → List V → Prop
  | [], vs => vs = []
  | f :: fs, vs => ∃ v us, vs = v :: us ∧ HdV H f v ∧ HdsV H fs us
theorem HdsV.ts {H H' : Hp} (e : TS H H') : ∀ {f : List Hd} {v : List V}, HdsV H f v → HdsV H' f v
  | [], _, h => h
  | _ :: _, _, ⟨v, us, h1, h2, h3⟩ => ⟨v, us, h1, h2.ts e, h3.ts e⟩
theorem HdsV.len {H : Hp} : ∀ {f : List Hd} {v : List V}, HdsV H f v → v.length = f.length
  | [], _, h => by rw [show _ = _ from h]; rfl
  | _ :: _, _, ⟨v, us, h1, h2, h3⟩ => by rw [h1, List.length_cons, List.length_cons, h3.len]
theorem HdsV.snoc {H : Hp} {h : Hd} {x : V} (hx : HdV H h x) : ∀ {f : List Hd} {v : List V}, HdsV H f v → HdsV H (f ++ [h]) (v ++ [x])
  | [], _, e => by rw [show _ = _ from e]; exact ⟨x, [], rfl, hx, rfl⟩
  | _ :: _, _, ⟨v, us, h1, h2, h3⟩ => by
    subst h1
    exact ⟨v, _, rfl, h2, h3.snoc hx⟩
theorem HdsV.get {H : Hp} : ∀ {f : List Hd} {v : List V} {i : Nat} {x : V}, HdsV H f v → v[i]? = some x → ∃ h, f[i]? = some h ∧ HdV H h x
  | [], _, i, x, h, e => by rw [show _ = _ from h] at e; cases e
  | f :: _, _, 0, x, ⟨v, us, h1, h2, h3⟩, e => by subst h1; cases e; exact ⟨f, rfl, h2⟩
  | _ :: fs, _, i + 1, x, ⟨v, us, h1, h2, h3⟩, e => by
    subst h1
    exact h3.get (i := i) (by simpa using e)
def szL (ts : List Tr) : Nat := (ts.map Tr.size).foldr (· + ·) 0
theorem szL_cons (t : Tr) (ts : List Tr) : szL (t :: ts) = t.size + szL ts := rfl
theorem szL_app : ∀ (a b : List Tr), szL (a ++ b) = szL a + szL b
  | [], b => by simp [szL]
  | t :: a, b => by rw [List.cons_append, szL_cons, szL_cons, szL_app a b]; omega
theorem size_ks (t : Tr) : t.size = 1 + szL t.ks := by
  cases t <;> simp [Tr.size, Tr.ks, szL] <;> omega
theorem hds_size : ∀ t : Tr, (hds t).length = t.size
  | .le _ => rfl
  | .un _ a => by simp [hds, Tr.size, hds_size a]
  | .bi _ a b => by simp [hds, Tr.size, hds_size a, hds_size b]
theorem ks_le (t : Tr) : t.ks.length ≤ 2 := by cases t <;> simp [Tr.ks]
theorem size_pos (t : Tr) : 1 ≤ t.size := by rw [size_ks]; omega
theorem len_szL : ∀ ts : List Tr, ts.length ≤ szL ts
  | [] => Nat.le_refl _
  | t :: ts => by have := len_szL ts; have := size_pos t; rw [List.length_cons, szL_cons]; omega
theorem hdsL_len : ∀ ts : List Tr, (hdsL ts).length = szL ts
  | [] => rfl
  | t :: ts => by rw [show hdsL (t :: ts) = hds t ++ hdsL ts from rfl, List.length_append, hds_size, hdsL_len ts, szL_cons]
theorem hdsL_app (a b : List Tr) : hdsL (a ++ b) = hdsL a ++ hdsL b := List.flatMap_append
def spHeads : Sp := fun vs H Q _ => ∃ v t, vs = [v] ∧ TrV H t v ∧ t.Ok ∧ t.size ≤ 1000 ∧ ∀ l us H', Same H H' → H l = none → H' l = some (.lst us) → HdsV H' (hds t) us → Q (.ref l) H'
/-- two lists are the own ones, the others stay -/
def But2 (a b : Addr) (H H' : Hp) : Prop := ∀ c o, c ≠ a → c ≠ b → H c = some o → H' c = some o
theorem ok_heads (T : Top K mg "heads" s_heads) (FH : Fn P w K mg base 1 "head_of" spHead) (FP : Fn P w K mg base 1 "premises" spPrem) : Fn P w K mg base 2 "heads" spHeads := by
  refine fn_ok T sc_heads so_heads (fun vs H Q E h => by obtain ⟨v, t, rfl, _⟩ := h; rfl) (fun _ _ _ _ _ _ us hl => match us, hl with | [_], _ => rfl) fun f cdv A outer s H vs Q E hr h nd => ?_
  obtain ⟨v, t, rfl, hv, ho, hz, q⟩ := h
  refine l_cons (s_set (e_lst (a_nil ⟨by show 0 ≤ sizeLine; decide, fun fa H1 e1 n1 h1 => ?_⟩)))
  walk_at "sts"
  refine ⟨by show 1 ≤ sizeLine; decide, fun wa H2 e2 n2 h2 => ?_⟩
  have nfw : fa ≠ wa := fun z => by rw [z] at h1; rw [n2] at h1; cases h1
  refine l_cons (s_whileN (fun n σ H' => ∃ (ts : List Tr) (ws hs : List V) (em : List Hd) (x : Option V), σ = [some v, some (.ref fa), some (.ref wa), x] ∧ H' fa = some (.lst hs) ∧ H' wa = some (.lst ws.reverse) ∧ n = szL ts ∧ TrsV H' ts ws ∧ (∀ a ∈ ts, a.Ok) ∧ HdsV H' em hs ∧ em ++ hdsL ts = hds t ∧ TS H H' ∧ ∀ c o, H c = some o → H' c = some o)
    t.size ⟨[t], [v], [], [], none, rfl, e2 _ _ h1, h2, (Nat.add_zero _).symm, ⟨v, [], rfl, hv.ts (Same.ts (e1.trans e2)), rfl⟩, fun a ha => by rw [List.mem_singleton.mp ha]; exact ho, rfl, by simp [hdsL], Same.ts (e1.trans e2), e1.trans e2⟩ fun n σ H3 hI => ?_)
  obtain ⟨ts, ws, hs, em, x, rfl, hfa, hwa, rfl, hts, hok, hem, heq, tsm, keep⟩ := hI
  refine t_tru (e_var ⟨_, tru_l hwa, ?_⟩)
  cases ts with
  | nil =>
    cases (show ws = [] from hts)
    refine ite_f rfl ?_
    rw [show hdsL [] = [] from rfl, List.append_nil] at heq
    subst heq
    refine l_cons (s_ret (e_var ?_))
    exact q fa hs H3 keep n1 hfa hem
  | cons a ts =>
    obtain ⟨u, us, rfl, ha, hts⟩ := hts
    rw [List.reverse_cons] at hwa ⊢
    refine ite_t (by simp) ?_
    refine l_cons (s_set (e_pop (e_var ⟨wa, us.reverse, u, rfl, hwa, ?_⟩)))
    show wL _ _ _ [some v, some (.ref fa), some (.ref wa), some u] _
    have t1 : TS H3 (upd H3 wa (.lst us.reverse)) := TS.upd hwa
    obtain ⟨p, xs, ys, rfl, hp, hx, hy⟩ := (ha.ts t1).split
    obtain ⟨o1, o2, o3⟩ := (hok a (List.mem_cons_self ..)).hd
    have hlen := hx.len o1
    obtain ⟨fs, ex, hfs⟩ := id hx
    have hfa1 : upd H3 wa (.lst us.reverse) fa = some (.lst hs) := by rw [upd_ne nfw]; exact hfa
    have leh := congrArg List.length heq
    rw [List.length_append, hdsL_len, hds_size, szL_cons] at leh
    have lhs := hem.len
    have lts := len_szL ts
    have lus := hts.len
    have la := size_ks a
    have lk := ks_le a
    have lys := hy.len
    refine l_cons (s_expr (e_app ?_))
    refine e_var ⟨fa, hs, rfl, SqL.of hfa1, ?_⟩
    refine e_call (by exact FH) (by exact hr) (by decide) ?_
    walk_at "sts"
    refine ⟨p, a.hd.k, _, xs, ys, rfl, hp, ex, hlen, fun r H4 e4 h4 => ?_⟩
    refine ⟨hs, e4 _ _ hfa1, by show hs.length < 2 ^ 24; omega, ?_⟩
    have hfa4 := e4 _ _ hfa1
    have hwa4 : upd H4 fa (.lst (hs ++ [.ref r])) wa = some (.lst us.reverse) := by rw [upd_ne (Ne.symm nfw)]; exact e4 _ _ upd_same
    have t4 : TS (upd H3 wa (.lst us.reverse)) (upd H4 fa (.lst (hs ++ [.ref r]))) := (Same.ts e4).trans (TS.upd hfa4)
    have hp4 := t4 _ _ hp
    refine l_cons (s_expr (e_ext ?_))
    refine e_var ⟨wa, _, rfl, SqL.of hwa4, ?_⟩
    refine e_rev ?_
    refine e_call (by exact FP) (by exact hr) (by decide) ?_
    walk_at "sts"
    refine ⟨p, a.hd.k, _, xs, ys, rfl, hp4, ex, hlen, fun l5 H5 e5 n5 h5 => ?_⟩
    refine ⟨l5, ys, rfl, SqL.of h5, fun l6 H6 e6 n6 h6 => ?_⟩
    have hwa6 := e6 _ _ (e5 _ _ hwa4)
    have hfa6 := e6 _ _ (e5 _ _ (upd_same (H := H4) (a := fa) (o := .lst (hs ++ [.ref r]))))
    refine ⟨l6, us.reverse, ys.reverse, rfl, hwa6, h6, by rw [List.length_reverse, List.length_reverse]; omega, ?_⟩
    have t6 : TS (upd H4 fa (.lst (hs ++ [.ref r]))) (upd H6 wa (.lst (us.reverse ++ ys.reverse))) := ((Same.ts e5).trans (Same.ts e6)).trans (TS.upd hwa6)
    have tall := (t1.trans t4).trans t6
    refine l_nil ⟨szL (a.ks ++ ts), by rw [szL_app, szL_cons]; omega, a.ks ++ ts, ys ++ us, hs ++ [.ref r], em ++ [a.hd], some (.ref p), rfl, ?_, ?_, rfl, (hy.ts (t4.trans t6)).append (hts.ts tall), ?_, (hem.ts tall).snoc ?_, ?_, tsm.trans tall, ?_⟩
    · rw [upd_ne nfw]; exact hfa6
    · rw [List.reverse_append]; exact upd_same
    · intro b hb
      rcases List.mem_append.mp hb with hb | hb
      · exact o3 b hb
      · exact hok b (List.mem_cons_of_mem _ hb)
    · exact ⟨r, xs, rfl, t6 _ _ (TS.upd hfa4 _ _ h4), hx.ts (t4.trans t6)⟩
    · rw [← heq, show hdsL (a :: ts) = hds a ++ hdsL ts from rfl, hds_eq a, hdsL_app]
      simp
    · intro c o hc
      have h3 := keep c o hc
      have cw : c ≠ wa := fun z => by
        subst z
        have := (none_of (e1) n2)
        rw [this] at hc; cases hc
      have cf : c ≠ fa := fun z => by
        subst z
        rw [n1] at hc; cases hc
      rw [upd_ne cw]
      refine e6 _ _ (e5 _ _ ?_)
      rw [upd_ne cf]
      refine e4 _ _ ?_
      rw [upd_ne cw]
      exact h3
end


theorem TrsV.get {H : Hp} : ∀ {f : List Tr} {v : List V} {i : Nat} {x : V}, TrsV H f v → v[i]? = some x → ∃ h, f[i]? = some h ∧ TrV H h x
  | [], _, i, x, h, e => by rw [show _ = _ from h] at e; cases e
  | f :: _, _, 0, x, ⟨v, us, h1, h2, h3⟩, e => by subst h1; cases e; exact ⟨f, rfl, h2⟩
  | _ :: fs, _, i + 1, x, ⟨v, us, h1, h2, h3⟩, e => by
    subst h1
    exact h3.get (i := i) (by simpa using e)
theorem pr_le (k : Kd) : k.pr ≤ 2 := by cases k <;> decide
theorem fs_le (k : Kd) : k.fs.length ≤ 3 := by cases k <;> decide
/-- what the inner loop has made -/
theorem fstep_V {H : Hp} {h : Hd} {r : Addr} {xs : List V} (hx : HdL H h xs) : ∀ {n : Nat} {ts : List Tr} {ws : List V}, n ≤ 2 → n ≤ ts.length → TrsV H ts ws → H r = some (.tup (xs ++ ws.take n)) → TrsV H (fstep h n ts) (.ref r :: ws.drop n)
  | 0, ts, ws, _, _, ht, hr => ⟨.ref r, ws, rfl, ⟨r, xs, rfl, hr, hx⟩, ht⟩
  | 1, a :: ts, _, _, _, ⟨v, us, h1, h2, h3⟩, hr => by
    subst h1
    exact ⟨.ref r, us, rfl, ⟨r, xs, v, rfl, hr, hx, h2⟩, h3⟩
  | 2, a :: b :: ts, _, _, _, ⟨v, us, h1, h2, v2, us2, h3, h4, h5⟩, hr => by
    subst h1 h3
    exact ⟨.ref r, us2, rfl, ⟨r, xs, v, v2, rfl, hr, hx, h2, h4⟩, h5⟩
  | 1, [], _, _, hl, _, _ => absurd hl (by simp)
  | 2, [], _, _, hl, _, _ => absurd hl (by simp)
  | 2, [_], _, _, hl, _, _ => absurd hl (by simp)
  | n + 3, _, _, hl, _, _, _ => absurd hl (by omega)
theorem Enough.drop : ∀ {hs : List Hd} (n : Nat), Enough hs → Enough (hs.drop n)
  | hs, 0, h => h
  | [], n + 1, h => h
  | _ :: hs, n + 1, h => Enough.drop n h.1
section
variable {P : Program} {w : World} {K : PySem.W.Frag} {mg : Str → Option Value} {base : Heap}
def spFrom : Sp := fun vs H Q _ => ∃ l us hs t, vs = [.ref l] ∧ H l = some (.lst us) ∧ HdsV H hs us ∧ (∀ h ∈ hs, h.Ok) ∧ Enough hs ∧ fh hs = [t] ∧ hs.length ≤ 1000 ∧ ∀ v H', Same H H' → TrV H' t v → Q v H'
theorem fstep_len {h : Hd} : ∀ {n : Nat} {ts : List Tr}, (fstep h n ts).length ≤ ts.length + 1
  | 0, ts => by simp [fstep]
  | 1, [] => by simp [fstep]
  | 1, _ :: _ => by simp [fstep]
  | 2, [] => by simp [fstep]
  | 2, [_] => by simp [fstep]
  | 2, _ :: _ :: _ => by simp [fstep]
  | n + 3, ts => by simp [fstep]
theorem fh_len : ∀ hs : List Hd, (fh hs).length ≤ hs.length
  | [] => Nat.le_refl _
  | h :: hs => by
    have := fh_len hs
    have := fstep_len (h := h) (n := h.k.pr) (ts := fh hs)
    show (fstep h h.k.pr (fh hs)).length ≤ _
    rw [List.length_cons]
    omega
theorem fstep_pos {h : Hd} : ∀ {n : Nat} {ts : List Tr}, n ≤ 2 → n ≤ ts.length → (fstep h n ts).length = ts.length - n + 1
  | 0, ts, _, _ => by simp [fstep]
  | 1, _ :: _, _, _ => by simp [fstep]
  | 2, _ :: _ :: _, _, _ => by simp [fstep]
  | 1, [], _, hl => absurd hl (by simp)
  | 2, [], _, hl => absurd hl (by simp)
  | 2, [_], _, hl => absurd hl (by simp)
  | n + 3, _, hl, _ => absurd hl (by omega)
theorem ok_from_heads (T : Top K mg "from_heads" s_from_heads) (TB : Tabs w K mg) (mR : mg "range" = none) (mRv : mg "reversed" = none) : Fn P w K mg base 1 "from_heads" spFrom := by
  refine fn_ok T sc_from_heads so_from_heads (fun vs H Q E h => by obtain ⟨l, us, hs, t, rfl, _⟩ := h; rfl) (fun _ _ _ _ _ _ us hl => match us, hl with | [_], _ => rfl) fun f cdv A outer s H vs Q E hr h nd => ?_
  obtain ⟨l, us, hs, t, rfl, hl, hus, hoks, hen, hfh, hz, q⟩ := h
  obtain ⟨FA, DA, TT, hF, hD, kF, kD, hT⟩ := TB.ex
  have lus := hus.len
  refine l_cons (s_set (e_lst (a_nil ⟨by show 0 ≤ sizeLine; decide, fun ma H1 e1 n1 h1 => ?_⟩)))
  have nlm : l ≠ ma := fun z => by rw [z, n1] at hl; cases hl
  have eS : ∀ k, k ≤ us.length → Enough (hs.drop (us.length - k)) := fun k hk => hen.drop _
  refine l_cons (s_forRv (by assumption) ?_)
  refine e_var ⟨l, us, rfl, SqL.of (e1 _ _ hl), fun k σ H' => ∃ (ws : List V) (x y z : Option V), σ = [some (.ref l), some (.ref ma), x, y, z] ∧ H' ma = some (.lst ws.reverse) ∧ TrsV H' (fh (hs.drop (us.length - k))) ws ∧ Same H H', ?_, ?_, ?_, ?_⟩
  · refine ⟨[], none, none, none, rfl, h1, ?_, e1⟩
    rw [Nat.sub_zero, lus, List.drop_length]
    rfl
  · intro k σ H' hk p
    obtain ⟨ws, x, y, z, _, _, _, e⟩ := p
    exact SqL.of (e _ _ hl)
  · intro k y σ H' hy p
    obtain ⟨ws, x, x2, x3, rfl, hm, hts, e⟩ := p
    have hk : k < us.length := by
      have := (List.getElem?_eq_some_iff.mp hy).1
      rw [List.length_reverse] at this
      exact this
    rw [List.getElem?_reverse hk] at hy
    obtain ⟨h, hh, hhv⟩ := hus.get hy
    have hS : hs.drop (us.length - (k + 1)) = h :: hs.drop (us.length - k) := by
      have hi := (List.getElem?_eq_some_iff.mp hh)
      obtain ⟨hi1, hi2⟩ := hi
      have e1 : us.length - (k + 1) = us.length - 1 - k := by omega
      rw [e1, List.drop_eq_getElem_cons hi1, hi2]
      congr 2
      omega
    have hE := eS (k + 1) (by omega)
    rw [hS] at hE
    have lw := hts.len
    have lf := fh_len (hs.drop (us.length - k))
    rw [List.length_drop] at lf
    obtain ⟨r0, xs, rfl, hr0, hx⟩ := hhv
    obtain ⟨fs, ex, hfs⟩ := id hx
    have hr0' := e _ _ hr0
    rw [ex] at hr0'
    show wL _ _ _ [some (.ref l), some (.ref ma), some (.ref r0), x2, x3] _
    refine l_cons (s_set (e_var ?_))
    show wL _ _ _ [some (.ref l), some (.ref ma), some (.ref r0), some (.ref r0), x3] _
    refine l_cons (s_forR (by assumption) ?_)
    refine e_ix (e_glob (x := "PREMISES") (v := .ref DA) (u := .ref DA) (by exact hD) (by exact rfl) ?_)
    walk_at "sts"
    refine ix_t (by exact SqT.of hr0') at0 ?_
    refine ix_kd (by exact kD) (by exact pr_val h.k) ?_
    have lex := congrArg List.length ex
    have p2 := pr_le h.k
    refine ⟨h.k.pr, rfl, by omega, fun j σ H2 => ∃ (r : Addr) (z : Option V), σ = [some (.ref l), some (.ref ma), some (.ref r0), some (.ref r), z] ∧ H2 ma = some (.lst (ws.drop j).reverse) ∧ H2 r = some (.tup (xs ++ ws.take j)) ∧ TS H' H2 ∧ Same H H2, ?_, ?_, ?_⟩
    · refine ⟨r0, x3, rfl, by rw [List.drop_zero]; exact hm, ?_, fun _ _ z => z, e⟩
      rw [List.take_zero, List.append_nil]
      exact e _ _ hr0
    · intro j σ H2 hj p
      obtain ⟨r, z, rfl, hm2, hr2, t2, e2⟩ := p
      have hjw : j < ws.length := by rw [lw]; have := hE.2; omega
      have hd : (ws.drop j).reverse = (ws.drop (j + 1)).reverse ++ [ws[j]] := by rw [List.drop_eq_getElem_cons hjw, List.reverse_cons]
      rw [hd] at hm2
      show wL _ _ _ [some (.ref l), some (.ref ma), some (.ref r0), some (.ref r), _] _
      refine l_cons (s_set (e_bin (e_var (e_tup (a_cons (e_pop (e_var ⟨ma, _, ws[j], rfl, hm2, ?_⟩)))))))
      have tm : TS H2 (upd H2 ma (.lst (ws.drop (j + 1)).reverse)) := TS.upd hm2
      refine a_nil ⟨by show 1 ≤ sizeLine; decide, fun q3 H3 e3 n3 h3 => ?_⟩
      have lxs : xs.length ≤ 4 := by
        rw [hx.len (hoks h (List.mem_of_getElem? hh))]
        have := fs_le h.k
        omega
      refine o_catA (e3 _ _ (tm _ _ hr2)) h3 ?_ fun r4 H4 e4 h4 => ?_
      · rw [List.length_append, List.length_take]
        simp only [List.length_cons, List.length_nil]
        omega
      show wL _ _ _ [some (.ref l), some (.ref ma), some (.ref r0), some (.ref r4), _] _
      refine l_nil ⟨r4, _, rfl, e4 _ _ (e3 _ _ upd_same), ?_, (t2.trans tm).trans (Same.ts (e3.trans e4)), ?_⟩
      · rw [h4, List.append_assoc]
        congr 3
        rw [List.take_succ_eq_append_getElem hjw]
      · intro c o hc
        have cm : c ≠ ma := fun z => by subst z; rw [n1] at hc; cases hc
        refine e4 _ _ (e3 _ _ ?_)
        rw [upd_ne cm]
        exact e2 _ _ hc
    · intro σ H2 p
      obtain ⟨r, z, rfl, hm2, hr2, t2, e2⟩ := p
      refine l_cons (s_expr (e_app (e_var ⟨ma, _, rfl, SqL.of hm2, e_var ⟨_, hm2, ?_, ?_⟩⟩)))
      · rw [List.length_reverse, List.length_drop]
        show _ < 2 ^ 24
        omega
      · have tm : TS H2 (upd H2 ma (.lst ((ws.drop h.k.pr).reverse ++ [.ref r]))) := TS.upd hm2
        refine l_nil ⟨.ref r :: ws.drop h.k.pr, _, _, _, rfl, ?_, ?_, ?_⟩
        · rw [List.reverse_cons]
          exact upd_same
        · rw [hS]
          exact fstep_V (hx.ts ((Same.ts e2).trans tm)) p2 hE.2 (hts.ts (t2.trans tm)) (tm _ _ hr2)
        · intro c o hc
          have cm : c ≠ ma := fun z => by subst z; rw [n1] at hc; cases hc
          rw [upd_ne cm]
          exact e2 _ _ hc
  · intro σ H' p
    obtain ⟨ws, x, y, z, rfl, hm, hts, e⟩ := p
    rw [Nat.sub_self, List.drop_zero, hfh] at hts
    obtain ⟨v, us', rfl, hv, h0⟩ := hts
    cases (show us' = [] from h0)
    walk_at "sts"
    refine ix_l (by exact SqL.of hm) at0 ?_
    exact q v H' e hv
end
section
variable {P : Program} {w : World} {K : PySem.W.Frag} {mg : Str → Option Value} {base : Heap}
/-! ### is_below, moved_head, moved, free_refs -/
def below : Key → Int → Bool
  | .inr _, _ => true
  | .inl i, lv => decide (i < lv)
def spBelow : Sp := fun vs H Q _ => ∃ (r : Key) (lv : Int), vs = [kV r, .int lv] ∧ Q (.bl (below r lv)) H
theorem ok_is_below (T : Top K mg "is_below" s_is_below) (mIs : mg "isinstance" = none) (mStr : mg "str" = none) : Fn P w K mg base 1 "is_below" spBelow := by
  refine fn_ok T sc_is_below so_is_below (fun vs H Q E h => by obtain ⟨r, lv, rfl, _⟩ := h; rfl) (fun _ _ _ _ _ _ us hl => match us, hl with | [_, _], _ => rfl) fun f cdv A outer s H vs Q E hr h nd => ?_
  obtain ⟨r, lv, rfl, q⟩ := h
  cases r with
  | inl i =>
    show wL _ _ _ (start N_is_below [.int i, .int lv]) _
    walk_at "sts"
    refine c_isi ty_int (.ty _) (kit_ty kb_int_str) ?_
    walk_at "sts"
    exact q
  | inr z =>
    show wL _ _ _ (start N_is_below [.str z, .int lv]) _
    walk_at "sts"
    refine c_isi ty_str (.ty _) (kit_ty kb_str_str) ?_
    walk_at "sts"
    exact q
abbrev Mp := List (Key × Key)
def mK (m : Mp) : List (Key × V) := m.map fun p => (p.1, kV p.2)
def fnd (m : Mp) (r : Key) : Option Key := (m.find? fun p => decide (p.1 = r)).map (·.2)
def lk (m : Mp) (r : Key) : Key := (fnd m r).getD r
theorem mK_val : ∀ (m : Mp) (r : Key), valV (mK m) r = (fnd m r).map kV
  | [], r => rfl
  | p :: m, r => by
    by_cases e : p.1 = r
    · rw [show mK (p :: m) = (p.1, kV p.2) :: mK m from rfl, valV_pos e]
      simp [fnd, e]
    · rw [show mK (p :: m) = (p.1, kV p.2) :: mK m from rfl, valV_neg e, mK_val m r]
      simp [fnd, e]
theorem lk_val (m : Mp) (r : Key) : (valV (mK m) r).getD (kV r) = kV (lk m r) := by
  rw [mK_val, lk]
  cases fnd m r <;> rfl
def shR (old new : Int) : Key → Key
  | .inl i => .inl (i + new - old)
  | .inr z => .inr z
def mvR (m : Mp) (old new : Int) (r : Key) : Key := if below r old = true then lk m r else shR old new r
def mvH (m : Mp) (old new : Int) (h : Hd) : Hd := { h with r := h.r.map (mvR m old new) }
theorem mvH_ok {m : Mp} {old new : Int} {h : Hd} (o : h.Ok) : (mvH m old new h).Ok := by
  obtain ⟨o1, o2⟩ := o
  refine ⟨by show (h.r.map _).isSome = h.k.rf; rw [← o1, Option.isSome_map], ?_⟩
  rw [show (mvH m old new h).k = h.k from rfl, show (mvH m old new h).f = h.f from rfl, ← o2]
  simp [mvH, rL]
  cases h.r <;> rfl
def spMh : Sp := fun vs H Q _ => ∃ v h old new d m, vs = [v, .int old, .int new, .ref d] ∧ HdV H h v ∧ h.Ok ∧ H d = some (.dK (mK m)) ∧ ∀ v' H', Same H H' → HdV H' (mvH m old new h) v' → Q v' H'
theorem ok_moved_head (T : Top K mg "moved_head" s_moved_head) (FR : Fn P w K mg base 1 "refers" spRef) (FB : Fn P w K mg base 1 "is_below" spBelow) : Fn P w K mg base 2 "moved_head" spMh := by
  refine fn_ok T sc_moved_head so_moved_head (fun vs H Q E h => by obtain ⟨v, h, old, new, d, m, rfl, _⟩ := h; rfl) (fun _ _ _ _ _ _ us hl => match us, hl with | [_, _, _, _], _ => rfl) fun f cdv A outer s H vs Q E hr h nd => ?_
  obtain ⟨v, h, old, new, d, m, rfl, ⟨t, xs, rfl, ht, fs, rfl, hfs⟩, ho, hd, q⟩ := h
  obtain ⟨hk, hr0, hf⟩ := h
  obtain ⟨o1, o2⟩ := ho
  cases hr0 with
  | none =>
    refine l_cons (s_if (t_not (t_val ?_)))
    refine e_call (by exact FR) (by exact hr) (by decide) ?_
    walk_at "sts"
    refine ⟨t, hk, _, rfl, ht, ?_⟩
    rw [show hk.rf = false from o1.symm]
    walk_at "sts"
    exact q _ H (Same.refl H) ⟨t, _, rfl, ht, fs, rfl, hfs⟩
  | some r =>
    have ht' : H t = some (.tup (.str hk.nm :: kV r :: fs)) := ht
    have lf : fs.length = hf.length := hfs.len
    have l3 := fs_le hk
    have o2' : 1 + hf.length = hk.fs.length := o2
    have fin : ∀ r' : Key, (mvR m old new r = r') → wL (cxOf CX0 P w K mg base N_moved_head "moved_head" (defScope s_moved_head) f cdv A outer s H E).nox ((defBody s_moved_head).drop 3) { nx := fun _ H' => Q .non H', rt := Q } [some (.ref t), some (.int old), some (.int new), some (.ref d), some (kV r')] H := by
      intro r' er
      refine l_cons (s_ret (e_bin (e_tup (a_cons ?_))))
      walk_at "sts"
      refine ix_t (by exact SqT.of ht') at0 ?_
      walk_at "sts"
      refine ⟨by show 2 ≤ sizeLine; decide, fun t2 H2 e2 n2 h2 => ?_⟩
      refine e_tLo ?_
      walk_at "sts"
      refine ⟨t, [.str hk.nm, kV r], fs, rfl, rfl, e2 _ _ ht', fun t3 H3 e3 h3 => ?_⟩
      refine o_catA (e3 _ _ h2) h3 (by simp only [List.length_cons, List.length_nil]; omega) fun t4 H4 e4 h4 => ?_
      have es := (e2.trans e3).trans e4
      exact q _ H4 es ⟨t4, _, rfl, h4, fs, by rw [← er]; rfl, hfs.ts (Same.ts es)⟩
    refine l_cons (s_if (t_not (t_val ?_)))
    refine e_call (by exact FR) (by exact hr) (by decide) ?_
    walk_at "sts"
    refine ⟨t, hk, _, rfl, ht, ?_⟩
    rw [show hk.rf = true from o1.symm]
    walk_at "sts"
    refine ix_t (by exact SqT.of ht') at1 ?_
    show wL _ _ _ [some (.ref t), some (.int old), some (.int new), some (.ref d), some (kV r)] _
    refine l_cons (s_if (t_val ?_))
    refine e_call (by exact FB) (by exact hr) (by decide) ?_
    walk_at "sts"
    refine ⟨r, old, rfl, ?_⟩
    walk_at "sts"
    cases hb : below r old with
    | true =>
      refine iteT ?_
      refine l_cons (s_set (e_dget2 (by exact hr) (e_var ⟨d, rfl, .inl ⟨_, .inl hd⟩, ?_⟩)))
      walk_at "sts"
      refine ⟨_, DGet.k hd, ?_⟩
      rw [lk_val]
      refine l_nil ?_
      exact fin (lk m r) (by rw [mvR, hb, if_pos rfl])
    | false =>
      refine iteF ?_
      cases r with
      | inr z => exact absurd hb (by simp [below])
      | inl i =>
        show wL _ _ _ [some (.ref t), some (.int old), some (.int new), some (.ref d), some (.int i)] _
        refine l_cons (s_set (e_bin (e_bin (e_var (e_var (o_add (e_var (o_sub (l_nil ?_)))))))))
        exact fin (.inl (i + new - old)) (by rw [mvR, hb]; rfl)
end


def argE (n : Nat) : Expr → Expr
  | .Call _ as _ _ => as.getD n (.Constant .none 0 ⟨0, 0, 0, 0⟩)
  | e => e
theorem bk_moved : BkOk (N_moved ++ C_moved) [(4, "head"), (1, "old"), (2, "new"), (3, "renamed")] ["moved_head"] 4 "head" (defScope s_moved) (lcSc (argE 0 (valE ((defBody s_moved).getD 0 (.Pass ⟨0, 0, 0, 0⟩))))) := ⟨by decide +kernel, by decide +kernel, by decide +kernel, by decide +kernel⟩
theorem take_snoc' {α : Type} {l : List α} {i : Nat} {x : α} (h : l[i]? = some x) : l.take (i + 1) = l.take i ++ [x] := by
  obtain ⟨hi, e⟩ := List.getElem?_eq_some_iff.mp h
  rw [List.take_succ_eq_append_getElem hi, e]
theorem fresh_keep {H1 H2 : Hp} {D : Addr} {o : HO} (n : H1 D = none) (k : ∀ c u, H1 c = some u → H2 c = some u) : ∀ c u, H1 c = some u → upd H2 D o c = some u := fun c u hc => by
  rw [upd_ne (fun z => by subst z; rw [n] at hc; cases hc)]
  exact k c u hc
theorem hds_ok : ∀ {t : Tr}, t.Ok → ∀ h ∈ hds t, h.Ok
  | .le h, ⟨o, _⟩, x, hx => by rw [List.mem_singleton.mp hx]; exact o
  | .un h a, ⟨o, _, oa⟩, x, hx => by
    rcases List.mem_cons.mp hx with e | hx
    · rw [e]; exact o
    · exact hds_ok oa x hx
  | .bi h a b, ⟨o, _, oa, ob⟩, x, hx => by
    rcases List.mem_cons.mp hx with e | hx
    · rw [e]; exact o
    · rcases List.mem_append.mp hx with hx | hx
      · exact hds_ok oa x hx
      · exact hds_ok ob x hx
theorem map_ok {g : Hd → Hd} (hg : ∀ h, h.Ok → (g h).Ok ∧ (g h).k = h.k) : ∀ {t : Tr}, t.Ok → (t.map g).Ok
  | .le h, ⟨o, p⟩ => ⟨(hg h o).1, by rw [(hg h o).2]; exact p⟩
  | .un h a, ⟨o, p, oa⟩ => ⟨(hg h o).1, by rw [(hg h o).2]; exact p, map_ok hg oa⟩
  | .bi h a b, ⟨o, p, oa, ob⟩ => ⟨(hg h o).1, by rw [(hg h o).2]; exact p, map_ok hg oa, map_ok hg ob⟩
theorem map_size (g : Hd → Hd) : ∀ t : Tr, (t.map g).size = t.size
  | .le _ => rfl
  | .un _ a => by simp [Tr.map, Tr.size, map_size g a]
  | .bi _ a b => by simp [Tr.map, Tr.size, map_size g a, map_size g b]
theorem map_dep (g : Hd → Hd) : ∀ t : Tr, (t.map g).dep = t.dep
  | .le _ => rfl
  | .un _ a => by simp [Tr.map, Tr.dep, map_dep g a]
  | .bi _ a b => by simp [Tr.map, Tr.dep, map_dep g a, map_dep g b]
section
variable {P : Program} {w : World} {K : PySem.W.Frag} {mg : Str → Option Value} {base : Heap}
def spMoved : Sp := fun vs H Q _ => ∃ v t old new d m, vs = [v, .int old, .int new, .ref d] ∧ TrV H t v ∧ t.Ok ∧ t.size ≤ 1000 ∧ H d = some (.dK (mK m)) ∧ ∀ v' H', Same H H' → TrV H' (t.map (mvH m old new)) v' → Q v' H'
theorem ok_moved (T : Top K mg "moved" s_moved) (FF : Fn P w K mg base 1 "from_heads" spFrom) (FH : Fn P w K mg base 2 "heads" spHeads) (FM : Fn P w K mg base 2 "moved_head" spMh) : Fn P w K mg base 3 "moved" spMoved := by
  refine fn_okC T sc_moved so_moved (fun vs H Q E h => by obtain ⟨v, t, old, new, d, m, rfl, _⟩ := h; rfl) (fun _ _ _ _ _ _ us hl => match us, hl with | [_, _, _, _], _ => rfl) fun f cdv A outer s H vs Q E hr h nd => ?_
  obtain ⟨v, t, old, new, d, m, rfl, hv, ho, hz, hd, q⟩ := h
  refine l_cons (s_ret (e_call (by exact FF) (by exact hr) (by decide) (a_cons (e_lcL (by exact bk_moved) ?_))))
  refine e_call (by exact FH) (by exact hr) (by decide) ?_
  walk_at "sts"
  refine ⟨v, t, rfl, hv, ho, hz, fun l us H1 e1 n1 h1 hus => ⟨l, us, rfl, SqL.of h1, fun D nD => ⟨fun k H2 => ∃ acc, H2 D = some (.lst acc) ∧ HdsV H2 (((hds t).take k).map (mvH m old new)) acc ∧ Same H1 H2, ?_, ?_, ?_, ?_⟩⟩⟩
  · exact ⟨[], upd_same, rfl, fun c u hc => by rw [upd_ne (ne_of_none hc nD)]; exact hc⟩
  · intro k H2 _ p
    obtain ⟨acc, _, _, e⟩ := p
    exact SqL.of (e _ _ h1)
  · intro k x H2 hx p
    obtain ⟨acc, hD, ha, e⟩ := p
    obtain ⟨h, hh, hhv⟩ := hus.get hx
    intro s0 H0 C cl fp IB
    refine b_call (by exact FM) (by exact hr) (by decide) ?_
    refine a_cons (b_var (a_cons (b_var (a_cons (b_var (a_cons (b_var (a_nil ?_))))))))
    refine ⟨x, h, old, new, d, m, rfl, hhv.ts (Same.ts e), hds_ok ho h (List.mem_of_getElem? hh), e _ _ (e1 _ _ hd), fun v' H3 e3 hv' => ?_⟩
    have la := ha.len
    rw [List.length_map, List.length_take] at la
    have lh := hds_size t
    have hD3 := e3 _ _ hD
    refine ⟨acc, hD3, by show _ < 2 ^ 24; omega, _, upd_same, ?_, fresh_keep nD (Same.trans e e3)⟩
    rw [take_snoc' hh, List.map_append]
    have t3 : TS H3 (upd H3 D (.lst (acc ++ [v']))) := TS.upd hD3
    exact (ha.ts ((Same.ts e3).trans t3)).snoc (hv'.ts t3)
  · intro H2 p
    obtain ⟨acc, hD, ha, e⟩ := p
    refine a_nil ?_
    rw [hus.len, List.take_length] at ha
    have hen := enough_hds (map_ok (g := mvH m old new) (fun h o => ⟨mvH_ok o, rfl⟩) ho) [] trivial
    have hfh := fh_hds (map_ok (g := mvH m old new) (fun h o => ⟨mvH_ok o, rfl⟩) ho) []
    rw [List.append_nil, hds_map] at hen hfh
    refine ⟨D, acc, _, t.map (mvH m old new), rfl, hD, ha, ?_, hen, hfh, ?_, fun v' H3 e3 hv' => q v' H3 (e1.trans (Same.trans e e3)) hv'⟩
    · intro h hh
      obtain ⟨h0, hh0, rfl⟩ := List.mem_map.mp hh
      exact mvH_ok (hds_ok ho h0 hh0)
    · rw [List.length_map, hds_size]
      exact hz
/-! ### the references, first occurrence first -/
instance memK (r : Key) (l : List Key) : Decidable (r ∈ l) := decidable_of_iff (l.any (fun x => decide (x = r)) = true) (by rw [List.any_eq_true]; exact ⟨fun ⟨x, h1, h2⟩ => by rw [of_decide_eq_true h2] at h1; exact h1, fun h => ⟨r, h, decide_eq_true rfl⟩⟩)
def addR (l : List Key) (r : Key) : List Key := if r ∈ l then l else l ++ [r]
def refB (lv : Int) (h : Hd) : Option Key := match h.r with
  | some r => if below r lv = true then some r else none
  | none => none
def refsB (lv : Int) (hs : List Hd) : List Key := hs.foldl (fun l h => match refB lv h with | some r => addR l r | none => l) []
theorem refsB_snoc {lv : Int} {hs : List Hd} {h : Hd} : refsB lv (hs ++ [h]) = match refB lv h with | some r => addR (refsB lv hs) r | none => refsB lv hs := by
  unfold refsB
  rw [List.foldl_append]
  rfl
theorem refsB_len (lv : Int) (hs : List Hd) : (refsB lv hs).length ≤ hs.length := by
  have gen : ∀ (hs : List Hd) (l : List Key), (hs.foldl (fun l h => match refB lv h with | some r => addR l r | none => l) l).length ≤ l.length + hs.length := by
    intro hs
    induction hs with
    | nil => intro l; simp
    | cons h hs ih =>
      intro l
      rw [List.foldl_cons, List.length_cons]
      refine Nat.le_trans (ih _) ?_
      cases refB lv h with
      | none => show l.length + hs.length ≤ _; omega
      | some r =>
        show (addR l r).length + hs.length ≤ _
        unfold addR
        split
        · omega
        · rw [List.length_append]; simp only [List.length_cons, List.length_nil]; omega
  have := gen hs []
  rw [List.length_nil, Nat.zero_add] at this
  exact this
def tK (l : List Key) : List (Key × V) := l.map fun r => (r, .bl true)
theorem tK_put (l : List Key) (r : Key) : putK (tK l) r (.bl true) = tK (addR l r) := by
  have ha : ((tK l).any fun kv => decide (kv.1 = r)) = decide (r ∈ l) := by
    rw [tK, List.any_map]
    by_cases h : r ∈ l
    · rw [decide_eq_true h]
      exact List.any_eq_true.mpr ⟨r, h, by simp⟩
    · rw [decide_eq_false h, List.any_eq_false]
      intro x hx
      simp only [Function.comp, decide_eq_true_eq]
      intro z
      rw [z] at hx
      exact h hx
  unfold putK addR
  rw [ha]
  by_cases h : r ∈ l
  · rw [if_pos (decide_eq_true h), if_pos h, tK, List.map_map]
    refine List.map_congr_left fun x _ => ?_
    simp only [Function.comp]
    split <;> rfl
  · rw [if_neg (by rw [decide_eq_false h]; decide), if_neg h, tK, tK, List.map_append]
    rfl
def spFree : Sp := fun vs H Q _ => ∃ v t lv, vs = [v, .int lv] ∧ TrV H t v ∧ t.Ok ∧ t.size ≤ 1000 ∧ ∀ l H', Same H H' → H l = none → H' l = some (.lst ((refsB lv (hds t)).map kV)) → Q (.ref l) H'
theorem ok_free_refs (T : Top K mg "free_refs" s_free_refs) (mList : mg "list" = none) (FH : Fn P w K mg base 2 "heads" spHeads) (FR : Fn P w K mg base 1 "refers" spRef) (FB : Fn P w K mg base 1 "is_below" spBelow) : Fn P w K mg base 3 "free_refs" spFree := by
  refine fn_ok T sc_free_refs so_free_refs (fun vs H Q E h => by obtain ⟨v, t, lv, rfl, _⟩ := h; rfl) (fun _ _ _ _ _ _ us hl => match us, hl with | [_, _], _ => rfl) fun f cdv A outer s H vs Q E hr h nd => ?_
  obtain ⟨v, t, lv, rfl, hv, ho, hz, q⟩ := h
  refine l_cons (s_set (e_dnew fun fa nfa => ?_))
  show wL _ _ _ [some v, some (.int lv), some (.ref fa), none] _
  have e0 : Same H (upd H fa (.dK [])) := fun c u hc => by rw [upd_ne (ne_of_none hc nfa)]; exact hc
  refine l_cons (s_forL ?_)
  refine e_call (by exact FH) (by exact hr) (by decide) ?_
  walk_at "sts"
  refine ⟨v, t, rfl, hv.ts (Same.ts e0), ho, hz, fun l us H1 e1 n1 h1 hus => ⟨l, us, rfl, SqL.of h1, fun k σ H2 => ∃ x, σ = [some v, some (.int lv), some (.ref fa), x] ∧ H2 fa = some (.dK (tK (refsB lv ((hds t).take k)))) ∧ (∀ c u, c ≠ fa → H1 c = some u → H2 c = some u), ?_, ?_, ?_, ?_⟩⟩
  · exact ⟨none, rfl, e1 _ _ upd_same, fun _ _ _ z => z⟩
  · intro k σ H2 _ p
    obtain ⟨x, _, _, e⟩ := p
    exact SqL.of (e _ _ (fun z => by subst z; rw [e1 _ _ upd_same] at h1; cases h1) h1)
  · intro k y σ H2 hy p
    obtain ⟨x, rfl, hf, e⟩ := p
    obtain ⟨h, hh, hhv⟩ := hus.get hy
    have tse : TS H1 H2 := fun c xs hc => e _ _ (fun z => by subst z; rw [e1 _ _ upd_same] at hc; cases hc) hc
    obtain ⟨r0, xs, rfl, hr0, fs, rfl, hfs⟩ := hhv
    have hok := hds_ok ho h (List.mem_of_getElem? hh)
    obtain ⟨hk, hr1, hff⟩ := h
    have o1 := hok.1
    have hr2 := tse _ _ hr0
    show wL _ _ _ [some v, some (.int lv), some (.ref fa), some (.ref r0)] _
    refine l_cons (s_if (t_w (w_and (t_val ?_))))
    refine e_call (by exact FR) (by exact hr) (by decide) ?_
    walk_at "sts"
    refine ⟨r0, hk, _, rfl, hr2, ?_⟩
    have hst : refsB lv ((hds t).take (k + 1)) = _ := (congrArg (refsB lv) (take_snoc' hh)).trans refsB_snoc
    cases hr1 with
    | none =>
      rw [show hk.rf = false from o1.symm]
      refine ⟨_, rfl, iteF (iteF (l_nil (l_nil ⟨_, rfl, by rw [hst]; exact hf, e⟩)))⟩
    | some r =>
      rw [show hk.rf = true from o1.symm]
      refine ⟨_, rfl, iteT (w_and1 (t_val ?_))⟩
      refine e_call (by exact FB) (by exact hr) (by decide) ?_
      walk_at "sts"
      refine ix_t (by exact SqT.of hr2) at1 ?_
      walk_at "sts"
      refine ⟨r, lv, rfl, _, rfl, ?_⟩
      cases hb : below r lv with
      | false =>
        have er : refB lv ⟨hk, some r, hff⟩ = none := by show (if below r lv = true then _ else _) = _; rw [hb]; rfl
        rw [er] at hst
        exact iteF (l_nil (l_nil ⟨_, rfl, by rw [hst]; exact hf, e⟩))
      | true =>
        have er : refB lv ⟨hk, some r, hff⟩ = some r := by show (if below r lv = true then _ else _) = _; rw [hb]; rfl
        rw [er] at hst
        refine iteT (l_cons (s_dput (hu_of hr) ?_))
        walk_at "sts"
        refine ix_t (by exact SqT.of hr2) at1 ?_
        refine ⟨fa, _, rfl, .inl ⟨_, r, hf, rfl, ?_, rfl⟩, ?_⟩
        · have lr := refsB_len lv ((hds t).take k)
          rw [List.length_take] at lr
          have lh := hds_size t
          show (tK _).length < 2 ^ 24
          rw [tK, List.length_map]
          omega
        · refine l_nil (l_nil ⟨_, rfl, ?_, fun c u cf hc => by rw [upd_ne cf]; exact e c u cf hc⟩)
          rw [tK_put, hst]
          exact upd_same
  · intro σ H2 p
    obtain ⟨x, rfl, hf, e⟩ := p
    refine l_cons (s_ret (e_callTy (x := "list") (by assumption) b_list (a_cons (e_var (a_nil ?_)))))
    rw [hus.len, List.take_length] at hf
    refine c_listDn rfl hf fun l3 H3 e3 n3 h3 => ?_
    refine q l3 H3 (fun c u hc => e3 _ _ (e c u (fun z => by subst z; rw [nfa] at hc; cases hc) (e1 _ _ (e0 _ _ hc)))) ?_ ?_
    · cases hq : H l3 with
      | none => rfl
      | some u =>
        have := e l3 u (fun z => by subst z; rw [nfa] at hq; cases hq) (e1 _ _ (e0 _ _ hq))
        rw [n3] at this
        cases this
    · rw [h3, tK, List.map_map]
      rfl
end


theorem o_cat2 {X : Cx} {H : Hp} {Q : VK} {l b : Addr} {xs zs : List V} (h1 : H l = some (.lst xs)) (h2 : H b = some (.lst zs)) (hz : xs.length + zs.length ≤ 200000) (q : ∀ p H2, Same H H2 → H p = none → H2 p = some (.lst (xs ++ zs)) → Q (.ref p) H2) : wB X .Add (.ref l) (.ref b) H Q :=
  b_of op_cat ⟨l, b, xs, zs, rfl, rfl, h1, h2, by show _ ≤ 2 ^ 24; omega, fun p np => q p _ (fun c u eo => by rw [upd_ne (ne_of_none eo np)]; exact eo) np upd_same⟩
abbrev kdS : List V := [.str "own", .str "take", .str "offer", .str "pick", .str "pay", .str "make", .str "open", .str "cut", .str "cite"]
/-- whether a value is a row -/
def RowQ (H : Hp) (v : V) (b : Bool) : Prop := (b = false ∧ ((∃ i, v = .int i) ∨ ∃ z, v = .str z)) ∨ ∃ t x xs, v = .ref t ∧ H t = some (.tup (x :: xs)) ∧ flatV x = true ∧ inV x kdS = b
theorem RowQ.ts {H H' : Hp} (e : TS H H') {v : V} {b : Bool} : RowQ H v b → RowQ H' v b := fun h => h.elim .inl fun ⟨t, x, xs, h1, h2, h3⟩ => .inr ⟨t, x, xs, h1, e _ _ h2, h3⟩
theorem RowQ.fd {H : Hp} : ∀ {f : Fd} {v : V}, FdV H f v → RowQ H v false
  | .i n, v, h => .inl ⟨rfl, .inl ⟨n, h⟩⟩
  | .s z, v, h => .inl ⟨rfl, .inr ⟨z, h⟩⟩
  | .p a b, v, ⟨t, h1, h2⟩ => .inr ⟨t, _, _, h1, h2, rfl, by rfl⟩
  | .c z, v, ⟨t, a, b, h1, h2, _, _⟩ => .inr ⟨t, _, _, h1, h2, rfl, by decide +kernel⟩
theorem RowQ.key {H : Hp} (r : Key) : RowQ H (kV r) false := by
  cases r with
  | inl i => exact .inl ⟨rfl, .inl ⟨i, rfl⟩⟩
  | inr z => exact .inl ⟨rfl, .inr ⟨z, rfl⟩⟩
theorem nm_in (k : Kd) : inV (.str k.nm) kdS = true := by cases k <;> decide +kernel
theorem RowQ.tr {H : Hp} {t : Tr} {v : V} (h : TrV H t v) : RowQ H v true := by
  obtain ⟨p, xs, ys, rfl, hp, ⟨fs, rfl, _⟩, _⟩ := h.split
  exact .inr ⟨p, _, _, rfl, hp, rfl, nm_in _⟩
theorem FsV.get {H : Hp} : ∀ {f : List Fd} {v : List V} {i : Nat} {x : V}, FsV H f v → v[i]? = some x → ∃ h, f[i]? = some h ∧ FdV H h x
  | [], _, i, x, h, e => by rw [show _ = _ from h] at e; cases e
  | f :: _, _, 0, x, ⟨v, us, h1, h2, h3⟩, e => by subst h1; cases e; exact ⟨f, rfl, h2⟩
  | _ :: fs, _, i + 1, x, ⟨v, us, h1, h2, h3⟩, e => by
    subst h1
    exact h3.get (i := i) (by simpa using e)
theorem FsV.mem {H : Hp} {f : List Fd} {v : List V} {x : V} (h : FsV H f v) (m : x ∈ v) : RowQ H x false := by
  obtain ⟨i, hi, e⟩ := List.mem_iff_getElem.mp m
  obtain ⟨g, _, hg⟩ := h.get (show v[i]? = some x by rw [List.getElem?_eq_getElem hi, e])
  exact .fd hg
section
variable {P : Program} {w : World} {K : PySem.W.Frag} {mg : Str → Option Value} {base : Heap}
def spNum : Sp := fun vs H Q _ => ∃ i : Int, vs = [.int i] ∧ Q (.bl true) H
theorem ok_num (T : Top K mg "_law_is_number" s_is_number) (mIs : mg "isinstance" = none) (mInt : mg "int" = none) (mBool : mg "bool" = none) : Fn P w K mg base 1 "_law_is_number" spNum := by
  refine fn_ok T sc_is_number so_is_number (fun vs H Q E h => by obtain ⟨i, rfl, _⟩ := h; rfl) (fun _ _ _ _ _ _ us hl => match us, hl with | [_], _ => rfl) fun f cdv A outer s H vs Q E hr h nd => ?_
  obtain ⟨i, rfl, q⟩ := h
  walk_at "sts"
  refine c_isi ty_int (.ty _) (kit_ty kb_int_int) ?_
  walk_at "sts"
  refine c_isi ty_int (.ty _) (kit_ty kb_int_bool) ?_
  walk_at "sts"
  exact q
def spRow : Sp := fun vs H Q _ => ∃ v b, vs = [v] ∧ RowQ H v b ∧ ∀ H', Same H H' → Q (.bl b) H'
theorem ok_row (T : Top K mg "_law_row" s_row) (mIs : mg "isinstance" = none) (mTup : mg "tuple" = none) (mLen : mg "len" = none) : Fn P w K mg base 1 "_law_row" spRow := by
  refine fn_ok T sc_row so_row (fun vs H Q E h => by obtain ⟨v, b, rfl, _⟩ := h; rfl) (fun _ _ _ _ _ _ us hl => match us, hl with | [_], _ => rfl) fun f cdv A outer s H vs Q E hr h nd => ?_
  obtain ⟨v, b, rfl, hv, q⟩ := h
  walk_at "sts"
  refine ⟨by show 9 ≤ sizeLine; decide, fun p H1 e1 n1 h1 => ?_⟩
  show wL _ _ _ [some v, some (.ref p)] _
  walk_at "sts"
  rcases hv with ⟨rfl, ⟨i, rfl⟩ | ⟨z, rfl⟩⟩ | ⟨t, x, xs, rfl, ht, hx, rfl⟩
  · refine c_isi ty_int (.ty _) (kit_ty kb_int_tuple) ?_
    walk_at "sts"
    exact q H1 e1
  · refine c_isi ty_str (.ty _) (kit_ty kb_str_tuple) ?_
    walk_at "sts"
    exact q H1 e1
  · refine c_isi (ty_tup (e1 _ _ ht)) (.ty _) (kit_ty kb_tuple_tuple) ?_
    walk_at "sts"
    refine c_lenT (by exact SqT.of (e1 _ _ ht)) ?_
    walk_at "sts"
    refine ifT (by simp only [List.length_cons]; omega) ?_
    walk_at "sts"
    refine ix_t (by exact SqT.of (e1 _ _ ht)) at0 ?_
    walk_at "sts"
    refine o_inT (by exact SqT.of h1) hx rfl ?_
    exact q H1 e1
def spParts : Sp := fun vs H Q _ => ∃ v t, vs = [v] ∧ TrV H t v ∧ t.hd.Ok ∧ ∀ l us H', Same H H' → H l = none → H' l = some (.lst us) → TrsV H' t.ks us → Q (.ref l) H'
theorem ok_parts (T : Top K mg "_law_parts" s_parts) (FR : Fn P w K mg base 1 "_law_row" spRow) : Fn P w K mg base 2 "_law_parts" spParts := by
  refine fn_okC T sc_parts so_parts (fun vs H Q E h => by obtain ⟨v, t, rfl, _⟩ := h; rfl) (fun _ _ _ _ _ _ us hl => match us, hl with | [_], _ => rfl) fun f cdv A outer s H vs Q E hr h nd => ?_
  obtain ⟨v, t, rfl, hv, ho, q⟩ := h
  obtain ⟨p, xs, ys, rfl, hp, hx, hy⟩ := hv.split
  have lx := hx.len ho
  have l3 := fs_le t.hd.k
  obtain ⟨fs, rfl, hfs⟩ := hx
  have lk := ks_le t
  have ly := hy.len
  refine l_cons (s_ret (e_lcTf (by exact bk_parts0) (e_tLo ?_)))
  walk_at "sts"
  refine ⟨p, [.str t.hd.k.nm], (rL t.hd.r ++ fs) ++ ys, rfl, rfl, hp, fun a H1 e1 h1 => ⟨a, _, rfl, SqT.of h1, fun D nD => ?_⟩⟩
  generalize hn : rL t.hd.r ++ fs = zs at h1
  refine ⟨fun k H2 => H2 D = some (.lst (((zs ++ ys).take k).drop zs.length)) ∧ Same H1 H2, ⟨by rw [List.take_zero, List.drop_nil]; exact upd_same, fun c u hc => by rw [upd_ne (ne_of_none hc nD)]; exact hc⟩, fun k H2 _ p => SqT.of (p.2 _ _ h1), ?_, ?_⟩
  · intro k x H2 hk p
    obtain ⟨hD, e⟩ := p
    have hq : RowQ H2 x (decide (zs.length ≤ k)) := by
      by_cases hlt : k < zs.length
      · rw [List.getElem?_append_left hlt] at hk
        rw [decide_eq_false (by omega)]
        have hm := List.mem_of_getElem? hk
        rw [← hn] at hm
        rcases List.mem_append.mp hm with hm | hm
        · cases hr0 : t.hd.r with
          | none => rw [hr0] at hm; cases hm
          | some r => rw [hr0] at hm; rw [List.mem_singleton.mp (show x ∈ [kV r] from hm)]; exact .key r
        · exact FsV.mem (hfs.ts (Same.ts (e1.trans e))) hm
      · rw [List.getElem?_append_right (by omega)] at hk
        rw [decide_eq_true (by omega)]
        obtain ⟨s, _, hs⟩ := (hy.ts (Same.ts (e1.trans e))).get hk
        exact .tr hs
    intro s0 H0 C cl fp IB
    refine t_val (b_call (by exact FR) (by exact hr) (by decide) ?_)
    refine a_cons (b_var (a_nil ?_))
    refine ⟨x, _, rfl, hq, fun H3 e3 => ⟨_, rfl, ?_⟩⟩
    have hlt := (List.getElem?_eq_some_iff.mp hk).1
    by_cases hlt2 : zs.length ≤ k
    · refine ifT hlt2 ?_
      intro s0 H0 C cl fp IB
      refine b_var ⟨_, e3 _ _ hD, ?_, ?_, ?_⟩
      · rw [List.length_drop, List.length_take]
        rw [List.length_append] at *
        show _ < 2 ^ 24
        have : zs.length ≤ 4 := by rw [← hn]; simp only [List.length_cons] at lx; omega
        omega
      · rw [take_snoc' hk, List.drop_append_of_le_length (by rw [List.length_take]; omega)]
        exact upd_same
      · exact fresh_keep nD (Same.trans e e3)
    · refine ifF hlt2 ⟨?_, Same.trans e e3⟩
      rw [List.drop_eq_nil_of_le (by rw [List.length_take]; omega)]
      have := e3 _ _ hD
      rw [List.drop_eq_nil_of_le (by rw [List.length_take]; omega)] at this
      exact this
  · intro H2 p
    obtain ⟨hD, e⟩ := p
    rw [List.take_length, List.drop_left] at hD
    exact q D ys H2 (e1.trans e) (none_of e1 nD) hD (hy.ts (Same.ts (e1.trans e)))
/-! ### paths -/
def PthV (H : Hp) (p : List Nat) (v : V) : Prop := ∃ t, v = .ref t ∧ H t = some (.tup (p.map fun (n : Nat) => V.int (n : Int)))
theorem PthV.ts {H H' : Hp} (e : TS H H') {p : List Nat} {v : V} : PthV H p v → PthV H' p v := fun ⟨t, h1, h2⟩ => ⟨t, h1, e _ _ h2⟩
def PsV (H : Hp) : List (List Nat) → List V → Prop
  | [], vs => vs = []
  | f :: fs, vs => ∃ v us, vs = v :: us ∧ PthV H f v ∧ PsV H fs us
theorem PsV.ts {H H' : Hp} (e : TS H H') : ∀ {f : List (List Nat)} {v : List V}, PsV H f v → PsV H' f v
  | [], _, h => h
  | _ :: _, _, ⟨v, us, h1, h2, h3⟩ => ⟨v, us, h1, h2.ts e, h3.ts e⟩
theorem PsV.len {H : Hp} : ∀ {f : List (List Nat)} {v : List V}, PsV H f v → v.length = f.length
  | [], _, h => by rw [show _ = _ from h]; rfl
  | _ :: _, _, ⟨v, us, h1, h2, h3⟩ => by rw [h1, List.length_cons, List.length_cons, h3.len]
theorem PsV.append {H : Hp} : ∀ {f g : List (List Nat)} {v u : List V}, PsV H f v → PsV H g u → PsV H (f ++ g) (v ++ u)
  | [], _, _, _, h, k => by rw [show _ = _ from h]; exact k
  | _ :: _, _, _, _, ⟨v, us, h1, h2, h3⟩, k => by
    subst h1
    exact ⟨v, _, rfl, h2, h3.append k⟩
theorem PsV.get {H : Hp} : ∀ {f : List (List Nat)} {v : List V} {i : Nat} {x : V}, PsV H f v → v[i]? = some x → ∃ h, f[i]? = some h ∧ PthV H h x
  | [], _, i, x, h, e => by rw [show _ = _ from h] at e; cases e
  | f :: _, _, 0, x, ⟨v, us, h1, h2, h3⟩, e => by subst h1; cases e; exact ⟨f, rfl, h2⟩
  | _ :: fs, _, i + 1, x, ⟨v, us, h1, h2, h3⟩, e => by
    subst h1
    exact h3.get (i := i) (by simpa using e)
def pth : Tr → List Nat → List (List Nat)
  | .le _, p => [p]
  | .un _ a, p => p :: pth a (p ++ [0])
  | .bi _ a b, p => p :: (pth a (p ++ [0]) ++ pth b (p ++ [1]))
def pthL : List Tr → List Nat → Nat → List (List Nat)
  | [], _, _ => []
  | t :: ts, p, i => pth t (p ++ [i]) ++ pthL ts p (i + 1)
theorem pth_eq (t : Tr) (p : List Nat) : pth t p = p :: pthL t.ks p 0 := by
  cases t <;> simp [pth, pthL, Tr.ks]
theorem pthL_snoc (t : Tr) (p : List Nat) : ∀ (ts : List Tr) (i : Nat), pthL (ts ++ [t]) p i = pthL ts p i ++ pth t (p ++ [i + ts.length])
  | [], i => by simp [pthL]
  | s :: ts, i => by
    rw [List.cons_append, pthL, pthL, pthL_snoc t p ts (i + 1), List.length_cons, List.append_assoc, show i + 1 + ts.length = i + (ts.length + 1) by omega]
theorem pth_len : ∀ (t : Tr) (p : List Nat), (pth t p).length = t.size
  | .le _, _ => rfl
  | .un _ a, p => by simp [pth, Tr.size, pth_len a]
  | .bi _ a b, p => by simp [pth, Tr.size, pth_len a, pth_len b]
theorem pthL_len (p : List Nat) : ∀ (ts : List Tr) (i : Nat), (pthL ts p i).length = szL ts
  | [], _ => rfl
  | t :: ts, i => by rw [pthL, List.length_append, pth_len, pthL_len p ts, szL_cons]
theorem dep_ks {t : Tr} : ∀ a ∈ t.ks, a.dep + 1 ≤ t.dep := by
  cases t with
  | le h => simp [Tr.ks]
  | un h a => simp [Tr.ks, Tr.dep]
  | bi h a b =>
    intro x hx
    simp only [Tr.ks, List.mem_cons, List.not_mem_nil, or_false] at hx
    simp only [Tr.dep]
    rcases hx with rfl | rfl
    · omega
    · omega
theorem szL_take (ts : List Tr) (k : Nat) : szL (ts.take k) ≤ szL ts := by
  conv => rhs; rw [← List.take_append_drop k ts, szL_app]
  omega
theorem sz_mem {ts : List Tr} {k : Nat} {a : Tr} (h : ts[k]? = some a) : szL (ts.take k) + a.size ≤ szL ts := by
  have := szL_take ts (k + 1)
  rw [take_snoc' h, szL_app] at this
  simpa [szL] using this
def spPaths (n : Nat) : Sp := fun vs H Q _ => ∃ v u t p, vs = [v, u] ∧ TrV H t v ∧ t.Ok ∧ t.dep ≤ n ∧ t.size ≤ 1000 ∧ PthV H p u ∧ p.length + n ≤ 1000 ∧ ∀ l us H', Same H H' → H l = none → H' l = some (.lst us) → PsV H' (pth t p) us → Q (.ref l) H'
theorem ok_pathsS (n : Nat) (T : Top K mg "_law_paths" s_paths) (mLen : mg "len" = none) (mR : mg "range" = none) (FP : Fn P w K mg base 2 "_law_parts" spParts) (F : ∀ m, n = m + 1 → Fn P w K mg base (m + 3) "_law_paths" (spPaths m)) : Fn P w K mg base (n + 3) "_law_paths" (spPaths n) := by
  refine fn_ok T sc_paths so_paths (fun vs H Q E h => by obtain ⟨v, u, t, p, rfl, _⟩ := h; rfl) (fun _ _ _ _ _ _ us hl => match us, hl with | [_, _], _ => rfl) fun f cdv A outer s H vs Q E hr h nd => ?_
  obtain ⟨v, u, t, p, rfl, hv, ho, hd, hz, hu, hp, q⟩ := h
  walk_at "sts"
  refine ⟨by show 1 ≤ sizeLine; decide, fun fa H1 e1 n1 h1 => ?_⟩
  refine l_cons (s_set (e_call (by exact FP) (by exact hr) (by omega) ?_))
  walk_at "sts"
  refine ⟨v, t, rfl, hv.ts (Same.ts e1), ho.hd.1, fun pa us H2 e2 n2 h2 hus => ?_⟩
  show wL _ _ _ [some v, some u, some (.ref fa), some (.ref pa), none] _
  have lus := hus.len
  have lk := ks_le t
  have hsz := size_ks t
  refine l_cons (s_forR (by assumption) ?_)
  walk_at "sts"
  refine c_lenL (by exact SqL.of h2) ⟨us.length, rfl, by omega, fun k σ H' => ∃ (f : Addr) (fs : List V) (x : Option V), σ = [some v, some u, some (.ref f), some (.ref pa), x] ∧ H f = none ∧ H' f = some (.lst fs) ∧ PsV H' (p :: pthL (t.ks.take k) p 0) fs ∧ Same H H' ∧ Same H2 H', ?_, ?_, ?_⟩
  · exact ⟨fa, [u], none, rfl, n1, e2 _ _ h1, ⟨u, [], rfl, hu.ts (Same.ts (e1.trans e2)), rfl⟩, e1.trans e2, Same.refl _⟩
  · intro k σ H' hk pr
    obtain ⟨f, fs, x, rfl, nf, hf, hfs, eA, eB⟩ := pr
    show wL _ _ _ [some v, some u, some (.ref f), some (.ref pa), some (.int (k : Int))] _
    have hk2 : us[k]? = some us[k] := List.getElem?_eq_getElem hk
    obtain ⟨a, ha, hav⟩ := hus.get hk2
    have ham := List.mem_of_getElem? ha
    have hda := dep_ks a ham
    obtain ⟨m, rfl⟩ : ∃ m, n = m + 1 := ⟨n - 1, by omega⟩
    have hsa := sz_mem ha
    have lfs := hfs.len
    rw [List.length_cons, pthL_len] at lfs
    obtain ⟨ut, rfl, hut⟩ := hu
    refine l_cons (s_set (e_bin (e_var (e_call (by exact F m rfl) (by exact hr) (by omega) ?_))))
    walk_at "sts"
    refine ix_l (by exact SqL.of (eB _ _ h2)) (atI_nat hk2) ?_
    walk_at "sts"
    refine ⟨by show 1 ≤ sizeLine; decide, fun q3 H3 e3 n3 h3 => ?_⟩
    refine o_catA (e3 _ _ (eA _ _ hut)) h3 (by rw [List.length_map]; simp only [List.length_cons, List.length_nil]; omega) fun q4 H4 e4 h4 => ?_
    have t4 : TS H2 H4 := Same.ts (Same.trans eB (e3.trans e4))
    walk_at "sts"
    refine ⟨us[k], .ref q4, a, p ++ [k], rfl, hav.ts t4, (ho.hd.2.2 a ham), by omega, by omega, ⟨q4, rfl, by rw [h4, List.map_append]; rfl⟩, by rw [List.length_append]; simp only [List.length_cons, List.length_nil]; omega, fun l5 us5 H5 e5 n5 h5 hps5 => ?_⟩
    have e35 := (e3.trans e4).trans e5
    have l5l := hps5.len
    rw [pth_len] at l5l
    refine o_cat2 (e35 _ _ hf) h5 (by omega) fun l6 H6 e6 n6 h6 => ?_
    refine l_nil ⟨l6, fs ++ us5, _, rfl, none_of (Same.trans eA e35) n6, h6, ?_, Same.trans eA (e35.trans e6), Same.trans eB (e35.trans e6)⟩
    rw [take_snoc' ha, pthL_snoc, ← List.cons_append, show 0 + (t.ks.take k).length = k by rw [List.length_take]; omega]
    exact (hfs.ts (Same.ts (e35.trans e6))).append (hps5.ts (Same.ts e6))
  · intro σ H' pr
    obtain ⟨f, fs, x, rfl, nf, hf, hfs, eA, eB⟩ := pr
    walk_at "sts"
    rw [lus, List.take_length, ← pth_eq] at hfs
    exact q f fs H' eA nf hf hfs
theorem ok_paths (T : Top K mg "_law_paths" s_paths) (mLen : mg "len" = none) (mR : mg "range" = none) (FP : Fn P w K mg base 2 "_law_parts" spParts) : ∀ n, Fn P w K mg base (n + 3) "_law_paths" (spPaths n)
  | 0 => ok_pathsS 0 T mLen mR FP fun m h => by cases h
  | n + 1 => ok_pathsS (n + 1) T mLen mR FP fun m h => by cases h; exact ok_paths T mLen mR FP n
/-- the subtree at a path -/
def atT : Tr → List Nat → Option Tr
  | t, [] => some t
  | t, k :: p => match t.ks[k]? with
    | some a => atT a p
    | none => none
def spAt : Sp := fun vs H Q _ => ∃ v u t p s, vs = [v, u] ∧ TrV H t v ∧ t.Ok ∧ PthV H p u ∧ atT t p = some s ∧ p.length ≤ 2000 ∧ ∀ v' H', Same H H' → TrV H' s v' → Q v' H'
theorem ok_at (T : Top K mg "_law_at" s_at) (FP : Fn P w K mg base 2 "_law_parts" spParts) : Fn P w K mg base 3 "_law_at" spAt := by
  refine fn_ok T sc_at so_at (fun vs H Q E h => by obtain ⟨v, u, t, p, s, rfl, _⟩ := h; rfl) (fun _ _ _ _ _ _ us hl => match us, hl with | [_, _], _ => rfl) fun f cdv A outer s H vs Q E hr h nd => ?_
  obtain ⟨v, u, t, p, s0, rfl, hv, ho, ⟨ut, rfl, hut⟩, hs, hl, q⟩ := h
  refine l_cons (s_forT ?_)
  refine e_var ⟨ut, _, rfl, SqT.of hut, fun k σ H' => ∃ (v' : V) (t' : Tr) (x : Option V), σ = [some v', some (.ref ut), x] ∧ TrV H' t' v' ∧ t'.Ok ∧ atT t' (p.drop k) = some s0 ∧ Same H H', ?_, ?_, ?_, ?_⟩
  · exact ⟨v, t, none, rfl, hv, ho, hs, Same.refl H⟩
  · intro k σ H' _ pr
    obtain ⟨_, _, _, _, _, _, _, e⟩ := pr
    exact SqT.of (e _ _ hut)
  · intro k y σ H' hy pr
    obtain ⟨v', t', x, rfl, hv', ho', hs', e⟩ := pr
    rw [List.getElem?_map] at hy
    obtain ⟨j, hj, rfl⟩ := Option.map_eq_some_iff.mp hy
    obtain ⟨hj1, hj2⟩ := List.getElem?_eq_some_iff.mp hj
    show wL _ _ _ [some v', some (.ref ut), some (.int (j : Int))] _
    rw [List.drop_eq_getElem_cons hj1, hj2] at hs'
    unfold atT at hs'
    cases hk : t'.ks[j]? with
    | none => rw [hk] at hs'; cases hs'
    | some a =>
      rw [hk] at hs'
      refine l_cons (s_set (e_ix (e_call (by exact FP) (by exact hr) (by decide) ?_)))
      walk_at "sts"
      refine ⟨v', t', rfl, hv', ho'.hd.1, fun l us H2 e2 n2 h2 hus => ?_⟩
      have hju : j < us.length := by rw [hus.len]; exact (List.getElem?_eq_some_iff.mp hk).1
      have hk2 : us[j]? = some us[j] := List.getElem?_eq_getElem hju
      obtain ⟨a', ha', hav⟩ := hus.get hk2
      rw [hk] at ha'
      cases ha'
      refine e_var (ix_l (by exact SqL.of h2) (atI_nat hk2) ?_)
      exact l_nil ⟨us[j], a, _, rfl, hav, ho'.hd.2.2 a (List.mem_of_getElem? hk), hs', Same.trans e e2⟩
  · intro σ H' pr
    obtain ⟨v', t', x, rfl, hv', ho', hs', e⟩ := pr
    rw [List.length_map, List.drop_length] at hs'
    cases (Option.some.inj (show some t' = some s0 from hs'))
    walk_at "sts"
    exact q v' H' e hv'
end


/-! ### the subtrees in preorder, each with its path -/
def ps : Tr → List (List Nat × Tr)
  | .le h => [([], .le h)]
  | .un h a => ([], .un h a) :: (ps a).map fun x => (0 :: x.1, x.2)
  | .bi h a b => ([], .bi h a b) :: (((ps a).map fun x => (0 :: x.1, x.2)) ++ (ps b).map fun x => (1 :: x.1, x.2))
theorem ps_pth : ∀ (t : Tr) (p : List Nat), pth t p = (ps t).map fun x => p ++ x.1
  | .le _, p => by simp [pth, ps]
  | .un _ a, p => by simp [pth, ps, ps_pth a, Function.comp_def]
  | .bi _ a b, p => by simp [pth, ps, ps_pth a, ps_pth b, Function.comp_def]
theorem ps_hds : ∀ t : Tr, (ps t).map (fun x => x.2.hd) = hds t
  | .le _ => rfl
  | .un _ a => by simp [ps, hds, ← ps_hds a, Tr.hd, Function.comp_def]
  | .bi _ a b => by simp [ps, hds, ← ps_hds a, ← ps_hds b, Tr.hd, Function.comp_def]
theorem ps_at : ∀ (t : Tr), ∀ x ∈ ps t, atT t x.1 = some x.2 ∧ (t.Ok → x.2.Ok) ∧ x.1.length ≤ t.dep
  | .le h, x, hx => by rw [List.mem_singleton.mp hx]; exact ⟨rfl, id, Nat.le_refl _⟩
  | .un h a, x, hx => by
    rcases List.mem_cons.mp hx with rfl | hx
    · exact ⟨rfl, id, Nat.zero_le _⟩
    · obtain ⟨y, hy, rfl⟩ := List.mem_map.mp hx
      obtain ⟨h1, h2, h3⟩ := ps_at a y hy
      exact ⟨h1, fun o => h2 o.2.2, by simp only [List.length_cons, Tr.dep]; omega⟩
  | .bi h a b, x, hx => by
    rcases List.mem_cons.mp hx with rfl | hx
    · exact ⟨rfl, id, Nat.zero_le _⟩
    · rcases List.mem_append.mp hx with hx | hx
      · obtain ⟨y, hy, rfl⟩ := List.mem_map.mp hx
        obtain ⟨h1, h2, h3⟩ := ps_at a y hy
        exact ⟨h1, fun o => h2 o.2.2.1, by simp only [List.length_cons, Tr.dep]; omega⟩
      · obtain ⟨y, hy, rfl⟩ := List.mem_map.mp hx
        obtain ⟨h1, h2, h3⟩ := ps_at b y hy
        exact ⟨h1, fun o => h2 o.2.2.2, by simp only [List.length_cons, Tr.dep]; omega⟩
theorem key_in (r : Key) : ∀ l : List Key, inV (kV r) (l.map kV) = decide (r ∈ l)
  | [] => by simp [inV]
  | x :: l => by
    have ih := key_in r l
    unfold inV at ih ⊢
    rw [List.map_cons, List.any_cons, ih]
    have e : eqV (kV x) (kV r) = decide (x = r) := by
      cases x with
      | inl i => cases r with
        | inl j => simp only [kV, eqV, Sum.inl.injEq]; rw [Bool.eq_iff_iff]; simp
        | inr z => simp [kV, eqV]
      | inr y => cases r with
        | inl j => simp [kV, eqV]
        | inr z => simp only [kV, eqV, Sum.inr.injEq]; rw [Bool.eq_iff_iff]; simp
    rw [e]
    by_cases h : x = r
    · subst h; simp
    · have : ¬ r = x := fun z => h z.symm
      simp [h, this]
theorem kV_flat (r : Key) : flatV (kV r) = true := by cases r <;> rfl
theorem kVs_flat (l : List Key) : (l.map kV).all flatV = true := by
  rw [List.all_map, List.all_eq_true]
  intro x _
  exact kV_flat x
abbrev rfS : List V := [.str "own", .str "pick", .str "pay", .str "open"]
theorem rf_nm (k : Kd) : inV (.str k.nm) rfS = k.rf := by cases k <;> decide +kernel
section
variable {P : Program} {w : World} {K : PySem.W.Frag} {mg : Str → Option Value} {base : Heap}
def spOthers (n : Nat) : Sp := fun vs H Q _ => ∃ v t lv, vs = [v, .int lv] ∧ TrV H t v ∧ t.Ok ∧ t.dep ≤ n ∧ t.size ≤ 1000 ∧ ∀ l H', Same H H' → H l = none → H' l = some (.lst ((refsB lv (hds t)).map kV)) → Q (.ref l) H'
theorem ok_others (n : Nat) (hn : n ≤ 900) (T : Top K mg "_law_others" s_others) (mIs : mg "isinstance" = none) (mStr : mg "str" = none) (FP : Fn P w K mg base (n + 3) "_law_paths" (spPaths n)) (FA : Fn P w K mg base 3 "_law_at" spAt) : Fn P w K mg base (n + 4) "_law_others" (spOthers n) := by
  refine fn_ok T sc_others so_others (fun vs H Q E h => by obtain ⟨v, t, lv, rfl, _⟩ := h; rfl) (fun _ _ _ _ _ _ us hl => match us, hl with | [_, _], _ => rfl) fun f cdv A outer s H vs Q E hr h nd => ?_
  obtain ⟨v, t, lv, rfl, hv, ho, hd, hz, q⟩ := h
  walk_at "sts"
  refine ⟨by show 0 ≤ sizeLine; decide, fun fa H1 e1 n1 h1 => ?_⟩
  refine l_cons (s_forL ?_)
  refine e_call (by exact FP) (by exact hr) (by omega) ?_
  walk_at "sts"
  refine ⟨by show 0 ≤ sizeLine; decide, fun pa H2 e2 n2 h2 => ?_⟩
  walk_at "sts"
  refine ⟨v, .ref pa, t, [], rfl, hv.ts (Same.ts (e1.trans e2)), ho, hd, hz, ⟨pa, rfl, h2⟩, by simp only [List.length_nil]; omega, fun l us H3 e3 n3 h3 hus => ?_⟩
  have lh := hds_size t
  have nl : l ≠ fa := fun z => by subst z; rw [e2 _ _ h1] at n3; cases n3
  have eH : Same H H3 := (e1.trans e2).trans e3
  refine ⟨l, us, rfl, SqL.of h3, fun k σ H' => ∃ (x y : Option V), σ = [some v, some (.int lv), some (.ref fa), x, y] ∧ H' fa = some (.lst ((refsB lv ((hds t).take k)).map kV)) ∧ But fa H3 H', ⟨none, none, rfl, e3 _ _ (e2 _ _ h1), fun _ _ _ z => z⟩, ?_, ?_, ?_⟩
  · intro k σ H' _ pr
    obtain ⟨_, _, _, _, e⟩ := pr
    exact SqL.of (e _ _ nl h3)
  · intro k y σ H' hy pr
    obtain ⟨x, x2, rfl, hf, e⟩ := pr
    have tse : TS H3 H' := fun c xs hc => e _ _ (fun z => by subst z; rw [e3 _ _ (e2 _ _ h1)] at hc; cases hc) hc
    obtain ⟨p, hp, hpv⟩ := hus.get hy
    rw [ps_pth, List.getElem?_map] at hp
    obtain ⟨⟨p', s⟩, hps, rfl⟩ := Option.map_eq_some_iff.mp hp
    obtain ⟨a1, a2, a3⟩ := ps_at t _ (List.mem_of_getElem? hps)
    have hh : (hds t)[k]? = some s.hd := by rw [← ps_hds, List.getElem?_map, hps]; rfl
    have hst : refsB lv ((hds t).take (k + 1)) = _ := (congrArg (refsB lv) (take_snoc' hh)).trans refsB_snoc
    have lr := refsB_len lv ((hds t).take k)
    rw [List.length_take] at lr
    show wL _ _ _ [some v, some (.int lv), some (.ref fa), some y, x2] _
    refine l_cons (s_set (e_call (by exact FA) (by exact hr) (by omega) ?_))
    walk_at "sts"
    refine ⟨v, y, t, p', s, rfl, hv.ts ((Same.ts eH).trans tse), ho, hpv.ts tse, a1, by have a4 : p'.length ≤ t.dep := a3; omega, fun v' H4 e4 hv4 => ?_⟩
    have so := a2 ho
    obtain ⟨sp, xs, ys, rfl, hsp, ⟨fs, rfl, hfs⟩, _⟩ := hv4.split
    have o1 := so.hd.1.1
    have hf4 := e4 _ _ hf
    have e34 : But fa H3 H4 := fun c u nc hc => e4 _ _ (e c u nc hc)
    have e34' : ∀ {H5 : Hp}, Same H4 H5 → But fa H3 H5 := fun e5 c u nc hc => e5 _ _ (e34 c u nc hc)
    show wL _ _ _ [some v, some (.int lv), some (.ref fa), some y, some (.ref sp)] _
    refine l_cons (s_if (t_w (w_and (t_cmp ?_))))
    walk_at "sts"
    refine ix_t (by exact SqT.of hsp) at0 ?_
    walk_at "sts"
    refine ⟨by show 4 ≤ sizeLine; decide, fun tp H5 e5 n5 h5 => ?_⟩
    refine o_inT (by exact SqT.of h5) rfl rfl ?_
    rw [rf_nm]
    refine ⟨_, rfl, ?_⟩
    generalize s.hd = h0 at *
    obtain ⟨hk, hr1, hff⟩ := h0
    cases hr1 with
    | none =>
      rw [show hk.rf = false from o1.symm]
      exact iteF (iteF (l_nil (l_nil ⟨_, _, rfl, by rw [hst]; exact e5 _ _ hf4, e34' e5⟩)))
    | some r =>
      rw [show hk.rf = true from o1.symm]
      have hsp5 := e5 _ _ hsp
      have hf5 := e5 _ _ hf4
      refine iteT (w_and1 (t_w (w_or (t_val ?_))))
      walk_at "sts"
      refine ix_t (by exact SqT.of hsp5) at1 ?_
      walk_at "sts"
      cases r with
      | inr z =>
        have hb : below (.inr z) lv = true := rfl
        refine c_isi ty_str (.ty _) (kit_ty kb_str_str) ⟨_, rfl, iteT (iteT ?_)⟩
        refine l_cons (s_if (t_cmp (e_ix ?_)))
        walk_at "sts"
        refine ix_t (by exact SqT.of hsp5) at1 ?_
        walk_at "sts"
        refine o_nin (by exact SqL.of hf5) (kV_flat (.inr z)) (kVs_flat _) ⟨_, rfl, ?_⟩
        rw [key_in]
        have er : refB lv ⟨hk, some (.inr z), hff⟩ = some (.inr z) := by simp [refB, hb]
        rw [er] at hst
        by_cases hm : (Sum.inr z : Key) ∈ refsB lv ((hds t).take k)
        · have ea : refsB lv ((hds t).take (k + 1)) = refsB lv ((hds t).take k) := by rw [hst]; exact if_pos hm
          rw [decide_eq_true hm]
          exact iteF (l_nil (l_nil (l_nil ⟨_, _, rfl, by rw [ea]; exact hf5, e34' e5⟩)))
        · have ea : refsB lv ((hds t).take (k + 1)) = refsB lv ((hds t).take k) ++ [.inr z] := by rw [hst]; exact if_neg hm
          rw [decide_eq_false hm]
          refine iteT (l_cons (s_expr (e_app ?_)))
          refine e_var ⟨fa, _, rfl, SqL.of hf5, ?_⟩
          walk_at "sts"
          refine ix_t (by exact SqT.of hsp5) at1 ?_
          refine ⟨_, hf5, by rw [List.length_map]; show _ < 2 ^ 24; omega, l_nil (l_nil (l_nil ⟨_, _, rfl, ?_, fun c u nc hc => by rw [upd_ne nc]; exact e34' e5 c u nc hc⟩))⟩
          rw [ea, List.map_append]
          exact upd_same
      | inl i =>
        refine c_isi ty_int (.ty _) (kit_ty kb_int_str) ⟨_, rfl, iteF (w_or1 (t_cmp ?_))⟩
        walk_at "sts"
        refine ix_t (by exact SqT.of hsp5) at1 ?_
        walk_at "sts"
        by_cases hi : i < lv
        · have hb : below (.inl i) lv = true := decide_eq_true hi
          refine ifT hi ?_
          refine l_cons (s_if (t_cmp (e_ix ?_)))
          walk_at "sts"
          refine ix_t (by exact SqT.of hsp5) at1 ?_
          walk_at "sts"
          refine o_nin (by exact SqL.of hf5) (kV_flat (.inl i)) (kVs_flat _) ⟨_, rfl, ?_⟩
          rw [key_in]
          have er : refB lv ⟨hk, some (.inl i), hff⟩ = some (.inl i) := by simp [refB, hb]
          rw [er] at hst
          by_cases hm : (Sum.inl i : Key) ∈ refsB lv ((hds t).take k)
          · have ea : refsB lv ((hds t).take (k + 1)) = refsB lv ((hds t).take k) := by rw [hst]; exact if_pos hm
            rw [decide_eq_true hm]
            exact iteF (l_nil (l_nil (l_nil ⟨_, _, rfl, by rw [ea]; exact hf5, e34' e5⟩)))
          · have ea : refsB lv ((hds t).take (k + 1)) = refsB lv ((hds t).take k) ++ [.inl i] := by rw [hst]; exact if_neg hm
            rw [decide_eq_false hm]
            refine iteT (l_cons (s_expr (e_app ?_)))
            refine e_var ⟨fa, _, rfl, SqL.of hf5, ?_⟩
            walk_at "sts"
            refine ix_t (by exact SqT.of hsp5) at1 ?_
            refine ⟨_, hf5, by rw [List.length_map]; show _ < 2 ^ 24; omega, l_nil (l_nil (l_nil ⟨_, _, rfl, ?_, fun c u nc hc => by rw [upd_ne nc]; exact e34' e5 c u nc hc⟩))⟩
            rw [ea, List.map_append]
            exact upd_same
        · have hb : below (.inl i) lv = false := decide_eq_false hi
          have er : refB lv ⟨hk, some (.inl i), hff⟩ = none := by simp [refB, hb]
          rw [er] at hst
          exact ifF hi (l_nil (l_nil ⟨_, _, rfl, by rw [hst]; exact hf5, e34' e5⟩))
  · intro σ H' pr
    obtain ⟨x, y, rfl, hf, e⟩ := pr
    walk_at "sts"
    rw [hus.len, pth_len, ← lh, List.take_length] at hf
    refine q fa H' (fun c u hc => e _ _ (fun z => by subst z; rw [n1] at hc; cases hc) (eH _ _ hc)) n1 hf
end


/-! ### the same data -/
def Eqd (H : Hp) : Nat → V → V → Prop
  | 0, v, u => (∃ i, v = .int i ∧ u = .int i) ∨ ∃ z, v = .str z ∧ u = .str z
  | n + 1, v, u => (∃ i, v = .int i ∧ u = .int i) ∨ (∃ z, v = .str z ∧ u = .str z) ∨ ∃ a b xs ys, v = .ref a ∧ u = .ref b ∧ ((H a = some (.tup xs) ∧ H b = some (.tup ys)) ∨ (H a = some (.lst xs) ∧ H b = some (.lst ys))) ∧ xs.length = ys.length ∧ xs.length ≤ 2000 ∧ ∀ (i : Nat) x y, xs[i]? = some x → ys[i]? = some y → Eqd H n x y
theorem Eqd.int (H : Hp) (n : Nat) (i : Int) : Eqd H n (.int i) (.int i) := by
  cases n with
  | zero => exact .inl ⟨i, rfl, rfl⟩
  | succ n => exact .inl ⟨i, rfl, rfl⟩
theorem Eqd.str (H : Hp) (n : Nat) (z : Str) : Eqd H n (.str z) (.str z) := by
  cases n with
  | zero => exact .inr ⟨z, rfl, rfl⟩
  | succ n => exact .inr (.inl ⟨z, rfl, rfl⟩)
theorem Eqd.key (H : Hp) (n : Nat) (r : Key) : Eqd H n (kV r) (kV r) := by
  cases r with
  | inl i => exact .int H n i
  | inr z => exact .str H n z
theorem Eqd.up {H H' : Hp} (e : Same H H') : ∀ {n : Nat} {v u : V}, Eqd H n v u → Eqd H' n v u
  | 0, _, _, h => h
  | n + 1, v, u, h => by
    rcases h with h | h | ⟨a, b, xs, ys, h1, h2, h3, h4, h5, h6⟩
    · exact .inl h
    · exact .inr (.inl h)
    · refine .inr (.inr ⟨a, b, xs, ys, h1, h2, ?_, h4, h5, fun i x y hx hy => (h6 i x y hx hy).up e⟩)
      rcases h3 with ⟨g1, g2⟩ | ⟨g1, g2⟩
      · exact .inl ⟨e _ _ g1, e _ _ g2⟩
      · exact .inr ⟨e _ _ g1, e _ _ g2⟩
theorem Eqd.more {H : Hp} : ∀ {n m : Nat} {v u : V}, n ≤ m → Eqd H n v u → Eqd H m v u
  | 0, m, _, _, _, h => by
    rcases h with ⟨i, rfl, rfl⟩ | ⟨z, rfl, rfl⟩
    · exact .int H m i
    · exact .str H m z
  | n + 1, 0, _, _, hl, _ => absurd hl (by omega)
  | n + 1, m + 1, _, _, hl, h => by
    rcases h with h | h | ⟨a, b, xs, ys, h1, h2, h3, h4, h5, h6⟩
    · exact .inl h
    · exact .inr (.inl h)
    · exact .inr (.inr ⟨a, b, xs, ys, h1, h2, h3, h4, h5, fun i x y hx hy => (h6 i x y hx hy).more (by omega)⟩)
/-- two lists of values, the same item by item -/
def EqL (H : Hp) (n : Nat) : List V → List V → Prop
  | [], [] => True
  | x :: xs, y :: ys => Eqd H n x y ∧ EqL H n xs ys
  | _, _ => False
theorem EqL.len {H : Hp} {n : Nat} : ∀ {xs ys : List V}, EqL H n xs ys → xs.length = ys.length
  | [], [], _ => rfl
  | _ :: _, _ :: _, h => by rw [List.length_cons, List.length_cons, h.2.len]
theorem EqL.get {H : Hp} {n : Nat} : ∀ {xs ys : List V}, EqL H n xs ys → ∀ (i : Nat) x y, xs[i]? = some x → ys[i]? = some y → Eqd H n x y
  | [], [], _, i, x, y, hx, _ => by cases hx
  | a :: xs, b :: ys, h, 0, x, y, hx, hy => by cases hx; cases hy; exact h.1
  | a :: xs, b :: ys, h, i + 1, x, y, hx, hy => h.2.get i x y (by simpa using hx) (by simpa using hy)
theorem EqL.app {H : Hp} {n : Nat} : ∀ {xs ys xs' ys' : List V}, EqL H n xs ys → EqL H n xs' ys' → EqL H n (xs ++ xs') (ys ++ ys')
  | [], [], _, _, _, h => h
  | _ :: _, _ :: _, _, _, h, k => ⟨h.1, h.2.app k⟩
theorem EqL.more {H : Hp} {n m : Nat} (hl : n ≤ m) : ∀ {xs ys : List V}, EqL H n xs ys → EqL H m xs ys
  | [], [], h => h
  | _ :: _, _ :: _, h => ⟨h.1.more hl, h.2.more hl⟩
theorem EqL.tup {H : Hp} {n : Nat} {a b : Addr} {xs ys : List V} (h : EqL H n xs ys) (ha : H a = some (.tup xs)) (hb : H b = some (.tup ys)) (hl : xs.length ≤ 2000) : Eqd H (n + 1) (.ref a) (.ref b) :=
  .inr (.inr ⟨a, b, xs, ys, rfl, rfl, .inl ⟨ha, hb⟩, h.len, hl, h.get⟩)
theorem FdV.eq {H : Hp} : ∀ {f : Fd} {v u : V}, FdV H f v → FdV H f u → Eqd H 2 v u
  | .i n, v, u, h, k => by rw [show v = _ from h, show u = _ from k]; exact .int H 2 n
  | .s z, v, u, h, k => by rw [show v = _ from h, show u = _ from k]; exact .str H 2 z
  | .p a b, _, _, ⟨t, rfl, h⟩, ⟨t', rfl, k⟩ => EqL.tup (xs := [.int a, .int b]) (ys := [.int a, .int b]) ⟨.int H 1 a, .int H 1 b, trivial⟩ h k (by simp)
  | .c z, _, _, ⟨t, a, b, rfl, h, ha, hb⟩, ⟨t', a', b', rfl, k, ka, kb⟩ =>
    EqL.tup (xs := [.str "menu", .ref a, .ref b]) (ys := [.str "menu", .ref a', .ref b']) ⟨.str H 1 _, EqL.tup (xs := [.str "word", .str "own"]) (ys := [.str "word", .str "own"]) ⟨.str H 0 _, .str H 0 _, trivial⟩ ha ka (by simp), EqL.tup (xs := [.str "word", .str z]) (ys := [.str "word", .str z]) ⟨.str H 0 _, .str H 0 _, trivial⟩ hb kb (by simp), trivial⟩ h k (by simp)
theorem FsV.eq {H : Hp} : ∀ {f : List Fd} {v u : List V}, FsV H f v → FsV H f u → EqL H 2 v u
  | [], _, _, h, k => by rw [show _ = _ from h, show _ = _ from k]; trivial
  | _ :: _, _, _, ⟨v, us, rfl, h2, h3⟩, ⟨v', us', rfl, k2, k3⟩ => ⟨h2.eq k2, h3.eq k3⟩
theorem rL_eq (H : Hp) (n : Nat) (r : Option Key) : EqL H n (rL r) (rL r) := by
  cases r with
  | none => trivial
  | some r => exact ⟨.key H n r, trivial⟩
theorem HdL.eq {H : Hp} {h : Hd} {xs ys : List V} : HdL H h xs → HdL H h ys → EqL H 2 xs ys := fun ⟨fs, e1, h1⟩ ⟨gs, e2, h2⟩ => by
  subst e1 e2
  exact ⟨.str H 2 _, (rL_eq H 2 _).app (h1.eq h2)⟩
theorem TrV.eq {H : Hp} : ∀ {t : Tr} {v u : V}, t.Ok → TrV H t v → TrV H t u → Eqd H (t.dep + 3) v u
  | .le h, _, _, o, ⟨t, xs, rfl, h2, h3⟩, ⟨t', xs', rfl, k2, k3⟩ => EqL.tup ((h3.eq k3).app (xs' := []) (ys' := []) trivial) h2 k2 (by have := h3.len o.1; have := fs_le h.k; simp only [List.length_append, List.length_nil]; omega)
  | .un h a, _, _, o, ⟨t, xs, x, rfl, h2, h3, h4⟩, ⟨t', xs', x', rfl, k2, k3, k4⟩ =>
    EqL.tup (n := a.dep + 3) (((h3.eq k3).more (by omega)).app (xs' := [x]) (ys' := [x']) ⟨TrV.eq o.2.2 h4 k4, trivial⟩) h2 k2 (by have := h3.len o.1; have := fs_le h.k; simp only [List.length_append, List.length_cons, List.length_nil]; omega)
  | .bi h a b, _, _, o, ⟨t, xs, x, y, rfl, h2, h3, h4, h5⟩, ⟨t', xs', x', y', rfl, k2, k3, k4, k5⟩ => by
    have e1 := TrV.eq o.2.2.1 h4 k4
    have e2 := TrV.eq o.2.2.2 h5 k5
    exact EqL.tup (n := max a.dep b.dep + 3) (((h3.eq k3).more (by omega)).app (xs' := [x, y]) (ys' := [x', y']) ⟨e1.more (by omega), e2.more (by omega), trivial⟩) h2 k2 (by have := h3.len o.1; have := fs_le h.k; simp only [List.length_append, List.length_cons, List.length_nil]; omega)
theorem keys_eq (H : Hp) (n : Nat) : ∀ l : List Key, EqL H n (l.map kV) (l.map kV)
  | [] => trivial
  | r :: l => ⟨.key H n r, keys_eq H n l⟩
section
variable {P : Program} {w : World} {K : PySem.W.Frag} {mg : Str → Option Value} {base : Heap}
def spSame (n : Nat) : Sp := fun vs H Q _ => ∃ v u, vs = [v, u] ∧ Eqd H n v u ∧ ∀ H', Same H H' → Q (.bl true) H'
theorem ok_sameS (n : Nat) (T : Top K mg "_law_same" s_same) (mIs : mg "isinstance" = none) (mStr : mg "str" = none) (mTup : mg "tuple" = none) (mList : mg "list" = none) (mLen : mg "len" = none) (mR : mg "range" = none) (FN : Fn P w K mg base 1 "_law_is_number" spNum)
    (F : ∀ m, n = m + 1 → Fn P w K mg base (m + 2) "_law_same" (spSame m)) : Fn P w K mg base (n + 2) "_law_same" (spSame n) := by
  refine fn_ok T sc_same so_same (fun vs H Q E h => by obtain ⟨v, u, rfl, _⟩ := h; rfl) (fun _ _ _ _ _ _ us hl => match us, hl with | [_, _], _ => rfl) fun f cdv A outer s H vs Q E hr h nd => ?_
  obtain ⟨v, u, rfl, hv, q⟩ := h
  have hsh : (∃ i, v = .int i ∧ u = .int i) ∨ (∃ z, v = .str z ∧ u = .str z) ∨ ∃ m a b xs ys, n = m + 1 ∧ v = .ref a ∧ u = .ref b ∧ ((H a = some (.tup xs) ∧ H b = some (.tup ys)) ∨ (H a = some (.lst xs) ∧ H b = some (.lst ys))) ∧ xs.length = ys.length ∧ xs.length ≤ 2000 ∧ ∀ (i : Nat) x y, xs[i]? = some x → ys[i]? = some y → Eqd H m x y := by
    cases n with
    | zero => rcases hv with h | h
              · exact .inl h
              · exact .inr (.inl h)
    | succ m => rcases hv with h | h | ⟨a, b, xs, ys, h⟩
                · exact .inl h
                · exact .inr (.inl h)
                · exact .inr (.inr ⟨m, a, b, xs, ys, rfl, h⟩)
  rcases hsh with ⟨i, rfl, rfl⟩ | ⟨z, rfl, rfl⟩ | ⟨m, a, b, xs, ys, rfl, rfl, rfl, hs, hl, hz, hi⟩
  · walk_at "sts"
    refine c_isi ty_int (.ty _) (kit_ty kb_int_str) ?_
    walk_at "sts"
    refine ⟨by show 2 ≤ sizeLine; decide, fun p H1 e1 n1 h1 => ?_⟩
    walk_at "sts"
    refine c_isiT ty_int h1 two_ty (kit2 kb_int_tuple kb_int_list) ?_
    walk_at "sts"
    refine e_call (by exact FN) (by exact hr) (by omega) ?_
    walk_at "sts"
    rw [decide_eq_true rfl]
    exact q H1 e1
  · walk_at "sts"
    refine c_isi ty_str (.ty _) (kit_ty kb_str_str) ?_
    walk_at "sts"
    refine c_isi ty_str (.ty _) (kit_ty kb_str_str) ?_
    walk_at "sts"
    rw [decide_eq_true rfl]
    exact q H (Same.refl H)
  · have F0 := F m rfl
    rcases hs with ⟨ha, hb⟩ | ⟨ha, hb⟩
    · walk_at "sts"
      refine c_isi (ty_tup hb) (.ty _) (kit_ty kb_tuple_str) ?_
      walk_at "sts"
      refine ⟨by show 2 ≤ sizeLine; decide, fun p1 H1 e1 n1 h1 => ?_⟩
      walk_at "sts"
      refine c_isiT (ty_tup (e1 _ _ hb)) h1 two_ty (kit2 kb_tuple_tuple kb_tuple_list) ?_
      walk_at "sts"
      refine ⟨by show 2 ≤ sizeLine; decide, fun p2 H2 e2 n2 h2 => ?_⟩
      have e12 := e1.trans e2
      walk_at "sts"
      refine c_isiT (ty_tup (e12 _ _ ha)) h2 two_ty (kit2 kb_tuple_tuple kb_tuple_list) ?_
      walk_at "sts"
      refine c_isi (ty_tup (e12 _ _ ha)) (.ty _) (kit_ty kb_tuple_list) ?_
      walk_at "sts"
      refine c_isi (ty_tup (e12 _ _ hb)) (.ty _) (kit_ty kb_tuple_list) ?_
      walk_at "sts"
      refine c_lenT (by exact SqT.of (e12 _ _ ha)) ?_
      walk_at "sts"
      refine c_lenT (by exact SqT.of (e12 _ _ hb)) ?_
      walk_at "sts"
      rw [decide_eq_true (show (xs.length : Int) = (ys.length : Int) by omega)]
      walk_at "sts"
      refine s_forR (by assumption) ?_
      walk_at "sts"
      refine c_lenT (by exact SqT.of (e12 _ _ hb)) ⟨ys.length, rfl, by omega, fun k σ H' => ∃ x, σ = [some (.ref a), some (.ref b), x] ∧ Same H H', ⟨none, rfl, e12⟩, ?_, ?_⟩
      · intro k σ H3 hk pr
        obtain ⟨x, rfl, e3⟩ := pr
        show wL _ _ _ [some (.ref a), some (.ref b), some (.int (k : Int))] _
        have hx : xs[k]? = some xs[k] := List.getElem?_eq_getElem (by omega)
        have hy : ys[k]? = some ys[k] := List.getElem?_eq_getElem hk
        refine l_cons (s_if (t_not (t_val ?_)))
        refine e_call (by exact F0) (by exact hr) (by omega) ?_
        walk_at "sts"
        refine ix_t (by exact SqT.of (e3 _ _ ha)) (atI_nat hx) ?_
        walk_at "sts"
        refine ix_t (by exact SqT.of (e3 _ _ hb)) (atI_nat hy) ?_
        walk_at "sts"
        refine ⟨xs[k], ys[k], rfl, (hi k _ _ hx hy).up e3, fun H4 e4 => ⟨_, rfl, iteF (l_nil (l_nil ⟨_, rfl, e3.trans e4⟩))⟩⟩
      · intro σ H3 pr
        obtain ⟨x, rfl, e3⟩ := pr
        walk_at "sts"
        exact q H3 e3
    · walk_at "sts"
      refine c_isi (ty_lst hb) (.ty _) (kit_ty kb_list_str) ?_
      walk_at "sts"
      refine ⟨by show 2 ≤ sizeLine; decide, fun p1 H1 e1 n1 h1 => ?_⟩
      walk_at "sts"
      refine c_isiT (ty_lst (e1 _ _ hb)) h1 two_ty (kit2 kb_list_tuple kb_list_list) ?_
      walk_at "sts"
      refine ⟨by show 2 ≤ sizeLine; decide, fun p2 H2 e2 n2 h2 => ?_⟩
      have e12 := e1.trans e2
      walk_at "sts"
      refine c_isiT (ty_lst (e12 _ _ ha)) h2 two_ty (kit2 kb_list_tuple kb_list_list) ?_
      walk_at "sts"
      refine c_isi (ty_lst (e12 _ _ ha)) (.ty _) (kit_ty kb_list_list) ?_
      walk_at "sts"
      refine c_isi (ty_lst (e12 _ _ hb)) (.ty _) (kit_ty kb_list_list) ?_
      walk_at "sts"
      refine c_lenL (by exact SqL.of (e12 _ _ ha)) ?_
      walk_at "sts"
      refine c_lenL (by exact SqL.of (e12 _ _ hb)) ?_
      walk_at "sts"
      rw [decide_eq_true (show (xs.length : Int) = (ys.length : Int) by omega)]
      walk_at "sts"
      refine s_forR (by assumption) ?_
      walk_at "sts"
      refine c_lenL (by exact SqL.of (e12 _ _ hb)) ⟨ys.length, rfl, by omega, fun k σ H' => ∃ x, σ = [some (.ref a), some (.ref b), x] ∧ Same H H', ⟨none, rfl, e12⟩, ?_, ?_⟩
      · intro k σ H3 hk pr
        obtain ⟨x, rfl, e3⟩ := pr
        show wL _ _ _ [some (.ref a), some (.ref b), some (.int (k : Int))] _
        have hx : xs[k]? = some xs[k] := List.getElem?_eq_getElem (by omega)
        have hy : ys[k]? = some ys[k] := List.getElem?_eq_getElem hk
        refine l_cons (s_if (t_not (t_val ?_)))
        refine e_call (by exact F0) (by exact hr) (by omega) ?_
        walk_at "sts"
        refine ix_l (by exact SqL.of (e3 _ _ ha)) (atI_nat hx) ?_
        walk_at "sts"
        refine ix_l (by exact SqL.of (e3 _ _ hb)) (atI_nat hy) ?_
        walk_at "sts"
        refine ⟨xs[k], ys[k], rfl, (hi k _ _ hx hy).up e3, fun H4 e4 => ⟨_, rfl, iteF (l_nil (l_nil ⟨_, rfl, e3.trans e4⟩))⟩⟩
      · intro σ H3 pr
        obtain ⟨x, rfl, e3⟩ := pr
        walk_at "sts"
        exact q H3 e3
theorem ok_same (T : Top K mg "_law_same" s_same) (mIs : mg "isinstance" = none) (mStr : mg "str" = none) (mTup : mg "tuple" = none) (mList : mg "list" = none) (mLen : mg "len" = none) (mR : mg "range" = none) (FN : Fn P w K mg base 1 "_law_is_number" spNum) : ∀ n, Fn P w K mg base (n + 2) "_law_same" (spSame n)
  | 0 => ok_sameS 0 T mIs mStr mTup mList mLen mR FN fun m h => by cases h
  | n + 1 => ok_sameS (n + 1) T mIs mStr mTup mList mLen mR FN fun m h => by cases h; exact ok_same T mIs mStr mTup mList mLen mR FN n
end


/-! ### moved, beside the tree it was moved from -/
theorem map_hd (g : Hd → Hd) (t : Tr) : (t.map g).hd = g t.hd := by cases t <;> rfl
theorem map_ks (g : Hd → Hd) (t : Tr) : (t.map g).ks = t.ks.map (Tr.map g) := by cases t <;> rfl
def PairOk (H : Hp) (m : Mp) (old new : Int) (t : Tr) (k : Nat) (x y : V) : Prop :=
  (k = 1 ∧ t.hd.k.rf = true ∧ ∃ r, x = kV r ∧ y = kV (mvR m old new r)) ∨ (¬ (k = 1 ∧ t.hd.k.rf = true) ∧ ((RowQ H x false ∧ Eqd H 2 y x) ∨ ∃ a, a ∈ t.ks ∧ TrV H a x ∧ TrV H (a.map (mvH m old new)) y))
theorem pair_rest {H : Hp} {m : Mp} {old new : Int} {t : Tr} {fs fs' ys ys' : List V} (h1 : FsV H t.hd.f fs) (h2 : FsV H t.hd.f fs') (h3 : TrsV H t.ks ys) (h4 : TrsV H (t.ks.map (Tr.map (mvH m old new))) ys') {i : Nat} {x y : V} (hx : (fs ++ ys)[i]? = some x) (hy : (fs' ++ ys')[i]? = some y) :
    (RowQ H x false ∧ Eqd H 2 y x) ∨ ∃ a, a ∈ t.ks ∧ TrV H a x ∧ TrV H (a.map (mvH m old new)) y := by
  have l1 := h1.len
  have l2 := h2.len
  by_cases hlt : i < fs.length
  · rw [List.getElem?_append_left hlt] at hx
    rw [List.getElem?_append_left (by omega)] at hy
    obtain ⟨f, e1, v1⟩ := h1.get hx
    obtain ⟨f', e2, v2⟩ := h2.get hy
    rw [e1] at e2
    cases e2
    exact .inl ⟨.fd v1, v2.eq v1⟩
  · rw [List.getElem?_append_right (by omega)] at hx
    rw [List.getElem?_append_right (by omega), l2, ← l1] at hy
    obtain ⟨a, e1, v1⟩ := h3.get hx
    obtain ⟨a', e2, v2⟩ := h4.get hy
    rw [List.getElem?_map, e1] at e2
    cases e2
    exact .inr ⟨a, List.mem_of_getElem? e1, v1, v2⟩
theorem pair_ok {H : Hp} {m : Mp} {old new : Int} {t : Tr} {fs fs' ys ys' : List V} (o : t.hd.Ok) (h1 : FsV H t.hd.f fs) (h2 : FsV H t.hd.f fs') (h3 : TrsV H t.ks ys) (h4 : TrsV H (t.ks.map (Tr.map (mvH m old new))) ys') {i : Nat} {x y : V}
    (hx : (V.str t.hd.k.nm :: (rL t.hd.r ++ fs) ++ ys)[i]? = some x) (hy : (V.str t.hd.k.nm :: (rL (t.hd.r.map (mvR m old new)) ++ fs') ++ ys')[i]? = some y) : PairOk H m old new t i x y := by
  cases i with
  | zero =>
    cases hx
    cases hy
    exact .inr ⟨fun z => absurd z.1 (by decide), .inl ⟨.inl ⟨rfl, .inr ⟨_, rfl⟩⟩, .str H 2 _⟩⟩
  | succ i =>
    rw [List.cons_append, List.getElem?_cons_succ, List.append_assoc] at hx hy
    have o1 := o.1
    cases hr : t.hd.r with
    | none =>
      rw [hr] at hx hy o1
      exact .inr ⟨fun z => by rw [← o1] at z; exact absurd z.2 (by decide), pair_rest h1 h2 h3 h4 hx hy⟩
    | some r =>
      rw [hr] at hx hy o1
      cases i with
      | zero =>
        cases hx
        cases hy
        exact .inl ⟨rfl, o1.symm, r, rfl, rfl⟩
      | succ i =>
        exact .inr ⟨fun z => absurd z.1 (by omega), pair_rest h1 h2 h3 h4 (i := i) (by simpa [rL] using hx) (by simpa [rL] using hy)⟩
section
variable {P : Program} {w : World} {K : PySem.W.Frag} {mg : Str → Option Value} {base : Heap}
def spBeside (n : Nat) : Sp := fun vs H Q _ => ∃ v u t old new d m, vs = [v, u, .int old, .int new, .ref d] ∧ TrV H t v ∧ TrV H (t.map (mvH m old new)) u ∧ t.Ok ∧ t.dep ≤ n ∧ H d = some (.dK (mK m)) ∧ ∀ H', Same H H' → Q (.bl true) H'
theorem ok_besideS (n : Nat) (T : Top K mg "_law_beside" s_beside) (mIs : mg "isinstance" = none) (mTup : mg "tuple" = none) (mInt : mg "int" = none) (mLen : mg "len" = none) (mR : mg "range" = none) (FR : Fn P w K mg base 1 "_law_row" spRow) (FS : Fn P w K mg base (2 + 2) "_law_same" (spSame 2))
    (F : ∀ m, n = m + 1 → Fn P w K mg base (m + 5) "_law_beside" (spBeside m)) : Fn P w K mg base (n + 5) "_law_beside" (spBeside n) := by
  refine fn_ok T sc_beside so_beside (fun vs H Q E h => by obtain ⟨v, u, t, old, new, d, m, rfl, _⟩ := h; rfl) (fun _ _ _ _ _ _ us hl => match us, hl with | [_, _, _, _, _], _ => rfl) fun f cdv A outer s H vs Q E hr h nd => ?_
  obtain ⟨v, u, t, old, new, d, m, rfl, hv, hu, ho, hn, hd, q⟩ := h
  obtain ⟨p, xs, ys, rfl, hp, hx, hy⟩ := hv.split
  obtain ⟨p', xs', ys', rfl, hp', hx', hy'⟩ := hu.split
  rw [map_hd] at hx'
  rw [map_ks] at hy'
  have o1 := ho.hd.1
  have lx := hx.len o1
  have lx' := hx'.len (mvH_ok o1)
  have ly := hy.len
  have ly' := hy'.len
  rw [List.length_map] at ly'
  have l3 := fs_le t.hd.k
  have lkn := ks_le t
  have lx'' : xs'.length = 1 + t.hd.k.fs.length := lx'
  obtain ⟨fs, rfl, hfs⟩ := hx
  obtain ⟨fs', ex', hfs'⟩ := hx'
  have hpk : ∀ (i : Nat) x y, (V.str t.hd.k.nm :: (rL t.hd.r ++ fs) ++ ys)[i]? = some x → (xs' ++ ys')[i]? = some y → PairOk H m old new t i x y := fun i x y h1 h2 => by
    rw [ex'] at h2
    exact pair_ok o1 hfs hfs' hy hy' h1 h2
  have hlen : (xs' ++ ys').length = (V.str t.hd.k.nm :: (rL t.hd.r ++ fs) ++ ys).length := by rw [List.length_append, List.length_append]; omega
  have hl9 : (xs' ++ ys').length ≤ 9 := by rw [List.length_append]; omega
  have hp0 : H p = some (.tup (V.str t.hd.k.nm :: ((rL t.hd.r ++ fs) ++ ys))) := hp
  generalize hA : (V.str t.hd.k.nm :: (rL t.hd.r ++ fs) ++ ys) = as at hp hpk hlen
  generalize hB : xs' ++ ys' = bs at hp' hpk hlen hl9
  refine l_cons (s_if (t_w (w_or (t_not (t_val ?_)))))
  walk_at "sts"
  refine c_isi (ty_tup hp') (.ty _) (kit_ty kb_tuple_tuple) ?_
  walk_at "sts"
  refine c_lenT (by exact SqT.of hp') ?_
  walk_at "sts"
  refine c_lenT (by exact SqT.of hp) ?_
  walk_at "sts"
  rw [decide_eq_true (show (bs.length : Int) = (as.length : Int) by omega)]
  walk_at "sts"
  refine s_forR (by assumption) ?_
  walk_at "sts"
  refine c_lenT (by exact SqT.of hp) ⟨as.length, rfl, by omega, fun k σ H' => ∃ x y, σ = [some (.ref p), some (.ref p'), some (.int old), some (.int new), some (.ref d), x, y] ∧ Same H H', ⟨none, none, rfl, Same.refl H⟩, ?_, ?_⟩
  · intro k σ H3 hk pr
    obtain ⟨x, y, rfl, e3⟩ := pr
    show wL _ _ _ [some (.ref p), some (.ref p'), some (.int old), some (.int new), some (.ref d), some (.int (k : Int)), y] _
    have hxk : as[k]? = some as[k] := List.getElem?_eq_getElem hk
    have hyk : bs[k]? = some (bs[k]'(by omega)) := List.getElem?_eq_getElem (by omega)
    have pk := hpk k _ _ hxk hyk
    generalize as[k] = xv at hxk pk
    generalize bs[k]'(by omega) = yv at hyk pk
    refine l_cons (s_if (t_w (w_and (t_cmp ?_))))
    walk_at "sts"
    by_cases hk1 : (k : Int) = 1
    · refine ifT hk1 (w_and1 (t_cmp ?_))
      walk_at "sts"
      refine ix_t (by exact SqT.of (e3 _ _ hp0)) at0 ?_
      walk_at "sts"
      refine ⟨by show 4 ≤ sizeLine; decide, fun tp H5 e5 n5 h5 => ?_⟩
      have e35 := e3.trans e5
      refine o_inT (by exact SqT.of h5) rfl rfl ?_
      rw [rf_nm]
      refine ⟨_, rfl, ?_⟩
      have k1 : k = 1 := by omega
      rcases pk with ⟨_, hrf, r, rfl, rfl⟩ | ⟨hno, pk⟩
      · rw [hrf]
        refine iteT ?_
        subst k1
        refine l_cons (s_set (e_ix ?_))
        walk_at "sts"
        refine ix_t (by exact SqT.of (e35 _ _ hp)) (atI_nat (j := 1) hxk) ?_
        show wL _ _ _ [some (.ref p), some (.ref p'), some (.int old), some (.int new), some (.ref d), some (.int 1), some (kV r)] _
        cases r with
        | inr z =>
          have em : mvR m old new (.inr z) = lk m (.inr z) := rfl
          show wL _ _ _ [some (.ref p), some (.ref p'), some (.int old), some (.int new), some (.ref d), some (.int 1), some (.str z)] _
          refine l_cons (s_if (t_w (w_and (t_val ?_))))
          walk_at "sts"
          refine c_isi ty_str (.ty _) (kit_ty kb_str_int) ⟨_, rfl, iteF (iteF ?_)⟩
          refine l_cons (s_set (e_dget2 (by exact hr) (e_var ⟨d, rfl, .inl ⟨_, .inl (e35 _ _ hd)⟩, ?_⟩)))
          walk_at "sts"
          refine ⟨_, DGet.k (k := .inr z) (e35 _ _ hd), l_nil ?_⟩
          refine l_cons (s_if (t_not (t_val ?_)))
          refine e_call (by exact FS) (by exact hr) (by omega) ?_
          walk_at "sts"
          refine ix_t (by exact SqT.of (e35 _ _ hp')) (atI_nat (j := 1) hyk) ?_
          walk_at "sts"
          refine ⟨_, _, rfl, ?_, fun H8 e8 => ⟨_, rfl, iteF (l_nil (l_nil (l_nil ⟨_, _, rfl, Same.trans e35 e8⟩)))⟩⟩
          rw [em]
          show Eqd _ _ _ ((valV (mK m) (Sum.inr z)).getD (kV (.inr z)))
          rw [lk_val]
          exact Eqd.key _ _ _
        | inl i =>
          show wL _ _ _ [some (.ref p), some (.ref p'), some (.int old), some (.int new), some (.ref d), some (.int 1), some (.int i)] _
          refine l_cons (s_if (t_w (w_and (t_val ?_))))
          walk_at "sts"
          refine c_isi ty_int (.ty _) (kit_ty kb_int_int) ⟨_, rfl, iteT (w_and1 (t_cmp ?_))⟩
          walk_at "sts"
          by_cases hi : old ≤ i
          · refine ifT hi ?_
            have em : mvR m old new (.inl i) = .inl (new + (i - old)) := by
              have : below (.inl i) old = false := decide_eq_false (by omega)
              rw [mvR, this]
              show Sum.inl (i + new - old) = _
              congr 1
              omega
            refine l_cons (s_set (e_bin (e_var (e_bin (e_var (e_var (o_sub (o_add (l_nil ?_)))))))))
            refine l_cons (s_if (t_not (t_val ?_)))
            refine e_call (by exact FS) (by exact hr) (by omega) ?_
            walk_at "sts"
            refine ix_t (by exact SqT.of (e35 _ _ hp')) (atI_nat (j := 1) hyk) ?_
            walk_at "sts"
            refine ⟨_, _, rfl, ?_, fun H8 e8 => ⟨_, rfl, iteF (l_nil (l_nil (l_nil ⟨_, _, rfl, Same.trans e35 e8⟩)))⟩⟩
            rw [em]
            exact Eqd.key _ _ _
          · refine ifF hi ?_
            have em : mvR m old new (.inl i) = lk m (.inl i) := by
              have : below (.inl i) old = true := decide_eq_true (by omega)
              rw [mvR, this]
              rfl
            refine l_cons (s_set (e_dget2 (by exact hr) (e_var ⟨d, rfl, .inl ⟨_, .inl (e35 _ _ hd)⟩, ?_⟩)))
            walk_at "sts"
            refine ⟨_, DGet.k (k := .inl i) (e35 _ _ hd), l_nil ?_⟩
            refine l_cons (s_if (t_not (t_val ?_)))
            refine e_call (by exact FS) (by exact hr) (by omega) ?_
            walk_at "sts"
            refine ix_t (by exact SqT.of (e35 _ _ hp')) (atI_nat (j := 1) hyk) ?_
            walk_at "sts"
            refine ⟨_, _, rfl, ?_, fun H8 e8 => ⟨_, rfl, iteF (l_nil (l_nil (l_nil ⟨_, _, rfl, Same.trans e35 e8⟩)))⟩⟩
            rw [em]
            show Eqd _ _ _ ((valV (mK m) (Sum.inl i)).getD (kV (.inl i)))
            rw [lk_val]
            exact Eqd.key _ _ _
      · have hrf : t.hd.k.rf = false := by
          cases hq : t.hd.k.rf with
          | false => rfl
          | true => exact absurd ⟨k1, hq⟩ hno
        rw [hrf]
        refine iteF ?_
        refine l_cons (s_if (t_val ?_))
        refine e_call (by exact FR) (by exact hr) (by omega) ?_
        walk_at "sts"
        refine ix_t (by exact SqT.of (e35 _ _ hp)) (atI_nat hxk) ?_
        walk_at "sts"
        rcases pk with ⟨hq, heq⟩ | ⟨a, ha, hax, hay⟩
        · refine ⟨xv, false, rfl, hq.ts (Same.ts e35), fun H6 e6 => ⟨_, rfl, iteF ?_⟩⟩
          have e7 := Same.trans e35 e6
          refine l_cons (s_if (t_not (t_val ?_)))
          refine e_call (by exact FS) (by exact hr) (by omega) ?_
          walk_at "sts"
          refine ix_t (by exact SqT.of (e7 _ _ hp')) (atI_nat hyk) ?_
          walk_at "sts"
          refine ix_t (by exact SqT.of (e7 _ _ hp)) (atI_nat hxk) ?_
          walk_at "sts"
          exact ⟨yv, xv, rfl, heq.up e7, fun H8 e8 => ⟨_, rfl, iteF (l_nil (l_nil (l_nil (l_nil ⟨_, _, rfl, Same.trans e7 e8⟩))))⟩⟩
        · refine ⟨xv, true, rfl, (RowQ.tr hax).ts (Same.ts e35), fun H6 e6 => ⟨_, rfl, iteT ?_⟩⟩
          have e7 := Same.trans e35 e6
          have hda := dep_ks a ha
          obtain ⟨n', rfl⟩ : ∃ n', n = n' + 1 := ⟨n - 1, by omega⟩
          refine l_cons (s_if (t_not (t_val ?_)))
          refine e_call (by exact F n' rfl) (by exact hr) (by omega) ?_
          walk_at "sts"
          refine ix_t (by exact SqT.of (e7 _ _ hp)) (atI_nat hxk) ?_
          walk_at "sts"
          refine ix_t (by exact SqT.of (e7 _ _ hp')) (atI_nat hyk) ?_
          walk_at "sts"
          exact ⟨xv, yv, a, old, new, d, m, rfl, hax.ts (Same.ts e7), hay.ts (Same.ts e7), ho.hd.2.2 a ha, by omega, e7 _ _ hd, fun H8 e8 => ⟨_, rfl, iteF (l_nil (l_nil (l_nil (l_nil ⟨_, _, rfl, Same.trans e7 e8⟩))))⟩⟩
    · refine ifF hk1 (iteF ?_)
      rcases pk with ⟨k1, _⟩ | ⟨hno, pk⟩
      · exact absurd k1 (by omega)
      · skip
        refine l_cons (s_if (t_val ?_))
        refine e_call (by exact FR) (by exact hr) (by omega) ?_
        walk_at "sts"
        refine ix_t (by exact SqT.of (e3 _ _ hp)) (atI_nat hxk) ?_
        walk_at "sts"
        rcases pk with ⟨hq, heq⟩ | ⟨a, ha, hax, hay⟩
        · refine ⟨xv, false, rfl, hq.ts (Same.ts e3), fun H6 e6 => ⟨_, rfl, iteF ?_⟩⟩
          have e7 := Same.trans e3 e6
          refine l_cons (s_if (t_not (t_val ?_)))
          refine e_call (by exact FS) (by exact hr) (by omega) ?_
          walk_at "sts"
          refine ix_t (by exact SqT.of (e7 _ _ hp')) (atI_nat hyk) ?_
          walk_at "sts"
          refine ix_t (by exact SqT.of (e7 _ _ hp)) (atI_nat hxk) ?_
          walk_at "sts"
          exact ⟨yv, xv, rfl, heq.up e7, fun H8 e8 => ⟨_, rfl, iteF (l_nil (l_nil (l_nil (l_nil ⟨_, _, rfl, Same.trans e7 e8⟩))))⟩⟩
        · refine ⟨xv, true, rfl, (RowQ.tr hax).ts (Same.ts e3), fun H6 e6 => ⟨_, rfl, iteT ?_⟩⟩
          have e7 := Same.trans e3 e6
          have hda := dep_ks a ha
          obtain ⟨n', rfl⟩ : ∃ n', n = n' + 1 := ⟨n - 1, by omega⟩
          refine l_cons (s_if (t_not (t_val ?_)))
          refine e_call (by exact F n' rfl) (by exact hr) (by omega) ?_
          walk_at "sts"
          refine ix_t (by exact SqT.of (e7 _ _ hp)) (atI_nat hxk) ?_
          walk_at "sts"
          refine ix_t (by exact SqT.of (e7 _ _ hp')) (atI_nat hyk) ?_
          walk_at "sts"
          exact ⟨xv, yv, a, old, new, d, m, rfl, hax.ts (Same.ts e7), hay.ts (Same.ts e7), ho.hd.2.2 a ha, by omega, e7 _ _ hd, fun H8 e8 => ⟨_, rfl, iteF (l_nil (l_nil (l_nil (l_nil ⟨_, _, rfl, Same.trans e7 e8⟩))))⟩⟩
  · intro σ H3 pr
    obtain ⟨x, y, rfl, e3⟩ := pr
    walk_at "sts"
    exact q H3 e3
end
section
variable {P : Program} {w : World} {K : PySem.W.Frag} {mg : Str → Option Value} {base : Heap}
theorem ok_beside (T : Top K mg "_law_beside" s_beside) (mIs : mg "isinstance" = none) (mTup : mg "tuple" = none) (mInt : mg "int" = none) (mLen : mg "len" = none) (mR : mg "range" = none) (FR : Fn P w K mg base 1 "_law_row" spRow) (FS : Fn P w K mg base (2 + 2) "_law_same" (spSame 2)) : ∀ n, Fn P w K mg base (n + 5) "_law_beside" (spBeside n)
  | 0 => ok_besideS 0 T mIs mTup mInt mLen mR FR FS fun m h => by cases h
  | n + 1 => ok_besideS (n + 1) T mIs mTup mInt mLen mR FR FS fun m h => by cases h; exact ok_beside T mIs mTup mInt mLen mR FR FS n
end


def putM (m : Mp) (r v : Key) : Mp := if (m.any fun p => decide (p.1 = r)) = true then m.map (fun p => if p.1 = r then (p.1, v) else p) else m ++ [(r, v)]
theorem mK_put (m : Mp) (r v : Key) : putK (mK m) r (kV v) = mK (putM m r v) := by
  have ha : ((mK m).any fun kv => decide (kv.1 = r)) = (m.any fun p => decide (p.1 = r)) := by rw [mK, List.any_map]; rfl
  unfold putK putM
  rw [ha]
  split
  · rw [mK, mK, List.map_map, List.map_map]
    refine List.map_congr_left fun x _ => ?_
    simp only [Function.comp]
    split <;> rfl
  · rw [mK, mK, List.map_append]
    rfl
theorem fnd_cons (p : Key × Key) (m : Mp) (r : Key) : fnd (p :: m) r = if p.1 = r then some p.2 else fnd m r := by
  by_cases e : p.1 = r
  · simp [fnd, e]
  · simp [fnd, e]
theorem fnd_any : ∀ (m : Mp) (r : Key), (m.any fun p => decide (p.1 = r)) = (fnd m r).isSome
  | [], r => rfl
  | p :: m, r => by
    rw [List.any_cons, fnd_any m r, fnd_cons]
    by_cases e : p.1 = r
    · simp [e]
    · simp [e]
theorem fnd_app (r v : Key) : ∀ (m : Mp) (s : Key), fnd (m ++ [(r, v)]) s = match fnd m s with | some x => some x | none => if r = s then some v else none
  | [], s => by simp [fnd_cons]; rfl
  | p :: m, s => by
    rw [List.cons_append, fnd_cons, fnd_app r v m s, fnd_cons]
    by_cases e : p.1 = s
    · rw [if_pos e, if_pos e]
    · rw [if_neg e, if_neg e]
theorem fnd_rep (r v : Key) : ∀ (m : Mp) (s : Key), fnd (m.map fun p => if p.1 = r then (p.1, v) else p) s = if s = r then (fnd m s).map (fun _ => v) else fnd m s
  | [], s => by by_cases e : s = r <;> simp [e, fnd]
  | p :: m, s => by
    rw [List.map_cons, fnd_cons, fnd_cons, fnd_rep r v m s]
    by_cases h : p.1 = r
    · by_cases e : p.1 = s
      · have : s = r := e.symm.trans h
        simp [h, e, this]
      · have : ¬ r = s := fun z => e (h.trans z)
        have : ¬ s = r := fun z => e (h.trans z.symm)
        simp [h, *]
    · by_cases e : p.1 = s
      · have : ¬ s = r := fun z => h (e.trans z)
        simp [h, e, this]
      · simp [h, e]
theorem fnd_put (m : Mp) (r v s : Key) : fnd (putM m r v) s = if s = r then some v else fnd m s := by
  unfold putM
  have ha := fnd_any m r
  by_cases a : (m.any fun p => decide (p.1 = r)) = true
  · rw [if_pos a, fnd_rep]
    by_cases e : s = r
    · rw [if_pos e, if_pos e, e]
      rw [ha] at a
      obtain ⟨x, hx⟩ := Option.isSome_iff_exists.mp a
      rw [hx]; rfl
    · rw [if_neg e, if_neg e]
  · rw [if_neg a, fnd_app]
    by_cases e : s = r
    · rw [if_pos e, e]
      rw [ha] at a
      cases hq : fnd m r with
      | none => simp
      | some x => rw [hq] at a; exact absurd rfl a
    · rw [if_neg e]
      have : ¬ r = s := fun z => e z.symm
      cases fnd m s with
      | none => simp [this]
      | some x => rfl
def KNd (m : Mp) : Prop := (m.map (·.1)).Nodup
theorem fnd_mem : ∀ {m : Mp} {r v : Key}, fnd m r = some v → (r, v) ∈ m
  | [], _, _, h => by cases h
  | p :: m, r, v, h => by
    rw [fnd_cons] at h
    by_cases e : p.1 = r
    · rw [if_pos e] at h
      cases h
      rw [← e]
      exact List.mem_cons_self ..
    · rw [if_neg e] at h
      exact List.mem_cons_of_mem _ (fnd_mem h)
theorem fnd_of_mem : ∀ {m : Mp} {r v : Key}, KNd m → (r, v) ∈ m → fnd m r = some v
  | p :: m, r, v, hn, h => by
    rw [KNd, List.map_cons, List.nodup_cons] at hn
    rw [fnd_cons]
    rcases List.mem_cons.mp h with rfl | h
    · rw [if_pos rfl]
    · rw [if_neg fun z => hn.1 (by rw [z]; exact List.mem_map.mpr ⟨_, h, rfl⟩)]
      exact fnd_of_mem hn.2 h
theorem fnd_none {m : Mp} {r : Key} (h : fnd m r = none) : r ∉ m.map (·.1) := fun z => by
  obtain ⟨p, hp, e⟩ := List.mem_map.mp z
  have := fnd_any m r
  rw [h] at this
  have h2 : (m.any fun p => decide (p.1 = r)) = true := List.any_eq_true.mpr ⟨p, hp, decide_eq_true e⟩
  rw [h2] at this
  cases this
theorem put_nd {m : Mp} (r v : Key) (h : KNd m) : KNd (putM m r v) := by
  unfold KNd putM at *
  split
  · rw [List.map_map]
    have : (m.map ((fun x : Key × Key => x.1) ∘ fun p => if p.1 = r then (p.1, v) else p)) = m.map (·.1) := by
      refine List.map_congr_left fun x _ => ?_
      simp only [Function.comp]
      split <;> rfl
    rw [this]
    exact h
  · rename_i a
    rw [List.map_append, List.nodup_append]
    refine ⟨h, by simp, fun x hx y hy => ?_⟩
    rw [List.mem_singleton.mp (show y ∈ [r] from hy)]
    intro z
    subst z
    have hf := fnd_any m x
    cases hq : fnd m x with
    | none => exact fnd_none hq hx
    | some u => rw [hq] at hf; exact a (by rw [hf]; rfl)
theorem put_len (m : Mp) (r v : Key) : (putM m r v).length ≤ m.length + 1 := by
  unfold putM
  split
  · rw [List.length_map]; omega
  · rw [List.length_append]; simp only [List.length_cons, List.length_nil]; omega
theorem kV_flatB (r : Key) : flatB (kV r) = true := by cases r <;> rfl
theorem mK_self {m : Mp} (h : KNd m) : ∀ p ∈ mK m, valV (mK m) p.1 = some p.2 ∧ flatB p.2 = true := by
  intro p hp
  obtain ⟨q, hq, rfl⟩ := List.mem_map.mp hp
  refine ⟨?_, kV_flatB _⟩
  rw [mK_val, fnd_of_mem h (show (q.1, q.2) ∈ m from hq)]
  rfl
theorem b_dict : bootBuiltins "dict" = some (.type "dict") := by decide +kernel
section
variable {P : Program} {w : World} {K : PySem.W.Frag} {mg : Str → Option Value} {base : Heap}
def spMoves (n : Nat) : Sp := fun vs H Q _ => ∃ v t old new d m, vs = [v, .int old, .int new, .ref d] ∧ TrV H t v ∧ t.Ok ∧ t.dep ≤ n ∧ t.size ≤ 1000 ∧ H d = some (.dK (mK m)) ∧ KNd m ∧ ∀ H', Same H H' → Q (.bl true) H'
theorem ok_moves (n : Nat) (T : Top K mg "_law_moves" s_moves) (mDict : mg "dict" = none) (FM : Fn P w K mg base 3 "moved" spMoved) (FB : Fn P w K mg base (n + 5) "_law_beside" (spBeside n)) : Fn P w K mg base (n + 6) "_law_moves" (spMoves n) := by
  refine fn_ok T sc_moves so_moves (fun vs H Q E h => by obtain ⟨v, t, old, new, d, m, rfl, _⟩ := h; rfl) (fun _ _ _ _ _ _ us hl => match us, hl with | [_, _, _, _], _ => rfl) fun f cdv A outer s H vs Q E hr h nd => ?_
  obtain ⟨v, t, old, new, d, m, rfl, hv, ho, hn, hz, hd, hk, q⟩ := h
  refine l_cons (s_set (e_callTy (x := "dict") (by assumption) b_dict (a_cons (e_var (a_nil (c_dict hd fun d2 H1 e1 n1 h1 => ?_))))))
  show wL _ _ _ [some v, some (.int old), some (.int new), some (.ref d), some (.ref d2), none] _
  refine l_cons (s_set (e_call (by exact FM) (by exact hr) (by omega) ?_))
  walk_at "sts"
  refine ⟨v, t, old, new, d2, m, rfl, hv.ts (Same.ts e1), ho, hz, h1, fun v' H2 e2 hv' => ?_⟩
  have e12 := e1.trans e2
  show wL _ _ _ [some v, some (.int old), some (.int new), some (.ref d), some (.ref d2), some v'] _
  refine l_cons (s_ret (e_and (e_call (by exact FB) (by exact hr) (by omega) ?_)))
  walk_at "sts"
  refine ⟨v, v', t, old, new, d, m, rfl, hv.ts (Same.ts e12), hv', ho, hn, e12 _ _ hd, fun H3 e3 => ⟨_, rfl, iteT ?_⟩⟩
  refine e_one (e_cmp (e_var (e_var ?_)))
  exact o_eqDt (by exact hr) (e3 _ _ (e2 _ _ h1)) (e3 _ _ (e12 _ _ hd)) rfl (mK_self hk) (q H3 (Same.trans e12 e3))
def spListed : Sp := fun vs H Q _ => ∃ v t lv dl, vs = [v, .int lv, .ref dl] ∧ TrV H t v ∧ t.Ok ∧ t.size ≤ 1000 ∧ H dl = some (.lst ((refsB lv (hds t)).map kV)) ∧ ∀ H', Same H H' → Q (.bl true) H'
theorem ok_listed (T : Top K mg "_law_listed" s_listed) (FF : Fn P w K mg base 3 "free_refs" spFree) (FS : Fn P w K mg base (1 + 2) "_law_same" (spSame 1)) : Fn P w K mg base 4 "_law_listed" spListed := by
  refine fn_ok T sc_listed so_listed (fun vs H Q E h => by obtain ⟨v, t, lv, dl, rfl, _⟩ := h; rfl) (fun _ _ _ _ _ _ us hl => match us, hl with | [_, _, _], _ => rfl) fun f cdv A outer s H vs Q E hr h nd => ?_
  obtain ⟨v, t, lv, dl, rfl, hv, ho, hz, hdl, q⟩ := h
  have lr := refsB_len lv (hds t)
  rw [hds_size] at lr
  have eqd : ∀ {H' : Hp} {a : Addr}, H' a = some (.lst ((refsB lv (hds t)).map kV)) → H' dl = some (.lst ((refsB lv (hds t)).map kV)) → Eqd H' 1 (.ref a) (.ref dl) := fun ha hb =>
    .inr (.inr ⟨_, _, _, _, rfl, rfl, .inr ⟨ha, hb⟩, rfl, by rw [List.length_map]; omega, (keys_eq _ 0 _).get⟩)
  refine l_cons (s_set (e_call (by exact FF) (by exact hr) (by decide) ?_))
  walk_at "sts"
  refine ⟨v, t, lv, rfl, hv, ho, hz, fun l1 H1 e1 n1 h1 => ?_⟩
  show wL _ _ _ [some v, some (.int lv), some (.ref dl), some (.ref l1)] _
  refine l_cons (s_if (t_not (t_val (e_call (by exact FS) (by exact hr) (by decide) ?_))))
  walk_at "sts"
  refine ⟨_, _, rfl, eqd h1 (e1 _ _ hdl), fun H2 e2 => ⟨_, rfl, iteF (l_nil ?_)⟩⟩
  have h2 := e2 _ _ h1
  have ndl : dl ≠ l1 := fun z => by subst z; rw [n1] at hdl; cases hdl
  refine l_cons (s_expr (e_app (e_var ⟨l1, _, rfl, SqL.of h2, e_str ⟨_, h2, by rw [List.length_map]; show _ < 2 ^ 24; omega, ?_⟩⟩)))
  have k2 : Same H (upd H2 l1 (.lst ((refsB lv (hds t)).map kV ++ [.str "spoilt"]))) := fun c u hc => by
    rw [upd_ne (fun z => by subst z; rw [n1] at hc; cases hc)]
    exact e2 _ _ (e1 _ _ hc)
  refine l_cons (s_ret (e_call (by exact FS) (by exact hr) (by decide) ?_))
  refine a_cons (e_call (by exact FF) (by exact hr) (by decide) ?_)
  walk_at "sts"
  refine ⟨v, t, lv, rfl, hv.ts (Same.ts k2), ho, hz, fun l3 H3 e3 n3 h3 => ?_⟩
  walk_at "sts"
  exact ⟨_, _, rfl, eqd h3 (e3 _ _ (k2 _ _ hdl)), fun H4 e4 => q H4 ((Same.trans k2 e3).trans e4)⟩
def spTarget : Sp := fun vs H Q _ => ∃ p, vs = [.ref p] ∧ PoolAt H p ∧ ∀ (r : Key) H', But p H H' → PoolAt H' p → Q (kV r) H'
theorem ok_target (T : Top K mg "_law_target" s_target) (FN : Fn P w K mg base 1 "_law_next" spNext) : Fn P w K mg base 2 "_law_target" spTarget := by
  refine fn_ok T sc_target so_target (fun vs H Q E h => by obtain ⟨p, rfl, _⟩ := h; rfl) (fun _ _ _ _ _ _ us hl => match us, hl with | [_], _ => rfl) fun f cdv A outer s H vs Q E hr h nd => ?_
  obtain ⟨p, rfl, hp, q⟩ := h
  refine l_cons (s_if (t_cmp (e_call (by exact FN) (by exact hr) (by decide) ?_)))
  walk_at "sts"
  refine ⟨p, 2, rfl, by decide, by decide, hp, fun d0 H0 _ _ b0 p0 => ?_⟩
  walk_at "sts"
  refine if2 (fun _ => ?_) (fun _ => ?_)
  · refine l_cons (s_ret (e_call (by exact FN) (by exact hr) (by decide) ?_))
    walk_at "sts"
    exact ⟨p, 31, rfl, by decide, by decide, p0, fun d1 H1 _ _ b1 p1 => q (.inl d1) H1 (b0.trans b1) p1⟩
  · walk_at "sts"
    refine ⟨by show 8 ≤ sizeLine; decide, fun l H1 e1 n1 h1 => ?_⟩
    refine e_call (by exact FN) (by exact hr) (by decide) ?_
    walk_at "sts"
    have p1 : PoolAt H1 p := let ⟨x, y, z, e⟩ := p0; ⟨x, y, z, e1 _ _ e⟩
    refine ⟨p, 8, rfl, by decide, by decide, p1, fun d2 H2 h0 h8 b2 p2 => ?_⟩
    have nl : l ≠ p := fun z => by subst z; obtain ⟨_, _, _, e⟩ := p0; rw [n1] at e; cases e
    have hl := b2 _ _ nl h1
    have bb : But p H H2 := fun c o nc hc => b2 _ _ nc (e1 _ _ (b0 _ _ nc hc))
    obtain ⟨j, rfl⟩ : ∃ j : Nat, d2 = (j : Int) := ⟨d2.toNat, by omega⟩
    have hj : j < 8 := by omega
    have hs : ∃ z : Str, ([V.str "x", V.str "own", V.str "left", V.str "new1", V.str "take", V.str "q", V.str "zz9", V.str "once"] : List V)[j]? = some (V.str z) := by
      match j, hj with
      | 0, _ => exact ⟨_, rfl⟩
      | 1, _ => exact ⟨_, rfl⟩
      | 2, _ => exact ⟨_, rfl⟩
      | 3, _ => exact ⟨_, rfl⟩
      | 4, _ => exact ⟨_, rfl⟩
      | 5, _ => exact ⟨_, rfl⟩
      | 6, _ => exact ⟨_, rfl⟩
      | 7, _ => exact ⟨_, rfl⟩
    obtain ⟨z, hz⟩ := hs
    refine ix_l (by exact SqL.of hl) (atI_nat hz) ?_
    exact q (.inr z) H2 bb p2
def spWild : Sp := fun vs H Q _ => ∃ p ol lv l, vs = [.ref p, .ref ol, .int lv] ∧ PoolAt H p ∧ ol ≠ p ∧ H ol = some (.lst ((l : List Key).map kV)) ∧ l.length ≤ 1000 ∧ ∀ d m H', But p H H' → PoolAt H' p → H d = none → H' d = some (.dK (mK m)) → KNd m → Q (.ref d) H'
theorem ok_wild (T : Top K mg "_law_wild" s_wild) (FN : Fn P w K mg base 1 "_law_next" spNext) (FT : Fn P w K mg base 2 "_law_target" spTarget) : Fn P w K mg base 3 "_law_wild" spWild := by
  refine fn_ok T sc_wild so_wild (fun vs H Q E h => by obtain ⟨p, ol, lv, l, rfl, _⟩ := h; rfl) (fun _ _ _ _ _ _ us hl => match us, hl with | [_, _, _], _ => rfl) fun f cdv A outer s H vs Q E hr h nd => ?_
  obtain ⟨p, ol, lv, l, rfl, hp, nop, hol, hz, q⟩ := h
  refine l_cons (s_set (e_d1 fun d nd0 => ?_))
  walk_at "sts"
  have npd : p ≠ d := fun z => by subst z; obtain ⟨_, _, _, e⟩ := hp; rw [nd0] at e; cases e
  have nod : ol ≠ d := fun z => by subst z; rw [nd0] at hol; cases hol
  refine ⟨upd_same, "nobody", rfl, ?_⟩
  generalize hH0 : upd (upd H d (.dK [])) d (.dK [(Sum.inr "nobody", .int 3)]) = H0
  have hd0 : H0 d = some (.dK (mK [(Sum.inr "nobody", Sum.inl 3)])) := by rw [← hH0]; exact upd_same
  have k0 : Same H H0 := fun c u hc => by
    have cd : c ≠ d := fun z => by subst z; rw [nd0] at hc; cases hc
    rw [← hH0, upd_ne cd, upd_ne cd]
    exact hc
  have p0 : PoolAt H0 p := let ⟨x, y, z, e⟩ := hp; ⟨x, y, z, k0 _ _ e⟩
  show wL _ _ _ [some (.ref p), some (.ref ol), some (.int lv), some (.ref d), none] _
  refine l_cons (s_forL (e_bin (e_var (e_lst (a_cons (e_bin (e_var (e_call (by exact FN) (by exact hr) (by decide) ?_))))))))
  walk_at "sts"
  refine ⟨p, 4, rfl, by decide, by decide, p0, fun d1 H1 _ _ b1 p1 => ?_⟩
  have hd1 := b1 _ _ (Ne.symm npd) hd0
  walk_at "sts"
  refine ⟨by show 1 ≤ sizeLine; decide, fun l2 H2 e2 n2 h2 => ?_⟩
  refine o_cat2 (e2 _ _ (b1 _ _ nop (k0 _ _ hol))) h2 (by rw [List.length_map]; simp only [List.length_cons, List.length_nil]; omega) fun l3 H3 e3 n3 h3 => ?_
  have e23 := e2.trans e3
  have hl3 : H3 l3 = some (.lst ((l ++ [Sum.inl (lv + d1)]).map kV)) := by rw [h3, List.map_append]; rfl
  have p3 : PoolAt H3 p := let ⟨x, y, z, e⟩ := p1; ⟨x, y, z, e23 _ _ e⟩
  have n3p : l3 ≠ p := fun z => by subst z; obtain ⟨_, _, _, e⟩ := p1; rw [e2 _ _ e] at n3; cases n3
  have n3d : l3 ≠ d := fun z => by subst z; rw [e2 _ _ hd1] at n3; cases n3
  have bH3 : ∀ c o, c ≠ p → H c = some o → H3 c = some o := fun c o nc hc => e23 _ _ (b1 _ _ nc (k0 _ _ hc))
  refine ⟨l3, _, rfl, SqL.of hl3, fun k σ H' => ∃ (m : Mp) (x : Option V), σ = [some (.ref p), some (.ref ol), some (.int lv), some (.ref d), x] ∧ H' d = some (.dK (mK m)) ∧ KNd m ∧ m.length ≤ k + 1 ∧ PoolAt H' p ∧ But2 p d H3 H', ⟨_, none, rfl, e23 _ _ hd1, by simp [KNd], by simp, p3, fun _ _ _ _ z => z⟩, ?_, ?_, ?_⟩
  · intro k σ H' _ pr
    obtain ⟨_, _, _, _, _, _, _, b⟩ := pr
    exact SqL.of (b _ _ n3p n3d hl3)
  · intro k y σ H' hy pr
    obtain ⟨m, x, rfl, hd', hm, hl, pp, b⟩ := pr
    have hk := (List.getElem?_eq_some_iff.mp hy).1
    rw [List.length_map, List.length_append] at hk
    simp only [List.length_cons, List.length_nil] at hk
    rw [List.getElem?_map] at hy
    obtain ⟨r, hr0, rfl⟩ := Option.map_eq_some_iff.mp hy
    show wL _ _ _ [some (.ref p), some (.ref ol), some (.int lv), some (.ref d), some (kV r)] _
    refine l_cons (s_if (t_cmp (e_call (by exact FN) (by exact hr) (by decide) ?_)))
    walk_at "sts"
    refine ⟨p, 3, rfl, by decide, by decide, pp, fun d4 H4 _ _ b4 p4 => ?_⟩
    have hd4 := b4 _ _ (Ne.symm npd) hd'
    walk_at "sts"
    refine if2 (fun _ => ?_) (fun _ => ?_)
    · refine l_cons (s_dput (hu_of hr) (e_call (by exact FT) (by exact hr) (by decide) ?_))
      walk_at "sts"
      refine ⟨p4, fun r2 H5 b5 p5 => ?_⟩
      have hd5 := b5 _ _ (Ne.symm npd) hd4
      walk_at "sts"
      refine ⟨d, _, rfl, .inl ⟨_, r, hd5, rfl, by rw [mK, List.length_map]; show _ < 2 ^ 24; omega, rfl⟩, ?_⟩
      have pl := put_len m r r2
      refine l_nil (l_nil ⟨putM m r r2, _, rfl, by rw [mK_put]; exact upd_same, put_nd r r2 hm, by omega, ?_, ?_⟩)
      · obtain ⟨x1, x2, x3, e⟩ := p5
        exact ⟨x1, x2, x3, by rw [upd_ne npd]; exact e⟩
      · intro c o cp cd hc
        rw [upd_ne cd]
        exact b5 _ _ cp (b4 _ _ cp (b _ _ cp cd hc))
    · exact l_nil (l_nil ⟨m, _, rfl, hd4, hm, by omega, p4, fun c o cp cd hc => b4 _ _ cp (b _ _ cp cd hc)⟩)
  · intro σ H' pr
    obtain ⟨m, x, rfl, hd', hm, hl, pp, b⟩ := pr
    walk_at "sts"
    refine q d m H' (fun c o nc hc => b _ _ nc (fun z => by subst z; rw [nd0] at hc; cases hc) (bH3 _ _ nc hc)) pp nd0 hd' hm
end


theorem small_str {d : Int} (h0 : 0 ≤ d) (h1 : d < 100) : (toString d : Str).length ≤ 2 := by
  obtain ⟨j, rfl⟩ := Int.eq_ofNat_of_zero_le h0
  have hj : j < 100 := by omega
  have all : ((List.range 100).all fun j => decide ((toString ((j : Nat) : Int) : Str).length ≤ 2)) = true := by decide +kernel
  rw [List.all_eq_true] at all
  exact of_decide_eq_true (all j (List.mem_range.mpr hj))
theorem log_small {d : Int} (h0 : 0 ≤ d) (h1 : d < 100) : d.natAbs.log2 < 1920 := by
  have h : d.natAbs < 2 ^ 7 := by omega
  rcases Nat.eq_zero_or_pos d.natAbs with z | z
  · rw [z]; decide
  · have := (Nat.log2_lt (by omega)).mpr h
    omega
theorem o_addS {X : Cx} {H : Hp} {Q : VK} {x y : Str} (hz : x.length + y.length ≤ 1000) (q : Q (.str (x ++ y)) H) : wB X .Add (.str x) (.str y) H Q := b_of op_add_str ⟨x, y, rfl, rfl, by show _ ≤ 2 ^ 24; omega, q⟩
theorem nd_inj {l : List Key} (h : l.Nodup) (i j : Nat) (hi : i < l.length) (hj : j < l.length) (e : l[i] = l[j]) : i = j := by
  rcases Nat.lt_trichotomy i j with h1 | h1 | h1
  · exact absurd e (List.pairwise_iff_getElem.mp h i j hi hj h1)
  · exact h1
  · exact absurd e.symm (List.pairwise_iff_getElem.mp h j i hj hi h1)
def hid (nw : Nat) : Key → Bool
  | .inl i => decide ((nw : Int) ≤ i)
  | .inr _ => false
def tN : Key → Key
  | .inl i => .inr (("t" : Str) ++ (toString i : Str))
  | .inr z => .inr z
def uN (j : Int) : Key := .inr (("u" : Str) ++ (toString j : Str))
/-- the base: behind the second loop -/
structure RBase (O : List Key) (nw : Nat) (m : Mp) (ts : List Key) : Prop where
  tn : ts.Nodup
  ti : ∀ r ∈ ts, r ∈ O ∧ hid nw r = false
  hi : ∀ r ∈ O, hid nw r = true → fnd m r = some (tN r)
  tu : ∀ (j : Nat) r, ts[j]? = some r → fnd m r = ts[(j + 1) % ts.length]?
  no : ∀ r v, fnd m r = some v → (r ∈ O ∧ hid nw r = true) ∨ r ∈ ts
def Ring (O : List Key) (nw : Nat) (m : Mp) : Prop := ∃ ts, RBase O nw m ts ∨ ∃ m0 ts' r x, RBase O nw m0 ts ∧ ts = ts' ++ [r] ∧ (∀ s, fnd m s = if s = r then some x else fnd m0 s) ∧ ((∃ i : Nat, i < nw ∧ x = .inl (i : Int) ∧ x ∉ O) ∨ ∃ j, 0 ≤ j ∧ j < 10 ∧ x = uN j)
section
variable {P : Program} {w : World} {K : PySem.W.Frag} {mg : Str → Option Value} {base : Heap}
def spRing : Sp := fun vs H Q _ => ∃ p ol lv nw O, vs = [.ref p, .ref ol, .int lv, .int ((nw : Nat) : Int)] ∧ PoolAt H p ∧ ol ≠ p ∧ H ol = some (.lst ((O : List Key).map kV)) ∧ O.Nodup ∧ O.length ≤ 1000 ∧ nw ≤ 1000 ∧ (∀ i, Sum.inl i ∈ O → 0 ≤ i ∧ i < 100) ∧ ∀ d m H', But p H H' → PoolAt H' p → H d = none → H' d = some (.dK (mK m)) → KNd m → m.length ≤ 2005 → Ring O nw m → Q (.ref d) H'
def But3 (a b c : Addr) (H H' : Hp) : Prop := ∀ x o, x ≠ a → x ≠ b → x ≠ c → H x = some o → H' x = some o
theorem ok_ring (T : Top K mg "_law_ring" s_ring) (mIs : mg "isinstance" = none) (mInt : mg "int" = none) (mStr : mg "str" = none) (mLen : mg "len" = none) (mR : mg "range" = none) (FN : Fn P w K mg base 1 "_law_next" spNext) : Fn P w K mg base 2 "_law_ring" spRing := by
  refine fn_ok T sc_ring so_ring (fun vs H Q E h => by obtain ⟨p, ol, lv, nw, O, rfl, _⟩ := h; rfl) (fun _ _ _ _ _ _ us hl => match us, hl with | [_, _, _, _], _ => rfl) fun f cdv A outer s H vs Q E hr h nd => ?_
  obtain ⟨p, ol, lv, nw, O, rfl, hp, nop, hol, hOn, hOz, hnw, hOi, q⟩ := h
  refine l_cons (s_set (e_dnew fun d nd0 => ?_))
  have k0 : Same H (upd H d (.dK [])) := fun c u hc => by rw [upd_ne (ne_of_none hc nd0)]; exact hc
  have npd : p ≠ d := fun z => by subst z; obtain ⟨_, _, _, e⟩ := hp; rw [nd0] at e; cases e
  have nod : ol ≠ d := fun z => by subst z; rw [nd0] at hol; cases hol
  show wL _ _ _ [some (.ref p), some (.ref ol), some (.int lv), some (.int (nw : Int)), some (.ref d), none, none, none, none] _
  refine l_cons (s_set (e_lst (a_nil ⟨by show 0 ≤ sizeLine; decide, fun tl H1 e1 n1 h1 => ?_⟩)))
  show wL _ _ _ [some (.ref p), some (.ref ol), some (.int lv), some (.int (nw : Int)), some (.ref d), some (.ref tl), none, none, none] _
  have k1 := k0.trans e1
  have ntd : tl ≠ d := fun z => by subst z; rw [upd_same] at n1; cases n1
  have nH : H tl = none := by rw [upd_ne ntd] at n1; exact n1
  have ntp : tl ≠ p := fun z => by subst z; obtain ⟨_, _, _, e⟩ := hp; rw [nH] at e; cases e
  have nto : tl ≠ ol := fun z => by subst z; rw [nH] at hol; cases hol
  have hol1 := k1 _ _ hol
  have p1 : PoolAt H1 p := let ⟨x, y, z, e⟩ := hp; ⟨x, y, z, k1 _ _ e⟩
  have hd1 : H1 d = some (.dK (mK [])) := e1 _ _ upd_same
  refine l_cons (s_forL ?_)
  refine e_var ⟨ol, _, rfl, SqL.of hol1, fun k σ H' => ∃ (m : Mp) (ts : List Key) (x : Option V), σ = [some (.ref p), some (.ref ol), some (.int lv), some (.int (nw : Int)), some (.ref d), some (.ref tl), x, none, none] ∧ H' d = some (.dK (mK m)) ∧ H' tl = some (.lst (ts.map kV)) ∧ KNd m ∧ m.length ≤ k ∧ ts.length ≤ k ∧ ts.Nodup ∧ (∀ r ∈ ts, r ∈ O.take k ∧ hid nw r = false) ∧ (∀ r ∈ O.take k, hid nw r = true → fnd m r = some (tN r)) ∧ (∀ r v, fnd m r = some v → r ∈ O.take k ∧ hid nw r = true) ∧ PoolAt H' p ∧ But3 p d tl H1 H', ?_, ?_, ?_, ?_⟩
  · exact ⟨[], [], none, rfl, hd1, h1, by simp [KNd], by simp, by simp, by simp, by simp, by simp, fun r v h => (by cases h), p1, fun _ _ _ _ _ z => z⟩
  · intro k σ H' _ pr
    obtain ⟨_, _, _, _, _, _, _, _, _, _, _, _, _, _, b⟩ := pr
    exact SqL.of (b _ _ nop nod (Ne.symm nto) hol1)
  · intro k y σ H' hy pr
    obtain ⟨m, ts, x, rfl, hd', ht', hm, ml, tl0, tnd, tin, hh, hno, pp, b⟩ := pr
    rw [List.getElem?_map] at hy
    obtain ⟨r, hr0, rfl⟩ := Option.map_eq_some_iff.mp hy
    obtain ⟨hk, hkr⟩ := List.getElem?_eq_some_iff.mp hr0
    have htk := take_snoc' hr0
    have rnot : r ∉ O.take k := fun z => by
      have hnd := hOn
      rw [← List.take_append_drop (k + 1) O, htk, List.append_assoc] at hnd
      exact (List.nodup_append.mp hnd).2.2 r z r (by simp) rfl
    have up : ∀ {s : Key}, s ∈ O.take k → s ∈ O.take (k + 1) := fun h => by rw [htk]; exact List.mem_append_left _ h
    have upr : r ∈ O.take (k + 1) := by rw [htk]; simp
    have spl : ∀ {s : Key}, s ∈ O.take (k + 1) → s ∈ O.take k ∨ s = r := fun h => by rw [htk] at h; simpa using h
    show wL _ _ _ [some (.ref p), some (.ref ol), some (.int lv), some (.int (nw : Int)), some (.ref d), some (.ref tl), some (kV r), none, none] _
    cases r with
    | inr z =>
      have hf : hid nw (.inr z) = false := rfl
      show wL _ _ _ [some (.ref p), some (.ref ol), some (.int lv), some (.int (nw : Int)), some (.ref d), some (.ref tl), some (.str z), none, none] _
      refine l_cons (s_if (t_w (w_and (t_val ?_))))
      walk_at "sts"
      refine c_isi ty_str (.ty _) (kit_ty kb_str_int) ⟨_, rfl, iteF (iteF ?_)⟩
      refine l_cons (s_if (t_cmp (e_call (by exact FN) (by exact hr) (by decide) ?_)))
      walk_at "sts"
      refine ⟨p, 3, rfl, by decide, by decide, pp, fun d4 H4 _ _ b4 p4 => ?_⟩
      have hd4 := b4 _ _ (Ne.symm npd) hd'
      have ht4 := b4 _ _ ntp ht'
      walk_at "sts"
      refine if2 (fun _ => ?_) (fun _ => ?_)
      · refine l_cons (s_expr (e_app ?_))
        refine e_var ⟨tl, _, rfl, SqL.of ht4, ?_⟩
        refine e_var ⟨_, ht4, by rw [List.length_map]; show _ < 2 ^ 24; omega, ?_⟩
        refine l_nil (l_nil (l_nil ⟨m, ts ++ [Sum.inr z], _, rfl, by rw [upd_ne (Ne.symm ntd)]; exact hd4, by rw [List.map_append]; exact upd_same, hm, by omega, by rw [List.length_append]; simp only [List.length_cons, List.length_nil]; omega, ?_, ?_, ?_, ?_, ?_, ?_⟩))
        · rw [List.nodup_append]
          exact ⟨tnd, by simp, fun s hs s2 hs2 => by rw [List.mem_singleton.mp hs2]; intro z; subst z; exact rnot (tin _ hs).1⟩
        · intro s hs
          rcases List.mem_append.mp hs with hs | hs
          · exact ⟨up (tin s hs).1, (tin s hs).2⟩
          · rw [List.mem_singleton.mp hs]; exact ⟨upr, hf⟩
        · intro s hs h1
          rcases spl hs with hs | rfl
          · exact hh s hs h1
          · rw [hf] at h1; cases h1
        · exact fun s v h => ⟨up (hno s v h).1, (hno s v h).2⟩
        · obtain ⟨x1, x2, x3, e⟩ := p4
          exact ⟨x1, x2, x3, by rw [upd_ne (Ne.symm ntp)]; exact e⟩
        · intro c o c1 c2 c3 hc
          rw [upd_ne c3]
          exact b4 _ _ c1 (b _ _ c1 c2 c3 hc)
      · refine l_nil (l_nil (l_nil ⟨m, ts, _, rfl, hd4, ht4, hm, by omega, by omega, tnd, fun s hs => ⟨up (tin s hs).1, (tin s hs).2⟩, ?_, fun s v h => ⟨up (hno s v h).1, (hno s v h).2⟩, p4, fun c o c1 c2 c3 hc => b4 _ _ c1 (b _ _ c1 c2 c3 hc)⟩))
        intro s hs h1
        rcases spl hs with hs | rfl
        · exact hh s hs h1
        · rw [hf] at h1; cases h1
    | inl i =>
      obtain ⟨i0, i1⟩ := hOi i (List.mem_of_getElem? hr0)
      show wL _ _ _ [some (.ref p), some (.ref ol), some (.int lv), some (.int (nw : Int)), some (.ref d), some (.ref tl), some (.int i), none, none] _
      refine l_cons (s_if (t_w (w_and (t_val ?_))))
      walk_at "sts"
      refine c_isi ty_int (.ty _) (kit_ty kb_int_int) ⟨_, rfl, iteT (w_and1 (t_cmp ?_))⟩
      walk_at "sts"
      by_cases hi : (nw : Int) ≤ i
      · refine ifT hi ?_
        have hf : hid nw (.inl i) = true := decide_eq_true hi
        refine l_cons (s_dput (hu_of hr) (e_bin (e_str ?_)))
        refine e_callTy (x := "str") (by assumption) b_str ?_
        walk_at "sts"
        refine c_strI (log_small i0 i1) ?_
        have h2 := small_str i0 i1
        refine o_addS (Nat.le_trans (Nat.add_le_add (show Str.length (Str.ofString "t") ≤ 1 by decide +kernel) h2) (by decide)) ?_
        walk_at "sts"
        refine ⟨d, _, rfl, .inl ⟨_, .inl i, hd', rfl, by rw [mK, List.length_map]; show _ < 2 ^ 24; omega, rfl⟩, ?_⟩
        have pl := put_len m (.inl i) (tN (.inl i))
        refine l_nil (l_nil ⟨putM m (.inl i) (tN (.inl i)), ts, _, rfl, by rw [← mK_put]; exact upd_same, by rw [upd_ne ntd]; exact ht', put_nd _ _ hm, by omega, by omega, tnd, fun s hs => ⟨up (tin s hs).1, (tin s hs).2⟩, ?_, ?_, ?_, ?_⟩)
        · intro s hs h1
          rw [fnd_put]
          by_cases e : s = Sum.inl i
          · rw [if_pos e, e]
          · rw [if_neg e]
            exact hh s ((spl hs).resolve_right e) h1
        · intro s v h
          rw [fnd_put] at h
          by_cases e : s = Sum.inl i
          · rw [e]; exact ⟨upr, hf⟩
          · rw [if_neg e] at h
            exact ⟨up (hno s v h).1, (hno s v h).2⟩
        · obtain ⟨x1, x2, x3, e⟩ := pp
          exact ⟨x1, x2, x3, by rw [upd_ne npd]; exact e⟩
        · intro c o c1 c2 c3 hc
          rw [upd_ne c2]
          exact b _ _ c1 c2 c3 hc
      · refine ifF hi ?_
        have hf : hid nw (.inl i) = false := decide_eq_false hi
        refine l_cons (s_if (t_cmp (e_call (by exact FN) (by exact hr) (by decide) ?_)))
        walk_at "sts"
        refine ⟨p, 3, rfl, by decide, by decide, pp, fun d4 H4 _ _ b4 p4 => ?_⟩
        have hd4 := b4 _ _ (Ne.symm npd) hd'
        have ht4 := b4 _ _ ntp ht'
        walk_at "sts"
        refine if2 (fun _ => ?_) (fun _ => ?_)
        · refine l_cons (s_expr (e_app ?_))
          refine e_var ⟨tl, _, rfl, SqL.of ht4, ?_⟩
          refine e_var ⟨_, ht4, by rw [List.length_map]; show _ < 2 ^ 24; omega, ?_⟩
          refine l_nil (l_nil (l_nil ⟨m, ts ++ [Sum.inl i], _, rfl, by rw [upd_ne (Ne.symm ntd)]; exact hd4, by rw [List.map_append]; exact upd_same, hm, by omega, by rw [List.length_append]; simp only [List.length_cons, List.length_nil]; omega, ?_, ?_, ?_, ?_, ?_, ?_⟩))
          · rw [List.nodup_append]
            exact ⟨tnd, by simp, fun s hs s2 hs2 => by rw [List.mem_singleton.mp hs2]; intro z; subst z; exact rnot (tin _ hs).1⟩
          · intro s hs
            rcases List.mem_append.mp hs with hs | hs
            · exact ⟨up (tin s hs).1, (tin s hs).2⟩
            · rw [List.mem_singleton.mp hs]; exact ⟨upr, hf⟩
          · intro s hs h1
            rcases spl hs with hs | rfl
            · exact hh s hs h1
            · rw [hf] at h1; cases h1
          · exact fun s v h => ⟨up (hno s v h).1, (hno s v h).2⟩
          · obtain ⟨x1, x2, x3, e⟩ := p4
            exact ⟨x1, x2, x3, by rw [upd_ne (Ne.symm ntp)]; exact e⟩
          · intro c o c1 c2 c3 hc
            rw [upd_ne c3]
            exact b4 _ _ c1 (b _ _ c1 c2 c3 hc)
        · refine l_nil (l_nil (l_nil ⟨m, ts, _, rfl, hd4, ht4, hm, by omega, by omega, tnd, fun s hs => ⟨up (tin s hs).1, (tin s hs).2⟩, ?_, fun s v h => ⟨up (hno s v h).1, (hno s v h).2⟩, p4, fun c o c1 c2 c3 hc => b4 _ _ c1 (b _ _ c1 c2 c3 hc)⟩))
          intro s hs h1
          rcases spl hs with hs | rfl
          · exact hh s hs h1
          · rw [hf] at h1; cases h1
  · intro σ H' pr
    obtain ⟨m, ts, x, rfl, hd', ht', hm, ml, tl0, tnd, tin, hh, hno, pp, b⟩ := pr
    rw [List.length_map, List.take_length] at *
    have hol' := b _ _ nop nod (Ne.symm nto) hol1
    refine l_cons (s_lcRf (by exact bk_ring0) (by assumption) ?_)
    walk_at "sts"
    refine ⟨by omega, fun D nD => ⟨fun k H2 => ∃ js : List Nat, H2 D = some (.lst (js.map fun (j : Nat) => V.int (j : Int))) ∧ (∀ j ∈ js, j < nw ∧ (Sum.inl (j : Int) : Key) ∉ O) ∧ js.length ≤ k ∧ Same H' H2, ⟨[], upd_same, by simp, by simp, fun c u hc => by rw [upd_ne (ne_of_none hc nD)]; exact hc⟩, ?_, ?_⟩⟩
    · intro k H2 hk pr
      obtain ⟨js, hD, hjs, hjl, e⟩ := pr
      intro s0 H0 C cl fp IB
      refine t_cmp (b_var (b_var ?_))
      refine o_nin (by exact SqL.of (e _ _ hol')) rfl (kVs_flat _) ⟨_, rfl, ?_⟩
      have hin := key_in (.inl (k : Int)) O
      by_cases hm0 : (Sum.inl (k : Int) : Key) ∈ O
      · rw [decide_eq_true hm0] at hin
        rw [show inV (V.int (k : Int)) (O.map kV) = true from hin]
        exact iteF ⟨js, hD, hjs, by omega, e⟩
      · rw [decide_eq_false hm0] at hin
        rw [show inV (V.int (k : Int)) (O.map kV) = false from hin]
        refine iteT ?_
        intro s0 H0 C cl fp IB
        refine b_var ⟨_, hD, by rw [List.length_map]; show _ < 2 ^ 24; omega, js ++ [k], by rw [List.map_append]; exact upd_same, ?_, by rw [List.length_append]; simp only [List.length_cons, List.length_nil]; omega, fresh_keep nD e⟩
        intro j hj
        rcases List.mem_append.mp hj with hj | hj
        · exact hjs j hj
        · rw [List.mem_singleton.mp hj]; exact ⟨hk, hm0⟩
    · intro H2 pr
      obtain ⟨js, hD, hjs, hjl, e⟩ := pr
      have hd2 := e _ _ hd'
      have ht2 := e _ _ ht'
      have p2 : PoolAt H2 p := let ⟨x, y, z, w⟩ := pp; ⟨x, y, z, e _ _ w⟩
      have nDp : D ≠ p := fun z => by subst z; obtain ⟨_, _, _, w⟩ := pp; rw [nD] at w; cases w
      have nDd : D ≠ d := fun z => by subst z; rw [nD] at hd'; cases hd'
      have nDt : D ≠ tl := fun z => by subst z; rw [nD] at ht'; cases ht'
      have nDH : H D = none := by
        cases hq : H D with
        | none => rfl
        | some u => have := b _ _ nDp nDd nDt (k1 _ _ hq); rw [nD] at this; cases this
      have b2 : But3 p d tl H1 H2 := fun c o c1 c2 c3 hc => e _ _ (b c o c1 c2 c3 hc)
      show wL _ _ _ [some (.ref p), some (.ref ol), some (.int lv), some (.int (nw : Int)), some (.ref d), some (.ref tl), x, none, some (.ref D)] _
      refine l_cons (s_forR (by assumption) ?_)
      walk_at "sts"
      refine c_lenL (by exact SqL.of ht2) ⟨(ts.map kV).length, rfl, by rw [List.length_map]; omega, fun k σ H3 => ∃ (m3 : Mp) (y : Option V), σ = [some (.ref p), some (.ref ol), some (.int lv), some (.int (nw : Int)), some (.ref d), some (.ref tl), x, y, some (.ref D)] ∧ H3 d = some (.dK (mK m3)) ∧ KNd m3 ∧ m3.length ≤ O.length + k ∧ (∀ r ∈ O, hid nw r = true → fnd m3 r = some (tN r)) ∧ (∀ (j : Nat) r, j < k → ts[j]? = some r → fnd m3 r = ts[(j + 1) % ts.length]?) ∧ (∀ r v, fnd m3 r = some v → (r ∈ O ∧ hid nw r = true) ∨ r ∈ ts) ∧ But d H2 H3, ⟨m, none, rfl, hd2, hm, by omega, hh, fun j r hj => absurd hj (by omega), fun r v h => .inl (hno r v h), fun _ _ _ z => z⟩, ?_, ?_⟩
      · intro k σ H3 hk pr
        obtain ⟨m3, y, rfl, hd3, hm3, ml3, h3a, h3b, h3c, b3⟩ := pr
        rw [List.length_map] at hk
        have ht3 := b3 _ _ ntd ht2
        have hkk : ts[k]? = some ts[k] := List.getElem?_eq_getElem hk
        have hmod : (k + 1) % ts.length < ts.length := Nat.mod_lt _ (by omega)
        have hk2 : ts[(k + 1) % ts.length]? = some ts[(k + 1) % ts.length] := List.getElem?_eq_getElem hmod
        show wL _ _ _ [some (.ref p), some (.ref ol), some (.int lv), some (.int (nw : Int)), some (.ref d), some (.ref tl), x, some (.int (k : Int)), some (.ref D)] _
        refine l_cons (s_dput (hu_of hr) (e_ix (e_var (e_bin ?_))))
        walk_at "sts"
        refine c_lenL (by exact SqL.of ht3) ?_
        rw [List.length_map]
        refine o_mod (by omega) ?_
        rw [show ((k : Int) + 1) % (ts.length : Int) = (((k + 1) % ts.length : Nat) : Int) by push_cast; rfl]
        refine ix_l (by exact SqL.of ht3) (atI_nat (v := kV ts[(k + 1) % ts.length]) (by rw [List.getElem?_map, hk2]; rfl)) ?_
        walk_at "sts"
        refine ix_l (by exact SqL.of ht3) (atI_nat (v := kV ts[k]) (by rw [List.getElem?_map, hkk]; rfl)) ?_
        refine ⟨d, _, rfl, .inl ⟨_, ts[k], hd3, rfl, by rw [mK, List.length_map]; show _ < 2 ^ 24; omega, rfl⟩, ?_⟩
        have pl := put_len m3 ts[k] ts[(k + 1) % ts.length]
        have hkt := tin ts[k] (List.getElem_mem hk)
        refine l_nil ⟨putM m3 ts[k] ts[(k + 1) % ts.length], _, rfl, by rw [mK_put]; exact upd_same, put_nd _ _ hm3, by omega, ?_, ?_, ?_, ?_⟩
        · intro r hrO hrh
          rw [fnd_put, if_neg (fun z => by rw [z, hkt.2] at hrh; cases hrh)]
          exact h3a r hrO hrh
        · intro j r hj hjr
          rw [fnd_put]
          by_cases ej : j = k
          · subst ej
            rw [hkk] at hjr
            cases hjr
            rw [if_pos rfl, hk2]
          · rw [if_neg]
            · exact h3b j r (by omega) hjr
            · intro z
              rw [z] at hjr
              obtain ⟨hj1, hj2⟩ := List.getElem?_eq_some_iff.mp hjr
              exact ej (nd_inj tnd _ _ hj1 hk hj2)
        · intro r v h
          rw [fnd_put] at h
          by_cases er : r = ts[k]
          · rw [er]; exact .inr (List.getElem_mem hk)
          · rw [if_neg er] at h
            exact h3c r v h
        · intro c o c1 hc
          rw [upd_ne c1]
          exact b3 _ _ c1 hc
      · intro σ H3 pr
        obtain ⟨m3, y, rfl, hd3, hm3, ml3, h3a, h3b, h3c, b3⟩ := pr
        rw [List.length_map] at h3b ml3
        have ht3 := b3 _ _ ntd ht2
        have hD3 := b3 _ _ nDd hD
        have p3 : PoolAt H3 p := let ⟨x, y, z, w⟩ := p2; ⟨x, y, z, b3 _ _ npd w⟩
        have bs : RBase O nw m3 ts := ⟨tnd, tin, h3a, fun j r hj => h3b j r (List.getElem?_eq_some_iff.mp hj).1 hj, h3c⟩
        have b03 : ∀ c o, c ≠ p → H c = some o → H3 c = some o := fun c o c1 hc =>
          b3 _ _ (fun z => by subst z; rw [nd0] at hc; cases hc) (b2 _ _ c1 (fun z => by subst z; rw [nd0] at hc; cases hc) (fun z => by subst z; rw [nH] at hc; cases hc) (k1 _ _ hc))
        have fin : ∀ (m4 : Mp) H4, H4 d = some (.dK (mK m4)) → KNd m4 → m4.length ≤ 2005 → Ring O nw m4 → PoolAt H4 p → (∀ c o, c ≠ p → H c = some o → H4 c = some o) → wL (cxOf CX0 P w K mg base N_ring "_law_ring" (defScope s_ring) f cdv A outer s H E).nox ((defBody s_ring).drop 6) { nx := fun _ H' => Q .non H', rt := Q } [some (.ref p), some (.ref ol), some (.int lv), some (.int (nw : Int)), some (.ref d), some (.ref tl), x, y, some (.ref D)] H4 := by
          intro m4 H4 g1 g2 g3 g4 g5 g6
          exact l_cons (s_ret (e_var (q d m4 H4 (fun c o c1 hc => g6 c o c1 hc) g5 nd0 g1 g2 g3 g4)))
        refine l_cons (s_if (t_w (w_and (t_tru (e_var ⟨_, tru_l ht3, ?_⟩)))))
        rcases List.eq_nil_or_concat ts with rfl | ⟨ts', r, ets⟩
        · exact iteF (iteF (l_nil (fin m3 H3 hd3 hm3 (by simp only [List.length_nil] at ml3; omega) ⟨[], .inl bs⟩ p3 b03)))
        · rw [List.concat_eq_append] at ets
          have hts3 : H3 tl = some (.lst (ts'.map kV ++ [kV r])) := by rw [ht3, ets, List.map_append]; rfl
          rw [show (!(ts.map kV).isEmpty) = true by rw [ets, List.map_append]; simp]
          refine iteT (w_and1 (t_cmp (e_call (by exact FN) (by exact hr) (by decide) ?_)))
          walk_at "sts"
          refine ⟨p, 2, rfl, by decide, by decide, p3, fun d4 H4 _ _ b4 p4 => ?_⟩
          have hd4 := b4 _ _ (Ne.symm npd) hd3
          have ht4 := b4 _ _ ntp hts3
          have hD4 := b4 _ _ nDp hD3
          have b04 : ∀ c o, c ≠ p → H c = some o → H4 c = some o := fun c o c1 hc => b4 _ _ c1 (b03 c o c1 hc)
          walk_at "sts"
          refine if2 (fun _ => ?_) (fun _ => l_nil (fin m3 H4 hd4 hm3 (by omega) ⟨ts, .inl bs⟩ p4 b04))
          refine l_cons (s_dput (hu_of hr) (e_bin (e_str ?_)))
          refine e_callTy (x := "str") (by assumption) b_str (a_cons (e_call (by exact FN) (by exact hr) (by decide) ?_))
          walk_at "sts"
          refine ⟨p, 10, rfl, by decide, by decide, p4, fun d5 H5 g0 g1 b5 p5 => ?_⟩
          have hd5 := b5 _ _ (Ne.symm npd) hd4
          have ht5 := b5 _ _ ntp ht4
          have hD5 := b5 _ _ nDp hD4
          have b05 : ∀ c o, c ≠ p → H c = some o → H5 c = some o := fun c o c1 hc => b5 _ _ c1 (b04 c o c1 hc)
          refine a_nil (c_strI (log_small g0 (by omega)) ?_)
          have h2 := small_str g0 (show d5 < 100 by omega)
          refine o_addS (Nat.le_trans (Nat.add_le_add (show Str.length (Str.ofString "u") ≤ 1 by decide +kernel) h2) (by decide)) ?_
          walk_at "sts"
          refine ix_l (by exact SqL.of ht5) (atI_last _ _) ?_
          refine ⟨d, _, rfl, .inl ⟨_, r, hd5, rfl, by rw [mK, List.length_map]; show _ < 2 ^ 24; omega, rfl⟩, ?_⟩
          have pl := put_len m3 r (uN d5)
          have hd6 : upd H5 d (.dK (putK (mK m3) r (V.str ("u" ++ (toString d5 : Str))))) d = some (.dK (mK (putM m3 r (uN d5)))) := by rw [← mK_put]; exact upd_same
          have nd6 := put_nd r (uN d5) hm3
          have hf6 : ∀ s, fnd (putM m3 r (uN d5)) s = if s = r then some (uN d5) else fnd m3 s := fun s => fnd_put m3 r (uN d5) s
          have b06 : ∀ c o, c ≠ p → H c = some o → upd H5 d (.dK (putK (mK m3) r (V.str ("u" ++ (toString d5 : Str))))) c = some o := fun c o c1 hc => by
            rw [upd_ne (fun z => by subst z; rw [nd0] at hc; cases hc)]
            exact b05 c o c1 hc
          have p6 : PoolAt (upd H5 d (.dK (putK (mK m3) r (V.str ("u" ++ (toString d5 : Str)))))) p := let ⟨x, y, z, w⟩ := p5; ⟨x, y, z, by rw [upd_ne npd]; exact w⟩
          have hD6 : upd H5 d (.dK (putK (mK m3) r (V.str ("u" ++ (toString d5 : Str))))) D = some (.lst (js.map fun (j : Nat) => V.int (j : Int))) := by rw [upd_ne nDd]; exact hD5
          have ht6 : upd H5 d (.dK (putK (mK m3) r (V.str ("u" ++ (toString d5 : Str))))) tl = some (.lst (ts'.map kV ++ [kV r])) := by rw [upd_ne ntd]; exact ht5
          generalize upd H5 d (.dK (putK (mK m3) r (V.str ("u" ++ (toString d5 : Str))))) = H6 at hd6 b06 p6 hD6 ht6 ⊢
          have ru : Ring O nw (putM m3 r (uN d5)) := ⟨ts, .inr ⟨m3, ts', r, uN d5, bs, ets, hf6, .inr ⟨d5, g0, g1, rfl⟩⟩⟩
          generalize putM m3 r (uN d5) = m6 at *
          refine l_cons (s_if (t_w (w_and (t_tru (e_var ⟨_, tru_l hD6, ?_⟩)))))
          cases js with
          | nil => exact iteF (iteF (l_nil (l_nil (fin m6 H6 hd6 nd6 (by omega) ru p6 b06))))
          | cons j0 js =>
            refine iteT (w_and1 (t_cmp (e_call (by exact FN) (by exact hr) (by decide) ?_)))
            walk_at "sts"
            refine ⟨p, 2, rfl, by decide, by decide, p6, fun d7 H7 _ _ b7 p7 => ?_⟩
            have hd7 := b7 _ _ (Ne.symm npd) hd6
            have ht7 := b7 _ _ ntp ht6
            have hD7 := b7 _ _ nDp hD6
            have b07 : ∀ c o, c ≠ p → H c = some o → H7 c = some o := fun c o c1 hc => b7 _ _ c1 (b06 c o c1 hc)
            walk_at "sts"
            refine if2 (fun _ => ?_) (fun _ => l_nil (l_nil (fin m6 H7 hd7 nd6 (by omega) ru p7 b07)))
            refine l_cons (s_dput (hu_of hr) (e_ix (e_var (e_call (by exact FN) (by exact hr) (by decide) ?_))))
            walk_at "sts"
            refine c_lenL (by exact SqL.of hD7) ?_
            walk_at "sts"
            refine ⟨p, (((j0 :: js).map fun (j : Nat) => V.int (j : Int)).length : Int), rfl, by simp only [List.length_map, List.length_cons]; omega, by simp only [List.length_map]; omega, p7, fun d8 H8 g8 g9 b8 p8 => ?_⟩
            have hd8 := b8 _ _ (Ne.symm npd) hd7
            have ht8 := b8 _ _ ntp ht7
            have hD8 := b8 _ _ nDp hD7
            have b08 : ∀ c o, c ≠ p → H c = some o → H8 c = some o := fun c o c1 hc => b8 _ _ c1 (b07 c o c1 hc)
            obtain ⟨a8, rfl⟩ : ∃ a8 : Nat, d8 = (a8 : Int) := ⟨d8.toNat, by omega⟩
            rw [List.length_map] at g9
            have ha8 : a8 < (j0 :: js).length := by omega
            have hj8 : (j0 :: js)[a8]? = some (j0 :: js)[a8] := List.getElem?_eq_getElem ha8
            obtain ⟨q1, q2⟩ := hjs _ (List.getElem_mem ha8)
            generalize (j0 :: js)[a8] = j8 at hj8 q1 q2
            refine ix_l (by exact SqL.of hD8) (atI_nat (v := V.int (j8 : Int)) (by rw [List.getElem?_map, hj8]; rfl)) ?_
            walk_at "sts"
            refine ix_l (by exact SqL.of ht8) (atI_last _ _) ?_
            refine ⟨d, _, rfl, .inl ⟨_, r, hd8, rfl, by rw [mK, List.length_map]; show _ < 2 ^ 24; omega, rfl⟩, ?_⟩
            have pl2 := put_len m6 r (.inl (j8 : Int))
            refine l_nil (l_nil (fin (putM m6 r (.inl (j8 : Int))) _ (by rw [← mK_put]; exact upd_same) (put_nd _ _ nd6) (by omega) ⟨ts, .inr ⟨m3, ts', r, .inl (j8 : Int), bs, ets, fun s => ?_, .inl ⟨j8, q1, rfl, q2⟩⟩⟩ ?_ ?_))
            · rw [fnd_put, hf6]
              by_cases e : s = r
              · rw [if_pos e, if_pos e]
              · rw [if_neg e, if_neg e, if_neg e]
            · obtain ⟨x1, x2, x3, w8⟩ := p8
              exact ⟨x1, x2, x3, by rw [upd_ne npd]; exact w8⟩
            · intro c o c1 hc
              rw [upd_ne (fun z => by subst z; rw [nd0] at hc; cases hc)]
              exact b08 c o c1 hc
end


@[elab_as_elim] theorem snoc_ind {α : Type} {motive : List α → Prop} (l : List α) (nil : motive []) (append_singleton : ∀ l a, motive l → motive (l ++ [a])) : motive l := by
  have gen : ∀ l : List α, motive l.reverse := fun l => by
    induction l with
    | nil => exact nil
    | cons a l ih => rw [List.reverse_cons]; exact append_singleton _ _ ih
  have := gen l.reverse
  rw [List.reverse_reverse] at this
  exact this
/-! ### the ring turns back -/
abbrev nms12 : List Str := ["x", "own", "left", "take", "h2", "cite", "once", "zz9", "k", "pay", "cut", "abcdefgh1234"]
def GoodR : Key → Prop
  | .inl i => 0 ≤ i
  | .inr z => z ∈ nms12
theorem names_ok : ∀ i j : Nat, i < 10 → j < 10 → (("t" : Str) ++ (toString (i : Int) : Str)) ∉ nms12 ∧ (("u" : Str) ++ (toString (i : Int) : Str)) ∉ nms12 ∧ (("t" : Str) ++ (toString (i : Int) : Str)) ≠ (("u" : Str) ++ (toString (j : Int) : Str)) ∧ ((("t" : Str) ++ (toString (i : Int) : Str)) = (("t" : Str) ++ (toString (j : Int) : Str)) → i = j) := by
  intro i j hi hj
  have all : ((List.range 10).all fun i => (List.range 10).all fun j => decide ((("t" : Str) ++ (toString ((i : Nat) : Int) : Str)) ∉ nms12 ∧ (("u" : Str) ++ (toString ((i : Nat) : Int) : Str)) ∉ nms12 ∧ (("t" : Str) ++ (toString ((i : Nat) : Int) : Str)) ≠ (("u" : Str) ++ (toString ((j : Nat) : Int) : Str)) ∧ ((("t" : Str) ++ (toString ((i : Nat) : Int) : Str)) = (("t" : Str) ++ (toString ((j : Nat) : Int) : Str)) → i = j))) = true := by decide +kernel
  rw [List.all_eq_true] at all
  have h1 := all i (List.mem_range.mpr hi)
  rw [List.all_eq_true] at h1
  exact of_decide_eq_true (h1 j (List.mem_range.mpr hj))
theorem lk_some {m : Mp} {r v : Key} (h : fnd m r = some v) : lk m r = v := by rw [lk, h]; rfl
theorem lk_none {m : Mp} {r : Key} (h : fnd m r = none) : lk m r = r := by rw [lk, h]; rfl
theorem hid_below {nw : Nat} {r : Key} (h : hid nw r = false) : below r nw = true := by
  cases r with
  | inr z => rfl
  | inl i => exact decide_eq_true (by have := of_decide_eq_false h; omega)
/-- what a reference is turned into -/
inductive Img (O : List Key) (nw : Nat) (m : Mp) (ts : List Key) (L : Option Key) : Key → Prop where
  | h {r} (o : r ∈ O) (i : hid nw r = true) (e : lk m r = tN r) : Img O nw m ts L r
  | s {r j} (o : ts[j]? = some r) (e : ts[(j + 1) % ts.length]? = some (lk m r)) (n : ∀ x, L = some x → lk m r ≠ x) : Img O nw m ts L r
  | c {r x j} (o : ts[j]? = some r) (hj : j + 1 = ts.length) (l : L = some x) (e : lk m r = x) : Img O nw m ts L r
  | n {r} (o : r ∉ ts) (i : hid nw r = false) (e : lk m r = r) : Img O nw m ts L r
structure RFact (O : List Key) (nw : Nat) (m : Mp) (ts : List Key) (L : Option Key) : Prop where
  tn : ts.Nodup
  ti : ∀ r ∈ ts, r ∈ O ∧ hid nw r = false
  im : ∀ r ∈ O, Img O nw m ts L r
  xl : ∀ x, L = some x → (∃ i : Nat, i < nw ∧ x = .inl (i : Int) ∧ x ∉ O) ∨ ∃ j, 0 ≤ j ∧ j < 10 ∧ x = uN j
  ke : ∀ r v, fnd m r = some v → r ∈ O
theorem good_t {O : List Key} {r : Key} (hO : ∀ r ∈ O, GoodR r ∧ below r 10 = true) (h : r ∈ O) {nw : Nat} (i : hid nw r = true) : ∃ k : Nat, k < 10 ∧ r = .inl (k : Int) ∧ tN r = .inr (("t" : Str) ++ (toString (k : Int) : Str)) := by
  cases r with
  | inr z => cases i
  | inl k =>
    obtain ⟨h1, h2⟩ := hO _ h
    have h3 : k < 10 := of_decide_eq_true h2
    obtain ⟨j, rfl⟩ := Int.eq_ofNat_of_zero_le (show 0 ≤ k from h1)
    exact ⟨j, by omega, rfl, rfl⟩
theorem t_notin {O : List Key} {r : Key} (hO : ∀ r ∈ O, GoodR r ∧ below r 10 = true) (h : r ∈ O) {nw : Nat} (i : hid nw r = true) : tN r ∉ O := fun z => by
  obtain ⟨k, hk, rfl, e⟩ := good_t hO h i
  rw [e] at z
  exact (names_ok k 0 hk (by omega)).1 (hO _ z).1
theorem u_notin {O : List Key} (hO : ∀ r ∈ O, GoodR r ∧ below r 10 = true) {j : Int} (h0 : 0 ≤ j) (h1 : j < 10) : uN j ∉ O := fun z => by
  obtain ⟨k, rfl⟩ := Int.eq_ofNat_of_zero_le h0
  exact (names_ok k 0 (by omega) (by omega)).2.1 (hO _ z).1
theorem ring_fact {O : List Key} {nw : Nat} {m : Mp} (hO : ∀ r ∈ O, GoodR r ∧ below r 10 = true) (R : Ring O nw m) : ∃ ts L, RFact O nw m ts L := by
  obtain ⟨ts, B | ⟨m0, ts', r, x, B, ets, hf, hx⟩⟩ := R
  · refine ⟨ts, none, B.tn, B.ti, fun r hr => ?_, fun x hx => (by cases hx), fun r v h => (B.no r v h).elim And.left fun h => (B.ti r h).1⟩
    cases hh : hid nw r with
    | true => exact .h hr hh (lk_some (B.hi r hr hh))
    | false =>
      by_cases ht : r ∈ ts
      · obtain ⟨j, hj, e⟩ := List.mem_iff_getElem.mp ht
        have e1 : ts[j]? = some r := by rw [List.getElem?_eq_getElem hj, e]
        have e2 := B.tu j r e1
        have hm : (j + 1) % ts.length < ts.length := Nat.mod_lt _ (by omega)
        rw [List.getElem?_eq_getElem hm] at e2
        refine .s e1 ?_ fun x hx => by cases hx
        rw [List.getElem?_eq_getElem hm, lk_some e2]
      · refine .n ht hh (lk_none ?_)
        cases hq : fnd m r with
        | none => rfl
        | some v =>
          rcases B.no r v hq with h | h
          · rw [hh] at h; cases h.2
          · exact absurd h ht
  · have hrt : r ∈ ts := by rw [ets]; simp
    have xO : x ∉ O := by
      rcases hx with ⟨i, _, _, h⟩ | ⟨j, h0, h1, rfl⟩
      · exact h
      · exact u_notin hO h0 h1
    have hrl : ts[ts.length - 1]? = some r := by rw [ets]; simp
    refine ⟨ts, some x, B.tn, B.ti, fun s hs => ?_, fun y hy => by cases hy; exact hx, fun s v h => ?_⟩
    · cases hh : hid nw s with
      | true =>
        refine .h hs hh (lk_some ?_)
        rw [hf, if_neg (fun z => by rw [z, (B.ti r hrt).2] at hh; cases hh)]
        exact B.hi s hs hh
      | false =>
        by_cases ht : s ∈ ts
        · by_cases e : s = r
          · subst e
            refine .c (j := ts.length - 1) hrl (by rw [ets]; simp) rfl (lk_some ?_)
            rw [hf, if_pos rfl]
          · obtain ⟨j, hj, e0⟩ := List.mem_iff_getElem.mp ht
            have e1 : ts[j]? = some s := by rw [List.getElem?_eq_getElem hj, e0]
            have e2 := B.tu j s e1
            have hm : (j + 1) % ts.length < ts.length := Nat.mod_lt _ (by omega)
            rw [List.getElem?_eq_getElem hm] at e2
            have e3 : lk m s = ts[(j + 1) % ts.length] := lk_some (by rw [hf, if_neg e]; exact e2)
            refine .s e1 ?_ fun y hy z => ?_
            · rw [List.getElem?_eq_getElem hm, e3]
            · cases hy
              apply xO
              rw [← z, e3]
              exact (B.ti _ (List.getElem_mem hm)).1
        · refine .n ht hh (lk_none ?_)
          rw [hf, if_neg (fun z => ht (by rw [z]; exact hrt))]
          cases hq : fnd m0 s with
          | none => rfl
          | some v =>
            rcases B.no s v hq with h | h
            · rw [hh] at h; cases h.2
            · exact absurd h ht
    · rw [hf] at h
      by_cases e : s = r
      · rw [e]; exact (B.ti r hrt).1
      · rw [if_neg e] at h
        exact (B.no s v h).elim And.left fun h => (B.ti s h).1
theorem get_inj {ts : List Key} (hn : ts.Nodup) {i j : Nat} {r : Key} (h1 : ts[i]? = some r) (h2 : ts[j]? = some r) : i = j := by
  obtain ⟨a1, a2⟩ := List.getElem?_eq_some_iff.mp h1
  obtain ⟨b1, b2⟩ := List.getElem?_eq_some_iff.mp h2
  exact nd_inj hn i j a1 b1 (a2.trans b2.symm)
theorem mod_inj {n j k : Nat} (hj : j < n) (hk : k < n) (h : (j + 1) % n = (k + 1) % n) : j = k := by
  have a : ∀ x, x < n → (x + 1) % n = if x + 1 = n then 0 else x + 1 := fun x hx => by
    by_cases e : x + 1 = n
    · rw [if_pos e, e, Nat.mod_self]
    · rw [if_neg e, Nat.mod_eq_of_lt (by omega)]
  rw [a j hj, a k hk] at h
  split at h <;> split at h <;> omega
theorem ring_inj {O : List Key} {nw : Nat} {m : Mp} (hO : ∀ r ∈ O, GoodR r ∧ below r 10 = true) (R : Ring O nw m) : ∀ r ∈ O, ∀ s ∈ O, lk m r = lk m s → r = s := by
  obtain ⟨ts, L, F⟩ := ring_fact hO R
  have xO : ∀ x, L = some x → x ∉ O := fun x hx => by
    rcases F.xl x hx with ⟨i, _, _, h⟩ | ⟨j, h0, h1, rfl⟩
    · exact h
    · exact u_notin hO h0 h1
  have tO : ∀ {j : Nat} {r : Key}, ts[j]? = some r → r ∈ ts := fun h => List.mem_of_getElem? h
  intro r hr s hs e
  cases F.im r hr with
  | h o i e1 =>
    have no := t_notin hO hr i
    rw [e1] at e
    cases F.im s hs with
    | h o2 i2 e2 =>
      rw [e2] at e
      obtain ⟨k, hk, rfl, ek⟩ := good_t hO hr i
      obtain ⟨l, hl, rfl, el⟩ := good_t hO hs i2
      rw [ek, el] at e
      rw [(names_ok k l hk hl).2.2.2 (Sum.inr.inj e)]
    | s o2 e2 n2 => rw [← e] at e2; exact absurd (F.ti _ (tO e2)).1 no
    | c o2 j2 l2 e2 =>
      rw [e2] at e
      obtain ⟨k, hk, rfl, ek⟩ := good_t hO hr i
      rw [ek] at e
      rcases F.xl _ l2 with ⟨i, _, h, _⟩ | ⟨j, h0, h1, h⟩
      · rw [h] at e; cases e
      · rw [h] at e
        obtain ⟨l, rfl⟩ := Int.eq_ofNat_of_zero_le h0
        exact absurd (Sum.inr.inj e) (names_ok k l hk (by omega)).2.2.1
    | n o2 i2 e2 => rw [e2] at e; rw [e] at no; exact absurd hs no
  | s o e1 n1 =>
    cases F.im s hs with
    | h o2 i2 e2 =>
      have no := t_notin hO hs i2
      rw [e2] at e
      rw [e] at e1
      exact absurd (F.ti _ (tO e1)).1 no
    | s o2 e2 n2 =>
      rw [← e] at e2
      have hm := get_inj F.tn e1 e2
      have := mod_inj (List.getElem?_eq_some_iff.mp o).1 (List.getElem?_eq_some_iff.mp o2).1 hm
      subst this
      rw [o] at o2
      exact Option.some.inj o2
    | c o2 j2 l2 e2 => exact absurd (e.trans e2) (n1 _ l2)
    | n o2 i2 e2 => rw [e, e2] at e1; exact absurd (tO e1) o2
  | c o hj l e1 =>
    rw [e1] at e
    cases F.im s hs with
    | h o2 i2 e2 =>
      rw [e2] at e
      obtain ⟨k, hk, rfl, ek⟩ := good_t hO hs i2
      rw [ek] at e
      rcases F.xl _ l with ⟨i, _, h, _⟩ | ⟨j, h0, h1, h⟩
      · rw [h] at e; cases e
      · rw [h] at e
        obtain ⟨l, rfl⟩ := Int.eq_ofNat_of_zero_le h0
        exact absurd (Sum.inr.inj e).symm (names_ok k l hk (by omega)).2.2.1
    | s o2 e2 n2 => exact absurd e.symm (n2 _ l)
    | c o2 j2 l2 e2 =>
      have : _ = _ := hj.trans j2.symm
      have hjj := Nat.add_right_cancel this
      subst hjj
      rw [o] at o2
      exact Option.some.inj o2
    | n o2 i2 e2 => rw [e2] at e; exact absurd hs (by rw [← e]; exact xO _ l)
  | n o i e1 =>
    rw [e1] at e
    cases F.im s hs with
    | h o2 i2 e2 => exact absurd (show tN s ∈ O by rw [← e2, ← e]; exact hr) (t_notin hO hs i2)
    | s o2 e2 n2 => rw [← e] at e2; exact absurd (tO e2) o
    | c o2 j2 l2 e2 => rw [e2] at e; exact absurd hr (by rw [e]; exact xO _ l2)
    | n o2 i2 e2 => rw [e2] at e; exact e
theorem ring_below {O : List Key} {nw : Nat} {m : Mp} (hO : ∀ r ∈ O, GoodR r ∧ below r 10 = true) (R : Ring O nw m) : ∀ r ∈ O, below (lk m r) nw = true := by
  obtain ⟨ts, L, F⟩ := ring_fact hO R
  intro r hr
  cases F.im r hr with
  | h o i e =>
    obtain ⟨k, hk, rfl, ek⟩ := good_t hO hr i
    rw [e, ek]; rfl
  | s o e n => exact hid_below (F.ti _ (List.mem_of_getElem? e)).2
  | c o j l e =>
    rw [e]
    rcases F.xl _ l with ⟨i, hi, h, _⟩ | ⟨j, h0, h1, h⟩
    · rw [h]; exact decide_eq_true (by omega)
    · rw [h]; rfl
  | n o i e => rw [e]; exact hid_below i
theorem ring_keys {O : List Key} {nw : Nat} {m : Mp} (hO : ∀ r ∈ O, GoodR r ∧ below r 10 = true) (R : Ring O nw m) : ∀ r v, fnd m r = some v → r ∈ O := by
  obtain ⟨ts, L, F⟩ := ring_fact hO R
  exact F.ke
/-- the names turned back -/
def backM (l : Mp) : Mp := l.foldl (fun b p => putM b p.2 p.1) []
theorem backM_snoc (l : Mp) (p : Key × Key) : backM (l ++ [p]) = putM (backM l) p.2 p.1 := by unfold backM; rw [List.foldl_append]; rfl
theorem backM_some : ∀ (l : Mp) {v r : Key}, fnd (backM l) v = some r → (r, v) ∈ l := by
  intro l
  induction l using snoc_ind with
  | nil => intro v r h; cases h
  | append_singleton l p ih =>
    intro v r h
    rw [backM_snoc, fnd_put] at h
    by_cases e : v = p.2
    · rw [if_pos e] at h
      cases h
      rw [e]
      exact List.mem_append_right _ (List.mem_singleton.mpr rfl)
    · rw [if_neg e] at h
      exact List.mem_append_left _ (ih h)
theorem backM_mem : ∀ (l : Mp) {v r : Key}, (r, v) ∈ l → ∃ r', fnd (backM l) v = some r' := by
  intro l
  induction l using snoc_ind with
  | nil => intro v r h; cases h
  | append_singleton l p ih =>
    intro v r h
    rw [backM_snoc, fnd_put]
    by_cases e : v = p.2
    · rw [if_pos e]; exact ⟨_, rfl⟩
    · rw [if_neg e]
      rcases List.mem_append.mp h with h | h
      · exact ih h
      · exact absurd (by rw [← List.mem_singleton.mp h]) e
theorem backM_nd (l : Mp) : KNd (backM l) := by
  induction l using snoc_ind with
  | nil => simp [backM, KNd]
  | append_singleton l p ih => rw [backM_snoc]; exact put_nd _ _ ih
theorem backM_len (l : Mp) : (backM l).length ≤ l.length := by
  induction l using snoc_ind with
  | nil => simp [backM]
  | append_singleton l p ih =>
    rw [backM_snoc, List.length_append]
    have := put_len (backM l) p.2 p.1
    simp only [List.length_cons, List.length_nil]
    omega
theorem back_lk {O : List Key} {nw : Nat} {m : Mp} (hO : ∀ r ∈ O, GoodR r ∧ below r 10 = true) (hm : KNd m) (R : Ring O nw m) : ∀ r ∈ O, lk (backM m) (lk m r) = r := by
  intro r hr
  have inj := ring_inj hO R
  have ke := ring_keys hO R
  cases h : fnd m r with
  | some v =>
    rw [lk_some h]
    obtain ⟨r', h'⟩ := backM_mem m (fnd_mem h)
    rw [lk_some h']
    have h2 := fnd_of_mem hm (backM_some m h')
    exact inj r' (ke _ _ h2) r hr (by rw [lk_some h2, lk_some h])
  | none =>
    rw [lk_none h]
    refine lk_none ?_
    cases h' : fnd (backM m) r with
    | none => rfl
    | some r' =>
      have h2 := fnd_of_mem hm (backM_some m h')
      have := inj r' (ke _ _ h2) r hr (by rw [lk_some h2, lk_none h])
      rw [this, h] at h2
      cases h2
/-! ### trees -/
theorem addR_mem {l : List Key} {r s : Key} : s ∈ addR l r ↔ s ∈ l ∨ s = r := by
  unfold addR
  split
  · exact ⟨.inl, fun h => h.elim id fun h => by rw [h]; assumption⟩
  · rw [List.mem_append, List.mem_singleton]
theorem addR_nd {l : List Key} {r : Key} (h : l.Nodup) : (addR l r).Nodup := by
  unfold addR
  split
  · exact h
  · rename_i hn
    rw [List.nodup_append]
    exact ⟨h, by simp, fun x hx y hy => by rw [List.mem_singleton.mp hy]; intro z; rw [z] at hx; exact hn hx⟩
theorem refsB_nd (lv : Int) (hs : List Hd) : (refsB lv hs).Nodup := by
  induction hs using snoc_ind with
  | nil => simp [refsB]
  | append_singleton hs h ih =>
    rw [refsB_snoc]
    cases refB lv h with
    | none => exact ih
    | some r => exact addR_nd ih
theorem refsB_mem {lv : Int} {hs : List Hd} {r : Key} : r ∈ refsB lv hs ↔ ∃ h ∈ hs, refB lv h = some r := by
  induction hs using snoc_ind with
  | nil => simp [refsB]
  | append_singleton hs h ih =>
    rw [refsB_snoc]
    cases hq : refB lv h with
    | none =>
      show r ∈ refsB lv hs ↔ _
      rw [ih]
      constructor
      · rintro ⟨x, hx, e⟩; exact ⟨x, List.mem_append_left _ hx, e⟩
      · rintro ⟨x, hx, e⟩
        rcases List.mem_append.mp hx with hx | hx
        · exact ⟨x, hx, e⟩
        · rw [List.mem_singleton.mp hx, hq] at e; cases e
    | some s =>
      show r ∈ addR (refsB lv hs) s ↔ _
      rw [addR_mem, ih]
      constructor
      · rintro (⟨x, hx, e⟩ | rfl)
        · exact ⟨x, List.mem_append_left _ hx, e⟩
        · exact ⟨h, by simp, hq⟩
      · rintro ⟨x, hx, e⟩
        rcases List.mem_append.mp hx with hx | hx
        · exact .inl ⟨x, hx, e⟩
        · rw [List.mem_singleton.mp hx, hq] at e; cases e; exact .inr rfl
theorem refB_map {O : List Key} {lv nw : Int} {m : Mp} {h : Hd} (hO : ∀ r, refB lv h = some r → r ∈ O) (hb : ∀ r ∈ O, below (lk m r) nw = true) : refB nw (mvH m lv nw h) = (refB lv h).map (lk m) := by
  obtain ⟨k, r, f⟩ := h
  cases r with
  | none => rfl
  | some r =>
    have e1 : refB nw (mvH m lv nw ⟨k, some r, f⟩) = if below (mvR m lv nw r) nw = true then some (mvR m lv nw r) else none := rfl
    have e2 : refB lv ⟨k, some r, f⟩ = if below r lv = true then some r else none := rfl
    rw [e1, e2]
    cases h : below r lv with
    | true =>
      have hr := hO r (by rw [e2, h]; rfl)
      have e3 : mvR m lv nw r = lk m r := by rw [mvR, h]; rfl
      rw [e3, hb r hr]
      rfl
    | false =>
      cases r with
      | inr z => cases h
      | inl i =>
        have h' := of_decide_eq_false h
        have e3 : mvR m lv nw (.inl i) = .inl (i + nw - lv) := by rw [mvR, h]; rfl
        have e4 : below (.inl (i + nw - lv)) nw = false := decide_eq_false (by omega)
        rw [e3, e4]
        rfl
theorem addR_map {O : List Key} {f : Key → Key} (inj : ∀ r ∈ O, ∀ s ∈ O, f r = f s → r = s) {l : List Key} {r : Key} (hl : ∀ s ∈ l, s ∈ O) (hr : r ∈ O) : addR (l.map f) (f r) = (addR l r).map f := by
  unfold addR
  by_cases h : r ∈ l
  · rw [if_pos h, if_pos (List.mem_map.mpr ⟨r, h, rfl⟩)]
  · rw [if_neg h, if_neg, List.map_append]
    · rfl
    · intro z
      obtain ⟨s, hs, e⟩ := List.mem_map.mp z
      exact h (by rw [← inj s (hl s hs) r hr e]; exact hs)
theorem refsB_map {O : List Key} {lv nw : Int} {m : Mp} (inj : ∀ r ∈ O, ∀ s ∈ O, lk m r = lk m s → r = s) (hb : ∀ r ∈ O, below (lk m r) nw = true) (hs : List Hd) (hO : ∀ h ∈ hs, ∀ r, refB lv h = some r → r ∈ O) :
    refsB nw (hs.map (mvH m lv nw)) = (refsB lv hs).map (lk m) := by
  induction hs using snoc_ind with
  | nil => rfl
  | append_singleton hs h ih =>
    have ih := ih fun x hx => hO x (List.mem_append_left _ hx)
    rw [List.map_append, show [h].map (mvH m lv nw) = [mvH m lv nw h] from rfl, refsB_snoc, refsB_snoc, refB_map (hO h (by simp)) hb, ih]
    cases hq : refB lv h with
    | none => rfl
    | some r =>
      refine addR_map inj (fun s hs2 => ?_) (hO h (by simp) r hq)
      obtain ⟨x, hx, e⟩ := refsB_mem.mp hs2
      exact hO x (List.mem_append_left _ hx) s e
theorem map_back {g g' : Hd → Hd} : ∀ {t : Tr}, (∀ h ∈ hds t, g' (g h) = h) → (t.map g).map g' = t
  | .le h, e => by show Tr.le (g' (g h)) = _; rw [e h (by simp [hds])]
  | .un h a, e => by
    show Tr.un (g' (g h)) ((a.map g).map g') = _
    rw [e h (by simp [hds]), map_back fun x hx => e x (by simp [hds, hx])]
  | .bi h a b, e => by
    show Tr.bi (g' (g h)) ((a.map g).map g') ((b.map g).map g') = _
    rw [e h (by simp [hds]), map_back fun x hx => e x (by simp [hds, hx]), map_back fun x hx => e x (by simp [hds, hx])]
theorem head_back {O : List Key} {lv : Int} {nw : Nat} {m : Mp} (hO : ∀ r ∈ O, GoodR r ∧ below r 10 = true) (hm : KNd m) (R : Ring O nw m) {h : Hd} (hh : ∀ r, refB lv h = some r → r ∈ O) : mvH (backM m) nw lv (mvH m lv nw h) = h := by
  obtain ⟨k, r, f⟩ := h
  cases r with
  | none => rfl
  | some r =>
    show (⟨k, some (mvR (backM m) nw lv (mvR m lv nw r)), f⟩ : Hd) = ⟨k, some r, f⟩
    have e2 : refB lv ⟨k, some r, f⟩ = if below r lv = true then some r else none := rfl
    have : mvR (backM m) nw lv (mvR m lv nw r) = r := by
      cases h : below r lv with
      | true =>
        have hr := hh r (by rw [e2, h]; rfl)
        have e3 : mvR m lv nw r = lk m r := by rw [mvR, h]; rfl
        rw [e3, mvR, ring_below hO R r hr]
        exact back_lk hO hm R r hr
      | false =>
        cases r with
        | inr z => cases h
        | inl i =>
          have h' := of_decide_eq_false h
          have e3 : mvR m lv nw (.inl i) = .inl (i + nw - lv) := by rw [mvR, h]; rfl
          have e4 : below (.inl (i + nw - lv)) nw = false := decide_eq_false (by omega)
          rw [e3, mvR, e4]
          show Sum.inl (i + nw - lv + lv - nw) = _
          congr 1
          omega
    rw [this]


/-! ### derivations drawn -/
def WayAt (H : Hp) (wa p : Addr) : Prop := ∃ n : Int, H wa = some (.dK [(Sum.inr "pool", .ref p), (Sum.inr "offers", .int n)])
structure Fr (p wa : Addr) (H H' : Hp) : Prop where
  bt : But2 p wa H H'
  pl : PoolAt H' p
  wy : WayAt H' wa p
theorem PoolAt.same {H H' : Hp} {p : Addr} (h : PoolAt H p) (e : Same H H') : PoolAt H' p := let ⟨x, y, z, w⟩ := h; ⟨x, y, z, e _ _ w⟩
theorem WayAt.same {H H' : Hp} {wa p : Addr} (h : WayAt H wa p) (e : Same H H') : WayAt H' wa p := let ⟨n, w⟩ := h; ⟨n, e _ _ w⟩
theorem Fr.same {p wa : Addr} {H H1 H2 : Hp} (f : Fr p wa H H1) (e : Same H1 H2) : Fr p wa H H2 := ⟨fun c o c1 c2 hc => e _ _ (f.bt c o c1 c2 hc), f.pl.same e, f.wy.same e⟩
theorem Fr.next {p wa : Addr} {H H1 H2 : Hp} (f : Fr p wa H H1) (n : wa ≠ p) (b : But p H1 H2) (h : PoolAt H2 p) : Fr p wa H H2 := ⟨fun c o c1 c2 hc => b _ _ c1 (f.bt c o c1 c2 hc), h, let ⟨k, w⟩ := f.wy; ⟨k, b _ _ n w⟩⟩
theorem Fr.trans {p wa : Addr} {H H1 H2 : Hp} (f : Fr p wa H H1) (g : Fr p wa H1 H2) : Fr p wa H H2 := ⟨fun c o c1 c2 hc => g.bt c o c1 c2 (f.bt c o c1 c2 hc), g.pl, g.wy⟩
theorem Fr.refl {p wa : Addr} {H : Hp} (h : PoolAt H p) (w : WayAt H wa p) : Fr p wa H H := ⟨fun _ _ _ _ z => z, h, w⟩
theorem Fr.ts {p wa : Addr} {H H' : Hp} (f : Fr p wa H H') (h : PoolAt H p) (w : WayAt H wa p) : TS H H' := fun c xs hc =>
  f.bt c _ (fun z => by subst z; obtain ⟨_, _, _, e⟩ := h; rw [hc] at e; cases e) (fun z => by subst z; obtain ⟨_, e⟩ := w; rw [hc] at e; cases e) hc
theorem WayAt.ne {H : Hp} {wa p : Addr} (w : WayAt H wa p) (h : PoolAt H p) : wa ≠ p := fun z => by
  subst z
  obtain ⟨_, e⟩ := w
  obtain ⟨_, _, _, e2⟩ := h
  rw [e] at e2
  cases e2
def GoodT (t : Tr) : Prop := t.Ok ∧ ∀ h ∈ hds t, ∀ r, h.r = some r → GoodR r
theorem nm_at {j : Nat} (h : j < 12) : ∃ z : Str, ([V.str "x", V.str "own", V.str "left", V.str "take", V.str "h2", V.str "cite", V.str "once", V.str "zz9", V.str "k", V.str "pay", V.str "cut", V.str "abcdefgh1234"] : List V)[j]? = some (.str z) ∧ z ∈ nms12 := by
  have hl : j < nms12.length := h
  refine ⟨nms12[j], ?_, List.getElem_mem hl⟩
  show (nms12.map V.str)[j]? = _
  rw [List.getElem?_map, List.getElem?_eq_getElem hl]
  rfl
section
variable {P : Program} {w : World} {K : PySem.W.Frag} {mg : Str → Option Value} {base : Heap}
def ModeF (f : Fd) : Prop := f = .s "once" ∨ ∃ a b, f = .p a b ∧ 1 ≤ a ∧ a ≤ 3
def spMode : Sp := fun vs H Q _ => ∃ p room, vs = [.ref p, .int room] ∧ PoolAt H p ∧ ∀ f v H', But p H H' → PoolAt H' p → FdV H' f v → ModeF f → Q v H'
theorem ok_mode (T : Top K mg "_law_mode" s_mode) (FN : Fn P w K mg base 1 "_law_next" spNext) : Fn P w K mg base 2 "_law_mode" spMode := by
  refine fn_ok T sc_mode so_mode (fun vs H Q E h => by obtain ⟨p, room, rfl, _⟩ := h; rfl) (fun _ _ _ _ _ _ us hl => match us, hl with | [_, _], _ => rfl) fun f cdv A outer s H vs Q E hr h nd => ?_
  obtain ⟨p, room, rfl, hp, q⟩ := h
  refine l_cons (s_set (e_tup (a_cons (e_bin (e_int (e_call (by exact FN) (by exact hr) (by decide) ?_))))))
  walk_at "sts"
  refine ⟨p, 3, rfl, by decide, by decide, hp, fun d0 H0 a0 a1 b0 p0 => ?_⟩
  walk_at "sts"
  refine e_call (by exact FN) (by exact hr) (by decide) ?_
  walk_at "sts"
  refine ⟨p, 4, rfl, by decide, by decide, p0, fun d1 H1 c0 c1 b1 p1 => ?_⟩
  walk_at "sts"
  refine ⟨by show 2 ≤ sizeLine; decide, fun t H2 e2 n2 h2 => ?_⟩
  have b2 : But p H H2 := fun c o nc hc => e2 _ _ (b1 _ _ nc (b0 _ _ nc hc))
  have p2 := p1.same e2
  have ntp : t ≠ p := fun z => by subst z; obtain ⟨_, _, _, e⟩ := p1; rw [n2] at e; cases e
  show wL _ _ _ [some (.ref p), some (.int room), some (.ref t)] _
  refine l_cons (s_if (t_w (w_or (t_cmp (e_call (by exact FN) (by exact hr) (by decide) ?_)))))
  walk_at "sts"
  refine ⟨p, 2, rfl, by decide, by decide, p2, fun d3 H3 _ _ b3 p3 => ?_⟩
  have b03 := b2.trans b3
  have h3 := b3 _ _ ntp h2
  walk_at "sts"
  have no : ∀ Q2 : VK, (Q2 = Q) → Q2 (.str "once") H3 := fun Q2 e => by rw [e]; exact q (.s "once") _ H3 b03 p3 rfl (.inl rfl)
  refine if2 (fun _ => ?_) (fun _ => ?_)
  · walk_at "sts"
    exact no Q rfl
  · walk_at "sts"
    refine ix_t (by exact SqT.of h3) at0 ?_
    walk_at "sts"
    refine if2 (fun _ => ?_) (fun _ => ?_)
    · walk_at "sts"
      exact no Q rfl
    · walk_at "sts"
      exact q (.p (1 + d0) d1) _ H3 b03 p3 ⟨t, rfl, h3⟩ (.inr ⟨_, _, rfl, by omega, by omega⟩)
def spDraw (n : Nat) : Sp := fun vs H Q _ => ∃ wa p many lv room, vs = [.ref wa, .int ((many : Nat) : Int), .int lv, .int room] ∧ WayAt H wa p ∧ PoolAt H p ∧ 1 ≤ many ∧ many ≤ n ∧ 0 ≤ lv ∧ lv + many ≤ 1000 ∧ ∀ v t H', Fr p wa H H' → TrV H' t v → GoodT t → t.size ≤ many → Q v H'
def spOne (n : Nat) : Sp := fun vs H Q _ => ∃ wa p many lv room z r wh, vs = [.ref wa, .int ((many : Nat) : Int), .int lv, .int room, .str z, kV r, .int ((wh : Nat) : Int)] ∧ WayAt H wa p ∧ PoolAt H p ∧ 1 ≤ many ∧ many ≤ n ∧ 0 ≤ lv ∧ lv + 1 + many ≤ 1000 ∧ GoodR r ∧ ∀ v t H', Fr p wa H H' → TrV H' t v → GoodT t → t.size ≤ many + 1 → Q v H'
theorem good_un {h : Hd} {a : Tr} (ho : h.Ok) (hp : h.k.pr = 1) (hr : ∀ r, h.r = some r → GoodR r) (g : GoodT a) : GoodT (.un h a) :=
  ⟨⟨ho, hp, g.1⟩, fun x hx => by
    rcases List.mem_cons.mp hx with rfl | hx
    · exact hr
    · exact g.2 x hx⟩
theorem good_bi {h : Hd} {a b : Tr} (ho : h.Ok) (hp : h.k.pr = 2) (hr : ∀ r, h.r = some r → GoodR r) (g : GoodT a) (g2 : GoodT b) : GoodT (.bi h a b) :=
  ⟨⟨ho, hp, g.1, g2.1⟩, fun x hx => by
    rcases List.mem_cons.mp hx with rfl | hx
    · exact hr
    · rcases List.mem_append.mp hx with hx | hx
      · exact g.2 x hx
      · exact g2.2 x hx⟩
theorem ok_one (n : Nat) (T : Top K mg "_law_free_one" s_free_one) (mInt : mg "int" = none) (FN : Fn P w K mg base 1 "_law_next" spNext) (FD : Fn P w K mg base (2 * n + 3) "_law_free" (spDraw n)) : Fn P w K mg base (2 * n + 4) "_law_free_one" (spOne n) := by
  refine fn_ok T sc_free_one so_free_one (fun vs H Q E h => by obtain ⟨wa, p, many, lv, room, z, r, wh, rfl, _⟩ := h; rfl) (fun _ _ _ _ _ _ us hl => match us, hl with | [_, _, _, _, _, _, _], _ => rfl) fun f cdv A outer s H vs Q E hr h nd => ?_
  obtain ⟨wa, p, many, lv, room, z, r, wh, rfl, hw, hp, hm1, hmn, hlv, hlm, hr0, q⟩ := h
  have nwp := hw.ne hp
  obtain ⟨off, hw0⟩ := id hw
  refine l_cons (s_set (e_call (by exact FN) (by exact hr) (by omega) ?_))
  refine a_cons (e_ix (e_var (e_str ?_)))
  refine ix_d (by exact hr) ⟨wa, .ref p, rfl, dg_k hw0 (by rfl), ?_⟩
  walk_at "sts"
  refine ⟨p, 3, rfl, by decide, by decide, hp, fun d0 H0 a0 a1 b0 p0 => ?_⟩
  have f0 := (Fr.refl hp hw).next nwp b0 p0
  show wL _ _ _ [some (.ref wa), some (.int (many : Int)), some (.int lv), some (.int room), some (.str z), some (kV r), some (.int (wh : Int)), some (.int d0), none] _
  walk_at "sts"
  refine if2 (fun _ => ?_) (fun _ => ?_)
  · refine l_cons (s_ret (e_tup (a_cons (e_str (a_cons (e_var (a_cons (e_var (a_cons ?_))))))))) 
    refine e_call (by exact FD) (by exact hr) (by omega) ?_
    walk_at "sts"
    refine ⟨wa, p, many, lv, room, rfl, f0.wy, f0.pl, hm1, hmn, hlv, by omega, fun v t H1 f1 hv hg hs => ?_⟩
    refine a_nil ⟨by show 4 ≤ sizeLine; decide, fun t2 H2 e2 n2 h2 => ?_⟩
    refine q _ (.un ⟨.make, none, [.s z, .i d0]⟩ t) H2 ((f0.trans f1).same e2) ⟨t2, [.str "make", .str z, .int d0], v, rfl, h2, ⟨[.str z, .int d0], rfl, ⟨_, _, rfl, rfl, _, _, rfl, rfl, rfl⟩⟩, hv.ts (Same.ts e2)⟩ (good_un ⟨rfl, rfl⟩ rfl (fun r h => by cases h) hg) ?_
    show t.size + 1 ≤ _
    omega
  · refine l_nil ?_
    refine l_cons (s_set (e_call (by exact FD) (by exact hr) (by omega) ?_))
    walk_at "sts"
    refine ⟨wa, p, many, lv + 1, room, rfl, f0.wy, f0.pl, hm1, hmn, by omega, by omega, fun v t H1 f1 hv hg hs => ?_⟩
    show wL _ _ _ [some (.ref wa), some (.int (many : Int)), some (.int lv), some (.int room), some (.str z), some (kV r), some (.int (wh : Int)), some (.int d0), some v] _
    have f01 := f0.trans f1
    walk_at "sts"
    refine if2 (fun _ => ?_) (fun _ => ?_)
    · walk_at "sts"
      refine ⟨by show 2 ≤ sizeLine; decide, fun t2 H2 e2 n2 h2 => ?_⟩
      refine q _ (.un ⟨.take, none, []⟩ t) H2 (f01.same e2) ⟨t2, [.str "take"], v, rfl, h2, ⟨[], rfl, rfl⟩, hv.ts (Same.ts e2)⟩ (good_un ⟨rfl, rfl⟩ rfl (fun r h => by cases h) hg) ?_
      show t.size + 1 ≤ _
      omega
    · walk_at "sts"
      refine if2 (fun _ => ?_) (fun _ => ?_)
      · refine l_cons (s_ret (e_tup (a_cons (e_str (a_cons (e_var (a_cons (e_ix ?_))))))))
        walk_at "sts"
        refine ⟨by show 2 ≤ sizeLine; decide, fun l2 H2 e2 n2 h2 => ?_⟩
        walk_at "sts"
        refine o_mod (by decide) ?_
        have hd : ∃ y : Str, atI ([V.str "left", V.str "right"] : List V) (d0 % 2) = some (.str y) := by
          have h1 := Int.emod_nonneg d0 (show (2 : Int) ≠ 0 by decide)
          have h2 := Int.emod_lt_of_pos d0 (show (0 : Int) < 2 by decide)
          rcases (show d0 % 2 = 0 ∨ d0 % 2 = 1 by omega) with e | e
          · rw [e]; exact ⟨_, at0⟩
          · rw [e]; exact ⟨_, at1⟩
        obtain ⟨y, hy⟩ := hd
        refine ix_l (by exact SqL.of h2) hy ?_
        walk_at "sts"
        refine ⟨by show 4 ≤ sizeLine; decide, fun t3 H3 e3 n3 h3 => ?_⟩
        refine q _ (.un ⟨.pick, some r, [.s y]⟩ t) H3 ((f01.same e2).same e3) ⟨t3, [.str "pick", kV r, .str y], v, rfl, h3, ⟨[.str y], rfl, ⟨_, _, rfl, rfl, rfl⟩⟩, hv.ts (Same.ts (e2.trans e3))⟩ (good_un ⟨rfl, rfl⟩ rfl (fun r' h => by cases h; exact hr0) hg) ?_
        show t.size + 1 ≤ _
        omega
      · walk_at "sts"
        refine ⟨by show 5 ≤ sizeLine; decide, fun t2 H2 e2 n2 h2 => ?_⟩
        refine q _ (.un ⟨.open_, some r, [.s z, .i d0]⟩ t) H2 (f01.same e2) ⟨t2, [.str "open", kV r, .str z, .int d0], v, rfl, h2, ⟨[.str z, .int d0], rfl, ⟨_, _, rfl, rfl, _, _, rfl, rfl, rfl⟩⟩, hv.ts (Same.ts e2)⟩ (good_un ⟨rfl, rfl⟩ rfl (fun r' h => by cases h; exact hr0) hg) ?_
        show t.size + 1 ≤ _
        omega
end


theorem once_shaped : SeqAt.shaped (.str "once") = true := by decide +kernel
theorem good_le {h : Hd} (ho : h.Ok) (hp : h.k.pr = 0) (hr : ∀ r, h.r = some r → GoodR r) : GoodT (.le h) := ⟨⟨ho, hp⟩, fun x hx => by rw [List.mem_singleton.mp hx]; exact hr⟩
section
variable {P : Program} {w : World} {K : PySem.W.Frag} {mg : Str → Option Value} {base : Heap}
def spTwo (n : Nat) : Sp := fun vs H Q _ => ∃ wa p many lv room z r wh, vs = [.ref wa, .int ((many : Nat) : Int), .int lv, .int room, .str z, kV r, .int ((wh : Nat) : Int)] ∧ WayAt H wa p ∧ PoolAt H p ∧ 2 ≤ many ∧ many ≤ n + 1 ∧ 0 ≤ lv ∧ lv + 1 + many ≤ 1000 ∧ GoodR r ∧ ∀ v t H', Fr p wa H H' → TrV H' t v → GoodT t → t.size ≤ many + 1 → Q v H'
theorem ok_two (n : Nat) (T : Top K mg "_law_free_two" s_free_two) (FN : Fn P w K mg base 1 "_law_next" spNext) (FM : Fn P w K mg base 2 "_law_mode" spMode) (FD : Fn P w K mg base (2 * n + 3) "_law_free" (spDraw n)) : Fn P w K mg base (2 * n + 4) "_law_free_two" (spTwo n) := by
  refine fn_ok T sc_free_two so_free_two (fun vs H Q E h => by obtain ⟨wa, p, many, lv, room, z, r, wh, rfl, _⟩ := h; rfl) (fun _ _ _ _ _ _ us hl => match us, hl with | [_, _, _, _, _, _, _], _ => rfl) fun f cdv A outer s H vs Q E hr h nd => ?_
  obtain ⟨wa, p, many, lv, room, z, r, wh, rfl, hw, hp, hm1, hmn, hlv, hlm, hr0, q⟩ := h
  have nwp := hw.ne hp
  obtain ⟨off, hw0⟩ := id hw
  refine l_cons (s_set (e_ix (e_var (e_str ?_))))
  refine ix_d (by exact hr) ⟨wa, .ref p, rfl, dg_k hw0 (by rfl), ?_⟩
  show wL _ _ _ [some (.ref wa), some (.int (many : Int)), some (.int lv), some (.int room), some (.str z), some (kV r), some (.int (wh : Int)), some (.ref p), none, none, none, none, none] _
  refine l_cons (s_set (e_bin (e_int (e_call (by exact FN) (by exact hr) (by omega) ?_))))
  walk_at "sts"
  refine ⟨p, (many : Int) - 1, rfl, by omega, by omega, hp, fun d0 H0 a0 a1 b0 p0 => ?_⟩
  have f0 := (Fr.refl hp hw).next nwp b0 p0
  obtain ⟨k0, rfl⟩ := Int.eq_ofNat_of_zero_le a0
  have ef : (1 : Int) + (k0 : Int) = ((1 + k0 : Nat) : Int) := by omega
  have es : (many : Int) - ((1 + k0 : Nat) : Int) = ((many - (1 + k0) : Nat) : Int) := by omega
  refine o_add ?_
  rw [ef]
  show wL _ _ _ [some (.ref wa), some (.int (many : Int)), some (.int lv), some (.int room), some (.str z), some (kV r), some (.int (wh : Int)), some (.ref p), some (.int ((1 + k0 : Nat) : Int)), none, none, none, none] _
  refine l_cons (s_set (e_call (by exact FM) (by exact hr) (by omega) ?_))
  walk_at "sts"
  refine ⟨p, room, rfl, p0, fun fm mv H1 b1 p1 hmv hmf => ?_⟩
  have f1 := f0.next nwp b1 p1
  show wL _ _ _ [some (.ref wa), some (.int (many : Int)), some (.int lv), some (.int room), some (.str z), some (kV r), some (.int (wh : Int)), some (.ref p), some (.int ((1 + k0 : Nat) : Int)), some mv, none, none, none] _
  have rest : ∀ H2, Fr p wa H H2 → FdV H2 fm mv → wL (cxOf CX0 P w K mg base N_free_two "_law_free_two" (defScope s_free_two) f cdv A outer s H E).nox ((defBody s_free_two).drop 4) { nx := fun _ H' => Q .non H', rt := Q } [some (.ref wa), some (.int (many : Int)), some (.int lv), some (.int room), some (.str z), some (kV r), some (.int (wh : Int)), some (.ref p), some (.int ((1 + k0 : Nat) : Int)), some mv, none, none, none] H2 := by
    intro H2 f2 hm2
    have rest2 : ∀ (inner : Int), wL (cxOf CX0 P w K mg base N_free_two "_law_free_two" (defScope s_free_two) f cdv A outer s H E).nox ((defBody s_free_two).drop 6) { nx := fun _ H' => Q .non H', rt := Q } [some (.ref wa), some (.int (many : Int)), some (.int lv), some (.int room), some (.str z), some (kV r), some (.int (wh : Int)), some (.ref p), some (.int ((1 + k0 : Nat) : Int)), some mv, none, some (.int inner), none] H2 := by
      intro inner
      refine l_cons (s_set (e_call (by exact FD) (by exact hr) (by omega) ?_))
      walk_at "sts"
      refine ⟨wa, p, 1 + k0, lv, inner, rfl, f2.wy, f2.pl, by omega, by omega, hlv, by omega, fun v1 t1 H3 f3 hv1 hg1 hs1 => ?_⟩
      have f23 := f2.trans f3
      show wL _ _ _ [some (.ref wa), some (.int (many : Int)), some (.int lv), some (.int room), some (.str z), some (kV r), some (.int (wh : Int)), some (.ref p), some (.int ((1 + k0 : Nat) : Int)), some mv, some v1, some (.int inner), none] _
      refine l_cons (s_set (e_call (by exact FD) (by exact hr) (by omega) ?_))
      walk_at "sts"
      rw [es]
      refine ⟨wa, p, many - (1 + k0), lv + 1, room, rfl, f23.wy, f23.pl, by omega, by omega, by omega, by omega, fun v2 t2 H4 f4 hv2 hg2 hs2 => ?_⟩
      have f24 := f23.trans f4
      have hv1' := hv1.ts (f4.ts f23.pl f23.wy)
      have hm4 := hm2.ts ((f3.trans f4).ts f2.pl f2.wy)
      show wL _ _ _ [some (.ref wa), some (.int (many : Int)), some (.int lv), some (.int room), some (.str z), some (kV r), some (.int (wh : Int)), some (.ref p), some (.int ((1 + k0 : Nat) : Int)), some mv, some v1, some (.int inner), some v2] _
      refine l_cons (s_if (t_cmp ?_))
      walk_at "sts"
      refine if2 (fun _ => ?_) (fun _ => ?_)
      · walk_at "sts"
        refine ⟨by show 2 ≤ sizeLine; decide, fun w1 H5 e5 n5 h5 => ?_⟩
        walk_at "sts"
        refine ⟨by show 2 ≤ sizeLine; decide, fun w2 H6 e6 n6 h6 => ?_⟩
        walk_at "sts"
        refine ⟨by show 3 ≤ sizeLine; decide, fun w3 H7 e7 n7 h7 => ?_⟩
        walk_at "sts"
        refine ⟨by show 5 ≤ sizeLine; decide, fun w4 H8 e8 n8 h8 => ?_⟩
        have e48 := ((e5.trans e6).trans e7).trans e8
        have hc : FdV H8 (.c z) (.ref w3) := ⟨w3, w1, w2, rfl, e8 _ _ h7, e8 _ _ (e7 _ _ (e6 _ _ h5)), e8 _ _ (e7 _ _ h6)⟩
        refine q _ (.bi ⟨.cut, none, [fm, .c z]⟩ t1 t2) H8 (f24.same e48) ⟨w4, [.str "cut", mv, .ref w3], v1, v2, rfl, h8, ⟨[mv, .ref w3], rfl, ⟨_, _, rfl, hm4.ts (Same.ts e48), _, _, rfl, hc, rfl⟩⟩, hv1'.ts (Same.ts e48), hv2.ts (Same.ts e48)⟩ (good_bi ⟨rfl, rfl⟩ rfl (fun r h => by cases h) hg1 hg2) ?_
        show t1.size + t2.size + 1 ≤ _
        omega
      · walk_at "sts"
        refine ⟨by show 5 ≤ sizeLine; decide, fun w4 H8 e8 n8 h8 => ?_⟩
        refine q _ (.bi ⟨.pay, some r, [fm]⟩ t1 t2) H8 (f24.same e8) ⟨w4, [.str "pay", kV r, mv], v1, v2, rfl, h8, ⟨[mv], rfl, ⟨_, _, rfl, hm4.ts (Same.ts e8), rfl⟩⟩, hv1'.ts (Same.ts e8), hv2.ts (Same.ts e8)⟩ (good_bi ⟨rfl, rfl⟩ rfl (fun r' h => by cases h; exact hr0) hg1 hg2) ?_
        show t1.size + t2.size + 1 ≤ _
        omega
    refine l_cons (s_set (e_var ?_))
    show wL _ _ _ [some (.ref wa), some (.int (many : Int)), some (.int lv), some (.int room), some (.str z), some (kV r), some (.int (wh : Int)), some (.ref p), some (.int ((1 + k0 : Nat) : Int)), some mv, none, some (.int room), none] _
    refine l_cons (s_if (t_cmp (e_var (e_str ?_))))
    rcases hmf with rfl | ⟨a, b, rfl, ha1, ha3⟩
    · rw [show mv = _ from hm2]
      refine o_neS ⟨_, rfl, iteF (l_nil ?_)⟩
      rw [← (show mv = _ from hm2)]
      exact rest2 room
    · obtain ⟨mt, rfl, hmt⟩ := id hm2
      refine o_neD (by exact hr) (.tup (SqT.of hmt) (.cons (.int _) (.cons (.int _) .nil))) (.str _) rfl once_shaped ⟨_, rfl, iteT ?_⟩
      refine l_cons (s_set (e_bin (e_var (e_ix (e_var (e_int ?_))))))
      refine ix_t (by exact SqT.of hmt) at0 ?_
      refine o_fdiv ⟨by omega, by omega⟩ (l_nil ?_)
      exact rest2 _
  have hmv1 := hmv
  refine l_cons (s_if (t_w (w_and (t_cmp ?_))))
  walk_at "sts"
  refine ⟨by show 2 ≤ sizeLine; decide, fun tp H2 e2 n2 h2 => ?_⟩
  have f2 := f1.same e2
  refine o_inT (by exact SqT.of h2) rfl rfl ⟨_, rfl, ?_⟩
  cases inV (.int (wh : Int)) [V.int 0, V.int 3] with
  | false => exact iteF (iteF (l_nil (rest H2 f2 (hmv1.ts (Same.ts e2)))))
  | true =>
    refine iteT (w_and1 (t_cmp (e_ix (e_var (e_str ?_)))))
    obtain ⟨off2, hw2⟩ := f2.wy
    refine ix_d (by exact hr) ⟨wa, .int off2, rfl, dg_k hw2 (by rfl), ?_⟩
    walk_at "sts"
    refine if2 (fun _ => ?_) (fun _ => l_nil (rest H2 f2 (hmv1.ts (Same.ts e2))))
    refine l_cons (s_dput (hu_of hr) (e_bin (e_ix (e_var (e_str ?_)))))
    refine ix_d (by exact hr) ⟨wa, .int off2, rfl, dg_k hw2 (by rfl), ?_⟩
    walk_at "sts"
    refine ⟨wa, _, rfl, .inl ⟨_, Sum.inr "offers", hw2, rfl, by show 2 < 2 ^ 24; decide, rfl⟩, ?_⟩
    have f3 : Fr p wa H (upd H2 wa (.dK (putK [(Sum.inr "pool", .ref p), (Sum.inr "offers", .int off2)] (Sum.inr "offers") (.int (off2 - 1))))) := ⟨fun c o c1 c2 hc => by rw [upd_ne c2]; exact f2.bt c o c1 c2 hc, let ⟨x, y, z, e⟩ := f2.pl; ⟨x, y, z, by rw [upd_ne (Ne.symm nwp)]; exact e⟩, ⟨off2 - 1, by rw [upd_same]; rfl⟩⟩
    generalize upd H2 wa (.dK (putK [(Sum.inr "pool", .ref p), (Sum.inr "offers", .int off2)] (Sum.inr "offers") (.int (off2 - 1)))) = H3 at f3 ⊢
    refine l_cons (s_set (e_call (by exact FD) (by exact hr) (by omega) ?_))
    walk_at "sts"
    refine ⟨wa, p, 1 + k0, lv, room, rfl, f3.wy, f3.pl, by omega, by omega, hlv, by omega, fun v1 t1 H4 f4 hv1 hg1 hs1 => ?_⟩
    have f34 := f3.trans f4
    refine l_cons (s_ret (e_tup (a_cons (e_str (a_cons (e_var (a_cons ?_)))))))
    refine e_call (by exact FD) (by exact hr) (by omega) ?_
    walk_at "sts"
    rw [es]
    refine ⟨wa, p, many - (1 + k0), lv, room, rfl, f34.wy, f34.pl, by omega, by omega, hlv, by omega, fun v2 t2 H5 f5 hv2 hg2 hs2 => ?_⟩
    have f35 := f34.trans f5
    have hv1' := hv1.ts (f5.ts f34.pl f34.wy)
    refine a_nil ⟨by show 3 ≤ sizeLine; decide, fun w4 H8 e8 n8 h8 => ?_⟩
    refine q _ (.bi ⟨.offer, none, []⟩ t1 t2) H8 (f35.same e8) ⟨w4, [.str "offer"], v1, v2, rfl, h8, ⟨[], rfl, rfl⟩, hv1'.ts (Same.ts e8), hv2.ts (Same.ts e8)⟩ (good_bi ⟨rfl, rfl⟩ rfl (fun r h => by cases h) hg1 hg2) ?_
    show t1.size + t2.size + 1 ≤ _
    omega
end


section
variable {P : Program} {w : World} {K : PySem.W.Frag} {mg : Str → Option Value} {base : Heap}
theorem ok_freeS (n : Nat) (T : Top K mg "_law_free" s_free) (mInt : mg "int" = none) (FN : Fn P w K mg base 1 "_law_next" spNext) (F1 : ∀ m, n = m + 1 → Fn P w K mg base (2 * m + 4) "_law_free_one" (spOne m)) (F2 : ∀ m, n = m + 1 → Fn P w K mg base (2 * m + 4) "_law_free_two" (spTwo m)) : Fn P w K mg base (2 * n + 3) "_law_free" (spDraw n) := by
  refine fn_ok T sc_free so_free (fun vs H Q E h => by obtain ⟨wa, p, many, lv, room, rfl, _⟩ := h; rfl) (fun _ _ _ _ _ _ us hl => match us, hl with | [_, _, _, _], _ => rfl) fun f cdv A outer s H vs Q E hr h nd => ?_
  obtain ⟨wa, p, many, lv, room, rfl, hw, hp, hm1, hmn, hlv, hlm, q⟩ := h
  have nwp := hw.ne hp
  obtain ⟨m, rfl⟩ : ∃ m, n = m + 1 := ⟨n - 1, by omega⟩
  obtain ⟨off, hw0⟩ := id hw
  refine l_cons (s_set (e_ix (e_var (e_str ?_))))
  refine ix_d (by exact hr) ⟨wa, .ref p, rfl, dg_k hw0 (by rfl), ?_⟩
  show wL _ _ _ [some (.ref wa), some (.int (many : Int)), some (.int lv), some (.int room), some (.ref p), none, none, none, none] _
  walk_at "sts"
  refine ⟨by show 12 ≤ sizeLine; decide, fun nl H0 e0 n0 h0 => ?_⟩
  have f0 := (Fr.refl hp hw).same e0
  have nnp : nl ≠ p := fun z => by subst z; obtain ⟨_, _, _, e⟩ := hp; rw [n0] at e; cases e
  show wL _ _ _ [some (.ref wa), some (.int (many : Int)), some (.int lv), some (.int room), some (.ref p), some (.ref nl), none, none, none] _
  refine l_cons (s_set (e_ix (e_var (e_call (by exact FN) (by exact hr) (by omega) ?_))))
  walk_at "sts"
  refine ⟨p, 12, rfl, by decide, by decide, f0.pl, fun d1 H1 a0 a1 b1 p1 => ?_⟩
  have f1 := f0.next nwp b1 p1
  obtain ⟨j, rfl⟩ := Int.eq_ofNat_of_zero_le a0
  obtain ⟨z, hz, hzn⟩ := nm_at (show j < 12 by omega)
  refine ix_l (by exact SqL.of (b1 _ _ nnp h0)) (atI_nat hz) ?_
  show wL _ _ _ [some (.ref wa), some (.int (many : Int)), some (.int lv), some (.int room), some (.ref p), some (.ref nl), some (.str z), none, none] _
  refine l_cons (s_set (e_var ?_))
  show wL _ _ _ [some (.ref wa), some (.int (many : Int)), some (.int lv), some (.int room), some (.ref p), some (.ref nl), some (.str z), some (kV (.inr z)), none] _
  have rest : ∀ (r : Key) H2, GoodR r → Fr p wa H H2 → wL (cxOf CX0 P w K mg base N_free "_law_free" (defScope s_free) f cdv A outer s H E).nox ((defBody s_free).drop 5) { nx := fun _ H' => Q .non H', rt := Q } [some (.ref wa), some (.int (many : Int)), some (.int lv), some (.int room), some (.ref p), some (.ref nl), some (.str z), some (kV r), none] H2 := by
    intro r H2 hgr f2
    refine l_cons (s_set (e_call (by exact FN) (by exact hr) (by omega) ?_))
    walk_at "sts"
    refine ⟨p, 8, rfl, by decide, by decide, f2.pl, fun d3 H3 c0 c1 b3 p3 => ?_⟩
    have f3 := f2.next nwp b3 p3
    obtain ⟨k, rfl⟩ := Int.eq_ofNat_of_zero_le c0
    show wL _ _ _ [some (.ref wa), some (.int (many : Int)), some (.int lv), some (.int room), some (.ref p), some (.ref nl), some (.str z), some (kV r), some (.int (k : Int))] _
    have own : (many : Int) < 2 → wL (cxOf CX0 P w K mg base N_free "_law_free" (defScope s_free) f cdv A outer s H E).nox ((defBody s_free).drop 7) { nx := fun _ H' => Q .non H', rt := Q } [some (.ref wa), some (.int (many : Int)), some (.int lv), some (.int room), some (.ref p), some (.ref nl), some (.str z), some (kV r), some (.int (k : Int))] H3 := by
      intro h2
      refine l_cons (s_if (t_cmp (e_var (e_int (o_lt ⟨_, rfl, ifT h2 ?_⟩)))))
      walk_at "sts"
      refine ⟨by show 2 ≤ sizeLine; decide, fun t H4 e4 n4 h4 => ?_⟩
      refine q _ (.le ⟨.own, some r, []⟩) H4 (f3.same e4) ⟨t, [.str "own", kV r], rfl, h4, ⟨[], rfl, rfl⟩⟩ (good_le ⟨rfl, rfl⟩ rfl fun r' h => by cases h; exact hgr) hm1
    have two : ¬ (many : Int) < 2 → wL (cxOf CX0 P w K mg base N_free "_law_free" (defScope s_free) f cdv A outer s H E).nox ((defBody s_free).drop 7) { nx := fun _ H' => Q .non H', rt := Q } [some (.ref wa), some (.int (many : Int)), some (.int lv), some (.int room), some (.ref p), some (.ref nl), some (.str z), some (kV r), some (.int (k : Int))] H3 := by
      intro h2
      have em : (many : Int) - 1 = ((many - 1 : Nat) : Int) := by omega
      have ek : (k : Int) % 4 = ((k % 4 : Nat) : Int) := by omega
      refine l_cons (s_if (t_cmp (e_var (e_int (o_lt ⟨_, rfl, ifF h2 (l_nil ?_)⟩)))))
      refine l_cons (s_if (t_w (w_or (t_cmp (e_var (e_int (o_eqI ⟨_, rfl, ?_⟩)))))))
      by_cases h3 : (many : Int) = 2
      · refine ifT h3 (iteT ?_)
        refine l_cons (s_ret (e_call (by exact F1 m rfl) (by exact hr) (by omega) ?_))
        refine a_cons (e_var (a_cons (e_bin (e_var (e_int (o_sub ?_))))))
        rw [em]
        walk_at "sts"
        refine o_mod (by decide) ?_
        rw [ek]
        walk_at "sts"
        refine ⟨wa, p, many - 1, lv, room, z, r, k % 4, rfl, f3.wy, f3.pl, by omega, by omega, hlv, by omega, hgr, fun v t H4 f4 hv hg hs => ?_⟩
        exact q v t H4 (f3.trans f4) hv hg (by omega)
      · refine ifF h3 (w_or1 (t_cmp (e_var (e_int (o_lt ⟨_, rfl, ?_⟩)))))
        refine if2 (fun _ => ?_) (fun _ => l_nil ?_)
        · refine l_cons (s_ret (e_call (by exact F1 m rfl) (by exact hr) (by omega) ?_))
          refine a_cons (e_var (a_cons (e_bin (e_var (e_int (o_sub ?_))))))
          rw [em]
          walk_at "sts"
          refine o_mod (by decide) ?_
          rw [ek]
          walk_at "sts"
          refine ⟨wa, p, many - 1, lv, room, z, r, k % 4, rfl, f3.wy, f3.pl, by omega, by omega, hlv, by omega, hgr, fun v t H4 f4 hv hg hs => ?_⟩
          exact q v t H4 (f3.trans f4) hv hg (by omega)
        · refine l_cons (s_ret (e_call (by exact F2 m rfl) (by exact hr) (by omega) ?_))
          refine a_cons (e_var (a_cons (e_bin (e_var (e_int (o_sub ?_))))))
          rw [em]
          walk_at "sts"
          refine o_mod (by decide) ?_
          rw [ek]
          walk_at "sts"
          refine ⟨wa, p, many - 1, lv, room, z, r, k % 4, rfl, f3.wy, f3.pl, by omega, by omega, hlv, by omega, hgr, fun v t H4 f4 hv hg hs => ?_⟩
          exact q v t H4 (f3.trans f4) hv hg (by omega)
    refine l_cons (s_if (t_w (w_and (t_cmp ?_))))
    walk_at "sts"
    by_cases h2 : (many : Int) < 2
    · refine ifT h2 (w_and1 (t_cmp ?_))
      walk_at "sts"
      refine if2 (fun _ => ?_) (fun _ => l_nil (own h2))
      walk_at "sts"
      refine ⟨by show 2 ≤ sizeLine; decide, fun t H4 e4 n4 h4 => ?_⟩
      refine q _ (.le ⟨.cite, none, [.s z]⟩) H4 (f3.same e4) ⟨t, [.str "cite", .str z], rfl, h4, ⟨[.str z], rfl, ⟨_, _, rfl, rfl, rfl⟩⟩⟩ (good_le ⟨rfl, rfl⟩ rfl fun r' h => by cases h) hm1
    · exact ifF h2 (iteF (l_nil (two h2)))
  refine l_cons (s_if (t_w (w_and (t_cmp ?_))))
  walk_at "sts"
  by_cases h0l : 0 < lv
  · refine ifT h0l (w_and1 (t_cmp (e_call (by exact FN) (by exact hr) (by omega) ?_)))
    walk_at "sts"
    refine ⟨p, 2, rfl, by decide, by decide, f1.pl, fun d2 H2 _ _ b2 p2 => ?_⟩
    have f2 := f1.next nwp b2 p2
    walk_at "sts"
    refine if2 (fun _ => ?_) (fun _ => l_nil (rest (.inr z) H2 hzn f2))
    refine l_cons (s_set (e_call (by exact FN) (by exact hr) (by omega) ?_))
    walk_at "sts"
    exact ⟨p, lv, rfl, h0l, by omega, f2.pl, fun d3 H3 c0 c1 b3 p3 => l_nil (rest (.inl d3) H3 c0 (f2.next nwp b3 p3))⟩
  · exact ifF h0l (iteF (l_nil (rest (.inr z) H1 hzn f1)))
end
section
variable {P : Program} {w : World} {K : PySem.W.Frag} {mg : Str → Option Value} {base : Heap}
theorem ok_free (T : Top K mg "_law_free" s_free) (T1 : Top K mg "_law_free_one" s_free_one) (T2 : Top K mg "_law_free_two" s_free_two) (mInt : mg "int" = none) (FN : Fn P w K mg base 1 "_law_next" spNext) (FM : Fn P w K mg base 2 "_law_mode" spMode) : ∀ n, Fn P w K mg base (2 * n + 3) "_law_free" (spDraw n)
  | 0 => ok_freeS 0 T mInt FN (fun m h => by cases h) fun m h => by cases h
  | n + 1 => ok_freeS (n + 1) T mInt FN (fun m h => by cases h; exact ok_one n T1 mInt FN (ok_free T T1 T2 mInt FN FM n)) fun m h => by cases h; exact ok_two n T2 FN FM (ok_free T T1 T2 mInt FN FM n)
end


def ifE : Stmt → Expr
  | .If c _ _ _ => c
  | _ => .Constant .none 0 ⟨0, 0, 0, 0⟩
def notE : Expr → Expr
  | .UnaryOp _ e _ => e
  | e => e
theorem bk_law : BkOk N_law [(9, "_law_ref"), (7, "_law_names")] [] 9 "_law_ref" (defScope s_law) (lcSc (argE 2 (notE (ifE ((defBody s_law).getD 13 (.Pass ⟨0, 0, 0, 0⟩)))))) := ⟨by decide +kernel, by decide +kernel, by decide +kernel, by decide +kernel⟩
theorem dep_le : ∀ t : Tr, t.dep + 1 ≤ t.size
  | .le _ => Nat.le_refl _
  | .un _ a => by have := dep_le a; simp only [Tr.dep, Tr.size]; omega
  | .bi _ a b => by have := dep_le a; have := dep_le b; simp only [Tr.dep, Tr.size]; omega
theorem sqL_up {K : PySem.W.Frag} {H H' : Hp} {a : Addr} {xs : List V} (e : Same H H') (h : SqL K H a xs) : SqL K H' a xs := by
  rcases h with h | h
  · rcases h with h | ⟨o, h⟩
    · exact .inl (.inl (e _ _ h))
    · exact .inl (.inr ⟨o, e _ _ h⟩)
  · exact .inr h
theorem refB_r {lv : Int} {h : Hd} {r : Key} (e : refB lv h = some r) : h.r = some r ∧ below r lv = true := by
  obtain ⟨k, q, f⟩ := h
  cases q with
  | none => cases e
  | some s =>
    have e2 : refB lv ⟨k, some s, f⟩ = if below s lv = true then some s else none := rfl
    rw [e2] at e
    split at e
    · rename_i hb
      cases e
      exact ⟨rfl, hb⟩
    · cases e
theorem below_up {r : Key} {i j : Int} (h : below r i = true) (l : i ≤ j) : below r j = true := by
  cases r with
  | inr z => rfl
  | inl k => exact decide_eq_true (by have := of_decide_eq_true h; omega)
section
variable {P : Program} {w : World} {K : PySem.W.Frag} {mg : Str → Option Value} {base : Heap}
def spLaw (K : PySem.W.Frag) : Sp := fun vs H Q _ => ∃ (a : Addr) (ns : List Int), vs = [.ref a] ∧ SqL K H a (ns.map V.int) ∧ ns.length ≤ 63 ∧ ∀ H', Q (.bl true) H'
theorem ok_law {fa : Addr} {fd : FuncData} (FL : Fun K "law" "law" s_law fa fd) (mDict : mg "dict" = none) (FPo : Fn P w K mg base 2 "_law_pool" (spPool K)) (FN : Fn P w K mg base 1 "_law_next" spNext) (FD : Fn P w K mg base (2 * 40 + 3) "_law_free" (spDraw 40)) (FO : Fn P w K mg base (45 + 4) "_law_others" (spOthers 45))
    (FLi : Fn P w K mg base 4 "_law_listed" spListed) (FMs : Fn P w K mg base (45 + 6) "_law_moves" (spMoves 45)) (FW : Fn P w K mg base 3 "_law_wild" spWild) (FR : Fn P w K mg base 2 "_law_ring" spRing) (FM : Fn P w K mg base 3 "moved" spMoved) (FS : Fn P w K mg base (45 + 2) "_law_same" (spSame 45)) :
    FnOk P w K mg base CX0 84 fa fd ["_law_script"] (spLaw K) := by
  refine FL.ok sc_law (fun vs H Q E h => by obtain ⟨a, ns, rfl, _⟩ := h; rfl) fun cdv A outer s H vs Q E hr h => ?_
  refine ⟨_, pl, ?_⟩
  have nd : In (cxOf CX0 P w K mg base N_law "law" (defScope s_law) fa cdv A outer s H E).nox N_law G_law (defScope s_law) := ⟨so_law, ⟨[], (List.append_nil _).symm⟩, sc_law.nd, rfl, rfl, PassesOwn.never⟩
  obtain ⟨a, ns, rfl, hS, hz, q⟩ := h
  refine l_cons (s_set (e_call (by exact FPo) (by exact hr) (by decide) ?_))
  walk_at "sts"
  refine ⟨a, ns, 0, rfl, hS, fun p H1 e1 n1 p1 => ?_⟩
  show wL _ _ _ [some (.ref a), some (.ref p), none, none, none, none, none, none, none, none, none] _
  refine l_cons (s_set (e_call (by exact FN) (by exact hr) (by decide) ?_))
  walk_at "sts"
  refine ⟨p, 10, rfl, by decide, by decide, p1, fun lv H2 lv0 lv1 b2 p2 => ?_⟩
  show wL _ _ _ [some (.ref a), some (.ref p), some (.int lv), none, none, none, none, none, none, none, none] _
  refine l_cons (s_set (e_bin (e_int (e_call (by exact FN) (by exact hr) (by decide) ?_))))
  walk_at "sts"
  refine ⟨p, 12, rfl, by decide, by decide, p2, fun d3 H3 c0 c1 b3 p3 => o_add ?_⟩
  obtain ⟨k3, rfl⟩ := Int.eq_ofNat_of_zero_le c0
  rw [show (1 : Int) + (k3 : Int) = ((1 + k3 : Nat) : Int) by omega]
  show wL _ _ _ [some (.ref a), some (.ref p), some (.int lv), some (.int ((1 + k3 : Nat) : Int)), none, none, none, none, none, none, none] _
  refine l_cons (s_if (t_cmp (e_call (by exact FN) (by exact hr) (by decide) ?_)))
  walk_at "sts"
  refine ⟨p, 8, rfl, by decide, by decide, p3, fun d4 H4 _ _ b4 p4 => ?_⟩
  have s14 : Same H H4 := fun c o hc => by
    have cp : c ≠ p := fun z => by subst z; rw [n1] at hc; cases hc
    exact b4 _ _ cp (b3 _ _ cp (b2 _ _ cp (e1 _ _ hc)))
  walk_at "sts"
  have rest : ∀ many : Nat, 1 ≤ many → many ≤ 40 → wL (cxOf CX0 P w K mg base N_law "law" (defScope s_law) fa cdv A outer s H E).nox ((defBody s_law).drop 4) { nx := fun _ H' => Q .non H', rt := Q } [some (.ref a), some (.ref p), some (.int lv), some (.int (many : Int)), none, none, none, none, none, none, none] H4 := by
    intro many hm1 hm2
    refine l_cons (s_set (e_call (by exact FD) (by exact hr) (by decide) (a_cons (e_d2 fun wa nwa => ?_))))
    have npw : p ≠ wa := fun z => by subst z; obtain ⟨_, _, _, e⟩ := p4; rw [nwa] at e; cases e
    walk_at "sts"
    refine ⟨upd_same, "pool", "offers", rfl, rfl, by decide +kernel, ?_⟩
    have s45 : Same H4 (upd (upd H4 wa (.dK [])) wa (.dK [(Sum.inr "pool", .ref p), (Sum.inr "offers", .int 40)])) := fun c o hc => by
      have cd : c ≠ wa := fun z => by subst z; rw [nwa] at hc; cases hc
      rw [upd_ne cd, upd_ne cd]
      exact hc
    have hw5 : WayAt (upd (upd H4 wa (.dK [])) wa (.dK [(Sum.inr "pool", .ref p), (Sum.inr "offers", .int 40)])) wa p := ⟨40, upd_same⟩
    generalize upd (upd H4 wa (.dK [])) wa (.dK [(Sum.inr "pool", .ref p), (Sum.inr "offers", .int 40)]) = H5 at s45 hw5 ⊢
    walk_at "sts"
    refine ⟨wa, p, many, lv, 200, rfl, hw5, p4.same s45, hm1, hm2, lv0, by omega, fun v t H6 f6 hv hg hs => ?_⟩
    have s6 : Same H H6 := fun c o hc => f6.bt c o (fun z => by subst z; rw [n1] at hc; cases hc) (fun z => by subst z; rw [s14 _ _ hc] at nwa; cases nwa) (s45 _ _ (s14 _ _ hc))
    have htd := dep_le t
    show wL _ _ _ [some (.ref a), some (.ref p), some (.int lv), some (.int (many : Int)), some v, none, none, none, none, none, none] _
    refine l_cons (s_set (e_call (by exact FPo) (by exact hr) (by decide) ?_))
    walk_at "sts"
    refine ⟨a, ns, 1, rfl, sqL_up s6 hS, fun p' H7 e7 n7 p7 => ?_⟩
    have hv7 := hv.ts (Same.ts e7)
    show wL _ _ _ [some (.ref a), some (.ref p'), some (.int lv), some (.int (many : Int)), some v, none, none, none, none, none, none] _
    refine l_cons (s_set (e_bin (e_var (e_call (by exact FN) (by exact hr) (by decide) ?_))))
    walk_at "sts"
    refine ⟨p', 10, rfl, by decide, by decide, p7, fun d8 H8 g0 g1 b8 p8 => o_add ?_⟩
    have hv8 := hv7.ts (p7.ts b8)
    show wL _ _ _ [some (.ref a), some (.ref p'), some (.int lv), some (.int (many : Int)), some v, some (.int (lv + d8)), none, none, none, none, none] _
    refine l_cons (s_if (t_cmp (e_call (by exact FN) (by exact hr) (by decide) ?_)))
    walk_at "sts"
    refine ⟨p', 3, rfl, by decide, by decide, p8, fun d9 H9 _ _ b9 p9 => ?_⟩
    have hv9 := hv8.ts (p8.ts b9)
    walk_at "sts"
    have rest2 : ∀ (nw : Nat) (HH : Hp), nw ≤ 100 → TrV HH t v → PoolAt HH p' → wL (cxOf CX0 P w K mg base N_law "law" (defScope s_law) fa cdv A outer s H E).nox ((defBody s_law).drop 8) { nx := fun _ H' => Q .non H', rt := Q } [some (.ref a), some (.ref p'), some (.int lv), some (.int (many : Int)), some v, some (.int (nw : Int)), none, none, none, none, none] HH := by
      intro nw HH hnw hv0 p0
      refine l_cons (s_set (e_call (by exact FO) (by exact hr) (by decide) ?_))
      walk_at "sts"
      refine ⟨v, t, lv, rfl, hv0, hg.1, by omega, by omega, fun ol H10 e10 n10 h10 => ?_⟩
      have hlen := refsB_len lv (hds t)
      rw [hds_size] at hlen
      have hOn := refsB_nd lv (hds t)
      have hmem : ∀ h ∈ hds t, ∀ r, refB lv h = some r → r ∈ refsB lv (hds t) := fun h hh r e => refsB_mem.mpr ⟨h, hh, e⟩
      have hO : ∀ r ∈ refsB lv (hds t), GoodR r ∧ below r 10 = true := fun r hr0 => by
        obtain ⟨h, hh, e⟩ := refsB_mem.mp hr0
        obtain ⟨q1, q2⟩ := refB_r e
        exact ⟨hg.2 h hh r q1, below_up q2 (by omega)⟩
      generalize hOd : refsB lv (hds t) = O at h10 hlen hOn hmem hO
      have p10 := p0.same e10
      have nop : ol ≠ p' := fun z => by subst z; obtain ⟨_, _, _, e⟩ := p0; rw [n10] at e; cases e
      have hv10 := hv0.ts (Same.ts e10)
      show wL _ _ _ [some (.ref a), some (.ref p'), some (.int lv), some (.int (many : Int)), some v, some (.int (nw : Int)), some (.ref ol), none, none, none, none] _
      refine l_cons (s_if (t_w (w_or (t_not (t_val (e_call (by exact FLi) (by exact hr) (by decide) ?_))))))
      walk_at "sts"
      refine ⟨v, t, lv, ol, rfl, hv10, hg.1, by omega, by rw [hOd]; exact h10, fun H11 e11 => ⟨_, rfl, iteF (w_or1 (t_not (t_val ?_)))⟩⟩
      have p11 := p10.same e11
      have h11 := e11 _ _ h10
      have hv11 := hv10.ts (Same.ts e11)
      refine e_call (by exact FMs) (by exact hr) (by decide) ?_
      refine a_cons (e_var (a_cons (e_var (a_cons (e_var (a_cons ?_))))))
      refine e_call (by exact FW) (by exact hr) (by decide) ?_
      walk_at "sts"
      refine ⟨p', ol, lv, O, rfl, p11, nop, h11, by omega, fun dw mw H12 b12 p12 n12 hd12 hk12 => ?_⟩
      have hv12 := hv11.ts (p11.ts b12)
      have h12 := b12 _ _ nop h11
      walk_at "sts"
      refine ⟨v, t, lv, (nw : Int), dw, mw, rfl, hv12, hg.1, by omega, by omega, hd12, hk12, fun H13 e13 => ⟨_, rfl, iteF (l_nil ?_)⟩⟩
      have p13 := p12.same e13
      have h13 := e13 _ _ h12
      have hv13 := hv12.ts (Same.ts e13)
      refine l_cons (s_set (e_call (by exact FR) (by exact hr) (by decide) ?_))
      walk_at "sts"
      refine ⟨p', ol, lv, nw, O, rfl, p13, nop, h13, hOn, by omega, by omega, fun i hi => ?_, fun d m H14 b14 p14 n14 hd14 hk14 hml hR => ?_⟩
      · obtain ⟨q1, q2⟩ := hO _ hi
        have := of_decide_eq_true q2
        exact ⟨q1, by omega⟩
      have hv14 := hv13.ts (p13.ts b14)
      have h14 := b14 _ _ nop h13
      have nod : ol ≠ d := fun z => by subst z; rw [h14] at hd14; cases hd14
      show wL _ _ _ [some (.ref a), some (.ref p'), some (.int lv), some (.int (many : Int)), some v, some (.int (nw : Int)), some (.ref ol), some (.ref d), none, none, none] _
      refine l_cons (s_if (t_not (t_val (e_call (by exact FMs) (by exact hr) (by decide) ?_))))
      walk_at "sts"
      refine ⟨v, t, lv, (nw : Int), d, m, rfl, hv14, hg.1, by omega, by omega, hd14, hk14, fun H15 e15 => ⟨_, rfl, iteF (l_nil ?_)⟩⟩
      refine l_cons (s_set (e_call (by exact FM) (by exact hr) (by decide) ?_))
      refine a_cons (e_var (a_cons (e_var (a_cons (e_var (a_cons ?_))))))
      refine e_callTy (x := "dict") (by assumption) b_dict (a_cons (e_var (a_nil (c_dict (e15 _ _ hd14) fun d2 H16 e16 n16 hd16 => ?_))))
      have e1516 := e15.trans e16
      walk_at "sts"
      refine ⟨v, t, lv, (nw : Int), d2, m, rfl, hv14.ts (Same.ts e1516), hg.1, by omega, hd16, fun v' H17 e17 hv17 => ?_⟩
      have e14 := e1516.trans e17
      have hd17 := e14 _ _ hd14
      have h17 := e14 _ _ h14
      have okt : (t.map (mvH m lv nw)).Ok := map_ok (fun h o => ⟨mvH_ok o, rfl⟩) hg.1
      have szt := map_size (mvH m lv nw) t
      have hrf : refsB (nw : Int) (hds (t.map (mvH m lv nw))) = O.map (lk m) := by
        rw [hds_map, refsB_map (ring_inj hO hR) (ring_below hO hR) (hds t) hmem, hOd]
      show wL _ _ _ [some (.ref a), some (.ref p'), some (.int lv), some (.int (many : Int)), some v, some (.int (nw : Int)), some (.ref ol), some (.ref d), some v', none, none] _
      refine l_cons (s_if (t_not (t_val (e_call (by exact FLi) (by exact hr) (by decide) (a_cons (e_var (a_cons (e_var (a_cons (e_lcL (by exact bk_law) (e_var ⟨ol, _, rfl, SqL.of h17, fun D nD => ?_⟩)))))))))))
      refine ⟨fun k H2 => H2 D = some (.lst (((O.take k).map (lk m)).map kV)) ∧ Same H17 H2, ⟨upd_same, fun c u hc => by rw [upd_ne (ne_of_none hc nD)]; exact hc⟩, fun k H2 _ pr => SqL.of (pr.2 _ _ h17), ?_, ?_⟩
      · intro k x H2 hx pr
        obtain ⟨hD, e⟩ := pr
        rw [List.getElem?_map] at hx
        obtain ⟨r, hrk, rfl⟩ := Option.map_eq_some_iff.mp hx
        intro s0 H0 C cl fp IB
        refine e_dget2 (by exact hr) (b_var ⟨d, rfl, .inl ⟨_, .inl (e _ _ hd17)⟩, b_var (b_var ⟨_, DGet.k (k := r) (e _ _ hd17), _, hD, ?_, ?_, fresh_keep nD e⟩)⟩)
        · rw [List.length_map, List.length_map, List.length_take]
          show _ < 2 ^ 24
          omega
        · rw [lk_val, take_snoc' hrk, List.map_append, List.map_append]
          exact upd_same
      · intro H18 pr
        obtain ⟨hD, e18⟩ := pr
        rw [List.length_map, List.take_length] at hD
        refine a_nil ⟨v', _, (nw : Int), D, rfl, hv17.ts (Same.ts e18), okt, by omega, by rw [hrf]; exact hD, fun H19 e19 => ⟨_, rfl, iteF (l_nil ?_)⟩⟩
        have e1719 := Same.trans e18 e19
        have hv19 := hv17.ts (Same.ts e1719)
        have hvt19 := hv14.ts (Same.ts (e14.trans e1719))
        have hd19 := e1719 _ _ hd17
        refine l_cons (s_set (e_dnew fun bd nbd => ?_))
        have nbd2 : bd ≠ d := fun z => by subst z; rw [nbd] at hd19; cases hd19
        show wL _ _ _ [some (.ref a), some (.ref p'), some (.int lv), some (.int (many : Int)), some v, some (.int (nw : Int)), some (.ref ol), some (.ref d), some v', none, some (.ref bd)] _
        have hd20 : upd H19 bd (.dK []) d = some (.dK (mK m)) := by rw [upd_ne (Ne.symm nbd2)]; exact hd19
        refine l_cons (s_forD hd20 fun ob => e_var ⟨rfl, upd_same, fun k σ H' => ∃ x, σ = [some (.ref a), some (.ref p'), some (.int lv), some (.int (many : Int)), some v, some (.int (nw : Int)), some (.ref ol), some (.ref d), some v', x, some (.ref bd)] ∧ H' d = some (.frz ob (.dK (mK m))) ∧ H' bd = some (.dK (mK (backM (m.take k)))) ∧ (∀ c u, c ≠ d → c ≠ bd → H19 c = some u → H' c = some u), ?_, ?_, ?_, ?_⟩)
        · refine ⟨none, rfl, upd_same, by rw [upd_ne nbd2]; exact upd_same, fun c u c1 c2 hc => ?_⟩
          rw [upd_ne c1, upd_ne c2]
          exact hc
        · intro k σ H' _ pr
          obtain ⟨_, _, h, _⟩ := pr
          exact h
        · intro k y v0 σ H' hk pr
          obtain ⟨x, rfl, hd', hb', keep⟩ := pr
          rw [mK, List.getElem?_map] at hk
          obtain ⟨⟨r, u⟩, hmk, e⟩ := Option.map_eq_some_iff.mp hk
          cases e
          show wL _ _ _ [some (.ref a), some (.ref p'), some (.int lv), some (.int (many : Int)), some v, some (.int (nw : Int)), some (.ref ol), some (.ref d), some v', some (kV r), some (.ref bd)] _
          refine l_cons (s_dput (hu_of hr) (e_var (e_var (e_ix (e_var (e_var ?_))))))
          have hfu := fnd_of_mem hk14 (List.mem_of_getElem? hmk)
          refine ix_d (by exact hr) ⟨d, kV u, rfl, .inl ⟨_, r, .inr ⟨ob, hd'⟩, rfl, by rw [mK_val, hfu]; rfl⟩, ?_⟩
          have hbl := backM_len (m.take k)
          rw [List.length_take] at hbl
          refine ⟨bd, _, rfl, .inl ⟨_, u, hb', rfl, by rw [mK, List.length_map]; show _ < 2 ^ 24; omega, rfl⟩, ?_⟩
          refine l_nil ⟨_, rfl, by rw [upd_ne (Ne.symm nbd2)]; exact hd', ?_, fun c w0 c1 c2 hc => by rw [upd_ne c2]; exact keep c w0 c1 c2 hc⟩
          rw [take_snoc' hmk, backM_snoc, ← mK_put]
          exact upd_same
        · intro σ H' pr
          obtain ⟨x, rfl, hd', hb', keep⟩ := pr
          rw [show (mK m).length = m.length by rw [mK, List.length_map], List.take_length] at hb'
          have tsf : TS H19 (upd H' d (.dK (mK m))) := fun c xs hc => by
            have c1 : c ≠ d := fun z => by subst z; rw [hd19] at hc; cases hc
            have c2 : c ≠ bd := fun z => by subst z; rw [nbd] at hc; cases hc
            rw [upd_ne c1]
            exact keep c _ c1 c2 hc
          have hb2 : upd H' d (.dK (mK m)) bd = some (.dK (mK (backM m))) := by rw [upd_ne nbd2]; exact hb'
          refine l_cons (s_ret (e_call (by exact FS) (by exact hr) (by decide) (a_cons (e_call (by exact FM) (by exact hr) (by decide) ?_))))
          walk_at "sts"
          refine ⟨v', _, (nw : Int), lv, bd, backM m, rfl, hv19.ts tsf, okt, by omega, hb2, fun v2 H21 e21 hv21 => ?_⟩
          rw [map_back fun h hh => head_back hO hk14 hR (hmem h hh)] at hv21
          walk_at "sts"
          exact ⟨v2, v, rfl, (TrV.eq hg.1 hv21 ((hvt19.ts tsf).ts (Same.ts e21))).more (by omega), fun H22 e22 => q H22⟩
    refine if2 (fun _ => ?_) (fun _ => l_nil ?_)
    · refine l_cons (s_set (e_call (by exact FN) (by exact hr) (by decide) ?_))
      walk_at "sts"
      refine ⟨p', lv + 1, rfl, by omega, by omega, p9, fun d10 H10 q0 q1 b10 p10 => l_nil ?_⟩
      obtain ⟨k10, rfl⟩ := Int.eq_ofNat_of_zero_le q0
      exact rest2 k10 H10 (by omega) (hv9.ts (p9.ts b10)) p10
    · obtain ⟨k8, hk8⟩ := Int.eq_ofNat_of_zero_le (show 0 ≤ lv + d8 by omega)
      rw [hk8]
      exact rest2 k8 H9 (by omega) hv9 p9
  refine if2 (fun _ => ?_) (fun _ => l_nil (rest (1 + k3) (by omega) (by omega)))
  refine l_cons (s_set (e_int (l_nil ?_)))
  exact rest 40 (by omega) (by omega)
end

section
theorem all_mk {l : PySem.W.OpenLaw} {w : World} {K : PySem.W.Frag} {h : Heap} {mg : Str → Option Value} {fa : Addr} (X : K.In h) (G : h.Ns mainGlobals mg) (hfa : mg "law" = some (.ref fa))
    {f0 : Addr} {od0 an0 : Option Addr} {sl0 : Array (Option Value)} {oc0 kV0 dc0 pm0 cd0 ct0 : Value}
    {f1 : Addr} {od1 an1 : Option Addr} {sl1 : Array (Option Value)} {oc1 kV1 dc1 pm1 cd1 ct1 : Value}
    {f2 : Addr} {od2 an2 : Option Addr} {sl2 : Array (Option Value)} {oc2 kV2 dc2 pm2 cd2 ct2 : Value}
    {f3 : Addr} {od3 an3 : Option Addr} {sl3 : Array (Option Value)} {oc3 kV3 dc3 pm3 cd3 ct3 : Value}
    {f4 : Addr} {od4 an4 : Option Addr} {sl4 : Array (Option Value)} {oc4 kV4 dc4 pm4 cd4 ct4 : Value}
    {f5 : Addr} {od5 an5 : Option Addr} {sl5 : Array (Option Value)} {oc5 kV5 dc5 pm5 cd5 ct5 : Value}
    {f6 : Addr} {od6 an6 : Option Addr} {sl6 : Array (Option Value)} {oc6 kV6 dc6 pm6 cd6 ct6 : Value}
    {f7 : Addr} {od7 an7 : Option Addr} {sl7 : Array (Option Value)} {oc7 kV7 dc7 pm7 cd7 ct7 : Value}
    {f8 : Addr} {od8 an8 : Option Addr} {sl8 : Array (Option Value)} {oc8 kV8 dc8 pm8 cd8 ct8 : Value}
    {f9 : Addr} {od9 an9 : Option Addr} {sl9 : Array (Option Value)} {oc9 kV9 dc9 pm9 cd9 ct9 : Value}
    {f10 : Addr} {od10 an10 : Option Addr} {sl10 : Array (Option Value)} {oc10 kV10 dc10 pm10 cd10 ct10 : Value}
    {f11 : Addr} {od11 an11 : Option Addr} {sl11 : Array (Option Value)} {oc11 kV11 dc11 pm11 cd11 ct11 : Value}
    {f12 : Addr} {od12 an12 : Option Addr} {sl12 : Array (Option Value)} {oc12 kV12 dc12 pm12 cd12 ct12 : Value}
    {f13 : Addr} {od13 an13 : Option Addr} {sl13 : Array (Option Value)} {oc13 kV13 dc13 pm13 cd13 ct13 : Value}
    {f14 : Addr} {od14 an14 : Option Addr} {sl14 : Array (Option Value)} {oc14 kV14 dc14 pm14 cd14 ct14 : Value}
    {f15 : Addr} {od15 an15 : Option Addr} {sl15 : Array (Option Value)} {oc15 kV15 dc15 pm15 cd15 ct15 : Value}
    {f16 : Addr} {od16 an16 : Option Addr} {sl16 : Array (Option Value)} {oc16 kV16 dc16 pm16 cd16 ct16 : Value}
    {f17 : Addr} {od17 an17 : Option Addr} {sl17 : Array (Option Value)} {oc17 kV17 dc17 pm17 cd17 ct17 : Value}
    {f18 : Addr} {od18 an18 : Option Addr} {sl18 : Array (Option Value)} {oc18 kV18 dc18 pm18 cd18 ct18 : Value}
    {f19 : Addr} {od19 an19 : Option Addr} {sl19 : Array (Option Value)} {oc19 kV19 dc19 pm19 cd19 ct19 : Value}
    {f20 : Addr} {od20 an20 : Option Addr} {sl20 : Array (Option Value)} {oc20 kV20 dc20 pm20 cd20 ct20 : Value}
    {f21 : Addr} {od21 an21 : Option Addr} {sl21 : Array (Option Value)} {oc21 kV21 dc21 pm21 cd21 ct21 : Value}
    {f22 : Addr} {od22 an22 : Option Addr} {sl22 : Array (Option Value)} {oc22 kV22 dc22 pm22 cd22 ct22 : Value}
    {f23 : Addr} {od23 an23 : Option Addr} {sl23 : Array (Option Value)} {oc23 kV23 dc23 pm23 cd23 ct23 : Value}
    {f24 : Addr} {od24 an24 : Option Addr} {sl24 : Array (Option Value)} {oc24 kV24 dc24 pm24 cd24 ct24 : Value}
    {f25 : Addr} {od25 an25 : Option Addr} {sl25 : Array (Option Value)} {oc25 kV25 dc25 pm25 cd25 ct25 : Value}
    {f26 : Addr} {od26 an26 : Option Addr} {sl26 : Array (Option Value)} {oc26 kV26 dc26 pm26 cd26 ct26 : Value}
    {f27 : Addr} {od27 an27 : Option Addr} {sl27 : Array (Option Value)} {oc27 kV27 dc27 pm27 cd27 ct27 : Value}
    {f28 : Addr} {od28 an28 : Option Addr} {sl28 : Array (Option Value)} {oc28 kV28 dc28 pm28 cd28 ct28 : Value}
    {f29 : Addr} {od29 an29 : Option Addr} {sl29 : Array (Option Value)} {oc29 kV29 dc29 pm29 cd29 ct29 : Value}
    {FA DA : Addr} {nF nD : Nat} {r0_ : Addr} {tF0 tD0 tP0 : Tok} {nT0 : Nat} {r1_ : Addr} {tF1 tD1 tP1 : Tok} {nT1 : Nat} {r2_ : Addr} {tF2 tD2 tP2 : Tok} {nT2 : Nat} {r3_ : Addr} {tF3 tD3 tP3 : Tok} {nT3 : Nat} {r4_ : Addr} {tF4 tD4 tP4 : Tok} {nT4 : Nat} {r5_ : Addr} {tF5 tD5 tP5 : Tok} {nT5 : Nat} {r6_ : Addr} {tF6 tD6 tP6 : Tok} {nT6 : Nat} {r7_ : Addr} {tF7 tD7 tP7 : Tok} {nT7 : Nat} {r8_ : Addr} {tF8 tD8 tP8 : Tok} {nT8 : Nat} {tT0_0 : Tok} {tT3_0 : Tok} {tT3_1 : Tok} {tT4_0 : Tok} {tT4_1 : Tok} {tT5_0 : Tok} {tT5_1 : Tok} {tT6_0 : Tok} {tT6_1 : Tok} {tT6_2 : Tok} {tT7_0 : Tok} {tT7_1 : Tok} {tT8_0 : Tok}
    (a0 : PySem.W.nsIn K mainGlobals "refers" = some (some (.ref f0)))
    (l0 : K.lookup f0 = some ⟨oc0, od0, .func (PySem.W.fnOf "refers" "refers" (defArgs s_refers) (defBody s_refers) (defScope s_refers) .none kV0 dc0 pm0 an0 cd0 ct0), sl0⟩)
    (c0 : PySem.W.codeIn K cd0 "refers" = true)
    (k0 : PySem.W.keepIn K (.ref f0) = true)
    (a1 : PySem.W.nsIn K mainGlobals "premises" = some (some (.ref f1)))
    (l1 : K.lookup f1 = some ⟨oc1, od1, .func (PySem.W.fnOf "premises" "premises" (defArgs s_premises) (defBody s_premises) (defScope s_premises) .none kV1 dc1 pm1 an1 cd1 ct1), sl1⟩)
    (c1 : PySem.W.codeIn K cd1 "premises" = true)
    (k1 : PySem.W.keepIn K (.ref f1) = true)
    (a2 : PySem.W.nsIn K mainGlobals "head_of" = some (some (.ref f2)))
    (l2 : K.lookup f2 = some ⟨oc2, od2, .func (PySem.W.fnOf "head_of" "head_of" (defArgs s_head_of) (defBody s_head_of) (defScope s_head_of) .none kV2 dc2 pm2 an2 cd2 ct2), sl2⟩)
    (c2 : PySem.W.codeIn K cd2 "head_of" = true)
    (k2 : PySem.W.keepIn K (.ref f2) = true)
    (a3 : PySem.W.nsIn K mainGlobals "heads" = some (some (.ref f3)))
    (l3 : K.lookup f3 = some ⟨oc3, od3, .func (PySem.W.fnOf "heads" "heads" (defArgs s_heads) (defBody s_heads) (defScope s_heads) .none kV3 dc3 pm3 an3 cd3 ct3), sl3⟩)
    (c3 : PySem.W.codeIn K cd3 "heads" = true)
    (k3 : PySem.W.keepIn K (.ref f3) = true)
    (a4 : PySem.W.nsIn K mainGlobals "from_heads" = some (some (.ref f4)))
    (l4 : K.lookup f4 = some ⟨oc4, od4, .func (PySem.W.fnOf "from_heads" "from_heads" (defArgs s_from_heads) (defBody s_from_heads) (defScope s_from_heads) .none kV4 dc4 pm4 an4 cd4 ct4), sl4⟩)
    (c4 : PySem.W.codeIn K cd4 "from_heads" = true)
    (k4 : PySem.W.keepIn K (.ref f4) = true)
    (a5 : PySem.W.nsIn K mainGlobals "moved" = some (some (.ref f5)))
    (l5 : K.lookup f5 = some ⟨oc5, od5, .func (PySem.W.fnOf "moved" "moved" (defArgs s_moved) (defBody s_moved) (defScope s_moved) .none kV5 dc5 pm5 an5 cd5 ct5), sl5⟩)
    (c5 : PySem.W.codeIn K cd5 "moved" = true)
    (k5 : PySem.W.keepIn K (.ref f5) = true)
    (a6 : PySem.W.nsIn K mainGlobals "moved_head" = some (some (.ref f6)))
    (l6 : K.lookup f6 = some ⟨oc6, od6, .func (PySem.W.fnOf "moved_head" "moved_head" (defArgs s_moved_head) (defBody s_moved_head) (defScope s_moved_head) .none kV6 dc6 pm6 an6 cd6 ct6), sl6⟩)
    (c6 : PySem.W.codeIn K cd6 "moved_head" = true)
    (k6 : PySem.W.keepIn K (.ref f6) = true)
    (a7 : PySem.W.nsIn K mainGlobals "is_below" = some (some (.ref f7)))
    (l7 : K.lookup f7 = some ⟨oc7, od7, .func (PySem.W.fnOf "is_below" "is_below" (defArgs s_is_below) (defBody s_is_below) (defScope s_is_below) .none kV7 dc7 pm7 an7 cd7 ct7), sl7⟩)
    (c7 : PySem.W.codeIn K cd7 "is_below" = true)
    (k7 : PySem.W.keepIn K (.ref f7) = true)
    (a8 : PySem.W.nsIn K mainGlobals "free_refs" = some (some (.ref f8)))
    (l8 : K.lookup f8 = some ⟨oc8, od8, .func (PySem.W.fnOf "free_refs" "free_refs" (defArgs s_free_refs) (defBody s_free_refs) (defScope s_free_refs) .none kV8 dc8 pm8 an8 cd8 ct8), sl8⟩)
    (c8 : PySem.W.codeIn K cd8 "free_refs" = true)
    (k8 : PySem.W.keepIn K (.ref f8) = true)
    (a9 : PySem.W.nsIn K mainGlobals "_law_cell" = some (some (.ref f9)))
    (l9 : K.lookup f9 = some ⟨oc9, od9, .func (PySem.W.fnOf "_law_cell" "_law_cell" (defArgs s_cell) (defBody s_cell) (defScope s_cell) .none kV9 dc9 pm9 an9 cd9 ct9), sl9⟩)
    (c9 : PySem.W.codeIn K cd9 "_law_cell" = true)
    (k9 : PySem.W.keepIn K (.ref f9) = true)
    (a10 : PySem.W.nsIn K mainGlobals "_law_pool" = some (some (.ref f10)))
    (l10 : K.lookup f10 = some ⟨oc10, od10, .func (PySem.W.fnOf "_law_pool" "_law_pool" (defArgs s_pool) (defBody s_pool) (defScope s_pool) .none kV10 dc10 pm10 an10 cd10 ct10), sl10⟩)
    (c10 : PySem.W.codeIn K cd10 "_law_pool" = true)
    (k10 : PySem.W.keepIn K (.ref f10) = true)
    (a11 : PySem.W.nsIn K mainGlobals "_law_next" = some (some (.ref f11)))
    (l11 : K.lookup f11 = some ⟨oc11, od11, .func (PySem.W.fnOf "_law_next" "_law_next" (defArgs s_next) (defBody s_next) (defScope s_next) .none kV11 dc11 pm11 an11 cd11 ct11), sl11⟩)
    (c11 : PySem.W.codeIn K cd11 "_law_next" = true)
    (k11 : PySem.W.keepIn K (.ref f11) = true)
    (a12 : PySem.W.nsIn K mainGlobals "_law_is_number" = some (some (.ref f12)))
    (l12 : K.lookup f12 = some ⟨oc12, od12, .func (PySem.W.fnOf "_law_is_number" "_law_is_number" (defArgs s_is_number) (defBody s_is_number) (defScope s_is_number) .none kV12 dc12 pm12 an12 cd12 ct12), sl12⟩)
    (c12 : PySem.W.codeIn K cd12 "_law_is_number" = true)
    (k12 : PySem.W.keepIn K (.ref f12) = true)
    (a13 : PySem.W.nsIn K mainGlobals "_law_row" = some (some (.ref f13)))
    (l13 : K.lookup f13 = some ⟨oc13, od13, .func (PySem.W.fnOf "_law_row" "_law_row" (defArgs s_row) (defBody s_row) (defScope s_row) .none kV13 dc13 pm13 an13 cd13 ct13), sl13⟩)
    (c13 : PySem.W.codeIn K cd13 "_law_row" = true)
    (k13 : PySem.W.keepIn K (.ref f13) = true)
    (a14 : PySem.W.nsIn K mainGlobals "_law_parts" = some (some (.ref f14)))
    (l14 : K.lookup f14 = some ⟨oc14, od14, .func (PySem.W.fnOf "_law_parts" "_law_parts" (defArgs s_parts) (defBody s_parts) (defScope s_parts) .none kV14 dc14 pm14 an14 cd14 ct14), sl14⟩)
    (c14 : PySem.W.codeIn K cd14 "_law_parts" = true)
    (k14 : PySem.W.keepIn K (.ref f14) = true)
    (a15 : PySem.W.nsIn K mainGlobals "_law_paths" = some (some (.ref f15)))
    (l15 : K.lookup f15 = some ⟨oc15, od15, .func (PySem.W.fnOf "_law_paths" "_law_paths" (defArgs s_paths) (defBody s_paths) (defScope s_paths) .none kV15 dc15 pm15 an15 cd15 ct15), sl15⟩)
    (c15 : PySem.W.codeIn K cd15 "_law_paths" = true)
    (k15 : PySem.W.keepIn K (.ref f15) = true)
    (a16 : PySem.W.nsIn K mainGlobals "_law_at" = some (some (.ref f16)))
    (l16 : K.lookup f16 = some ⟨oc16, od16, .func (PySem.W.fnOf "_law_at" "_law_at" (defArgs s_at) (defBody s_at) (defScope s_at) .none kV16 dc16 pm16 an16 cd16 ct16), sl16⟩)
    (c16 : PySem.W.codeIn K cd16 "_law_at" = true)
    (k16 : PySem.W.keepIn K (.ref f16) = true)
    (a17 : PySem.W.nsIn K mainGlobals "_law_same" = some (some (.ref f17)))
    (l17 : K.lookup f17 = some ⟨oc17, od17, .func (PySem.W.fnOf "_law_same" "_law_same" (defArgs s_same) (defBody s_same) (defScope s_same) .none kV17 dc17 pm17 an17 cd17 ct17), sl17⟩)
    (c17 : PySem.W.codeIn K cd17 "_law_same" = true)
    (k17 : PySem.W.keepIn K (.ref f17) = true)
    (a18 : PySem.W.nsIn K mainGlobals "_law_mode" = some (some (.ref f18)))
    (l18 : K.lookup f18 = some ⟨oc18, od18, .func (PySem.W.fnOf "_law_mode" "_law_mode" (defArgs s_mode) (defBody s_mode) (defScope s_mode) .none kV18 dc18 pm18 an18 cd18 ct18), sl18⟩)
    (c18 : PySem.W.codeIn K cd18 "_law_mode" = true)
    (k18 : PySem.W.keepIn K (.ref f18) = true)
    (a19 : PySem.W.nsIn K mainGlobals "_law_free_one" = some (some (.ref f19)))
    (l19 : K.lookup f19 = some ⟨oc19, od19, .func (PySem.W.fnOf "_law_free_one" "_law_free_one" (defArgs s_free_one) (defBody s_free_one) (defScope s_free_one) .none kV19 dc19 pm19 an19 cd19 ct19), sl19⟩)
    (c19 : PySem.W.codeIn K cd19 "_law_free_one" = true)
    (k19 : PySem.W.keepIn K (.ref f19) = true)
    (a20 : PySem.W.nsIn K mainGlobals "_law_free_two" = some (some (.ref f20)))
    (l20 : K.lookup f20 = some ⟨oc20, od20, .func (PySem.W.fnOf "_law_free_two" "_law_free_two" (defArgs s_free_two) (defBody s_free_two) (defScope s_free_two) .none kV20 dc20 pm20 an20 cd20 ct20), sl20⟩)
    (c20 : PySem.W.codeIn K cd20 "_law_free_two" = true)
    (k20 : PySem.W.keepIn K (.ref f20) = true)
    (a21 : PySem.W.nsIn K mainGlobals "_law_free" = some (some (.ref f21)))
    (l21 : K.lookup f21 = some ⟨oc21, od21, .func (PySem.W.fnOf "_law_free" "_law_free" (defArgs s_free) (defBody s_free) (defScope s_free) .none kV21 dc21 pm21 an21 cd21 ct21), sl21⟩)
    (c21 : PySem.W.codeIn K cd21 "_law_free" = true)
    (k21 : PySem.W.keepIn K (.ref f21) = true)
    (a22 : PySem.W.nsIn K mainGlobals "_law_others" = some (some (.ref f22)))
    (l22 : K.lookup f22 = some ⟨oc22, od22, .func (PySem.W.fnOf "_law_others" "_law_others" (defArgs s_others) (defBody s_others) (defScope s_others) .none kV22 dc22 pm22 an22 cd22 ct22), sl22⟩)
    (c22 : PySem.W.codeIn K cd22 "_law_others" = true)
    (k22 : PySem.W.keepIn K (.ref f22) = true)
    (a23 : PySem.W.nsIn K mainGlobals "_law_beside" = some (some (.ref f23)))
    (l23 : K.lookup f23 = some ⟨oc23, od23, .func (PySem.W.fnOf "_law_beside" "_law_beside" (defArgs s_beside) (defBody s_beside) (defScope s_beside) .none kV23 dc23 pm23 an23 cd23 ct23), sl23⟩)
    (c23 : PySem.W.codeIn K cd23 "_law_beside" = true)
    (k23 : PySem.W.keepIn K (.ref f23) = true)
    (a24 : PySem.W.nsIn K mainGlobals "_law_target" = some (some (.ref f24)))
    (l24 : K.lookup f24 = some ⟨oc24, od24, .func (PySem.W.fnOf "_law_target" "_law_target" (defArgs s_target) (defBody s_target) (defScope s_target) .none kV24 dc24 pm24 an24 cd24 ct24), sl24⟩)
    (c24 : PySem.W.codeIn K cd24 "_law_target" = true)
    (k24 : PySem.W.keepIn K (.ref f24) = true)
    (a25 : PySem.W.nsIn K mainGlobals "_law_wild" = some (some (.ref f25)))
    (l25 : K.lookup f25 = some ⟨oc25, od25, .func (PySem.W.fnOf "_law_wild" "_law_wild" (defArgs s_wild) (defBody s_wild) (defScope s_wild) .none kV25 dc25 pm25 an25 cd25 ct25), sl25⟩)
    (c25 : PySem.W.codeIn K cd25 "_law_wild" = true)
    (k25 : PySem.W.keepIn K (.ref f25) = true)
    (a26 : PySem.W.nsIn K mainGlobals "_law_ring" = some (some (.ref f26)))
    (l26 : K.lookup f26 = some ⟨oc26, od26, .func (PySem.W.fnOf "_law_ring" "_law_ring" (defArgs s_ring) (defBody s_ring) (defScope s_ring) .none kV26 dc26 pm26 an26 cd26 ct26), sl26⟩)
    (c26 : PySem.W.codeIn K cd26 "_law_ring" = true)
    (k26 : PySem.W.keepIn K (.ref f26) = true)
    (a27 : PySem.W.nsIn K mainGlobals "_law_moves" = some (some (.ref f27)))
    (l27 : K.lookup f27 = some ⟨oc27, od27, .func (PySem.W.fnOf "_law_moves" "_law_moves" (defArgs s_moves) (defBody s_moves) (defScope s_moves) .none kV27 dc27 pm27 an27 cd27 ct27), sl27⟩)
    (c27 : PySem.W.codeIn K cd27 "_law_moves" = true)
    (k27 : PySem.W.keepIn K (.ref f27) = true)
    (a28 : PySem.W.nsIn K mainGlobals "_law_listed" = some (some (.ref f28)))
    (l28 : K.lookup f28 = some ⟨oc28, od28, .func (PySem.W.fnOf "_law_listed" "_law_listed" (defArgs s_listed) (defBody s_listed) (defScope s_listed) .none kV28 dc28 pm28 an28 cd28 ct28), sl28⟩)
    (c28 : PySem.W.codeIn K cd28 "_law_listed" = true)
    (k28 : PySem.W.keepIn K (.ref f28) = true)
    (a29 : PySem.W.nsIn K mainGlobals "law" = some (some (.ref f29)))
    (l29 : K.lookup f29 = some ⟨oc29, od29, .func (PySem.W.fnOf "law" "law" (defArgs s_law) (defBody s_law) (defScope s_law) .none kV29 dc29 pm29 an29 cd29 ct29), sl29⟩)
    (c29 : PySem.W.codeIn K cd29 "law" = true)
    (k29 : PySem.W.keepIn K (.ref f29) = true)
    (z_isinstance : PySem.W.nsIn K mainGlobals "isinstance" = some none)
    (z_int : PySem.W.nsIn K mainGlobals "int" = some none)
    (z_bool : PySem.W.nsIn K mainGlobals "bool" = some none)
    (z_str : PySem.W.nsIn K mainGlobals "str" = some none)
    (z_tuple : PySem.W.nsIn K mainGlobals "tuple" = some none)
    (z_list : PySem.W.nsIn K mainGlobals "list" = some none)
    (z_len : PySem.W.nsIn K mainGlobals "len" = some none)
    (z_range : PySem.W.nsIn K mainGlobals "range" = some none)
    (z_abs : PySem.W.nsIn K mainGlobals "abs" = some none)
    (z_dict : PySem.W.nsIn K mainGlobals "dict" = some none)
    (z_reversed : PySem.W.nsIn K mainGlobals "reversed" = some none)
    (aF : PySem.W.nsIn K mainGlobals "FIELDS" = some (some (.ref FA)))
    (aD : PySem.W.nsIn K mainGlobals "PREMISES" = some (some (.ref DA)))
    (lF : K.lookup FA = some { cls := .type "dict", data := .dict #[⟨PyData.keyHash w.params "own", .str "own" tF0, .ref r0_⟩, ⟨PyData.keyHash w.params "take", .str "take" tF1, .ref r1_⟩, ⟨PyData.keyHash w.params "offer", .str "offer" tF2, .ref r2_⟩, ⟨PyData.keyHash w.params "pick", .str "pick" tF3, .ref r3_⟩, ⟨PyData.keyHash w.params "pay", .str "pay" tF4, .ref r4_⟩, ⟨PyData.keyHash w.params "make", .str "make" tF5, .ref r5_⟩, ⟨PyData.keyHash w.params "open", .str "open" tF6, .ref r6_⟩, ⟨PyData.keyHash w.params "cut", .str "cut" tF7, .ref r7_⟩, ⟨PyData.keyHash w.params "cite", .str "cite" tF8, .ref r8_⟩] nF })
    (lD : K.lookup DA = some { cls := .type "dict", data := .dict #[⟨PyData.keyHash w.params "own", .str "own" tD0, .int 0 tP0⟩, ⟨PyData.keyHash w.params "take", .str "take" tD1, .int 1 tP1⟩, ⟨PyData.keyHash w.params "offer", .str "offer" tD2, .int 2 tP2⟩, ⟨PyData.keyHash w.params "pick", .str "pick" tD3, .int 1 tP3⟩, ⟨PyData.keyHash w.params "pay", .str "pay" tD4, .int 2 tP4⟩, ⟨PyData.keyHash w.params "make", .str "make" tD5, .int 1 tP5⟩, ⟨PyData.keyHash w.params "open", .str "open" tD6, .int 1 tP6⟩, ⟨PyData.keyHash w.params "cut", .str "cut" tD7, .int 2 tP7⟩, ⟨PyData.keyHash w.params "cite", .str "cite" tD8, .int 0 tP8⟩] nD })
    (lT0 : K.lookup r0_ = some { cls := .type "tuple", data := .seq #[.str "ref" tT0_0] nT0 })
    (lT1 : K.lookup r1_ = some { cls := .type "tuple", data := .seq #[] nT1 })
    (lT2 : K.lookup r2_ = some { cls := .type "tuple", data := .seq #[] nT2 })
    (lT3 : K.lookup r3_ = some { cls := .type "tuple", data := .seq #[.str "ref" tT3_0, .str "side" tT3_1] nT3 })
    (lT4 : K.lookup r4_ = some { cls := .type "tuple", data := .seq #[.str "ref" tT4_0, .str "kind" tT4_1] nT4 })
    (lT5 : K.lookup r5_ = some { cls := .type "tuple", data := .seq #[.str "name" tT5_0, .str "index" tT5_1] nT5 })
    (lT6 : K.lookup r6_ = some { cls := .type "tuple", data := .seq #[.str "ref" tT6_0, .str "name" tT6_1, .str "index" tT6_2] nT6 })
    (lT7 : K.lookup r7_ = some { cls := .type "tuple", data := .seq #[.str "kind" tT7_0, .str "sentence" tT7_1] nT7 })
    (lT8 : K.lookup r8_ = some { cls := .type "tuple", data := .seq #[.str "name" tT8_0] nT8 }) :
    ∃ fd : FuncData, (∀ (s : Shared) (v : Value), BindsTo s fd ⟨[v], []⟩ [("_law_script", v)]) ∧ ∀ base : Heap, K.In base → base.Ns mainGlobals mg → FnOk l.prog w K mg base CX0 84 fa fd ["_law_script"] (spLaw K) := by
  have e := hfa.symm.trans (PySem.W.mg_of X G a29)
  cases e
  have TB : Tabs w K mg := by
    refine ⟨FA, DA, fun | .own => r0_ | .take => r1_ | .offer => r2_ | .pick => r3_ | .pay => r4_ | .make => r5_ | .open_ => r6_ | .cut => r7_ | .cite => r8_, PySem.W.mg_of X G aF, PySem.W.mg_of X G aD, ?_, ?_, ?_⟩
    · exact kdict_mk [("own", tF0, .ref r0_), ("take", tF1, .ref r1_), ("offer", tF2, .ref r2_), ("pick", tF3, .ref r3_), ("pay", tF4, .ref r4_), ("make", tF5, .ref r5_), ("open", tF6, .ref r6_), ("cut", tF7, .ref r7_), ("cite", tF8, .ref r8_)] lF ⟨rfl, rfl, rfl⟩ rfl ((.cons ⟨rfl, rfl⟩ (.cons ⟨rfl, rfl⟩ (.cons ⟨rfl, rfl⟩ (.cons ⟨rfl, rfl⟩ (.cons ⟨rfl, rfl⟩ (.cons ⟨rfl, rfl⟩ (.cons ⟨rfl, rfl⟩ (.cons ⟨rfl, rfl⟩ (.cons ⟨rfl, rfl⟩ .nil)))))))))) (by show (allKd.map Kd.nm).Nodup; decide +kernel)
    · exact kdict_mk [("own", tD0, .int 0 tP0), ("take", tD1, .int 1 tP1), ("offer", tD2, .int 2 tP2), ("pick", tD3, .int 1 tP3), ("pay", tD4, .int 2 tP4), ("make", tD5, .int 1 tP5), ("open", tD6, .int 1 tP6), ("cut", tD7, .int 2 tP7), ("cite", tD8, .int 0 tP8)] lD ⟨rfl, rfl, rfl⟩ rfl ((.cons ⟨rfl, ⟨_, rfl⟩⟩ (.cons ⟨rfl, ⟨_, rfl⟩⟩ (.cons ⟨rfl, ⟨_, rfl⟩⟩ (.cons ⟨rfl, ⟨_, rfl⟩⟩ (.cons ⟨rfl, ⟨_, rfl⟩⟩ (.cons ⟨rfl, ⟨_, rfl⟩⟩ (.cons ⟨rfl, ⟨_, rfl⟩⟩ (.cons ⟨rfl, ⟨_, rfl⟩⟩ (.cons ⟨rfl, ⟨_, rfl⟩⟩ .nil)))))))))) (by show (allKd.map Kd.nm).Nodup; decide +kernel)
    · intro H k
      cases k with
      | own => exact .inr ⟨_, _, _, lT0, rfl, rfl, by show 1 ≤ 2 ^ 24; decide, ((.cons ⟨_, rfl⟩ .nil))⟩
      | take => exact .inr ⟨_, _, _, lT1, rfl, rfl, by show 0 ≤ 2 ^ 24; decide, .nil⟩
      | offer => exact .inr ⟨_, _, _, lT2, rfl, rfl, by show 0 ≤ 2 ^ 24; decide, .nil⟩
      | pick => exact .inr ⟨_, _, _, lT3, rfl, rfl, by show 2 ≤ 2 ^ 24; decide, ((.cons ⟨_, rfl⟩ (.cons ⟨_, rfl⟩ .nil)))⟩
      | pay => exact .inr ⟨_, _, _, lT4, rfl, rfl, by show 2 ≤ 2 ^ 24; decide, ((.cons ⟨_, rfl⟩ (.cons ⟨_, rfl⟩ .nil)))⟩
      | make => exact .inr ⟨_, _, _, lT5, rfl, rfl, by show 2 ≤ 2 ^ 24; decide, ((.cons ⟨_, rfl⟩ (.cons ⟨_, rfl⟩ .nil)))⟩
      | open_ => exact .inr ⟨_, _, _, lT6, rfl, rfl, by show 3 ≤ 2 ^ 24; decide, ((.cons ⟨_, rfl⟩ (.cons ⟨_, rfl⟩ (.cons ⟨_, rfl⟩ .nil))))⟩
      | cut => exact .inr ⟨_, _, _, lT7, rfl, rfl, by show 2 ≤ 2 ^ 24; decide, ((.cons ⟨_, rfl⟩ (.cons ⟨_, rfl⟩ .nil)))⟩
      | cite => exact .inr ⟨_, _, _, lT8, rfl, rfl, by show 1 ≤ 2 ^ 24; decide, ((.cons ⟨_, rfl⟩ .nil))⟩
  have mIs := (PySem.W.mg_none_of X G z_isinstance)
  have mInt := (PySem.W.mg_none_of X G z_int)
  have mBool := (PySem.W.mg_none_of X G z_bool)
  have mStr := (PySem.W.mg_none_of X G z_str)
  have mTup := (PySem.W.mg_none_of X G z_tuple)
  have mList := (PySem.W.mg_none_of X G z_list)
  have mLen := (PySem.W.mg_none_of X G z_len)
  have mR := (PySem.W.mg_none_of X G z_range)
  have mAbs := (PySem.W.mg_none_of X G z_abs)
  have mDict := (PySem.W.mg_none_of X G z_dict)
  have mRev := (PySem.W.mg_none_of X G z_reversed)
  have FL := fun_mk (st := s_law) l29 c29 k29
  refine ⟨PySem.W.fnOf "law" "law" (defArgs s_law) (defBody s_law) (defScope s_law) .none kV29 dc29 pm29 an29 cd29 ct29, fun s v => .of_eq rfl, fun base _ _ => ?_⟩
  have Fcell : Fn l.prog w K mg base 1 "_law_cell" (spCell K) := ok_cell (top_mk X G a9 l9 c9 k9) mLen mAbs
  have Fpool := ok_pool (top_mk X G a10 l10 c10 k10) Fcell mInt
  have Fnext : Fn l.prog w K mg base 1 "_law_next" spNext := ok_next (top_mk X G a11 l11 c11 k11) mInt
  have Frefers : Fn l.prog w K mg base 1 "refers" spRef := ok_refers (top_mk X G a0 l0 c0 k0) TB
  have Fprem : Fn l.prog w K mg base 1 "premises" spPrem := ok_premises (top_mk X G a1 l1 c1 k1) TB mList mLen
  have Fhead : Fn l.prog w K mg base 1 "head_of" spHead := ok_head_of (top_mk X G a2 l2 c2 k2) TB mLen
  have Fheads := ok_heads (top_mk X G a3 l3 c3 k3) Fhead Fprem
  have Ffrom : Fn l.prog w K mg base 1 "from_heads" spFrom := ok_from_heads (top_mk X G a4 l4 c4 k4) TB mR mRev
  have Fbelow : Fn l.prog w K mg base 1 "is_below" spBelow := ok_is_below (top_mk X G a7 l7 c7 k7) mIs mStr
  have Fmh := ok_moved_head (top_mk X G a6 l6 c6 k6) Frefers Fbelow
  have Fmoved := ok_moved (top_mk X G a5 l5 c5 k5) Ffrom Fheads Fmh
  have Ffree := ok_free_refs (top_mk X G a8 l8 c8 k8) mList Fheads Frefers Fbelow
  have Fnum : Fn l.prog w K mg base 1 "_law_is_number" spNum := ok_num (top_mk X G a12 l12 c12 k12) mIs mInt mBool
  have Frow : Fn l.prog w K mg base 1 "_law_row" spRow := ok_row (top_mk X G a13 l13 c13 k13) mIs mTup mLen
  have Fparts := ok_parts (top_mk X G a14 l14 c14 k14) Frow
  have Fpaths := ok_paths (top_mk X G a15 l15 c15 k15) mLen mR Fparts
  have Fat := ok_at (top_mk X G a16 l16 c16 k16) Fparts
  have Fsame := ok_same (top_mk X G a17 l17 c17 k17) mIs mStr mTup mList mLen mR Fnum
  have Fmode := ok_mode (top_mk X G a18 l18 c18 k18) Fnext
  have Fdraw := ok_free (top_mk X G a21 l21 c21 k21) (top_mk X G a19 l19 c19 k19) (top_mk X G a20 l20 c20 k20) mInt Fnext Fmode
  have Fothers := ok_others 45 (by decide) (top_mk X G a22 l22 c22 k22) mIs mStr (Fpaths 45) Fat
  have Fbeside := ok_beside (top_mk X G a23 l23 c23 k23) mIs mTup mInt mLen mR Frow (Fsame 2)
  have Ftarget := ok_target (top_mk X G a24 l24 c24 k24) Fnext
  have Fwild := ok_wild (top_mk X G a25 l25 c25 k25) Fnext Ftarget
  have Fring := ok_ring (top_mk X G a26 l26 c26 k26) mIs mInt mStr mLen mR Fnext
  have Fmoves := ok_moves 45 (top_mk X G a27 l27 c27 k27) mDict Fmoved (Fbeside 45)
  have Flisted := ok_listed (top_mk X G a28 l28 c28 k28) Ffree (Fsame 1)
  exact ok_law FL mDict Fpool Fnext (Fdraw 40) Fothers Flisted Fmoves Fwild Fring Fmoved (Fsame 45)
theorem walk {l : PySem.W.OpenLaw} {q : Program} {loose : List Str} {XP : (Str → Option Value) → Heap → Prop} {YP : World → Heap → Prop} {d : DefRec} {K : Params → PySem.W.Frag} (hn : l.most = some 63) (hdf : d.params.defaults = [])
    (hY : ∀ (w : World) (h : Heap), YP w h → (K w.params).In h)
    (F : ∀ (w : World) (mg : Str → Option Value) (fa : Addr) (h : Heap), (K w.params).In h → h.Ns mainGlobals mg → mg d.name = some (.ref fa) →
      ∃ fd : FuncData, (∀ (s : Shared) (u : Value), BindsTo s fd ⟨[u], []⟩ [("_law_script", u)]) ∧ ∀ base : Heap, (K w.params).In base → base.Ns mainGlobals mg → FnOk l.prog w (K w.params) mg base CX0 84 fa fd ["_law_script"] (spLaw (K w.params))) :
    PySem.W.WalkO q loose XP YP l.row.toRowW d [] (fun f vs => PySem.call f vs) :=
  L2.walk_of (n := 63) (k := 84) (x := "_law_script") (CX := fun _ => CX0) (sp := fun w => spLaw (K w.params)) hn (by decide) hdf ⟨rfl, by decide, by decide⟩ hY F (fun _ _ a ns hl _ hS => ⟨a, ns, rfl, hS, hl, fun _ => rfl⟩) fun _ _ _ _ _ z => z
end
end K05
open PySem PySem.W PyProof.Rows
set_option maxRecDepth 100000 in
set_option maxHeartbeats 0 in
theorem PySem.Challenge.cw_heldproofs_k05_moved_there_and_back_holds : PySem.Challenge.rw_heldproofs_k05_moved_there_and_back.Holds := by
  w_on; o_law; k_head; (case hw => w_witness2)
  k_fill
  refine K05.walk (l := PySem.Challenge.rw_heldproofs_k05_moved_there_and_back) rfl rfl (fun w h Y => PySem.W.kIn_of Y) ?F
  case F =>
    intro w mg fa h KX G hmg
    refine' K05.all_mk KX G hmg ?a0 ?l0 ?c0 ?k0 ?a1 ?l1 ?c1 ?k1 ?a2 ?l2 ?c2 ?k2 ?a3 ?l3 ?c3 ?k3 ?a4 ?l4 ?c4 ?k4 ?a5 ?l5 ?c5 ?k5 ?a6 ?l6 ?c6 ?k6 ?a7 ?l7 ?c7 ?k7 ?a8 ?l8 ?c8 ?k8 ?a9 ?l9 ?c9 ?k9 ?a10 ?l10 ?c10 ?k10 ?a11 ?l11 ?c11 ?k11 ?a12 ?l12 ?c12 ?k12 ?a13 ?l13 ?c13 ?k13 ?a14 ?l14 ?c14 ?k14 ?a15 ?l15 ?c15 ?k15 ?a16 ?l16 ?c16 ?k16 ?a17 ?l17 ?c17 ?k17 ?a18 ?l18 ?c18 ?k18 ?a19 ?l19 ?c19 ?k19 ?a20 ?l20 ?c20 ?k20 ?a21 ?l21 ?c21 ?k21 ?a22 ?l22 ?c22 ?k22 ?a23 ?l23 ?c23 ?k23 ?a24 ?l24 ?c24 ?k24 ?a25 ?l25 ?c25 ?k25 ?a26 ?l26 ?c26 ?k26 ?a27 ?l27 ?c27 ?k27 ?a28 ?l28 ?c28 ?k28 ?a29 ?l29 ?c29 ?k29 ?z_isinstance ?z_int ?z_bool ?z_str ?z_tuple ?z_list ?z_len ?z_range ?z_abs ?z_dict ?z_reversed ?aF ?aD ?lF ?lD ?lT0 ?lT1 ?lT2 ?lT3 ?lT4 ?lT5 ?lT6 ?lT7 ?lT8
    (case a0 => k_is)
    (case l0 => k_is)
    (case c0 => k_is)
    (case k0 => k_is)
    (case a1 => k_is)
    (case l1 => k_is)
    (case c1 => k_is)
    (case k1 => k_is)
    (case a2 => k_is)
    (case l2 => k_is)
    (case c2 => k_is)
    (case k2 => k_is)
    (case a3 => k_is)
    (case l3 => k_is)
    (case c3 => k_is)
    (case k3 => k_is)
    (case a4 => k_is)
    (case l4 => k_is)
    (case c4 => k_is)
    (case k4 => k_is)
    (case a5 => k_is)
    (case l5 => k_is)
    (case c5 => k_is)
    (case k5 => k_is)
    (case a6 => k_is)
    (case l6 => k_is)
    (case c6 => k_is)
    (case k6 => k_is)
    (case a7 => k_is)
    (case l7 => k_is)
    (case c7 => k_is)
    (case k7 => k_is)
    (case a8 => k_is)
    (case l8 => k_is)
    (case c8 => k_is)
    (case k8 => k_is)
    (case a9 => k_is)
    (case l9 => k_is)
    (case c9 => k_is)
    (case k9 => k_is)
    (case a10 => k_is)
    (case l10 => k_is)
    (case c10 => k_is)
    (case k10 => k_is)
    (case a11 => k_is)
    (case l11 => k_is)
    (case c11 => k_is)
    (case k11 => k_is)
    (case a12 => k_is)
    (case l12 => k_is)
    (case c12 => k_is)
    (case k12 => k_is)
    (case a13 => k_is)
    (case l13 => k_is)
    (case c13 => k_is)
    (case k13 => k_is)
    (case a14 => k_is)
    (case l14 => k_is)
    (case c14 => k_is)
    (case k14 => k_is)
    (case a15 => k_is)
    (case l15 => k_is)
    (case c15 => k_is)
    (case k15 => k_is)
    (case a16 => k_is)
    (case l16 => k_is)
    (case c16 => k_is)
    (case k16 => k_is)
    (case a17 => k_is)
    (case l17 => k_is)
    (case c17 => k_is)
    (case k17 => k_is)
    (case a18 => k_is)
    (case l18 => k_is)
    (case c18 => k_is)
    (case k18 => k_is)
    (case a19 => k_is)
    (case l19 => k_is)
    (case c19 => k_is)
    (case k19 => k_is)
    (case a20 => k_is)
    (case l20 => k_is)
    (case c20 => k_is)
    (case k20 => k_is)
    (case a21 => k_is)
    (case l21 => k_is)
    (case c21 => k_is)
    (case k21 => k_is)
    (case a22 => k_is)
    (case l22 => k_is)
    (case c22 => k_is)
    (case k22 => k_is)
    (case a23 => k_is)
    (case l23 => k_is)
    (case c23 => k_is)
    (case k23 => k_is)
    (case a24 => k_is)
    (case l24 => k_is)
    (case c24 => k_is)
    (case k24 => k_is)
    (case a25 => k_is)
    (case l25 => k_is)
    (case c25 => k_is)
    (case k25 => k_is)
    (case a26 => k_is)
    (case l26 => k_is)
    (case c26 => k_is)
    (case k26 => k_is)
    (case a27 => k_is)
    (case l27 => k_is)
    (case c27 => k_is)
    (case k27 => k_is)
    (case a28 => k_is)
    (case l28 => k_is)
    (case c28 => k_is)
    (case k28 => k_is)
    (case a29 => k_is)
    (case l29 => k_is)
    (case c29 => k_is)
    (case k29 => k_is)
    (case z_isinstance => k_is)
    (case z_int => k_is)
    (case z_bool => k_is)
    (case z_str => k_is)
    (case z_tuple => k_is)
    (case z_list => k_is)
    (case z_len => k_is)
    (case z_range => k_is)
    (case z_abs => k_is)
    (case z_dict => k_is)
    (case z_reversed => k_is)
    (case aF => k_is)
    (case aD => k_is)
    (case lF => k_is)
    (case lD => k_is)
    (case lT0 => k_is)
    (case lT1 => k_is)
    (case lT2 => k_is)
    (case lT3 => k_is)
    (case lT4 => k_is)
    (case lT5 => k_is)
    (case lT6 => k_is)
    (case lT7 => k_is)
    (case lT8 => k_is)
