import PyProof.Rows.All
import Wide.All
import OpenK.AllK
import Wide.FinOn
import HandS.ForMost
import HandS.IsInst
import HandS.Codes
import HandS.ForExc
import HandS.ExcInit
import HandS.ExcField
import HandS.CallSlots
import HandS.TupLe
import KE.KExcIs
import HandS.Flt
import HandS.ExcCtx
import HandS.HotCalls
import HandS.ExcInitHot
import HandS.Text
import HandS.Iter
import HandS.Wide
import HandS.Defaults
import HandS.More
import HandS.Conv
import HandS.Deep
import HandS.Set
import HandS.SetFor
import HandS.Strs
import HandS.Rev
import HandS.TupSets
import HandS.DictComp
import HandS.Dict
import HandS.Finally
import HandS.Flow
import HandS.Style
import HandS.TupAny
import KE.GoesMore
import KE.GoesEnum
import HandS.Zip
import HandS.RevRange
import HandS.GenBody
import HandS.GenYield
import HandS.GenCall
import HandS.GenList
import KE.KDictZip
import HandS.WordsDict
import HandS.Sort
import KE.DataEq
import HandS.Ends
import PyProof.ReprRoads
import HandS.Small
import HandS.ExcValue
import HandS.FStr
import HandS.ExcIs
import PySem.Challenge.RW_heldproofs_k36_whole_worlds_sound
set_option Elab.async false
set_option linter.all false
set_option maxRecDepth 100000
/-! My own layer over the hand layer: the weakest reading of a piece of syntax, and a rule a construct, chosen where the values are known. -/
namespace Wk
open PySem PySem.Spec PyProof.Rows L2
section
variable (X : Cx)
@[irreducible] def wE (e : Expr) : TE := fun σ H Q => ∀ (pins : List (Addr × Obj)) (s : Shared), Inv X pins σ H s → wpAny (model X.prog X.w) X.A (eval e X.env) (EP X pins σ Q) X.xe s
@[irreducible] def wT (e : Expr) : TT := fun σ H Q => ∀ (pins : List (Addr × Obj)) (s : Shared), Inv X pins σ H s → wpAny (model X.prog X.w) X.A (isTrue e X.env (eval e X.env)) (TP X pins σ Q) X.xe s
@[irreducible] def wW (e : Expr) : TT := fun σ H Q => ∀ (whole : Sem Value) (pins : List (Addr × Obj)) (s : Shared), Inv X pins σ H s → wpAny (model X.prog X.w) X.A (isTrue e X.env whole) (TP X pins σ Q) X.xe s
@[irreducible] def wA (es : List Expr) : TA := fun σ H Q => ∀ (pos : Pos) (pins : List (Addr × Obj)) (s : Shared), Inv X pins σ H s → wpAny (model X.prog X.w) X.A (spliced (backTo pos (starEach es X.env))) (AP X pins σ Q) X.xe s
@[irreducible] def wS (st : Stmt) : TS := fun D σ H => ∀ (pins : List (Addr × Obj)) (s : Shared), Inv X pins σ H s → wpAny (model X.prog X.w) X.A (exec st X.env) (SP X pins D) X.xe s
@[irreducible] def wL (st : List Stmt) : TS := fun D σ H => ∀ (pins : List (Addr × Obj)) (s : Shared), Inv X pins σ H s → wpAny (model X.prog X.w) X.A (execs st X.env) (SP X pins D) X.xe s
@[irreducible] def wO (f : Value → Value → Sem Value) : R2 := fun x y H Q => ∀ (pins : List (Addr × Obj)) (s : Shared) (σ : L2.St) (v u : Value), Inv X pins σ H s → RelV x v → RelV y u → wpAny (model X.prog X.w) X.A (f v u) (EP X pins σ Q) X.xe s
@[irreducible] def wB (op : Operator) : R2 := fun x y H Q => wO X (binaryOp op) x y H Q
@[irreducible] def wK (op : CmpOp) : R2 := fun x y H Q => wO X (compareOp op) x y H Q
@[irreducible] def wIx : R2 := fun x y H Q => ∀ (value slice : Expr) (pins : List (Addr × Obj)) (s : Shared) (σ : L2.St) (v u : Value), Inv X pins σ H s → RelV x v → RelV y u → subscripted slice false v u = operate [v, u] (getItem v u) → wpAny (model X.prog X.w) X.A (subscriptTail value slice v u) (EP X pins σ Q) X.xe s
@[irreducible] def wC (f : Value) : List V → Hp → VK → Prop := fun xs H Q => ∀ (pins : List (Addr × Obj)) (s : Shared) (σ : L2.St) (us : List Value), Inv X pins σ H s → Vals xs us → wpAny (model X.prog X.w) X.A (call f us) (EP X pins σ Q) X.xe s
@[irreducible] def wSet : V → V → V → Hp → (Hp → Prop) → Prop := fun o i v H Q => ∀ (pins : List (Addr × Obj)) (s : Shared) (σ : L2.St) (ov iv u : Value), Inv X pins σ H s → RelV o ov → RelV i iv → RelV v u → wpAny (model X.prog X.w) X.A (setItem ov iv u) (fun _ s' => ∃ H', Inv X pins σ H' s' ∧ Q H') X.xe s
end
section
variable {X : Cx} {e a b c : Expr} {es rest : List Expr} {st : Stmt} {sts : List Stmt} {σ : L2.St} {H : Hp} {Q : VK} {D : Ends} {pos p0 : Pos} {QT : Bool → Hp → Prop}
theorem pe : PE X e (wE X e) := ⟨fun pins s _ _ _ I h => by unfold wE at h; exact h pins s I⟩
theorem pt : PT X e (wT X e) := ⟨fun pins s _ _ _ I h => by unfold wT at h; exact h pins s I⟩
theorem pw : PW X e (wW X e) := ⟨fun wh pins s _ _ _ I h => by unfold wW at h; exact h wh pins s I⟩
theorem pa : PA X es (wA X es) := ⟨fun p pins s _ _ _ I h => by unfold wA at h; exact h p pins s I⟩
theorem ps : PS X st (wS X st) := ⟨fun pins s _ _ _ I h => by unfold wS at h; exact h pins s I⟩
theorem pl : PSs X sts (wL X sts) := ⟨fun pins s _ _ _ I h => by unfold wL at h; exact h pins s I⟩
theorem opr {f : Value → Value → Sem Value} : OpR X f (wO X f) := fun pins s σ _ _ _ v u _ I rx ry h => by unfold wO at h; exact h pins s σ v u I rx ry
theorem opb {op : Operator} : OpR X (binaryOp op) (wB X op) := fun pins s σ _ _ _ v u _ I rx ry h => by unfold wB at h; exact opr pins s σ _ _ _ v u _ I rx ry h
theorem opk {op : CmpOp} : OpR X (compareOp op) (wK X op) := fun pins s σ _ _ _ v u _ I rx ry h => by unfold wK at h; exact opr pins s σ _ _ _ v u _ I rx ry h
theorem ixr : IxR X (wIx X) := fun va sl pins s σ _ _ _ v u _ I rx ry h hs => by unfold wIx at h; exact h va sl pins s σ v u I rx ry hs
theorem cr {f : Value} : CallR X f (wC X f) := fun pins s σ _ _ us _ I r h => by unfold wC at h; exact h pins s σ us I r
theorem pset : PSet X (wSet X) := fun pins s σ _ _ _ _ ov iv u _ I ro ri rv h => by unfold wSet at h; exact h pins s σ ov iv u I ro ri rv
theorem e_of {t : TE} (h : PE X e t) (q : t σ H Q) : wE X e σ H Q := by unfold wE; exact fun pins s I => h.run pins s σ H Q I q
theorem t_of {t : TT} (h : PT X e t) (q : t σ H QT) : wT X e σ H QT := by unfold wT; exact fun pins s I => h.run pins s σ H QT I q
theorem w_of {t : TT} (h : PW X e t) (q : t σ H QT) : wW X e σ H QT := by unfold wW; exact fun wh pins s I => h.run wh pins s σ H QT I q
theorem a_of {t : TA} {QA : List V → Hp → Prop} (h : PA X es t) (q : t σ H QA) : wA X es σ H QA := by unfold wA; exact fun p pins s I => h.run p pins s σ H QA I q
theorem s_of {t : TS} (h : PS X st t) (q : t D σ H) : wS X st D σ H := by unfold wS; exact fun pins s I => h.run pins s σ H D I q
theorem l_of {t : TS} (h : PSs X sts t) (q : t D σ H) : wL X sts D σ H := by unfold wL; exact fun pins s I => h.run pins s σ H D I q
theorem o_of {f : Value → Value → Sem Value} {r : R2} {x y : V} (h : OpR X f r) (q : r x y H Q) : wO X f x y H Q := by unfold wO; exact fun pins s σ v u I rx ry => h pins s σ H x y v u Q I rx ry q
theorem b_of {op : Operator} {r : R2} {x y : V} (h : OpR X (binaryOp op) r) (q : r x y H Q) : wB X op x y H Q := by unfold wB; exact o_of h q
theorem k_of {op : CmpOp} {r : R2} {x y : V} (h : OpR X (compareOp op) r) (q : r x y H Q) : wK X op x y H Q := by unfold wK; exact o_of h q
theorem ix_of {r : R2} {x y : V} (h : IxR X r) (q : r x y H Q) : wIx X x y H Q := by unfold wIx; exact fun va sl pins s σ v u I rx ry hs => h va sl pins s σ H x y v u Q I rx ry q hs
theorem c_of {f : Value} {r : List V → Hp → VK → Prop} {xs : List V} (h : CallR X f r) (q : r xs H Q) : wC X f xs H Q := by unfold wC; exact fun pins s σ us I r => h pins s σ H xs us Q I r q
theorem set_of {t : V → V → V → Hp → (Hp → Prop) → Prop} {o i v : V} {QH : Hp → Prop} (h : PSet X t) (q : t o i v H QH) : wSet X o i v H QH := by unfold wSet; exact fun pins s σ ov iv u I ro ri rv => h pins s σ H o i v ov iv u QH I ro ri rv q

theorem e_mono {Q' : VK} (q : wE X e σ H Q) (h : ∀ v H1, Q v H1 → Q' v H1) : wE X e σ H Q' := by
  unfold wE at q ⊢
  exact fun pins s I => wpAny_mono (q pins s I) (fun _ _ ⟨v, H1, I1, r, z⟩ => ⟨v, H1, I1, r, h v H1 z⟩) fun _ _ z => z
theorem a_mono {QA QA' : List V → Hp → Prop} (q : wA X es σ H QA) (h : ∀ v H1, QA v H1 → QA' v H1) : wA X es σ H QA' := by
  unfold wA at q ⊢
  exact fun pp pins s I => wpAny_mono (q pp pins s I) (fun _ _ ⟨v, H1, I1, r, z⟩ => ⟨v, H1, I1, r, h v H1 z⟩) fun _ _ z => z

end
/-- where a name stands in a list; found by its spelling -/
inductive At {α : Type} : List α → Nat → α → Prop where
  | z {x : α} {l : List α} : At (x :: l) 0 x
  | s {x y : α} {l : List α} {i : Nat} (h : At l i x) : At (y :: l) (i + 1) x
theorem At.get {α : Type} {l : List α} {i : Nat} {x : α} (h : At l i x) : l[i]? = some x := by
  induction h with
  | z => rfl
  | s _ ih => simpa using ih
theorem At.mem {α : Type} {l : List α} {i : Nat} {x : α} (h : At l i x) : x ∈ l := List.mem_of_getElem? h.get
instance locDec {sc : Scope} {x : Str} : Decidable (Loc sc x) := inferInstanceAs (Decidable (_ ∨ _))
/-- a def's names: its own, in their slots, and the global ones -/
structure ScOk (N G : List Str) (sc : Scope) : Prop where
  nd : N.Nodup
  lo : ∀ x ∈ N, Loc sc x ∧ (x == ("__debug__" : Str)) = false ∧ (x == ("__classdict__" : Str)) = false
  gl : ∀ x ∈ G, sc.names.lookup x = some .globalImplicit ∧ (x == ("__debug__" : Str)) = false ∧ x ≠ "__name__"
/-- the body that the proof stands in -/
structure In (X : Cx) (N G : List Str) (sc : Scope) : Prop where
  ok : ScOk N G sc
  n : ∃ C, X.N = N ++ C
  nd : X.N.Nodup
  sc : X.env.scope = sc
  fn : X.fn = fun _ => true
  nev : PassesOwn (model X.prog X.w) X.A X.env X.xe
section
variable {X : Cx} {e a b c : Expr} {es rest : List Expr} {st : Stmt} {sts : List Stmt} {σ : L2.St} {H : Hp} {Q : VK} {D : Ends} {pos p0 : Pos} {QT : Bool → Hp → Prop} {N G : List Str} {sc : Scope}
theorem In.loc (I : In X N G sc) {i : Nat} {x : Str} (h : At N i x) : Loc X.env.scope x := by rw [I.sc]; exact (I.ok.lo x h.mem).1
theorem In.vis (I : In X N G sc) {i : Nat} {x : Str} (h : At N i x) : Vis X.env.scope x := by
  rcases I.loc h with z | z
  · exact .inl z
  · exact .inr (.inl z)
theorem In.hi (I : In X N G sc) {i : Nat} {x : Str} (h : At N i x) : X.N[i]? = some x := by
  obtain ⟨C, e⟩ := I.n
  have hl : i < N.length := by
    have := h.get
    exact (List.getElem?_eq_some_iff.mp this).1
  rw [e, List.getElem?_append_left hl]
  exact h.get
theorem In.f (I : In X N G sc) {x : Str} : X.fn x = true ∨ X.env.scope.names.lookup x = some .local := .inl (by rw [I.fn])
theorem In.g (I : In X N G sc) {i : Nat} {x : Str} (h : At G i x) : Gl X x := by
  show X.env.scope.names.lookup x = _
  rw [I.sc]
  exact (I.ok.gl x h.mem).1
theorem In.gd (I : In X N G sc) {i : Nat} {x : Str} (h : At G i x) : (x == ("__debug__" : Str)) = false := (I.ok.gl x h.mem).2.1
theorem In.gn (I : In X N G sc) {i : Nat} {x : Str} (h : At G i x) : x ≠ "__name__" := (I.ok.gl x h.mem).2.2
theorem In.never (I : In X N G sc) : PassesOwn (model X.prog X.w) X.A X.env X.xe := I.nev

/-! ### statements -/
theorem l_nil {nx : L2.St → Hp → Prop} {rt : VK} {bk ct : L2.St → Hp → Prop} (q : nx σ H) : wL X [] ⟨nx, rt, bk, ct⟩ σ H := l_of pss_nil q
theorem l_cons {nx : L2.St → Hp → Prop} {rt : VK} {bk ct : L2.St → Hp → Prop} (q : wS X st ⟨fun σ' H' => wL X sts ⟨nx, rt, bk, ct⟩ σ' H', rt, bk, ct⟩ σ H) : wL X (st :: sts) ⟨nx, rt, bk, ct⟩ σ H := l_of (pss_cons ps pl) q
theorem s_set {nx : L2.St → Hp → Prop} {rt : VK} {bk ct : L2.St → Hp → Prop} {i : Nat} {x : Str} {pos' : Pos} (q : wE X e σ H fun v H' => nx (σ.set i (some v)) H') (I : In X N G sc := by assumption) (hA : At N i x := by repeat (first | with_reducible apply At.z | with_reducible apply At.s)) (hs : swapsWith e (some (.Name x pos')) pos.line X.env = pure false := by rfl) :
    wS X (.Assign [.Name x pos'] e pos) ⟨nx, rt, bk, ct⟩ σ H := s_of (ps_set I.nd (I.hi hA) (I.loc hA) pe hs I.f) q
theorem s_ret {nx : L2.St → Hp → Prop} {rt : VK} {bk ct : L2.St → Hp → Prop} (q : wE X e σ H rt) : wS X (.Return (some e) pos) ⟨nx, rt, bk, ct⟩ σ H := s_of (ps_ret pe) q
theorem s_brk {nx : L2.St → Hp → Prop} {rt : VK} {bk ct : L2.St → Hp → Prop} (q : bk σ H) : wS X (.Break pos) ⟨nx, rt, bk, ct⟩ σ H := s_of ps_break q
theorem s_expr {nx : L2.St → Hp → Prop} {rt : VK} {bk ct : L2.St → Hp → Prop} (q : wE X e σ H fun _ H' => nx σ H') (hs : swapsWith e none pos.line X.env = pure false := by rfl) : wS X (.Expr e pos) ⟨nx, rt, bk, ct⟩ σ H := s_of (ps_expr pe hs) q
theorem s_if {nx : L2.St → Hp → Prop} {rt : VK} {bk ct : L2.St → Hp → Prop} {A B : List Stmt} (q : wT X c σ H fun k H1 => if k = true then wL X A ⟨nx, rt, bk, ct⟩ σ H1 else wL X B ⟨nx, rt, bk, ct⟩ σ H1) : wS X (.If c A B pos) ⟨nx, rt, bk, ct⟩ σ H := s_of (ps_if pt pl pl) q
theorem s_fld {nx : L2.St → Hp → Prop} {rt : VK} {bk ct : L2.St → Hp → Prop} {o value : Expr} {f : Str} {pos' : Pos} (q : wE X value σ H fun y H1 => wE X o σ H1 fun x H2 => ∃ a C dx fs, x = .ref a ∧ H2 a = some (.ins C dx fs) ∧ Cls X.K C ∧ NoAttr X.K C f ∧ fs.length < 1000 ∧ nx σ (upd H2 a (.ins C dx (putF f y fs))))
    (hs : swapsWith value (some (.Attribute o f pos')) pos.line X.env = pure false := by rfl) : wS X (.Assign [.Attribute o f pos'] value pos) ⟨nx, rt, bk, ct⟩ σ H := s_of (ps_fld pe pe hs) q
/-- o[i] = v -/
theorem s_sub {nx : L2.St → Hp → Prop} {rt : VK} {bk ct : L2.St → Hp → Prop} {o i value : Expr} {pos' : Pos} (q : wE X value σ H fun v H1 => wE X o σ H1 fun x H2 => wE X i σ H2 fun y H3 => wSet X x y v H3 fun H4 => nx σ H4)
    (hs : swapsWithSole [.Subscript o i pos'] value pos.line X.env = pure false := by rfl) (hw : swappedStores [.Subscript o i pos'] value X.env = pure none := by rfl) (h1 : (assignEach [.Subscript o i pos'] X.env).map (·.2) = [assign (.Subscript o i pos') X.env] := by rfl)
    (ha : ∀ v, assign (.Subscript o i pos') X.env v = (do let ov ← holding [v] (eval o X.env); let iv ← holding [v, ov] (eval i X.env); standAt pos'; holding [v, ov, iv] (setItem ov iv v); release [v, ov, iv] []) := by intro _; rfl) : wS X (.Assign [.Subscript o i pos'] value pos) ⟨nx, rt, bk, ct⟩ σ H := s_of (ps_asg pe (pg_sub pe pe pset ha) hs hw h1) q
/-- two names from a tuple -/
theorem s_tup2 {nx : L2.St → Hp → Prop} {rt : VK} {bk ct : L2.St → Hp → Prop} {i j : Nat} {x y : Str} {k : Nat} {px py pt : Pos} (q : wE X e σ H fun v H1 => ∃ a u w, v = .ref a ∧ SqT X.K H1 a [u, w] ∧ nx ((σ.set i (some u)).set j (some w)) H1)
    (I : In X N G sc := by assumption) (hc : X.calm = true := by rfl) (hA : At N i x := by repeat (first | with_reducible apply At.z | with_reducible apply At.s)) (hB : At N j y := by repeat (first | with_reducible apply At.z | with_reducible apply At.s))
    (hs : swapsWithSole [.Tuple [.Name x px, .Name y py] k pt] e pos.line X.env = pure false := by rfl) (hw : swappedStores [.Tuple [.Name x px, .Name y py] k pt] e X.env = pure none := by rfl) (h1 : (assignEach [.Tuple [.Name x px, .Name y py] k pt] X.env).map (·.2) = [assign (.Tuple [.Name x px, .Name y py] k pt) X.env] := by rfl) :
    wS X (.Assign [.Tuple [.Name x px, .Name y py] k pt] e pos) ⟨nx, rt, bk, ct⟩ σ H := by
  refine s_of (ps_asg pe (pg_tup hc (pgs_cons (pg_name I.nd (I.hi hA) (I.loc hA) I.f) (pgs_cons (pg_name I.nd (I.hi hB) (I.loc hB) I.f) pgs_nil))) hs hw h1) (e_mono q fun v H1 q1 => ?_)
  obtain ⟨ad, u, w, ev, hq, q2⟩ := q1
  exact ⟨ad, [u, w], ev, hq, rfl, u, [w], rfl, w, [], rfl, rfl, q2⟩
/-! ### expressions -/
theorem e_var {i : Nat} {x : Str} {v : V} (q : Q v H) (I : In X N G sc := by assumption) (hA : At N i x := by repeat (first | with_reducible apply At.z | with_reducible apply At.s)) (hσ : σ[i]? = some (some v) := by exact rfl) : wE X (.Name x pos) σ H Q :=
  e_of (pe_var (I.hi hA) (I.vis hA) (I.ok.lo x hA.mem).2.1 (I.ok.lo x hA.mem).2.2) ⟨v, hσ, q⟩
theorem e_int {i : Int} {j} (q : Q (.int i) H) : wE X (.Constant (.int i) j pos) σ H Q := e_of pe_int q
theorem e_bl {k : Bool} {j} (q : Q (.bl k) H) : wE X (.Constant (.bool k) j pos) σ H Q := e_of pe_bl q
theorem e_non {j} (q : Q .non H) : wE X (.Constant .none j pos) σ H Q := e_of pe_non q
theorem e_str {x : Str} {j} (q : Q (.str x) H) : wE X (.Constant (.str x) j pos) σ H Q := e_of pe_str q
theorem e_bin {op : Operator} (q : wE X a σ H fun x H1 => wE X b σ H1 fun y H2 => wB X op x y H2 Q) : wE X (.BinOp a op b pos) σ H Q := e_of (pe_op opb pe pe) q
theorem e_cmp {op : CmpOp} (q : wE X a σ H fun x H1 => wE X b σ H1 fun y H2 => wK X op x y H2 Q) (hm : behindInMarks op b = false := by first | exact nomark _ | rfl) : wE X (.Compare a [op] [b] pos) σ H Q := e_of (pe_cmpR opk pe pe hm) q
theorem t_cmp {op : CmpOp} (q : wE X a σ H fun x H1 => wE X b σ H1 fun y H2 => wK X op x y H2 fun z H3 => ∃ k, z = .bl k ∧ QT k H3) (hm : behindInMarks op b = false := by first | exact nomark _ | rfl) : wT X (.Compare a [op] [b] pos) σ H QT := t_of (pt_cmpR opk pe pe hm) q
theorem t_val (q : wE X e σ H fun z H3 => ∃ k, z = .bl k ∧ QT k H3) (he : ∀ whole, isTrue e X.env whole = (do let v ← whole; standAt e.pos; holding [v] (truthy v)) := by intro _; rfl) : wT X e σ H QT := t_of (pt_val pe he) q
theorem t_not (q : wT X a σ H fun k H1 => QT (!k) H1) : wT X (.UnaryOp .Not a pos) σ H QT := t_of (pt_not pt) q
theorem t_w (q : wW X e σ H QT) : wT X e σ H QT := t_of pw.pt q
theorem w_and1 (q : wT X a σ H QT) : wW X (.BoolOp .And [a] pos) σ H QT := w_of (pw_and1 pt) q
theorem w_or1 (q : wT X a σ H QT) : wW X (.BoolOp .Or [a] pos) σ H QT := w_of (pw_or1 pt) q
theorem w_and (q : wT X a σ H fun k H1 => if k = true then wW X (.BoolOp .And (b :: rest) pos) σ H1 QT else QT false H1) : wW X (.BoolOp .And (a :: b :: rest) pos) σ H QT := w_of (pw_and pt pw) q
theorem w_or (q : wT X a σ H fun k H1 => if k = true then QT true H1 else wW X (.BoolOp .Or (b :: rest) pos) σ H1 QT) : wW X (.BoolOp .Or (a :: b :: rest) pos) σ H QT := w_of (pw_or pt pw) q
theorem e_one {op} (q : wE X a σ H Q) : wE X (.BoolOp op [a] pos) σ H Q := e_of (pe_one pe) q
theorem e_and (q : wE X a σ H fun x H1 => ∃ k, x = .bl k ∧ if k = true then wE X (.BoolOp .And (b :: rest) pos) σ H1 Q else Q (.bl false) H1) : wE X (.BoolOp .And (a :: b :: rest) pos) σ H Q := e_of (pe_and pe pe) q
theorem e_or (q : wE X a σ H fun x H1 => ∃ k, x = .bl k ∧ if k = true then Q (.bl true) H1 else wE X (.BoolOp .Or (b :: rest) pos) σ H1 Q) : wE X (.BoolOp .Or (a :: b :: rest) pos) σ H Q := e_of (pe_or pe pe) q
theorem e_not (q : wE X a σ H fun x H1 => ∃ k, x = .bl k ∧ Q (.bl (!k)) H1) : wE X (.UnaryOp .Not a pos) σ H Q := e_of (pe_not pe) q
theorem e_ix (q : wE X a σ H fun x H1 => wE X b σ H1 fun y H2 => wIx X x y H2 Q) (hs : PlainIx b := by intro _ _; rfl) : wE X (.Subscript a b pos) σ H Q := e_of (pe_ix ixr pe pe hs) q
theorem e_fld {f : Str} (q : wE X e σ H fun x H1 => ∃ a C dx fs v, x = .ref a ∧ H1 a = some (.ins C dx fs) ∧ Cls X.K C ∧ NoAttr X.K C f ∧ fs.lookup f = some v ∧ Q v H1) (hb : attributeBase e f X.env (eval e X.env) = eval e X.env := by rfl) : wE X (.Attribute e f pos) σ H Q := e_of (pe_fld pe hb) q
theorem a_nil {QA : List V → Hp → Prop} (q : QA [] H) : wA X [] σ H QA := a_of pa_nil q
theorem a_cons {QA : List V → Hp → Prop} (q : wE X e σ H fun x H1 => wA X es σ H1 fun xs H2 => QA (x :: xs) H2) (hs : starEach (e :: es) X.env = (false, eval e X.env) :: starEach es X.env := by rfl) : wA X (e :: es) σ H QA := a_of (pa_cons pe pa hs) q
theorem e_tup {k} (q : wA X es σ H fun xs H1 => xs.length ≤ sizeLine ∧ ∀ p H2, Same H1 H2 → H1 p = none → H2 p = some (.tup xs) → Q (.ref p) H2) : wE X (.Tuple es k pos) σ H Q :=
  e_of (pe_tup pa) (a_mono q fun xs H1 z => ⟨z.1, fun p np => z.2 p _ (fun b o eo => by rw [upd_ne (ne_of_none eo np)]; exact eo) np upd_same⟩)
theorem e_lst (q : wA X es σ H fun xs H1 => xs.length ≤ sizeLine ∧ ∀ p H2, Same H1 H2 → H1 p = none → H2 p = some (.lst xs) → Q (.ref p) H2) : wE X (.List es pos) σ H Q :=
  e_of (pe_lst pa) (a_mono q fun xs H1 z => ⟨z.1, fun p np => z.2 p _ (fun b o eo => by rw [upd_ne (ne_of_none eo np)]; exact eo) np upd_same⟩)
/-! ### calls -/
/-- a def of the module that no exception leaves -/
structure Fn (P : Program) (w : World) (K : PySem.W.Frag) (mg : Str → Option Value) (base : Heap) (k : Nat) (x : Str) (sp : Sp) : Prop where
  ex : ∃ (f : Addr) (fd : FuncData) (ps : List Str), FnOk P w K mg base CX0 k f fd ps sp ∧ mg x = some (.ref f) ∧ PySem.W.keepIn K (.ref f) = true ∧ Binds K fd ps []
theorem e_call {g : Nat} {k n : Nat} {x : Str} {sp : Sp} (F : Fn X.prog X.w X.K X.mg X.base k x sp) (hr : Room n X.A) (hk : k ≤ n) (q : wA X (e :: es) σ H fun vs H1 => sp vs H1 Q E0) (I : In X N G sc := by assumption) (hG : At G g x := by repeat (first | with_reducible apply At.z | with_reducible apply At.s))
    (he : starEach (e :: es) X.env = (false, eval e X.env) :: starEach es X.env := by rfl) (hpl : (backTo pos (starEach es X.env)).any (·.1) = false := by rfl) : wE X (.Call (.Name x p0) (e :: es) [] pos) σ H Q := by
  obtain ⟨f, fd, ps, F0, hm, hkp, hb⟩ := F.ex
  refine e_of (pe_call F0 (hr.mono hk) (I.g hG) hm hkp hb .nil pass0 pa (I.gd hG) he hpl) ?_
  show wA X (e :: es) σ H fun vs H1 => sp (vs ++ []) H1 Q E0
  simp only [List.append_nil]
  exact q
theorem e_callB {g : Nat} {x : Str} {id : String} (hm : X.mg x = none) (hv : bootBuiltins x = some (.builtin id)) (q : wA X (e :: es) σ H fun vs H1 => wC X (.builtin id) vs H1 Q) (I : In X N G sc := by assumption) (hG : At G g x := by repeat (first | with_reducible apply At.z | with_reducible apply At.s))
    (he : starEach (e :: es) X.env = (false, eval e X.env) :: starEach es X.env := by rfl) (hpl : (backTo pos (starEach es X.env)).any (·.1) = false := by rfl) : wE X (.Call (.Name x p0) (e :: es) [] pos) σ H Q := e_of (pe_callB cr (I.g hG) hm hv pa (I.gn hG) (I.gd hG) he hpl) q
theorem e_callTy {g : Nat} {x : Str} {T : String} (hm : X.mg x = none) (hv : bootBuiltins x = some (.type T)) (q : wA X (e :: es) σ H fun vs H1 => wC X (.type T) vs H1 Q) (I : In X N G sc := by assumption) (hG : At G g x := by repeat (first | with_reducible apply At.z | with_reducible apply At.s))
    (he : starEach (e :: es) X.env = (false, eval e X.env) :: starEach es X.env := by rfl) (hpl : (backTo pos (starEach es X.env)).any (·.1) = false := by rfl) : wE X (.Call (.Name x p0) (e :: es) [] pos) σ H Q := e_of (pe_callTy cr (I.g hG) hm hv pa (I.gn hG) (I.gd hG) he hpl) q
theorem e_bltn {g : Nat} {x : Str} {v : V} {u : Value} (hm : X.mg x = none) (hv : bootBuiltins x = some u) (r : RelV v u) (q : Q v H) (I : In X N G sc := by assumption) (hG : At G g x := by repeat (first | with_reducible apply At.z | with_reducible apply At.s)) : wE X (.Name x pos) σ H Q := e_of (pe_bltn (I.g hG) hm hv r (I.gn hG) (I.gd hG)) q
end
/-! ### values -/
section
variable {X : Cx} {H : Hp} {Q : VK} {i j : Int} {σ : L2.St} {D : Ends}
theorem o_add (q : Q (.int (i + j)) H) : wB X .Add (.int i) (.int j) H Q := b_of op_add ⟨i, j, rfl, rfl, q⟩
theorem o_sub (q : Q (.int (i - j)) H) : wB X .Sub (.int i) (.int j) H Q := b_of op_sub ⟨i, j, rfl, rfl, q⟩
theorem o_mul (c : CMul i j) (q : Q (.int (i * j)) H) : wB X .Mult (.int i) (.int j) H Q := b_of op_mul ⟨i, j, rfl, rfl, c, q⟩
theorem o_mod (c : 0 < j) (q : Q (.int (i % j)) H) : wB X .Mod (.int i) (.int j) H Q := b_of op_mod ⟨i, j, rfl, rfl, c, q⟩
theorem o_fdiv (c : 0 < j ∧ j < 1073741824) (q : Q (.int (i / j)) H) : wB X .FloorDiv (.int i) (.int j) H Q := b_of op_fdiv ⟨i, j, rfl, rfl, c, q⟩
theorem o_pow (c : CPow i j) (q : Q (.int (i ^ j.toNat)) H) : wB X .Pow (.int i) (.int j) H Q := b_of op_pow ⟨i, j, rfl, rfl, c, q⟩
theorem o_lt (q : Q (.bl (decide (i < j))) H) : wK X .Lt (.int i) (.int j) H Q := k_of op_lt ⟨i, j, rfl, rfl, q⟩
theorem o_le (q : Q (.bl (decide (i ≤ j))) H) : wK X .LtE (.int i) (.int j) H Q := k_of op_le ⟨i, j, rfl, rfl, q⟩
theorem o_gt (q : Q (.bl (decide (j < i))) H) : wK X .Gt (.int i) (.int j) H Q := k_of op_gt ⟨i, j, rfl, rfl, q⟩
theorem o_ge (q : Q (.bl (decide (j ≤ i))) H) : wK X .GtE (.int i) (.int j) H Q := k_of op_ge ⟨i, j, rfl, rfl, q⟩
theorem dint {i j : Int} : decide (V.int i = V.int j) = decide (i = j) := by simp
theorem dbl {i j : Bool} : decide (V.bl i = V.bl j) = decide (i = j) := by simp
theorem dstr {i j : Str} : decide (V.str i = V.str j) = decide (i = j) := by simp
theorem o_eqI (q : Q (.bl (decide (i = j))) H) : wK X .Eq (.int i) (.int j) H Q := k_of op_eq ⟨rfl, dint ▸ q⟩
theorem o_neI (q : Q (.bl (!decide (i = j))) H) : wK X .NotEq (.int i) (.int j) H Q := k_of op_ne ⟨rfl, dint ▸ q⟩
theorem o_eqB {i j : Bool} (q : Q (.bl (decide (i = j))) H) : wK X .Eq (.bl i) (.bl j) H Q := k_of op_eq ⟨rfl, dbl ▸ q⟩
theorem o_eqS {i j : Str} (q : Q (.bl (decide (i = j))) H) : wK X .Eq (.str i) (.str j) H Q := k_of op_eq ⟨rfl, dstr ▸ q⟩
theorem o_neS {i j : Str} (q : Q (.bl (!decide (i = j))) H) : wK X .NotEq (.str i) (.str j) H Q := k_of op_ne ⟨rfl, dstr ▸ q⟩
/-- a pair of ints beside a text -/
theorem o_eqPS {n : Nat} {a : Addr} {u v : Int} {z : Str} (hr : Room n X.A) (h : H a = some (.tup [.int u, .int v])) (hz : SeqAt.shaped (.str z) = true) (q : Q (.bl false) H) : wK X .Eq (.ref a) (.str z) H Q :=
  k_of (op_eqD hr.units) ⟨.tuple [.int u, .int v], .str z, .tup (SqT.of h) (.cons (.int u) (.cons (.int v) .nil)), .str z, rfl, hz, q⟩
theorem ix_l {a : Addr} {xs : List V} {v : V} (h : SqL X.K H a xs) (e : atI xs i = some v) (q : Q v H) : wIx X (.ref a) (.int i) H Q := ix_of ix_list ⟨a, xs, i, v, rfl, rfl, h, e, q⟩
theorem ix_t {a : Addr} {xs : List V} {v : V} (h : SqT X.K H a xs) (e : atI xs i = some v) (q : Q v H) : wIx X (.ref a) (.int i) H Q := ix_of ix_tup ⟨a, xs, i, v, rfl, rfl, h, e, q⟩
theorem set_l {a : Addr} {xs : List V} {v : V} {k : Nat} {QH : Hp → Prop} (h : H a = some (.lst xs)) (e : ixN xs.length i = some k) (q : QH (upd H a (.lst (xs.set k v)))) : wSet X (.ref a) (.int i) v H QH := set_of set_list ⟨a, xs, i, k, rfl, rfl, h, e, q⟩
theorem c_int (q : Q (.int i) H) : wC X (.type "int") [.int i] H Q := c_of call_int1 (.inl ⟨i, rfl, q⟩)
theorem c_abs (q : Q (.int (if i < 0 then -i else i)) H) : wC X (.builtin "abs") [.int i] H Q := c_of call_abs ⟨i, rfl, q⟩
theorem c_max (hc : X.calm = true) (q : Q (.int (if j > i then j else i)) H) : wC X (.builtin "max") [.int i, .int j] H Q := c_of (call_max2 hc) ⟨i, j, rfl, q⟩
theorem c_min (hc : X.calm = true) (q : Q (.int (if j < i then j else i)) H) : wC X (.builtin "min") [.int i, .int j] H Q := c_of (call_min2 hc) ⟨i, j, rfl, q⟩
theorem c_lenL {a : Addr} {xs : List V} (h : SqL X.K H a xs) (q : Q (.int xs.length) H) : wC X (.builtin "len") [.ref a] H Q := c_of call_len_seq ⟨a, xs, rfl, .inl h, q⟩
theorem c_lenT {a : Addr} {xs : List V} (h : SqT X.K H a xs) (q : Q (.int xs.length) H) : wC X (.builtin "len") [.ref a] H Q := c_of call_len_seq ⟨a, xs, rfl, .inr h, q⟩
theorem c_isi {x c : V} {t u : Value} {b : Bool} (ty : TyX X.K H x t) (k : ClsV c u) (e : PySem.W.kitOne X.K t u = some b) (q : Q (.bl b) H) : wC X (.builtin "isinstance") [x, c] H Q := c_of call_isi ⟨x, c, t, u, b, rfl, k, ty, e, q⟩
theorem ty_bl {b : Bool} : TyX X.K H (.bl b) (.type "bool") := .base (.bl b)
theorem ty_int : TyX X.K H (.int i) (.type "int") := .base (.int i)
theorem ty_str {z : Str} : TyX X.K H (.str z) (.type "str") := .base (.str z)
theorem ty_tup {a : Addr} {xs : List V} (h : H a = some (.tup xs)) : TyX X.K H (.ref a) (.type "tuple") := .base (.tup h)
theorem kb_int_tuple : kitB "int" "tuple" = some false := by decide +kernel
theorem kb_int_int : kitB "int" "int" = some true := by decide +kernel
theorem kb_int_bool : kitB "int" "bool" = some false := by decide +kernel
theorem kb_int_str : kitB "int" "str" = some false := by decide +kernel
theorem kb_tuple_tuple : kitB "tuple" "tuple" = some true := by decide +kernel
theorem kb_bool_bool : kitB "bool" "bool" = some true := by decide +kernel
theorem kb_str_str : kitB "str" "str" = some true := by decide +kernel
theorem kb_str_int : kitB "str" "int" = some false := by decide +kernel
theorem kb_str_tuple : kitB "str" "tuple" = some false := by decide +kernel
theorem b_int : bootBuiltins "int" = some (.type "int") := by decide +kernel
theorem b_bool : bootBuiltins "bool" = some (.type "bool") := by decide +kernel
theorem b_str : bootBuiltins "str" = some (.type "str") := by decide +kernel
theorem b_tuple : bootBuiltins "tuple" = some (.type "tuple") := by decide +kernel
theorem b_list : bootBuiltins "list" = some (.type "list") := by decide +kernel
theorem b_isi : bootBuiltins "isinstance" = some (.builtin "isinstance") := by decide +kernel
theorem b_len : bootBuiltins "len" = some (.builtin "len") := by decide +kernel
theorem b_abs : bootBuiltins "abs" = some (.builtin "abs") := by decide +kernel
theorem b_max : bootBuiltins "max" = some (.builtin "max") := by decide +kernel
theorem b_min : bootBuiltins "min" = some (.builtin "min") := by decide +kernel
/-! ### loops -/
theorem s_forR {nx : L2.St → Hp → Prop} {rt : VK} {bk ct : L2.St → Hp → Prop} {g : Nat} {N G : List Str} {sc : Scope} {x : Str} {i : Nat} {a : Expr} {body : List Stmt} {px p cp pos : Pos} (hm : X.mg "range" = none)
    (q : wE X a σ H fun v H1 => ∃ n : Nat, v = .int n ∧ n < 2 ^ 62 ∧ ∃ Pv : Nat → L2.St → Hp → Prop, Pv 0 σ H1 ∧ (∀ k σ H, k < n → Pv k σ H → wL X body ⟨Pv (k + 1), rt, nx, Pv (k + 1)⟩ (σ.set i (some (.int (k : Int)))) H) ∧ ∀ σ H, Pv n σ H → nx σ H)
    (I : In X N G sc := by assumption) (hc : X.calm = true := by rfl) (hA : At N i x := by repeat (first | with_reducible apply At.z | with_reducible apply At.s))
    (hG : At G g ("range" : Str) := by repeat (first | with_reducible apply At.z | with_reducible apply At.s)) (hs : starEach [a] X.env = [(false, eval a X.env)] := by rfl) (hs2 : ∀ z, foldedSetIterable (.Call (.Name "range" p) [a] [] cp) X.env z = pure z := by intro _; rfl)
    (hs1 : starEach (a :: []) X.env = (false, eval a X.env) :: starEach [] X.env := by rfl) :
    wS X (.For (.Name x px) (.Call (.Name "range" p) [a] [] cp) body [] pos) ⟨nx, rt, bk, ct⟩ σ H := by
  refine s_of (ps_for I.never hc (pi_range1 (I.g hG) hm (pa_cons pe pa_nil hs1) hs) (pg_name I.nd (I.hi hA) (I.loc hA) I.f) pl hs2) (e_mono q fun v H1 q1 => ?_)
  obtain ⟨n, rfl, hn, Pv, h0, hb, hd⟩ := q1
  refine ⟨(n : Int), rfl, by omega, by omega, ?_⟩
  rw [Int.toNat_natCast]
  refine for_range (n := n) Pv h0 (fun k σ H hk p => ?_) hd
  rw [Int.zero_add]
  exact hb k σ H hk p
theorem s_forL {nx : L2.St → Hp → Prop} {rt : VK} {bk ct : L2.St → Hp → Prop} {N G : List Str} {sc : Scope} {x : Str} {i : Nat} {a : Expr} {body : List Stmt} {px pos : Pos}
    (q : wE X a σ H fun v H1 => ∃ ad xs, v = .ref ad ∧ SqL X.K H1 ad xs ∧ ∃ Pv : Nat → L2.St → Hp → Prop, Pv 0 σ H1 ∧ (∀ k σ H, k ≤ xs.length → Pv k σ H → SqL X.K H ad xs) ∧ (∀ k y σ H, xs[k]? = some y → Pv k σ H → wL X body ⟨Pv (k + 1), rt, nx, Pv (k + 1)⟩ (σ.set i (some y)) H) ∧ ∀ σ H, Pv xs.length σ H → nx σ H)
    (I : In X N G sc := by assumption) (hc : X.calm = true := by rfl) (hA : At N i x := by repeat (first | with_reducible apply At.z | with_reducible apply At.s))
    (hs2 : ∀ z, foldedSetIterable a X.env z = pure z := by intro _; rfl) :
    wS X (.For (.Name x px) a body [] pos) ⟨nx, rt, bk, ct⟩ σ H := by
  refine s_of (ps_for I.never hc (pi_list pe) (pg_name I.nd (I.hi hA) (I.loc hA) I.f) pl hs2) (e_mono q fun v H1 q1 => ?_)
  obtain ⟨ad, xs, rfl, hl, Pv, h0, hk, hb, hd⟩ := q1
  exact ⟨ad, rfl, ⟨xs, hl⟩, for_list Pv h0 hk hb hd⟩
theorem s_forT {nx : L2.St → Hp → Prop} {rt : VK} {bk ct : L2.St → Hp → Prop} {N G : List Str} {sc : Scope} {x : Str} {i : Nat} {a : Expr} {body : List Stmt} {px pos : Pos}
    (q : wE X a σ H fun v H1 => ∃ ad xs, v = .ref ad ∧ SqT X.K H1 ad xs ∧ ∃ Pv : Nat → L2.St → Hp → Prop, Pv 0 σ H1 ∧ (∀ k σ H, k ≤ xs.length → Pv k σ H → SqT X.K H ad xs) ∧ (∀ k y σ H, xs[k]? = some y → Pv k σ H → wL X body ⟨Pv (k + 1), rt, nx, Pv (k + 1)⟩ (σ.set i (some y)) H) ∧ ∀ σ H, Pv xs.length σ H → nx σ H)
    (I : In X N G sc := by assumption) (hc : X.calm = true := by rfl) (hA : At N i x := by repeat (first | with_reducible apply At.z | with_reducible apply At.s))
    (hs2 : ∀ z, foldedSetIterable a X.env z = pure z := by intro _; rfl) :
    wS X (.For (.Name x px) a body [] pos) ⟨nx, rt, bk, ct⟩ σ H := by
  refine s_of (ps_for I.never hc (pi_tup pe) (pg_name I.nd (I.hi hA) (I.loc hA) I.f) pl hs2) (e_mono q fun v H1 q1 => ?_)
  obtain ⟨ad, xs, rfl, hl, Pv, h0, hk, hb, hd⟩ := q1
  exact ⟨ad, rfl, ⟨xs, hl⟩, for_tup Pv h0 hk hb hd⟩
/-! ### an own operator of an own class -/
end
/-! ### heaps -/
/-- all but a stays -/
def But (a : Addr) (H H' : Hp) : Prop := ∀ b o, b ≠ a → H b = some o → H' b = some o
theorem But.refl {a : Addr} {H : Hp} : But a H H := fun _ _ _ h => h
theorem But.trans {a : Addr} {H H1 H2 : Hp} (x : But a H H1) (y : But a H1 H2) : But a H H2 := fun b o n h => y b o n (x b o n h)
theorem But.of {a : Addr} {H H1 : Hp} (x : Same H H1) : But a H H1 := fun b o _ h => x b o h
theorem But.upd {a : Addr} {H H1 : Hp} {o : HO} (x : But a H H1) : But a H (L2.upd H1 a o) := fun b u n h => by
  rw [upd_ne n]
  exact x b u n h
theorem But.tup {a p : Addr} {H H1 : Hp} {l xs : List V} (x : But a H H1) (ha : H a = some (.lst l)) (hp : H p = some (.tup xs)) : H1 p = some (.tup xs) := x p _ (ne_of hp ha (by intro z; cases z)) hp
section
variable {P : Program} {w : World} {K : PySem.W.Frag} {mg : Str → Option Value} {base : Heap}
/-- a def of the module where the top has left it -/
structure Top (K : PySem.W.Frag) (mg : Str → Option Value) (x : Str) (st : Stmt) : Prop where
  ex : ∃ (f : Addr) (fd : FuncData), Fun K x x st f fd ∧ mg x = some (.ref f)
theorem top_mk {h : Heap} {x : Str} {st : Stmt} {f : Addr} {oc : Value} {od an : Option Addr} {osl : Array (Option Value)} {kV doc pm cdv ct : Value} (X : K.In h) (G : h.Ns mainGlobals mg) (a : PySem.W.nsIn K mainGlobals x = some (some (.ref f)))
    (l : K.lookup f = some ⟨oc, od, .func (PySem.W.fnOf x x (defArgs st) (defBody st) (defScope st) .none kV doc pm an cdv ct), osl⟩) (c : PySem.W.codeIn K cdv x = true) (k : PySem.W.keepIn K (.ref f) = true) : Top K mg x st :=
  ⟨f, _, fun_mk l c k, PySem.W.mg_of X G a⟩
theorem fn_ok {x : Str} {st : Stmt} {N G ps : List Str} {k : Nat} {sp : Sp} (T : Top K mg x st) (S : FnScope N ps (defScope st)) (O : ScOk N G (defScope st)) (len : ∀ vs H Q E, sp vs H Q E → vs.length = ps.length)
    (hb : ∀ (kV doc pm : Value) (an : Option Addr) (cdv ct : Value) (us : List Value), us.length = ps.length → bindArgs (PySem.W.fnOf x x (defArgs st) (defBody st) (defScope st) .none kV doc pm an cdv ct) ⟨us, []⟩ = pure (ps.zip us))
    (hbody : ∀ (f : Addr) (cdv : Value) (A : Around) (outer : List Env) (s : Shared) (H : Hp) (vs : List V) (Q : VK) (E : XK), Room k (A.deeper (envOfC x (defScope st) s.heap.objs.size f cdv)) → sp vs H Q E → In (cxOf CX0 P w K mg base N x (defScope st) f cdv A outer s H E).nox N G (defScope st) →
      wL (cxOf CX0 P w K mg base N x (defScope st) f cdv A outer s H E).nox (defBody st) { nx := fun _ H' => Q .non H', rt := Q } (start N vs) H) : Fn P w K mg base (k + 1) x sp := by
  obtain ⟨f, fd, F, hm⟩ := T.ex
  exact ⟨f, fd, ps, F.ok S len (fun cdv A outer s H vs Q E hr h => ⟨_, pl, hbody f cdv A outer s H vs Q E hr h ⟨O, ⟨[], (List.append_nil _).symm⟩, S.nd, rfl, rfl, PassesOwn.never⟩⟩), hm, F.kp, F.binds hb⟩
/-- a method where the top has left it -/
structure TopM (K : PySem.W.Frag) (C : Addr) (x qual : Str) (st : Stmt) : Prop where
  ex : ∃ (f : Addr) (fd : FuncData), Fun K x qual st f fd ∧ PySem.W.findIn K (.ref C) x = some (some (.ref f)) ∧ PySem.W.isFn K (.ref f) = true
theorem topM_mk {x qual : Str} {st : Stmt} {C f : Addr} {oc : Value} {od an : Option Addr} {osl : Array (Option Value)} {kV doc pm cdv ct : Value} (a : PySem.W.findIn K (.ref C) x = some (some (.ref f))) (i : PySem.W.isFn K (.ref f) = true)
    (l : K.lookup f = some ⟨oc, od, .func (PySem.W.fnOf x qual (defArgs st) (defBody st) (defScope st) .none kV doc pm an cdv ct), osl⟩) (c : PySem.W.codeIn K cdv qual = true) (k : PySem.W.keepIn K (.ref f) = true) : TopM K C x qual st :=
  ⟨f, _, fun_mk l c k, a, i⟩
theorem me_ok {x qual : Str} {C : Addr} {st : Stmt} {N G ps : List Str} {k : Nat} {sp : Sp} (T : TopM K C x qual st) (S : FnScope N ps (defScope st)) (O : ScOk N G (defScope st)) (len : ∀ vs H Q E, sp vs H Q E → vs.length = ps.length)
    (hb : ∀ (kV doc pm : Value) (an : Option Addr) (cdv ct : Value) (us : List Value), us.length = ps.length → bindArgs (PySem.W.fnOf x qual (defArgs st) (defBody st) (defScope st) .none kV doc pm an cdv ct) ⟨us, []⟩ = pure (ps.zip us))
    (hbody : ∀ (f : Addr) (cdv : Value) (A : Around) (outer : List Env) (s : Shared) (H : Hp) (vs : List V) (Q : VK) (E : XK), Room k (A.deeper (envOfC qual (defScope st) s.heap.objs.size f cdv)) → sp vs H Q E → In (cxOf CX0 P w K mg base N qual (defScope st) f cdv A outer s H E).nox N G (defScope st) →
      wL (cxOf CX0 P w K mg base N qual (defScope st) f cdv A outer s H E).nox (defBody st) { nx := fun _ H' => Q .non H', rt := Q } (start N vs) H) :
    ∃ (f : Addr) (fd : FuncData), FnOk P w K mg base CX0 (k + 1) f fd ps sp ∧ Binds K fd ps [] ∧ PySem.W.findIn K (.ref C) x = some (some (.ref f)) ∧ PySem.W.isFn K (.ref f) = true ∧ PySem.W.keepIn K (.ref f) = true := by
  obtain ⟨f, fd, F, hf, hi⟩ := T.ex
  exact ⟨f, fd, F.ok S len (fun cdv A outer s H vs Q E hr h => ⟨_, pl, hbody f cdv A outer s H vs Q E hr h ⟨O, ⟨[], (List.append_nil _).symm⟩, S.nd, rfl, rfl, PassesOwn.never⟩⟩), F.binds hb, hf, hi, F.kp⟩
end
/-- a bool test that is decided by a fact -/
theorem ifT {c A B : Prop} [Decidable c] (hc : c) (h : A) : if decide c = true then A else B := by
  rw [decide_eq_true hc]
  exact iteT h
theorem ifF {c A B : Prop} [Decidable c] (hc : ¬ c) (h : B) : if decide c = true then A else B := by
  rw [decide_eq_false hc]
  exact iteF h
theorem if2 {c A B : Prop} [Decidable c] (h1 : c → A) (h2 : ¬ c → B) : if decide c = true then A else B := by
  by_cases h : c
  · exact ifT h (h1 h)
  · exact ifF h (h2 h)
theorem ite_t {c : Bool} {A B : Prop} (hc : c = true) (h : A) : if c = true then A else B := by
  rw [hc]
  exact iteT h
theorem ite_f {c : Bool} {A B : Prop} (hc : c = false) (h : B) : if c = true then A else B := by
  rw [hc]
  exact iteF h
section
variable {P : Program} {w : World} {K : PySem.W.Frag} {mg : Str → Option Value} {base : Heap}
theorem run_ok {x qual : Str} {st : Stmt} {N G ps : List Str} {k : Nat} {sp : Sp} {f : Addr} {fd : FuncData} (F : Fun K x qual st f fd) (S : FnScope N ps (defScope st)) (O : ScOk N G (defScope st)) (len : ∀ vs H Q E, sp vs H Q E → vs.length = ps.length)
    (hbody : ∀ (f : Addr) (cdv : Value) (A : Around) (outer : List Env) (s : Shared) (H : Hp) (vs : List V) (Q : VK) (E : XK), Room k (A.deeper (envOfC qual (defScope st) s.heap.objs.size f cdv)) → sp vs H Q E → In (cxOf CX0 P w K mg base N qual (defScope st) f cdv A outer s H E).nox N G (defScope st) →
      wL (cxOf CX0 P w K mg base N qual (defScope st) f cdv A outer s H E).nox (defBody st) { nx := fun _ H' => Q .non H', rt := Q } (start N vs) H) : FnOk P w K mg base CX0 (k + 1) f fd ps sp :=
  F.ok S len (fun cdv A outer s H vs Q E hr h => ⟨_, pl, hbody f cdv A outer s H vs Q E hr h ⟨O, ⟨[], (List.append_nil _).symm⟩, S.nd, rfl, rfl, PassesOwn.never⟩⟩)
end
end Wk

/-! My own layer, errors: an own class of errors with fields, raised, caught, asked. -/
namespace Wk
open PySem PySem.Spec PyProof.Rows L2
section
variable {X : Cx} {N G : List Str} {sc : Scope} {e o : Expr} {es : List Expr} {σ : L2.St} {H : Hp} {Q : VK} {pos p0 np : Pos}
/-- an own class of errors whose __init__ stores its one argument in the field f -/
def sp1 (C : Addr) (f : Str) : Sp := fun vs H Q _ => ∃ (a : Addr) (v : V), vs = [.ref a, v] ∧ H a = some (exo a C none) ∧ ∀ dx, H dx = none → dx ≠ a → Q .non (upd (upd H dx (exd dx [(f, v)])) a (exo a C (some dx)))
structure Er (P : Program) (w : World) (K : PySem.W.Frag) (mg : Str → Option Value) (base : Heap) (x : Str) (C : Addr) (f : Str) : Prop where
  o : OexC K C
  mgC : mg x = some (.ref C)
  ex : ∃ (fI : Addr) (fd : FuncData) (ps : List Str), FnOk P w K mg base CX0 1 fI fd ps (sp1 C f) ∧ PySem.W.findIn K (.ref C) "__init__" = some (some (.ref fI)) ∧ PySem.W.typeIn K (.ref fI) = some (.type "function") ∧ Binds K fd ps []
/-- self.f = e of an error that is being made -/
theorem s_ost {nx : L2.St → Hp → Prop} {rt : VK} {bk ct : L2.St → Hp → Prop} {f : Str} {value : Expr} {pos' : Pos} (q : wE X value σ H fun y H1 => wE X o σ H1 fun x H2 => ∃ a C : Addr, x = .ref a ∧ OexC X.K C ∧ PySem.W.findIn X.K (.ref C) f = some none ∧ H2 a = some (exo a C none) ∧ ∀ dx, H2 dx = none → dx ≠ a → nx σ (upd (upd H2 dx (exd dx [(f, y)])) a (exo a C (some dx))))
    (hs : swapsWith value (some (.Attribute o f pos')) pos.line X.env = pure false := by rfl) : wS X (.Assign [.Attribute o f pos'] value pos) ⟨nx, rt, bk, ct⟩ σ H :=
  s_of (ps_ost pe pe hs) (e_mono q fun y H1 z => e_mono z fun x H2 ⟨a, C, h1, h2, h3, h4, h5⟩ => ⟨a, C, h1, h2, h3, .inl ⟨h4, h5⟩⟩)
end
section
variable {P : Program} {w : World} {K : PySem.W.Frag} {mg : Str → Option Value} {base : Heap}
end
end Wk

/-! My own layer, errors whose context is None: raised where nothing is handled, so that defs may be called in the suite that catches them. -/
namespace Wk
open PySem PySem.Spec PyProof.Rows L2
section
variable {X : Cx} {N G : List Str} {sc : Scope} {e o : Expr} {es : List Expr} {σ : L2.St} {H : Hp} {Q : VK} {pos p0 np : Pos}
/-- C(e) of a class whose __init__ stores one field: the made error's fields are known -/
theorem pmkN {n : Nat} {x f : Str} {C : Addr} (R : Er X.prog X.w X.K X.mg X.base x C f) (hr : Room n X.A) (hn : 2 ≤ n) (hg : Gl X x) (hdb : (x == ("__debug__" : Str)) = false)
    (he : starEach (e :: []) X.env = (false, eval e X.env) :: starEach [] X.env) (hpl : (backTo pos (starEach [] X.env)).any (·.1) = false) :
    L2N.PMk X (.Call (.Name x p0) [e] [] pos) (fun σ H Q => wE X e σ H fun v H1 => ∀ d H', Same H1 H' → H1 d = none → H' d = some (.xd [(f, v)]) → Q (.ref C) (some d) H') := by
  intro pins s σ H Q I h
  obtain ⟨fI, fd, ps, F0, hi, ht, hb⟩ := R.ex
  obtain ⟨_, _, _, _, bm, _, _, _, _, _, _, _, _, _, _, hC, hbm⟩ := R.o.cls
  refine wpAny_Call_Name_kw (ld_glob I hg R.mgC ?_ hdb)
  refine PySem.W.callWith_K (h₀ := X.base) I.ok.mod.kin R.o.kC (thn ((pa_cons pe pa_nil he).run pos pins s σ H (fun vs H1 => ∃ v, vs = [v] ∧ ∀ d H', Same H1 H' → H1 d = none → H' d = some (.xd [(f, v)]) → Q (.ref C) (some d) H') I (e_mono h fun v H1 z => ⟨v, rfl, z⟩)) fun us s1 ⟨vs, H1, I1, r1, v, ev, q1⟩ => ⟨I1.kIn, ?_⟩) he hpl
  subst ev
  show wpAny _ _ (call (.ref C) us) _ _ _
  obtain ⟨hp, g, dr, tk, os⟩ := s1
  have hget0 : ((hp.push (PySem.W.kdv_tup us)).push (PySem.HandSPX.excO C hp.objs.size)).get? (hp.objs.size + 1) = some (PySem.HandSPX.excO C hp.objs.size) := by heap_get
  let a := hp.objs.size + 1
  have na : H1 a = none := I1.hok.fresh (Nat.le_succ _)
  let hp2 := (hp.push (PySem.W.kdv_tup us)).push (PySem.HandSPX.excO C hp.objs.size)
  have kk : ∀ b o, hp.get? b = some o → hp2.get? b = some o := fun b o z => Heap.get?_push_of_some _ (Heap.get?_push_of_some _ z)
  have hget : hp2.get? a = some (PySem.HandSPX.excO C hp.objs.size) := hget0
  have I2 : Inv X pins σ (upd H1 a (exo a C none)) ⟨hp2, g, dr, tk, os⟩ := I1.laid (t' := tk) (h' := hp2) kk (Nat.le_succ _) (exo_ok hget)
  have r2 : Vals (V.ref a :: [v]) (Value.ref a :: us) := .cons rfl r1
  have lu : us.length = 1 := r1.length.symm
  -- what __init__ is asked for
  have hq : sp1 C f [.ref a, v] (upd H1 a (exo a C none)) (fun w H2 => w = .non ∧ ∃ d, H2 a = some (exo a C (some d)) ∧ H2 d = some (exd d [(f, v)]) ∧ H1 d = none ∧ Q (.ref C) (some d) (upd (del H2 a) d (.xd [(f, v)]))) (fun _ _ _ => False) := by
    refine ⟨a, v, rfl, upd_same, fun dx nd ne => ⟨rfl, dx, upd_same, by rw [upd_ne ne, upd_same], by rw [upd_ne ne] at nd; exact nd, ?_⟩⟩
    rw [upd_ne ne] at nd
    refine q1 dx _ (fun b u hb => ?_) nd upd_same
    have h1 : b ≠ a := ne_of_none hb na
    have h2 : b ≠ dx := ne_of_none hb nd
    rw [upd_ne h2, del_ne h1, upd_ne h1, upd_ne h2, upd_ne h1]
    exact hb
  have lp : (Value.ref a :: us).length = ps.length := by
    have z1 := r2.length
    rw [F0.len _ _ _ _ hq] at z1
    exact z1.symm
  have bind : BindsTo ⟨hp2, g, dr, tk, os⟩ fd ⟨Value.ref a :: us, []⟩ (ps.zip (Value.ref a :: us)) := by
    have z1 := hb ⟨hp2, g, dr, tk, os⟩ (Value.ref a :: us) I2.kIn (by rw [List.append_nil]; exact lp)
    rwa [List.append_nil] at z1
  have room : Room 1 (X.A.under (.builtin "type.__call__" ⟨.ref C :: us, []⟩)) := (hr.mono hn).make C us []
  have go := F0.run _ X.stack _ _ ⟨Value.ref a :: us, []⟩ (Value.ref a :: us) [V.ref a, v] _ (fun _ _ _ => False) room (I2.env0.make C us []) bind r2 hq
  refine wpAny_call (PySem.HandSPX.call_own F.excBase_ValueError (fun Y => PySem.HandSPX.refsVE_contains Y bm hbm) (I1.kIn _ _ hC) (PySem.W.looks_findIn I1.kIn hi) (fun self => PySem.W.bind_fn I1.kIn self ht) (by rw [lu, sizeLine_eq]; decide) (codeAny_mono go fun r s' back => ?_))
  cases r with
  | error er => exact False.elim back
  | ok fl =>
    cases fl with
    | ret u =>
      obtain ⟨w, H2, o2, b2, un2, ok2, rw2, ew, d, ea, ed, nd1, q2⟩ := back
      subst ew
      obtain ⟨h2, g2, d2, t2, os'⟩ := s'
      obtain ⟨t0, Gh, J, kG, ge, hoe, nH⟩ := mk_end0 (d2 := d2) (t2 := t2) I1 (Nat.le_succ _) kk un2 ok2 o2 b2 ea ed nd1
      refine ⟨rw2, a, _, #[.ref t0, .none, .none, .none, .bool false, .none], ⟨Gh, g2, d2, t2, os'⟩, _, .ref C, some d, rfl, J, kG, ge, hoe, ⟨rfl, rfl, ?_⟩, rfl, rfl, nH, rfl, b2, raises_own R.o.exC R.o.tyC, q2⟩
      intro vs z
      cases z
      rfl
    | next => exact False.elim back
    | brk => exact False.elim back
    | cont => exact False.elim back

theorem e_dict (q : ∀ p H2, Same H H2 → H p = none → H2 p = some (.dK []) → Q (.ref p) H2) : wE X (.Dict [] [] pos) σ H Q :=
  e_of pe_dnewK fun p np => q p _ (fun b u eo => by rw [upd_ne (ne_of_none eo np)]; exact eo) np upd_same
theorem e_neg {a : Expr} (q : wE X a σ H fun x H1 => ∃ i, x = .int i ∧ Q (.int (-i)) H1) : wE X (.UnaryOp .USub a pos) σ H Q := e_of (pe_un un_neg pe) q
/-- raise C(e), where nothing is handled -/
theorem s_raiseN {nx : L2.St → Hp → Prop} {rt : VK} {bk ct : L2.St → Hp → Prop} {g n : Nat} {x f : Str} {C : Addr} {W : WX} {pos' : Pos} (R : Er X.prog X.w X.K X.mg X.base x C f) (tk : L2N.Takes X W) (hr : Room n X.A) (hn : 2 ≤ n)
    (q : wE X e σ H fun v H1 => ∀ d H', Same H1 H' → H1 d = none → H' d = some (.xd [(f, v)]) → W (.ref C) (some d) σ H')
    (I : In X N G sc := by assumption) (hG : At G g x := by repeat (first | with_reducible apply At.z | with_reducible apply At.s)) (hc : X.calm = true := by rfl)
    (he : starEach (e :: []) X.env = (false, eval e X.env) :: starEach [] X.env := by rfl) (hpl : (backTo pos (starEach [] X.env)).any (·.1) = false := by rfl) :
    wS X (.Raise (some (.Call (.Name x p0) [e] [] pos)) none pos') ⟨nx, rt, bk, ct⟩ σ H :=
  s_of (L2N.ps_raise hc tk (pmkN R hr hn (I.g hG) (I.gd hG) he hpl)) q
/-- a def of the module that may raise so -/
structure FnN (P : Program) (w : World) (K : PySem.W.Frag) (mg : Str → Option Value) (base : Heap) (k : Nat) (x : Str) (sp : Sp) : Prop where
  ex : ∃ (f : Addr) (fd : FuncData) (ps : List Str), FnOk P w K mg base (L2N.CX P w) k f fd ps sp ∧ mg x = some (.ref f) ∧ PySem.W.keepIn K (.ref f) = true ∧ Binds K fd ps []
theorem e_callN {g k n : Nat} {x : Str} {sp : Sp} {W : WX} (F : FnN X.prog X.w X.K X.mg X.base k x sp) (tk : L2N.Takes X W) (hr : Room n X.A) (hk : k ≤ n) (q : wA X (e :: es) σ H fun vs H1 => sp vs H1 Q (fun cls d H' => W cls d σ H'))
    (I : In X N G sc := by assumption) (hG : At G g x := by repeat (first | with_reducible apply At.z | with_reducible apply At.s)) (he : starEach (e :: es) X.env = (false, eval e X.env) :: starEach es X.env := by rfl) (hpl : (backTo pos (starEach es X.env)).any (·.1) = false := by rfl) :
    wE X (.Call (.Name x p0) (e :: es) [] pos) σ H Q := by
  obtain ⟨f, fd, ps, F0, hm, hkp, hb⟩ := F.ex
  refine e_of (pe_callSD (E := fun σ cls d H' => W cls d σ H') F0 (hr.mono hk) (I.g hG) hm hkp hb .nil (fun σ => L2N.passAt tk σ) pa (I.gd hG) he hpl) ?_
  show wA X (e :: es) σ H fun vs H1 => sp (vs ++ []) H1 Q (fun cls d H' => W cls d σ H')
  simp only [List.append_nil]
  exact q
theorem takesN0 : L2N.Takes X (fun _ _ _ _ => False) := fun _ _ x => by
  obtain ⟨_, _, _, _, _, _, _, _, _, _, _, _, _, _, _, _, z⟩ := x
  exact z.elim
end
section
variable {P : Program} {w : World} {K : PySem.W.Frag} {mg : Str → Option Value} {base : Heap}
theorem fn_okN {x : Str} {st : Stmt} {N G ps : List Str} {k : Nat} {sp : Sp} (T : Top K mg x st) (S : FnScope N ps (defScope st)) (O : ScOk N G (defScope st)) (len : ∀ vs H Q E, sp vs H Q E → vs.length = ps.length)
    (hb : ∀ (kV doc pm : Value) (an : Option Addr) (cdv ct : Value) (us : List Value), us.length = ps.length → bindArgs (PySem.W.fnOf x x (defArgs st) (defBody st) (defScope st) .none kV doc pm an cdv ct) ⟨us, []⟩ = pure (ps.zip us))
    (hbody : ∀ (f : Addr) (cdv : Value) (A : Around) (outer : List Env) (s : Shared) (H : Hp) (vs : List V) (Q : VK) (E : XK), Room k (A.deeper (envOfC x (defScope st) s.heap.objs.size f cdv)) → sp vs H Q E → In (cxOf (L2N.CX P w) P w K mg base N x (defScope st) f cdv A outer s H E) N G (defScope st) →
      L2N.Takes (cxOf (L2N.CX P w) P w K mg base N x (defScope st) f cdv A outer s H E) (fun cls d _ H => E cls d H) →
      wL (cxOf (L2N.CX P w) P w K mg base N x (defScope st) f cdv A outer s H E) (defBody st) { nx := fun _ H' => Q .non H', rt := Q } (start N vs) H) : FnN P w K mg base (k + 1) x sp := by
  obtain ⟨f, fd, F, hm⟩ := T.ex
  obtain ⟨oc, od, kV, doc, pm, an, cdv, ct, osl, rfl, lk, hcd⟩ := id F.ex
  exact ⟨f, _, ps, fn_of lk hcd S len (fun A outer s H vs Q E hr h => ⟨_, pl, hbody f cdv A outer s H vs Q E hr h ⟨O, ⟨[], (List.append_nil _).symm⟩, S.nd, rfl, rfl, passes_of rfl⟩ (L2N.takes_of rfl rfl rfl rfl)⟩), hm, F.kp, F.binds hb⟩
end
end Wk

/-! My own layer, texts: chains of comparisons, order and length of texts, a sign of a text, a loop over a text. -/
namespace Wk
open PySem PySem.Spec PyProof.Rows L2
section
variable {X : Cx} {N G : List Str} {sc : Scope} {a b c e : Expr} {es : List Expr} {σ : L2.St} {H : Hp} {Q : VK} {pos : Pos} {QT : Bool → Hp → Prop}
theorem e_chain {op op' : CmpOp} (q : wE X a σ H fun x H1 => wE X b σ H1 fun y H2 => wK X op x y H2 fun z H3 => ∃ k, z = .bl k ∧ (if k = true then wE X c σ H3 fun w H4 => wK X op' y w H4 Q else Q (.bl false) H3)) (hm : lastMarks [op, op'] [b, c] = false := by with_unfolding_all rfl) :
    wE X (.Compare a [op, op'] [b, c] pos) σ H Q := e_of (pe_chain opk opk pe pe pe hm) q
/-- one sign -/
abbrev sg (c : Nat) : Str := ⟨#[c]⟩
theorem c_lenS {z : Str} (h : z.length ≤ sizeLine) (q : Q (.int (z.length : Int)) H) : wC X (.builtin "len") [.str z] H Q := c_of call_len ⟨.str z, z.length, rfl, ⟨h, rfl⟩, q⟩
theorem ix_s {z : Str} {i : Int} {c : Nat} (h : z.length ≤ sizeLine) (e : atI z.cps.toList i = some c) (q : Q (.str (sg c)) H) : wIx X (.str z) (.int i) H Q := ix_of ix_str ⟨z, i, c, rfl, rfl, h, e, q⟩
end
end Wk

/-! My own layer, comprehensions with their own names, and ground terms: what only makes new objects, over facts that last. -/
namespace Wk
open PySem PySem.Spec PyProof.Rows L2
section
variable {P : Program} {w : World} {K : PySem.W.Frag} {mg : Str → Option Value} {base : Heap}
/-- a def with further slots C for the names of its comprehensions -/
theorem fn_okC {x : Str} {st : Stmt} {N C G ps : List Str} {k : Nat} {sp : Sp} (T : Top K mg x st) (S : FnScope (N ++ C) ps (defScope st)) (O : ScOk N G (defScope st)) (len : ∀ vs H Q E, sp vs H Q E → vs.length = ps.length)
    (hb : ∀ (kV doc pm : Value) (an : Option Addr) (cdv ct : Value) (us : List Value), us.length = ps.length → bindArgs (PySem.W.fnOf x x (defArgs st) (defBody st) (defScope st) .none kV doc pm an cdv ct) ⟨us, []⟩ = pure (ps.zip us))
    (hbody : ∀ (f : Addr) (cdv : Value) (A : Around) (outer : List Env) (s : Shared) (H : Hp) (vs : List V) (Q : VK) (E : XK), Room k (A.deeper (envOfC x (defScope st) s.heap.objs.size f cdv)) → sp vs H Q E → In (cxOf CX0 P w K mg base (N ++ C) x (defScope st) f cdv A outer s H E).nox N G (defScope st) →
      wL (cxOf CX0 P w K mg base (N ++ C) x (defScope st) f cdv A outer s H E).nox (defBody st) { nx := fun _ H' => Q .non H', rt := Q } (start (N ++ C) vs) H) : Fn P w K mg base (k + 1) x sp := by
  obtain ⟨f, fd, F, hm⟩ := T.ex
  exact ⟨f, fd, ps, F.ok S len (fun cdv A outer s H vs Q E hr h => ⟨_, pl, hbody f cdv A outer s H vs Q E hr h ⟨O, ⟨C, rfl⟩, S.nd, rfl, rfl, PassesOwn.never⟩⟩), hm, F.kp, F.binds hb⟩
end
/-! ### blocks -/
instance visDec {sc : Scope} {x : Str} : Decidable (Vis sc x) := inferInstanceAs (Decidable (_ ∨ _))
/-- the names of a comprehension's block: the seen ones with their slots, the global ones, its own at slot i -/
structure BkOk (N : List Str) (Vn : List (Nat × Str)) (G : List Str) (i : Nat) (x : Str) (sc scope : Scope) : Prop where
  lo : ∀ p ∈ Vn, N[p.1]? = some p.2 ∧ Vis (relS scope sc) p.2 ∧ (p.2 == ("__debug__" : Str)) = false ∧ (p.2 == ("__classdict__" : Str)) = false
  gl : ∀ x ∈ G, (relS scope sc).names.lookup x = some .globalImplicit ∧ (x == ("__debug__" : Str)) = false ∧ x ≠ "__name__"
  own : N[i]? = some x ∧ (relS scope sc).names.lookup x = some .local
  blk : blkC N sc scope [(x, i)] = true
structure InB (X : Cx) (Vn : List (Nat × Str)) (G : List Str) : Prop where
  nd : X.N.Nodup
  lo : ∀ p ∈ Vn, X.N[p.1]? = some p.2 ∧ Vis X.env.scope p.2 ∧ (p.2 == ("__debug__" : Str)) = false ∧ (p.2 == ("__classdict__" : Str)) = false
  gl : ∀ x ∈ G, Gl X x ∧ (x == ("__debug__" : Str)) = false ∧ x ≠ "__name__"
abbrev Bk (X : Cx) (s : Shared) (H : Hp) (scope : Scope) (C : Addr) (cl : List (Str × Addr)) (fp : List Addr) : Cx := X.blk s H scope (compEnvC scope cl C X.env) fp
section
variable {X : Cx} {e a b c elt : Expr} {es rest : List Expr} {σ : L2.St} {H : Hp} {Q : VK} {pos p0 : Pos} {N G G' : List Str} {Vn : List (Nat × Str)} {sc scope : Scope}
theorem rel_eq (h : X.env.scope = sc) (C : Addr) (cl : List (Str × Addr)) : (compEnvC scope cl C X.env).scope = relS scope sc := by
  subst h
  rfl
theorem BkOk.inB {i : Nat} {x : Str} (B : BkOk X.N Vn G' i x sc scope) (I : In X N G sc) (s : Shared) (H : Hp) (C : Addr) (cl : List (Str × Addr)) (fp : List Addr) : InB (Bk X s H scope C cl fp) Vn G' := by
  have e : (compEnvC scope cl C X.env).scope = relS scope sc := rel_eq I.sc C cl
  refine ⟨I.nd, fun p hp => ?_, fun y hy => ?_⟩
  · obtain ⟨h1, h2, h3, h4⟩ := B.lo p hp
    exact ⟨h1, by show Vis (compEnvC scope cl C X.env).scope p.2; rw [e]; exact h2, h3, h4⟩
  · obtain ⟨h1, h2, h3⟩ := B.gl y hy
    exact ⟨by show (compEnvC scope cl C X.env).scope.names.lookup y = _; rw [e]; exact h1, h2, h3⟩
theorem BkOk.pg {i : Nat} {x : Str} {px : Pos} (B : BkOk X.N Vn G' i x sc scope) (I : In X N G sc) (s : Shared) (H : Hp) (C : Addr) (cl : List (Str × Addr)) (fp : List Addr) : PG (Bk X s H scope C cl fp) (.Name x px) (gName i) := by
  have e : (compEnvC scope cl C X.env).scope = relS scope sc := rel_eq I.sc C cl
  have l : (Bk X s H scope C cl fp).env.scope.names.lookup x = some .local := by
    show (compEnvC scope cl C X.env).scope.names.lookup x = _
    rw [e]
    exact B.own.2
  exact pg_name I.nd B.own.1 (.inl l) (.inr l)
theorem BkOk.ok {i : Nat} {x : Str} (B : BkOk X.N Vn G' i x sc scope) (I : In X N G sc) : BlkOk X.N X.env.scope scope [(x, i)] := by
  rw [I.sc]
  exact blkOk_by B.blk
theorem InB.g (I : InB X Vn G) {i : Nat} {x : Str} (h : At G i x) : Gl X x := (I.gl x h.mem).1
theorem InB.gd (I : InB X Vn G) {i : Nat} {x : Str} (h : At G i x) : (x == ("__debug__" : Str)) = false := (I.gl x h.mem).2.1
theorem InB.gn (I : InB X Vn G) {i : Nat} {x : Str} (h : At G i x) : x ≠ "__name__" := (I.gl x h.mem).2.2
theorem b_var {j i : Nat} {x : Str} {v : V} (q : Q v H) (I : InB X Vn G := by assumption) (hA : At Vn j (i, x) := by repeat (first | with_reducible apply At.z | with_reducible apply At.s)) (hσ : σ[i]? = some (some v) := by exact rfl) : wE X (.Name x pos) σ H Q :=
  e_of (pe_var (I.lo _ hA.mem).1 (I.lo _ hA.mem).2.1 (I.lo _ hA.mem).2.2.1 (I.lo _ hA.mem).2.2.2) ⟨v, hσ, q⟩
theorem b_call {g : Nat} {k n : Nat} {x : Str} {sp : Sp} (F : Fn X.prog X.w X.K X.mg X.base k x sp) (hr : Room n X.A) (hk : k ≤ n) (q : wA X (e :: es) σ H fun vs H1 => sp vs H1 Q E0) (I : InB X Vn G := by assumption) (hG : At G g x := by repeat (first | with_reducible apply At.z | with_reducible apply At.s))
    (he : starEach (e :: es) X.env = (false, eval e X.env) :: starEach es X.env := by rfl) (hpl : (backTo pos (starEach es X.env)).any (·.1) = false := by rfl) : wE X (.Call (.Name x p0) (e :: es) [] pos) σ H Q := by
  obtain ⟨f, fd, ps, F0, hm, hkp, hb⟩ := F.ex
  refine e_of (pe_call F0 (hr.mono hk) (I.g hG) hm hkp hb .nil pass0 pa (I.gd hG) he hpl) ?_
  show wA X (e :: es) σ H fun vs H1 => sp (vs ++ []) H1 Q E0
  simp only [List.append_nil]
  exact q
theorem b_callB {g : Nat} {x : Str} {id : String} (hm : X.mg x = none) (hv : bootBuiltins x = some (.builtin id)) (q : wA X (e :: es) σ H fun vs H1 => wC X (.builtin id) vs H1 Q) (I : InB X Vn G := by assumption) (hG : At G g x := by repeat (first | with_reducible apply At.z | with_reducible apply At.s))
    (he : starEach (e :: es) X.env = (false, eval e X.env) :: starEach es X.env := by rfl) (hpl : (backTo pos (starEach es X.env)).any (·.1) = false := by rfl) : wE X (.Call (.Name x p0) (e :: es) [] pos) σ H Q := e_of (pe_callB cr (I.g hG) hm hv pa (I.gn hG) (I.gd hG) he hpl) q
theorem wipe1 (σ : L2.St) (i : Nat) : wipe σ [i] = σ.set i none := rfl
theorem wipe_set (σ : L2.St) (i : Nat) (v : L2.V) : wipe ((wipe σ [i]).set i (some v)) [i] = wipe σ [i] := by
  simp [wipe1, List.set_set]
/-- what the turns of a comprehension ask: over range(n) -/
def LcR (X : Cx) (Vn : List (Nat × Str)) (G' : List Str) (elt : Expr) (scope : Scope) (i n : Nat) (D : Addr) (σ : L2.St) (H1 : Hp) (Qd : Hp → Prop) : Prop := ∃ Pv : Nat → Hp → Prop, Pv 0 (upd H1 D (.lst [])) ∧
  (∀ k H2, k < n → Pv k H2 → ∀ s0 H0 C cl fp, InB (Bk X s0 H0 scope C cl fp) Vn G' → wE (Bk X s0 H0 scope C cl fp) elt ((wipe σ [i]).set i (some (.int (k : Int)))) H2 fun y H4 => ∃ acc, H4 D = some (.lst acc) ∧ acc.length < sizeLine ∧ Pv (k + 1) (upd H4 D (.lst (acc ++ [y])))) ∧
  ∀ H2, Pv n H2 → Qd H2
/-- .. over a list that stays -/
def LcL (X : Cx) (Vn : List (Nat × Str)) (G' : List Str) (elt : Expr) (scope : Scope) (i : Nat) (ad : Addr) (xs : List L2.V) (D : Addr) (σ : L2.St) (H1 : Hp) (Qd : Hp → Prop) : Prop := ∃ Pv : Nat → Hp → Prop, Pv 0 (upd H1 D (.lst [])) ∧ (∀ k H2, k ≤ xs.length → Pv k H2 → SqL X.K H2 ad xs) ∧
  (∀ k x H2, xs[k]? = some x → Pv k H2 → ∀ s0 H0 C cl fp, InB (Bk X s0 H0 scope C cl fp) Vn G' → wE (Bk X s0 H0 scope C cl fp) elt ((wipe σ [i]).set i (some x)) H2 fun y H4 => ∃ acc, H4 D = some (.lst acc) ∧ acc.length < sizeLine ∧ Pv (k + 1) (upd H4 D (.lst (acc ++ [y])))) ∧
  ∀ H2, Pv xs.length H2 → Qd H2
/-- the turn's reading, where the block may run anywhere -/
@[irreducible] def wBk (X : Cx) (Vn : List (Nat × Str)) (G' : List Str) (elt : Expr) (scope : Scope) : TE := fun σ H Q => ∀ s0 H0 C cl fp, InB (Bk X s0 H0 scope C cl fp) Vn G' → wE (Bk X s0 H0 scope C cl fp) elt σ H Q
theorem pe_bk {s0 : Shared} {H0 : Hp} {C : Addr} {cl : List (Str × Addr)} {fp : List Addr} (I : InB (Bk X s0 H0 scope C cl fp) Vn G') : PE (Bk X s0 H0 scope C cl fp) elt (wBk X Vn G' elt scope) :=
  ⟨fun pins s σ H Q Iv h => by unfold wBk at h; exact pe.run pins s σ H Q Iv (h s0 H0 C cl fp I)⟩
theorem lcR_of {i n : Nat} {D : Addr} {H1 : Hp} {Qd : Hp → Prop} (q : LcR X Vn G' elt scope i n D σ H1 Qd) : ∃ W : Nat → Nat → Hp → Prop, (∃ m, W 0 m (upd H1 D (.lst []))) ∧ ∀ k m H, W k m H →
    ((Itr 0 n).stop k H ∧ Qd H) ∨ ((Itr 0 n).go k H ∧ ∃ Nx : Hp → Prop, (∀ H', Nx H' → ∃ m', m' < m ∧ W (k + 1) m' H') ∧ ∀ x H', (Itr 0 n).yld k H x H' → gName i x (wipe σ [i]) H' fun σ2 H2 => wipe σ2 [i] = wipe σ [i] ∧ tYes σ2 H2 fun b H3 =>
      if b = true then wBk X Vn G' elt scope σ2 H3 fun y H4 => ∃ acc, H4 D = some (.lst acc) ∧ acc.length < sizeLine ∧ Nx (upd H4 D (.lst (acc ++ [y]))) else Nx H3) := by
  obtain ⟨Pv, h0, hs, hd⟩ := q
  refine lc_range Pv h0 (fun k H hk p => ?_) hd
  refine ⟨wipe_set σ i _, ?_⟩
  unfold tYes
  refine iteT ?_
  unfold wBk
  intro s0 H0 C cl fp I
  rw [Int.zero_add]
  exact hs k H hk p s0 H0 C cl fp I
theorem lcL_of {i : Nat} {ad : Addr} {xs : List L2.V} {D : Addr} {H1 : Hp} {Qd : Hp → Prop} (q : LcL X Vn G' elt scope i ad xs D σ H1 Qd) : ∃ W : Nat → Nat → Hp → Prop, (∃ m, W 0 m (upd H1 D (.lst []))) ∧ ∀ k m H, W k m H →
    ((Itl X.K ad).stop k H ∧ Qd H) ∨ ((Itl X.K ad).go k H ∧ ∃ Nx : Hp → Prop, (∀ H', Nx H' → ∃ m', m' < m ∧ W (k + 1) m' H') ∧ ∀ x H', (Itl X.K ad).yld k H x H' → gName i x (wipe σ [i]) H' fun σ2 H2 => wipe σ2 [i] = wipe σ [i] ∧ tYes σ2 H2 fun b H3 =>
      if b = true then wBk X Vn G' elt scope σ2 H3 fun y H4 => ∃ acc, H4 D = some (.lst acc) ∧ acc.length < sizeLine ∧ Nx (upd H4 D (.lst (acc ++ [y]))) else Nx H3) := by
  obtain ⟨Pv, h0, hl, hs, hd⟩ := q
  refine lc_list Pv h0 hl (fun k x H hk p => ?_) hd
  refine ⟨wipe_set σ i _, ?_⟩
  unfold tYes
  refine iteT ?_
  unfold wBk
  intro s0 H0 C cl fp I
  exact hs k x H hk p s0 H0 C cl fp I
/-- [elt for x in range(a)] -/
theorem e_lcR {i g : Nat} {x : Str} {px p cp : Pos} (B : BkOk X.N Vn G' i x sc scope) (hm : X.mg "range" = none)
    (q : wE X a σ H fun v H1 => ∃ n : Nat, v = .int n ∧ n < 2 ^ 62 ∧ ∀ D, H1 D = none → LcR X Vn G' elt scope i n D σ H1 fun H2 => Q (.ref D) H2)
    (I : In X N G sc := by assumption) (hc : X.calm = true := by rfl) (hG : At G g ("range" : Str) := by repeat (first | with_reducible apply At.z | with_reducible apply At.s)) (hs : starEach [a] X.env = [(false, eval a X.env)] := by rfl) (hs2 : ∀ z, foldedSetIterable (.Call (.Name "range" p) [a] [] cp) X.env z = pure z := by intro _; rfl)
    (hs1 : starEach (a :: []) X.env = (false, eval a X.env) :: starEach [] X.env := by rfl) :
    wE X (.ListComp elt [⟨.Name x px, .Call (.Name "range" p) [a] [] cp, [], 0⟩] scope pos) σ H Q := by
  refine e_of (pe_lc (own := [(x, i)]) (g := gName i) (tt := tYes) (te := wBk X Vn G' elt scope) hc I.nd (pi_range1 (I.g hG) hm (pa_cons pe pa_nil hs1) hs) (B.ok I) (fun s H C cl fp => B.pg I s H C cl fp) (fun _ _ _ _ _ => pts_nil) (fun s H C cl fp => pe_bk (B.inB I s H C cl fp)) hs2) (e_mono q fun v H1 q1 => ?_)
  obtain ⟨n, rfl, hn, q2⟩ := q1
  refine ⟨(n : Int), rfl, by omega, by omega, ?_⟩
  rw [Int.toNat_natCast]
  exact fun D hD => lcR_of (q2 D hD)
/-- [elt for x in a], a list -/
theorem e_lcL {i : Nat} {x : Str} {px : Pos} (B : BkOk X.N Vn G' i x sc scope)
    (q : wE X a σ H fun v H1 => ∃ ad xs, v = .ref ad ∧ SqL X.K H1 ad xs ∧ ∀ D, H1 D = none → LcL X Vn G' elt scope i ad xs D σ H1 fun H2 => Q (.ref D) H2)
    (I : In X N G sc := by assumption) (hc : X.calm = true := by rfl) (hs2 : ∀ z, foldedSetIterable a X.env z = pure z := by intro _; rfl) :
    wE X (.ListComp elt [⟨.Name x px, a, [], 0⟩] scope pos) σ H Q := by
  refine e_of (pe_lc (own := [(x, i)]) (g := gName i) (tt := tYes) (te := wBk X Vn G' elt scope) hc I.nd (pi_list pe) (B.ok I) (fun s H C cl fp => B.pg I s H C cl fp) (fun _ _ _ _ _ => pts_nil) (fun s H C cl fp => pe_bk (B.inB I s H C cl fp)) hs2) (e_mono q fun v H1 q1 => ?_)
  obtain ⟨ad, xs, rfl, hl, q2⟩ := q1
  exact ⟨ad, rfl, ⟨xs, hl⟩, fun D hD => lcL_of (q2 D hD)⟩
theorem s_lcR {nx : L2.St → Hp → Prop} {rt : VK} {bk ct : L2.St → Hp → Prop} {i j g : Nat} {x y : Str} {px py p cp spos : Pos} (B : BkOk X.N Vn G' i x sc scope) (hm : X.mg "range" = none)
    (q : wE X a σ H fun v H1 => ∃ n : Nat, v = .int n ∧ n < 2 ^ 62 ∧ ∀ D, H1 D = none → LcR X Vn G' elt scope i n D σ H1 fun H2 => nx (σ.set j (some (.ref D))) H2)
    (I : In X N G sc := by assumption) (hc : X.calm = true := by rfl) (hA : At N j y := by repeat (first | with_reducible apply At.z | with_reducible apply At.s)) (hG : At G g ("range" : Str) := by repeat (first | with_reducible apply At.z | with_reducible apply At.s))
    (hk : X.env.scope.kind = .function := by rfl) (hy : X.env.scope.names.lookup y = some .local := by rfl) (hl : (py.line == pos.line) = true := by rfl) (ha : (scope.names.any fun (n, k) => n == y && (k == .local || k == .cell)) = false := by decide +kernel)
    (hs : starEach [a] X.env = [(false, eval a X.env)] := by rfl) (hs2 : ∀ z, foldedSetIterable (.Call (.Name "range" p) [a] [] cp) X.env z = pure z := by intro _; rfl) (hs1 : starEach (a :: []) X.env = (false, eval a X.env) :: starEach [] X.env := by rfl) :
    wS X (.Assign [.Name y py] (.ListComp elt [⟨.Name x px, .Call (.Name "range" p) [a] [] cp, [], 0⟩] scope pos) spos) ⟨nx, rt, bk, ct⟩ σ H := by
  refine s_of (ps_setLc (own := [(x, i)]) (g := gName i) (tt := tYes) (te := wBk X Vn G' elt scope) hc I.nd (I.hi hA) hy (sw_true hk hy hl ha) (pi_range1 (I.g hG) hm (pa_cons pe pa_nil hs1) hs) (B.ok I) (fun s H C cl fp => B.pg I s H C cl fp) (fun _ _ _ _ _ => pts_nil) (fun s H C cl fp => pe_bk (B.inB I s H C cl fp)) hs2) (e_mono q fun v H1 q1 => ?_)
  obtain ⟨n, rfl, hn, q2⟩ := q1
  refine ⟨(n : Int), rfl, by omega, by omega, ?_⟩
  rw [Int.toNat_natCast]
  exact fun D hD => lcR_of (q2 D hD)
end
/-! ### ground terms: they make new objects and change none -/
abbrev Rl := Hp → L2.V → Prop
class Lasts (Γ : Hp → Prop) : Prop where
  up : ∀ H H', Same H H' → Γ H → Γ H'
class LastR (R : Rl) : Prop where
  up : ∀ H H' v, Same H H' → R H v → R H' v
def All2 : List Rl → Hp → List L2.V → Prop
  | [], _, vs => vs = []
  | R :: Rs, H, vs => ∃ v us, vs = v :: us ∧ R H v ∧ All2 Rs H us
@[irreducible] def Ev (X : Cx) (e : Expr) (σ : L2.St) (H : Hp) (R : Rl) : Prop := ∀ Q : VK, (∀ v H', Same H H' → R H' v → Q v H') → wE X e σ H Q
@[irreducible] def EvA (X : Cx) (es : List Expr) (σ : L2.St) (H : Hp) (Rs : List Rl) : Prop := ∀ Q : List L2.V → Hp → Prop, (∀ vs H', Same H H' → All2 Rs H' vs → Q vs H') → wA X es σ H Q
section
variable {X : Cx} {e a b c : Expr} {es : List Expr} {σ : L2.St} {H : Hp} {Q : VK} {pos p0 : Pos} {N G : List Str} {sc : Scope} {R R1 R2 : Rl} {Rs : List Rl}
end
section
variable {X : Cx} {H : Hp} {Q : VK} {i j : Int}
end
end Wk
namespace Wk
open PySem PySem.Spec
end Wk
namespace Wk
open PySem PySem.Spec PyProof.Rows L2
section
variable {X : Cx} {c e : Expr} {body : List Stmt} {σ : L2.St} {H : Hp} {pos : Pos} {N G : List Str} {sc : Scope} {QT QT' : Bool → Hp → Prop}
theorem t_mono (q : wT X c σ H QT) (h : ∀ b H1, QT b H1 → QT' b H1) : wT X c σ H QT' := by
  unfold wT at q ⊢
  exact fun pins s I => wpAny_mono (q pins s I) (fun _ _ ⟨H1, I1, z⟩ => ⟨H1, I1, h _ _ z⟩) fun _ _ z => z
end
end Wk
namespace Wk
open PySem PySem.Spec PyProof.Rows L2
section
variable {X : Cx} {o e : Expr} {σ : L2.St} {H : Hp} {Q : VK} {pos apos : Pos}
/-- o.append(e) -/
theorem e_app (q : wE X o σ H fun x H1 => ∃ l xs0, x = .ref l ∧ SqL X.K H1 l xs0 ∧ wE X e σ H1 fun y H2 => ∃ xs, H2 l = some (.lst xs) ∧ xs.length < sizeLine ∧ Q .non (upd H2 l (.lst (xs ++ [y]))))
    (hbase : attributeBase o "append" X.env (eval o X.env) = eval o X.env := by rfl)
    (hfew : ((backTo pos (starEach (e :: []) X.env)).all (fun x => !x.1) && (backToKw pos (keywordEach [] X.env)).all (fun x => x.1.isSome)
      && decide ((e :: []).length + ([] : List Keyword).length + (if ([] : List Keyword).isEmpty then 0 else 1) < 30)) = true := by rfl)
    (hline : (apos.endLine == pos.line) = true := by rfl) (hs : starEach (e :: []) X.env = (false, eval e X.env) :: starEach [] X.env := by rfl) (hplain : (backTo pos (starEach [] X.env)).any (·.1) = false := by rfl) :
    wE X (.Call (.Attribute o "append" apos) [e] [] pos) σ H Q := by
  refine e_of (pe_bm PySem.F.plainAttrs_list PySem.F.slot_list_append PySem.F.type_list_append mt_append pe (pa_cons pe pa_nil hs) hbase hfew hline hs hplain) (e_mono q fun x H1 z => ?_)
  obtain ⟨l, xs0, rfl, hl, z⟩ := z
  refine ⟨.inl ⟨rfl, _, hl⟩, e_mono z fun y H2 z2 => ?_⟩
  obtain ⟨xs, h1, h2, h3⟩ := z2
  exact ⟨l, xs, y, rfl, rfl, h1, h2, h3⟩
end
end Wk
namespace Wk
open PySem PySem.Spec PyProof.Rows L2
end Wk
namespace Wk
open PySem PySem.Spec PyProof.Rows L2
section
variable {X : Cx} {e a b c : Expr} {es : List Expr} {σ : L2.St} {H H0 : Hp} {Q : VK} {pos p0 : Pos} {N G : List Str} {sc : Scope} {R R1 R2 : Rl} {Rs : List Rl}
end
end Wk

/-! My own layer, more: defs with loops where an error is handled, a keyword-only parameter with a default, insert. -/
namespace Wk
open PySem PySem.Spec PyProof.Rows L2
section
variable {P : Program} {w : World} {K : PySem.W.Frag} {mg : Str → Option Value} {base : Heap}
end
section
variable {X : Cx} {N G : List Str} {sc : Scope} {a e v o : Expr} {es : List Expr} {σ : L2.St} {H : Hp} {Q : VK} {pos p0 kpos apos : Pos}
end
end Wk
namespace Wk
open PySem PySem.Spec PyProof.Rows L2
section
variable {X : Cx} {N G : List Str} {sc : Scope} {a b e v o i : Expr} {es : List Expr} {σ : L2.St} {H : Hp} {Q : VK} {QT : Bool → Hp → Prop} {pos p0 p2 apos : Pos}
theorem t_tru (q : wE X a σ H fun x H' => ∃ k, TruV X.K x H' k ∧ QT k H') (he : ∀ whole, isTrue a X.env whole = (do let v ← whole; standAt a.pos; holding [v] (truthy v)) := by intro _; rfl) : wT X a σ H QT := t_of (pt_truth pe he) q
theorem tru_l {K : PySem.W.Frag} {l : Addr} {xs : List L2.V} (h : H l = some (.lst xs)) : TruV K (.ref l) H (!xs.isEmpty) := .inl ⟨xs, SqL.of h, rfl⟩
/-- o.pop() -/
theorem e_pop (q : wE X o σ H fun x H1 => ∃ l xs y, x = .ref l ∧ H1 l = some (.lst (xs ++ [y])) ∧ Q y (upd H1 l (.lst xs)))
    (hbase : attributeBase o "pop" X.env (eval o X.env) = eval o X.env := by rfl) (hline : (apos.endLine == pos.line) = true := by rfl) : wE X (.Call (.Attribute o "pop" apos) [] [] pos) σ H Q := by
  refine e_of (pe_bm0 PySem.F.plainAttrs_list PySem.F.slot_list_pop PySem.F.type_list_pop mt_pop pe hbase hline) (e_mono q fun x H1 z => ?_)
  obtain ⟨l, xs, y, rfl, h1, h2⟩ := z
  refine ⟨.inl ⟨rfl, _, SqL.of h1⟩, l, _, y, rfl, rfl, h1, by simp, ?_⟩
  rw [List.dropLast_concat]
  exact h2
theorem e_slL0 {r : L2.V → Option Int → Option Int → Hp → VK → Prop} (hr : SlR X r) (q : wE X e σ H fun x H1 => wE X a σ H1 fun y H2 => ∃ j, y = .int j ∧ r x (some j) none H2 Q) : wE X (.Subscript e (.Slice (some a) none none p2) pos) σ H Q :=
  e_of (pe_slice hr pe (po_some pe) po_none) (e_mono q fun x H1 z => e_mono z fun y H2 ⟨j, e, z2⟩ => ⟨j, e, z2⟩)
theorem e_slL1 {r : L2.V → Option Int → Option Int → Hp → VK → Prop} (hr : SlR X r) (q : wE X e σ H fun x H1 => wE X b σ H1 fun y H2 => ∃ j, y = .int j ∧ r x none (some j) H2 Q) : wE X (.Subscript e (.Slice none (some b) none p2) pos) σ H Q :=
  e_of (pe_slice hr pe po_none (po_some pe)) (e_mono q fun x H1 z => e_mono z fun y H2 ⟨j, e, z2⟩ => ⟨j, e, z2⟩)
theorem s_dput {nx : L2.St → Hp → Prop} {rt : VK} {bk ct : L2.St → Hp → Prop} {pos' : Pos} (hu : X.A.units + 1 < cLine) (q : wE X v σ H fun v H1 => wE X o σ H1 fun x H2 => wE X i σ H2 fun y H3 => ∃ a H4, x = .ref a ∧ DPut H3 a y v H4 ∧ nx σ H4)
    (hs : swapsWith v (some (.Subscript o i pos')) pos.line X.env = pure false := by rfl) : wS X (.Assign [.Subscript o i pos'] v pos) ⟨nx, rt, bk, ct⟩ σ H := s_of (ps_dput hu pe pe pe hs) q
theorem c_listL {p : Addr} {xs : List L2.V} (h : H p = some (.lst xs)) (q : ∀ l H2, Same H H2 → H l = none → H2 l = some (.lst xs) → Q (.ref l) H2) : wC X (.type "list") [.ref p] H Q :=
  c_of call_list_of ⟨p, xs, rfl, .inl (SqL.of h), fun l np => q l _ (fun c u eo => by rw [upd_ne (ne_of_none eo np)]; exact eo) np upd_same⟩
end
end Wk
namespace Wk
open PySem PySem.Spec PyProof.Rows L2
section
variable {X : Cx} {c e : Expr} {body : List Stmt} {σ : L2.St} {H : Hp} {pos : Pos} {N G : List Str} {sc : Scope}
theorem s_whileN {nx : L2.St → Hp → Prop} {rt : VK} {bk ct : L2.St → Hp → Prop} (Pv : Nat → L2.St → Hp → Prop) (n0 : Nat) (h0 : Pv n0 σ H)
    (hs : ∀ n σ H, Pv n σ H → wT X c σ H fun b H1 => if b = true then wL X body ⟨fun σ' H' => ∃ m, m < n ∧ Pv m σ' H', rt, nx, fun σ' H' => ∃ m, m < n ∧ Pv m σ' H'⟩ σ H1 else nx σ H1)
    (I : In X N G sc := by assumption) : wS X (.While c body [] pos) ⟨nx, rt, bk, ct⟩ σ H := by
  refine s_of (ps_while I.never pt pl) ⟨Pv, ⟨n0, h0⟩, fun n σ H p => ?_⟩
  refine t_mono (hs n σ H p) fun b H1 q => ?_
  cases b with
  | true => exact ⟨fun σ' H' => ∃ m, m < n ∧ Pv m σ' H', fun σ' H' z => z, q⟩
  | false => exact q
end
end Wk
namespace Wk
open PySem PySem.Spec PyProof.Rows L2
/-- a block with two own names -/
structure BkOk2 (N : List Str) (V : List (Nat × Str)) (G : List Str) (i j : Nat) (x y : Str) (sc scope : Scope) : Prop where
  lo : ∀ p ∈ V, N[p.1]? = some p.2 ∧ Vis (relS scope sc) p.2 ∧ (p.2 == ("__debug__" : Str)) = false ∧ (p.2 == ("__classdict__" : Str)) = false
  gl : ∀ x ∈ G, (relS scope sc).names.lookup x = some .globalImplicit ∧ (x == ("__debug__" : Str)) = false ∧ x ≠ "__name__"
  own : N[i]? = some x ∧ (relS scope sc).names.lookup x = some .local
  own2 : N[j]? = some y ∧ (relS scope sc).names.lookup y = some .local
  ne : i ≠ j
  blk : blkC N sc scope [(x, i), (y, j)] = true
section
variable {X : Cx} {e a b c elt : Expr} {es rest : List Expr} {σ : L2.St} {H : Hp} {Q : VK} {pos p0 : Pos} {N G G' : List Str} {Vn : List (Nat × Str)} {sc scope : Scope}
theorem BkOk2.inB {i j : Nat} {x y : Str} (B : BkOk2 X.N Vn G' i j x y sc scope) (I : In X N G sc) (s : Shared) (H : Hp) (C : Addr) (cl : List (Str × Addr)) (fp : List Addr) : InB (Bk X s H scope C cl fp) Vn G' := by
  have e : (compEnvC scope cl C X.env).scope = relS scope sc := rel_eq I.sc C cl
  refine ⟨I.nd, fun p hp => ?_, fun y hy => ?_⟩
  · obtain ⟨h1, h2, h3, h4⟩ := B.lo p hp
    exact ⟨h1, by show Vis (compEnvC scope cl C X.env).scope p.2; rw [e]; exact h2, h3, h4⟩
  · obtain ⟨h1, h2, h3⟩ := B.gl y hy
    exact ⟨by show (compEnvC scope cl C X.env).scope.names.lookup y = _; rw [e]; exact h1, h2, h3⟩
def gT2 (K : PySem.W.Frag) (i j : Nat) : TG := fun v σ H Q => ∃ a u w, v = .ref a ∧ SqT K H a [u, w] ∧ Q ((σ.set i (some u)).set j (some w)) H
theorem BkOk2.pg {i j : Nat} {x y : Str} {px py pt : Pos} {k : Nat} (B : BkOk2 X.N Vn G' i j x y sc scope) (hc : X.calm = true) (I : In X N G sc) (s : Shared) (H : Hp) (C : Addr) (cl : List (Str × Addr)) (fp : List Addr) : PG (Bk X s H scope C cl fp) (.Tuple [.Name x px, .Name y py] k pt) (gT2 X.K i j) := by
  have e : (compEnvC scope cl C X.env).scope = relS scope sc := rel_eq I.sc C cl
  have l : (Bk X s H scope C cl fp).env.scope.names.lookup x = some .local := by
    show (compEnvC scope cl C X.env).scope.names.lookup x = _
    rw [e]
    exact B.own.2
  have l2 : (Bk X s H scope C cl fp).env.scope.names.lookup y = some .local := by
    show (compEnvC scope cl C X.env).scope.names.lookup y = _
    rw [e]
    exact B.own2.2
  refine ⟨fun pins s σ H v u Q I0 r h => ?_⟩
  obtain ⟨ad, u1, w1, rfl, hq, q⟩ := h
  exact (pg_tup (X := Bk X _ _ scope C cl fp) hc (pgs_cons (pg_name I.nd B.own.1 (.inl l) (.inr l)) (pgs_cons (pg_name I.nd B.own2.1 (.inl l2) (.inr l2)) pgs_nil))).run pins s σ H _ u Q I0 r ⟨ad, [u1, w1], rfl, hq, rfl, u1, [w1], rfl, w1, [], rfl, rfl, q⟩
theorem BkOk2.ok {i j : Nat} {x y : Str} (B : BkOk2 X.N Vn G' i j x y sc scope) (I : In X N G sc) : BlkOk X.N X.env.scope scope [(x, i), (y, j)] := by
  rw [I.sc]
  exact blkOk_by B.blk
theorem wipe2 (σ : L2.St) (i j : Nat) : wipe σ [i, j] = (σ.set j none).set i none := rfl
theorem wipe_set2 (σ : L2.St) {i j : Nat} (h : i ≠ j) (u w : L2.V) : wipe (((wipe σ [i, j]).set i (some u)).set j (some w)) [i, j] = wipe σ [i, j] := by
  rw [wipe2, wipe2]
  apply List.ext_getElem?
  intro k
  by_cases h1 : i = k
  · subst h1
    simp [List.getElem?_set, h.symm]
  · by_cases h2 : j = k
    · subst h2
      simp [List.getElem?_set, h1]
    · simp [List.getElem?_set, h1, h2]
end
end Wk
namespace Wk
open PySem PySem.Spec PyProof.Rows L2
section
variable {P : Program} {w : World} {K : PySem.W.Frag} {mg : Str → Option Value} {base : Heap}
end
end Wk

set_option maxHeartbeats 4000000
/-! My own layer: sorted(set(xs)) of a list of texts. -/
namespace Wk
open PySem PySem.Spec PyProof.Rows L2
section
variable {P : Program} {w : World} {h h' : Heap} {a : Addr} {L : List Str}
end
section
variable {P : Program} {w : World} {A : Around} {E : Value → Shared → Prop} {s : Shared} {a : Addr} {L : List Str}
end
section
variable {P : Program} {w : World} {A : Around} {E : Value → Shared → Prop} {s : Shared}
end
end Wk

set_option maxHeartbeats 4000000
/-! My own layer: sorted of a set of texts, tuple(reversed(t)) of a tuple. -/
namespace Wk
open PySem PySem.Spec PyProof.Rows L2
section
variable {P : Program} {w : World} {A : Around} {E : Value → Shared → Prop} {s : Shared} {a : Addr} {L : List Str}
end
section
variable {X : Cx}
end
end Wk

set_option maxHeartbeats 4000000
/-! My own layer: tuple(reversed(t)) of a tuple. -/
namespace Wk
open PySem PySem.Spec PyProof.Rows L2 RT
section
variable {prog : Program} {w : World} {A : Around} {E : Value → Shared → Prop} {s : Shared}
end
section
variable {X : Cx}
end
end Wk

set_option maxHeartbeats 4000000
/-! My own layer: comprehensions with a test, over a list and over a dict; dict comprehensions; dicts; loops over tuples of three. -/
namespace Wk
open PySem PySem.Spec PyProof.Rows L2
section
variable {X : Cx} {e a b c elt kx vx : Expr} {es rest : List Expr} {σ : L2.St} {H : Hp} {Q : VK} {pos p0 : Pos} {N G G' : List Str} {Vn : List (Nat × Str)} {sc scope : Scope}
@[irreducible] def wBkT (X : Cx) (Vn : List (Nat × Str)) (G' : List Str) (c : Expr) (scope : Scope) : TT := fun σ H Q => ∀ s0 H0 C cl fp, InB (Bk X s0 H0 scope C cl fp) Vn G' → wT (Bk X s0 H0 scope C cl fp) c σ H Q
theorem pts_bk {s0 : Shared} {H0 : Hp} {C : Addr} {cl : List (Str × Addr)} {fp : List Addr} (I : InB (Bk X s0 H0 scope C cl fp) Vn G') : PTs (Bk X s0 H0 scope C cl fp) [c] (wBkT X Vn G' c scope) :=
  pts_one ⟨fun pins s σ H Q Iv h => by unfold wBkT at h; exact pt.run pins s σ H Q Iv (h s0 H0 C cl fp I)⟩
/-- what the turns ask where there is a test -/
def Turn1 (X : Cx) (Vn : List (Nat × Str)) (G' : List Str) (elt c : Expr) (scope : Scope) (i : Nat) (D : Addr) (σ : L2.St) (x : L2.V) (H2 : Hp) (Nx : Hp → Prop) : Prop :=
  ∀ s0 H0 C cl fp, InB (Bk X s0 H0 scope C cl fp) Vn G' → wT (Bk X s0 H0 scope C cl fp) c ((wipe σ [i]).set i (some x)) H2 fun b H3 =>
    if b = true then ∀ s0 H0 C cl fp, InB (Bk X s0 H0 scope C cl fp) Vn G' → wE (Bk X s0 H0 scope C cl fp) elt ((wipe σ [i]).set i (some x)) H3 fun y H4 => ∃ acc, H4 D = some (.lst acc) ∧ acc.length < sizeLine ∧ Nx (upd H4 D (.lst (acc ++ [y]))) else Nx H3
theorem turn1_of {i : Nat} {D : Addr} {x : L2.V} {H2 : Hp} {Nx : Hp → Prop} (q : Turn1 X Vn G' elt c scope i D σ x H2 Nx) : gName i x (wipe σ [i]) H2 fun σ2 H3 => wipe σ2 [i] = wipe σ [i] ∧ wBkT X Vn G' c scope σ2 H3 fun b H4 =>
    if b = true then wBk X Vn G' elt scope σ2 H4 fun y H5 => ∃ acc, H5 D = some (.lst acc) ∧ acc.length < sizeLine ∧ Nx (upd H5 D (.lst (acc ++ [y]))) else Nx H4 := by
  refine ⟨wipe_set σ i _, ?_⟩
  unfold wBkT
  intro s0 H0 C cl fp I
  refine t_mono (q s0 H0 C cl fp I) fun b H4 z => ?_
  cases b with
  | true =>
    unfold wBk
    exact iteT z
  | false => exact iteF z
def LcLf (X : Cx) (Vn : List (Nat × Str)) (G' : List Str) (elt c : Expr) (scope : Scope) (i : Nat) (ad : Addr) (xs : List L2.V) (D : Addr) (σ : L2.St) (H1 : Hp) (Qd : Hp → Prop) : Prop := ∃ Pv : Nat → Hp → Prop, Pv 0 (upd H1 D (.lst [])) ∧ (∀ k H2, k ≤ xs.length → Pv k H2 → SqL X.K H2 ad xs) ∧
  (∀ k x H2, xs[k]? = some x → Pv k H2 → Turn1 X Vn G' elt c scope i D σ x H2 (Pv (k + 1))) ∧ ∀ H2, Pv xs.length H2 → Qd H2
def LcDf (X : Cx) (Vn : List (Nat × Str)) (G' : List Str) (elt c : Expr) (scope : Scope) (i : Nat) (d : Addr) (o : Obj) (kvs : List (Key × L2.V)) (D : Addr) (σ : L2.St) (H1 : Hp) (Qd : Hp → Prop) : Prop := ∃ Pv : Nat → Hp → Prop, Pv 0 (upd H1 D (.lst [])) ∧ (∀ k H2, k ≤ kvs.length → Pv k H2 → H2 d = some (.frz o (.dK kvs))) ∧
  (∀ k y v H2, kvs[k]? = some (y, v) → Pv k H2 → Turn1 X Vn G' elt c scope i D σ (kV y) H2 (Pv (k + 1))) ∧ ∀ H2, Pv kvs.length H2 → Qd H2
theorem lcLf_of {i : Nat} {ad : Addr} {xs : List L2.V} {D : Addr} {H1 : Hp} {Qd : Hp → Prop} (q : LcLf X Vn G' elt c scope i ad xs D σ H1 Qd) : ∃ W : Nat → Nat → Hp → Prop, (∃ m, W 0 m (upd H1 D (.lst []))) ∧ ∀ k m H, W k m H →
    ((Itl X.K ad).stop k H ∧ Qd H) ∨ ((Itl X.K ad).go k H ∧ ∃ Nx : Hp → Prop, (∀ H', Nx H' → ∃ m', m' < m ∧ W (k + 1) m' H') ∧ ∀ x H', (Itl X.K ad).yld k H x H' → gName i x (wipe σ [i]) H' fun σ2 H2 => wipe σ2 [i] = wipe σ [i] ∧ wBkT X Vn G' c scope σ2 H2 fun b H3 =>
      if b = true then wBk X Vn G' elt scope σ2 H3 fun y H4 => ∃ acc, H4 D = some (.lst acc) ∧ acc.length < sizeLine ∧ Nx (upd H4 D (.lst (acc ++ [y]))) else Nx H3) := by
  obtain ⟨Pv, h0, hl, hs, hd⟩ := q
  exact lc_list Pv h0 hl (fun k x H hk p => turn1_of (hs k x H hk p)) hd
theorem lcDf_of {i : Nat} {d : Addr} {o : Obj} {kvs : List (Key × L2.V)} {D : Addr} {H1 : Hp} {Qd : Hp → Prop} (q : LcDf X Vn G' elt c scope i d o kvs D σ H1 Qd) : ∃ W : Nat → Nat → Hp → Prop, (∃ m, W 0 m (upd H1 D (.lst []))) ∧ ∀ k m H, W k m H →
    ((Itk d o kvs).stop k H ∧ Qd H) ∨ ((Itk d o kvs).go k H ∧ ∃ Nx : Hp → Prop, (∀ H', Nx H' → ∃ m', m' < m ∧ W (k + 1) m' H') ∧ ∀ x H', (Itk d o kvs).yld k H x H' → gName i x (wipe σ [i]) H' fun σ2 H2 => wipe σ2 [i] = wipe σ [i] ∧ wBkT X Vn G' c scope σ2 H2 fun b H3 =>
      if b = true then wBk X Vn G' elt scope σ2 H3 fun y H4 => ∃ acc, H4 D = some (.lst acc) ∧ acc.length < sizeLine ∧ Nx (upd H4 D (.lst (acc ++ [y]))) else Nx H3) := by
  obtain ⟨Pv, h0, hl, hs, hd⟩ := q
  refine ⟨fun k m H => m = kvs.length - k ∧ k ≤ kvs.length ∧ Pv k H, ⟨kvs.length, rfl, Nat.zero_le _, h0⟩, ?_⟩
  rintro k m H ⟨rfl, hk, p⟩
  have fz := hl k H hk p
  by_cases lt : k < kvs.length
  · refine .inr ⟨⟨fz, lt⟩, Pv (k + 1), fun H' p' => ⟨kvs.length - (k + 1), by omega, rfl, lt, p'⟩, fun x H' y => ?_⟩
    obtain ⟨rfl, ky, v, hkv, rfl⟩ := y
    exact turn1_of (hs k ky v _ hkv p)
  · have ek : k = kvs.length := by omega
    subst ek
    exact .inl ⟨⟨fz, Nat.le_refl _⟩, hd H p⟩
theorem e_lcLf {i : Nat} {x : Str} {px : Pos} (B : BkOk X.N Vn G' i x sc scope)
    (q : wE X a σ H fun v H1 => ∃ ad xs, v = .ref ad ∧ SqL X.K H1 ad xs ∧ ∀ D, H1 D = none → LcLf X Vn G' elt c scope i ad xs D σ H1 fun H2 => Q (.ref D) H2)
    (I : In X N G sc := by assumption) (hc : X.calm = true := by rfl) (hs2 : ∀ z, foldedSetIterable a X.env z = pure z := by intro _; rfl) :
    wE X (.ListComp elt [⟨.Name x px, a, [c], 0⟩] scope pos) σ H Q := by
  refine e_of (pe_lc (own := [(x, i)]) (g := gName i) (tt := wBkT X Vn G' c scope) (te := wBk X Vn G' elt scope) hc I.nd (pi_list pe) (B.ok I) (fun s H C cl fp => B.pg I s H C cl fp) (fun s H C cl fp => pts_bk (B.inB I s H C cl fp)) (fun s H C cl fp => pe_bk (B.inB I s H C cl fp)) hs2) (e_mono q fun v H1 q1 => ?_)
  obtain ⟨ad, xs, rfl, hl, q2⟩ := q1
  exact ⟨ad, rfl, ⟨xs, hl⟩, fun D hD => lcLf_of (q2 D hD)⟩
theorem s_lcLf {nx : L2.St → Hp → Prop} {rt : VK} {bk ct : L2.St → Hp → Prop} {i j : Nat} {x y : Str} {px py spos : Pos} (B : BkOk X.N Vn G' i x sc scope)
    (q : wE X a σ H fun v H1 => ∃ ad xs, v = .ref ad ∧ SqL X.K H1 ad xs ∧ ∀ D, H1 D = none → LcLf X Vn G' elt c scope i ad xs D σ H1 fun H2 => nx (σ.set j (some (.ref D))) H2)
    (I : In X N G sc := by assumption) (hc : X.calm = true := by rfl) (hA : At N j y := by repeat (first | with_reducible apply At.z | with_reducible apply At.s))
    (hk : X.env.scope.kind = .function := by rfl) (hy : X.env.scope.names.lookup y = some .local := by rfl) (hl : (py.line == pos.line) = true := by rfl) (ha : (scope.names.any fun (n, k) => n == y && (k == .local || k == .cell)) = false := by decide +kernel) (hs2 : ∀ z, foldedSetIterable a X.env z = pure z := by intro _; rfl) :
    wS X (.Assign [.Name y py] (.ListComp elt [⟨.Name x px, a, [c], 0⟩] scope pos) spos) ⟨nx, rt, bk, ct⟩ σ H := by
  refine s_of (ps_setLc (own := [(x, i)]) (g := gName i) (tt := wBkT X Vn G' c scope) (te := wBk X Vn G' elt scope) hc I.nd (I.hi hA) hy (sw_true hk hy hl ha) (pi_list pe) (B.ok I) (fun s H C cl fp => B.pg I s H C cl fp) (fun s H C cl fp => pts_bk (B.inB I s H C cl fp)) (fun s H C cl fp => pe_bk (B.inB I s H C cl fp)) hs2) (e_mono q fun v H1 q1 => ?_)
  obtain ⟨ad, xs, rfl, hl, q2⟩ := q1
  exact ⟨ad, rfl, ⟨xs, hl⟩, fun D hD => lcLf_of (q2 D hD)⟩
end
end Wk
namespace Wk
open PySem PySem.Spec PyProof.Rows L2
section
variable {X : Cx} {e a b c elt kx vx o : Expr} {es rest : List Expr} {σ : L2.St} {H : Hp} {Q : VK} {pos p0 apos : Pos} {N G G' : List Str} {Vn : List (Nat × Str)} {sc scope : Scope}
/-- for x, y, z in t, a tuple of triples -/
theorem s_forT3 {nx : L2.St → Hp → Prop} {rt : VK} {bk ct : L2.St → Hp → Prop} {x y z : Str} {i j k : Nat} {body : List Stmt} {px py pz pt : Pos} {kk : Nat}
    (q : wE X a σ H fun v H1 => ∃ ad xs, v = .ref ad ∧ SqT X.K H1 ad xs ∧ ∃ Pv : Nat → L2.St → Hp → Prop, Pv 0 σ H1 ∧ (∀ n σ H, n ≤ xs.length → Pv n σ H → SqT X.K H ad xs) ∧
      (∀ n u σ H, xs[n]? = some u → Pv n σ H → ∃ t u1 u2 u3, u = .ref t ∧ SqT X.K H t [u1, u2, u3] ∧ wL X body ⟨Pv (n + 1), rt, nx, Pv (n + 1)⟩ (((σ.set i (some u1)).set j (some u2)).set k (some u3)) H) ∧ ∀ σ H, Pv xs.length σ H → nx σ H)
    (I : In X N G sc := by assumption) (hc : X.calm = true := by rfl) (hA : At N i x := by repeat (first | with_reducible apply At.z | with_reducible apply At.s)) (hB : At N j y := by repeat (first | with_reducible apply At.z | with_reducible apply At.s)) (hC : At N k z := by repeat (first | with_reducible apply At.z | with_reducible apply At.s))
    (hs2 : ∀ z, foldedSetIterable a X.env z = pure z := by intro _; rfl) :
    wS X (.For (.Tuple [.Name x px, .Name y py, .Name z pz] kk pt) a body [] pos) ⟨nx, rt, bk, ct⟩ σ H := by
  refine s_of (ps_for I.never hc (pi_tup pe) (pg_tup hc (pgs_cons (pg_name I.nd (I.hi hA) (I.loc hA) I.f) (pgs_cons (pg_name I.nd (I.hi hB) (I.loc hB) I.f) (pgs_cons (pg_name I.nd (I.hi hC) (I.loc hC) I.f) pgs_nil)))) pl hs2) (e_mono q fun v H1 q1 => ?_)
  obtain ⟨ad, xs, rfl, hl, Pv, h0, hk, hb, hd⟩ := q1
  refine ⟨ad, rfl, ⟨xs, hl⟩, for_tup Pv h0 hk (fun n u σ H hu p => ?_) hd⟩
  obtain ⟨t, u1, u2, u3, rfl, hq, z⟩ := hb n u σ H hu p
  exact ⟨t, [u1, u2, u3], rfl, hq, rfl, u1, [u2, u3], rfl, u2, [u3], rfl, u3, [], rfl, rfl, z⟩
end
end Wk

set_option maxHeartbeats 4000000
/-! My own layer: dicts, membership, least and greatest of a list, and the like. -/
namespace Wk
open PySem PySem.Spec PyProof.Rows L2
section
variable {X : Cx} {e a b c f o i : Expr} {es rest : List Expr} {σ : L2.St} {H : Hp} {Q : VK} {pos p0 apos : Pos} {N G G' : List Str} {Vn : List (Nat × Str)} {sc scope : Scope} {n : Nat}
theorem e_dg (hr : Room n X.A) (q : wE X o σ H fun x H1 => wE X i σ H1 fun y H2 => ∃ a v, x = .ref a ∧ DGet H2 a y (some v) ∧ Q v H2) (hs : NoSl i := by intro _ _; rfl) : wE X (.Subscript o i pos) σ H Q := e_of (pe_dget (hu_of hr) pe pe hs) q
theorem dg_k {ad : Addr} {kvs : List (Key × L2.V)} {z : Str} {v : L2.V} (h : H ad = some (.dK kvs)) (e : valV kvs (Sum.inr z) = some v) : DGet H ad (.str z) (some v) := by
  have g := DGet.k (k := (Sum.inr z : Key)) h
  rw [e] at g
  exact g
theorem e_dget2 (hr : Room n X.A) (q : wE X o σ H fun x H1 => ∃ a, x = .ref a ∧ IsD H1 a ∧ wE X e σ H1 fun y H2 => wE X f σ H2 fun z H3 => ∃ o, DGet H3 a y o ∧ Q (o.getD z) H3)
    (m : M2 X o "get" apos e f pos := by exact ⟨rfl, rfl, rfl, rfl⟩) : wE X (.Call (.Attribute o "get" apos) [e, f] [] pos) σ H Q := e_of (pe_dget2 (hu_of hr) pe pe pe m) q
theorem e_dnew (q : ∀ p, H p = none → Q (.ref p) (upd H p (.dK []))) : wE X (.Dict [] [] pos) σ H Q := e_of pe_dnewK q
theorem o_in {x : L2.V} {p : Addr} {xs : List L2.V} (h : SqL X.K H p xs) (hx : flatV x = true) (hs : xs.all flatV = true) (q : Q (.bl (inV x xs)) H) : wK X .In x (.ref p) H Q := k_of op_in_seq ⟨p, xs, rfl, .inl h, hx, hs, q⟩
theorem o_nin {x : L2.V} {p : Addr} {xs : List L2.V} (h : SqL X.K H p xs) (hx : flatV x = true) (hs : xs.all flatV = true) (q : Q (.bl (!inV x xs)) H) : wK X .NotIn x (.ref p) H Q := k_of op_notIn_seq ⟨p, xs, rfl, .inl h, hx, hs, q⟩
theorem o_inS {c : Nat} {z : Str} (q : Q (.bl (decide (c ∈ z.cps.toList))) H) : wK X .In (.str ⟨#[c]⟩) (.str z) H Q := k_of op_in_sign ⟨c, z, rfl, rfl, q⟩
theorem c_tupL {p : Addr} {xs : List L2.V} (h : SqL X.K H p xs) (q : ∀ l H2, Same H H2 → H l = none → H2 l = some (.tup xs) → Q (.ref l) H2) : wC X (.type "tuple") [.ref p] H Q :=
  c_of call_tuple_of ⟨p, xs, rfl, .inl ⟨h, fun l np => q l _ (fun b o eo => by rw [upd_ne (ne_of_none eo np)]; exact eo) np upd_same⟩⟩
theorem c_strI {k : Int} (h : k.natAbs.log2 < 1920) (q : Q (.str (toString k)) H) : wC X (.type "str") [.int k] H Q := c_of call_str_int ⟨k, rfl, h, q⟩
theorem c_intB {k : Bool} (q : Q (.int (if k then 1 else 0)) H) : wC X (.type "int") [.bl k] H Q := c_of call_int1 (.inr ⟨k, rfl, q⟩)
theorem b_callTy {g : Nat} {x : Str} {T : String} (hm : X.mg x = none) (hv : bootBuiltins x = some (.type T)) (q : wA X (e :: es) σ H fun vs H1 => wC X (.type T) vs H1 Q) (I : InB X Vn G := by assumption) (hG : At G g x := by repeat (first | with_reducible apply At.z | with_reducible apply At.s))
    (he : starEach (e :: es) X.env = (false, eval e X.env) :: starEach es X.env := by rfl) (hpl : (backTo pos (starEach es X.env)).any (·.1) = false := by rfl) : wE X (.Call (.Name x p0) (e :: es) [] pos) σ H Q := e_of (pe_callTy cr (I.g hG) hm hv pa (I.gn hG) (I.gd hG) he hpl) q
theorem o_neD {x y : L2.V} {d e : PyData} (hr : Room n X.A) (h1 : Dp X.K H x d) (h2 : Dp X.K H y e) (s1 : SeqAt.shaped d = true) (s2 : SeqAt.shaped e = true) (q : Q (.bl (!PyData.eqv d e)) H) : wK X .NotEq x y H Q := k_of (op_neD hr.units) ⟨d, e, h1, h2, s1, s2, q⟩
theorem ixr_d (hu : X.A.units + 1 < cLine) : IxR X (fun x y H Q => ∃ a v, x = .ref a ∧ DGet H a y (some v) ∧ Q v H) := by
  intro value slice pins s σ H x y v u Q I rx ry h hs
  obtain ⟨ad, z, rfl, g, q⟩ := h
  cases rx
  have hT := dict_typeIs I g
  unfold subscriptTail
  refine wpAny_bind ?_
  rw [getitemInPython_of_ne hT.not_modules]
  refine wpAny_bind (wpAny_specialOf hT PySem.F.slot_dict_getitem.lookup ?_)
  have fin : wpAny (model X.prog X.w) X.A (subscripted slice false (.ref ad) u) (fun r s3 => wpAny (model X.prog X.w) X.A (letTemporaryGo value (.ref ad) r >>= fun _ => pure r) (EP X pins σ Q) X.xe s3) X.xe s := by
    rw [hs]
    refine wpAny_operating (d_getItem hu I g ry fun w2 s2 I2 r2 => wpAny_bind (wpAny_letTemporaryGo (wpAny_pure ?_)))
    exact ⟨z, H, I2, r2, q⟩
  first
    | exact wpAny_pure (wpAny_bind fin)
    | exact wpAny_bind fin
    | exact wpAny_pure fin
theorem ix_d {x y : L2.V} (hr : Room n X.A) (q : ∃ a v, x = .ref a ∧ DGet H a y (some v) ∧ Q v H) : wIx X x y H Q := ix_of (ixr_d (hu_of hr)) q
end
end Wk

set_option maxHeartbeats 4000000
/-! My own layer: dicts of the module's top, comprehensions over a tuple with a test, slices of tuples, xs[::-1], extend, reversed, displayed dicts, copies and == of dicts, walks over a dict. -/
namespace Wk
open PySem PySem.Spec PyProof.Rows L2
section
variable {X : Cx} {e a b c elt : Expr} {es rest : List Expr} {σ : L2.St} {H : Hp} {Q : VK} {pos p0 : Pos} {N G G' : List Str} {Vn : List (Nat × Str)} {sc scope : Scope}
theorem o_inT {x : L2.V} {p : Addr} {xs : List L2.V} (h : SqT X.K H p xs) (hx : flatV x = true) (hs : xs.all flatV = true) (q : Q (.bl (inV x xs)) H) : wK X .In x (.ref p) H Q := k_of op_in_seq ⟨p, xs, rfl, .inr h, hx, hs, q⟩
theorem o_catA {p r : Addr} {xs ys : List L2.V} (h1 : H p = some (.tup xs)) (h2 : H r = some (.tup ys)) (hz : xs.length + ys.length ≤ 200000) (q : ∀ t H2, Same H H2 → H2 t = some (.tup (xs ++ ys)) → Q (.ref t) H2) : wB X .Add (.ref p) (.ref r) H Q := by
  refine b_of op_catA ⟨p, r, xs, ys, rfl, rfl, SqT.of h1, SqT.of h2, by show _ ≤ 2 ^ 24; omega, fun e => ?_, fun _ e => ?_, fun _ _ t ht => ?_⟩
  · subst e
    exact q r H (Same.refl H) h2
  · subst e
    refine q p H (Same.refl H) ?_
    rw [List.append_nil]
    exact h1
  · exact q t _ (fun c u eo => by rw [upd_ne (ne_of_none eo ht)]; exact eo) upd_same
theorem cut_hi {xs ys : List L2.V} : cutV (xs ++ ys) none (some (xs.length : Int)) = xs := by
  unfold cutV
  rw [HT.sIx_none, HT.sIx_nat, List.length_append, Nat.min_eq_left (by omega), List.drop_zero, Nat.sub_zero, List.take_left]
theorem cut_lo {xs ys : List L2.V} : cutV (xs ++ ys) (some (xs.length : Int)) none = ys := by
  unfold cutV
  rw [HT.sIx_none, HT.sIx_nat, List.length_append, Nat.min_eq_left (by omega), List.drop_left, Nat.add_sub_cancel_left, List.take_length]
/-- t[:k] of t = xs ++ ys, k the length of xs -/
theorem e_tHi (q : wE X e σ H fun x H1 => wE X b σ H1 fun y H2 => ∃ p xs ys, x = .ref p ∧ y = .int (xs.length : Int) ∧ H2 p = some (.tup (xs ++ ys)) ∧ ∀ t H3, Same H2 H3 → H3 t = some (.tup xs) → Q (.ref t) H3) {p2 : Pos} : wE X (.Subscript e (.Slice none (some b) none p2) pos) σ H Q := by
  refine e_slL1 sl_tupA (e_mono q fun x H1 z => e_mono z fun y H2 ⟨p, xs, ys, ex, ey, ht, q⟩ => ⟨_, ey, p, xs ++ ys, ex, SqT.of ht, fun hw => ?_, fun _ t nt => ?_⟩)
  · refine q p H2 (Same.refl H2) ?_
    have e : xs ++ ys = xs := by
      have h2 := hw.2
      rw [HT.sIx_nat, List.length_append] at h2
      have : ys = [] := by
        cases ys with
        | nil => rfl
        | cons y ys => simp only [List.length_cons] at h2; omega
      rw [this, List.append_nil]
    rw [e] at ht
    exact ht
  · refine q t _ (fun c u eo => by rw [upd_ne (ne_of_none eo nt)]; exact eo) ?_
    rw [cut_hi]
    exact upd_same
theorem e_tLo (q : wE X e σ H fun x H1 => wE X a σ H1 fun y H2 => ∃ p xs ys, x = .ref p ∧ y = .int (xs.length : Int) ∧ H2 p = some (.tup (xs ++ ys)) ∧ ∀ t H3, Same H2 H3 → H3 t = some (.tup ys) → Q (.ref t) H3) {p2 : Pos} : wE X (.Subscript e (.Slice (some a) none none p2) pos) σ H Q := by
  refine e_slL0 sl_tupA (e_mono q fun x H1 z => e_mono z fun y H2 ⟨p, xs, ys, ex, ey, ht, q⟩ => ⟨_, ey, p, xs ++ ys, ex, SqT.of ht, fun hw => ?_, fun _ t nt => ?_⟩)
  · refine q p H2 (Same.refl H2) ?_
    have e : xs ++ ys = ys := by
      have h2 := hw.1
      rw [HT.sIx_nat, List.length_append] at h2
      have : xs = [] := by
        cases xs with
        | nil => rfl
        | cons y xs => simp only [List.length_cons] at h2; omega
      rw [this, List.nil_append]
    rw [e] at ht
    exact ht
  · refine q t _ (fun c u eo => by rw [upd_ne (ne_of_none eo nt)]; exact eo) ?_
    rw [cut_lo]
    exact upd_same
theorem c_dict {p : Addr} {kvs : List (Key × L2.V)} (h : H p = some (.dK kvs)) (q : ∀ t H2, Same H H2 → H t = none → H2 t = some (.dK kvs) → Q (.ref t) H2) : wC X (.type "dict") [.ref p] H Q :=
  c_of call_dictD ⟨p, kvs, rfl, .inl h, fun t nt => q t _ (fun c u eo => by rw [upd_ne (ne_of_none eo nt)]; exact eo) nt upd_same⟩
theorem c_listDn {p : Addr} {kvs : List (Key × L2.V)} (hc : X.calm = true) (h : H p = some (.dK kvs)) (q : ∀ l H2, Same H H2 → H l = none → H2 l = some (.lst (kvs.map fun kv => kV kv.1)) → Q (.ref l) H2) : wC X (.type "list") [.ref p] H Q :=
  c_of (call_list_dK hc) ⟨p, kvs, rfl, h, fun l np => q l _ (fun c u eo => by rw [upd_ne (ne_of_none eo np)]; exact eo) np upd_same⟩
/-- {k: v} and {k: v, k2: v2} -/
theorem e_d1 {k v : Expr} (q : ∀ p, H p = none → wE X k σ (upd H p (.dK [])) fun x H1 => wE X v σ H1 fun y H2 => H2 p = some (.dK []) ∧ ∃ z, x = .str z ∧ Q (.ref p) (upd H2 p (.dK [(Sum.inr z, y)]))) : wE X (.Dict [some k] [v] pos) σ H Q := by
  refine e_of (pe_disp (pps_cons pe pe pps_nil) rfl rfl (by simp) (by simp)) fun p np => e_mono (q p np) fun x H1 q1 => e_mono q1 fun y H2 q2 => ?_
  obtain ⟨h, z, rfl, q3⟩ := q2
  exact ⟨h, [(Sum.inr z, y)], rfl, by simp, q3⟩
/-- for x in reversed(xs), xs a list -/
theorem s_forRv {nx : L2.St → Hp → Prop} {rt : VK} {bk ct : L2.St → Hp → Prop} {g : Nat} {x : Str} {i : Nat} {body : List Stmt} {px p cp pos : Pos} (hm : X.mg "reversed" = none)
    (q : wE X a σ H fun v H1 => ∃ ad xs, v = .ref ad ∧ SqL X.K H1 ad xs ∧ ∃ Pv : Nat → L2.St → Hp → Prop, Pv 0 σ H1 ∧ (∀ k σ H, k ≤ xs.length → Pv k σ H → SqL X.K H ad xs) ∧ (∀ k y σ H, xs.reverse[k]? = some y → Pv k σ H → wL X body ⟨Pv (k + 1), rt, nx, Pv (k + 1)⟩ (σ.set i (some y)) H) ∧ ∀ σ H, Pv xs.length σ H → nx σ H)
    (I : In X N G sc := by assumption) (hc : X.calm = true := by rfl) (hA : At N i x := by repeat (first | with_reducible apply At.z | with_reducible apply At.s)) (hG : At G g ("reversed" : Str) := by repeat (first | with_reducible apply At.z | with_reducible apply At.s))
    (hs : starEach [a] X.env = (false, eval a X.env) :: starEach [] X.env := by rfl) (hs2 : ∀ z, foldedSetIterable (.Call (.Name "reversed" p) [a] [] cp) X.env z = pure z := by intro _; rfl) :
    wS X (.For (.Name x px) (.Call (.Name "reversed" p) [a] [] cp) body [] pos) ⟨nx, rt, bk, ct⟩ σ H := by
  refine s_of (ps_for I.never hc (RT.pi_revA (I.g hG) hm pe hs) (pg_name I.nd (I.hi hA) (I.loc hA) I.f) pl hs2) (e_mono q fun v H1 q1 => ?_)
  obtain ⟨ad, xs, rfl, hl, Pv, h0, hk, hb, hd⟩ := q1
  refine ⟨ad, xs, rfl, .inl ⟨hl, fun k m σ H => m = xs.length - k ∧ k ≤ xs.length ∧ Pv k σ H, ⟨xs.length, by simp, Nat.zero_le _, h0⟩, ?_⟩⟩
  rintro k m σ H ⟨rfl, hi, p⟩
  have q := hk k σ H hi p
  by_cases hlt : k < xs.length
  · refine .inr ⟨⟨hlt, xs, xs[xs.length - 1 - k]'(by omega), q, by simp⟩, Pv (k + 1), fun σ' H' p' => ⟨xs.length - (k + 1), by omega, rfl, hlt, p'⟩, fun x H' y => ?_⟩
    obtain ⟨e, y⟩ := y
    subst e
    refine hb k x σ _ ?_ p
    rw [List.getElem?_reverse hlt]
    exact y xs q
  · have e : k = xs.length := by omega
    subst e
    exact .inl ⟨Nat.le_refl _, hd σ H p⟩
/-- for x in d, d a dict that stands at ad -/
theorem s_forD {nx : L2.St → Hp → Prop} {rt : VK} {bk ct : L2.St → Hp → Prop} {x : Str} {i : Nat} {body : List Stmt} {px pos : Pos} {ad : Addr} {kvs : List (Key × L2.V)} (h : H ad = some (.dK kvs))
    (q : ∀ o, wE X a σ (upd H ad (.frz o (.dK kvs))) fun v H1 => v = .ref ad ∧ H1 ad = some (.frz o (.dK kvs)) ∧ ∃ Pv : Nat → L2.St → Hp → Prop, Pv 0 σ H1 ∧ (∀ k σ H, k ≤ kvs.length → Pv k σ H → H ad = some (.frz o (.dK kvs))) ∧
      (∀ k y v σ H, kvs[k]? = some (y, v) → Pv k σ H → wL X body ⟨Pv (k + 1), fun v H' => H' ad = some (.frz o (.dK kvs)) ∧ rt v (upd H' ad (.dK kvs)), fun σ' H' => H' ad = some (.frz o (.dK kvs)) ∧ nx σ' (upd H' ad (.dK kvs)), Pv (k + 1)⟩ (σ.set i (some (kV y))) H) ∧ ∀ σ H, Pv kvs.length σ H → nx σ (upd H ad (.dK kvs)))
    (I : In X N G sc := by assumption) (hc : X.calm = true := by rfl) (hA : At N i x := by repeat (first | with_reducible apply At.z | with_reducible apply At.s)) (hs2 : ∀ z, foldedSetIterable a X.env z = pure z := by intro _; rfl) :
    wS X (.For (.Name x px) a body [] pos) ⟨nx, rt, bk, ct⟩ σ H := by
  refine s_of (ps_lock (ps_for I.never hc (pi_keys pe) (pg_name I.nd (I.hi hA) (I.loc hA) I.f) pl hs2)) ?_
  refine ⟨ad, .dK kvs, h, trivial, fun o => e_mono (q o) fun v H1 q1 => ?_⟩
  obtain ⟨rfl, h1, Pv, h0, hk, hb, hd⟩ := q1
  refine ⟨ad, o, rfl, .inl ⟨kvs, h1, fun k m σ H => m = kvs.length - k ∧ k ≤ kvs.length ∧ Pv k σ H, ⟨kvs.length, by simp, Nat.zero_le _, h0⟩, ?_⟩⟩
  rintro k m σ H ⟨rfl, hi, p⟩
  have q := hk k σ H hi p
  by_cases hlt : k < kvs.length
  · refine .inr ⟨⟨q, hlt⟩, Pv (k + 1), fun σ' H' p' => ⟨kvs.length - (k + 1), by omega, rfl, hlt, p'⟩, fun x H' y => ?_⟩
    obtain ⟨rfl, ky, v, hkv, rfl⟩ := y
    exact hb k ky v σ _ hkv p
  · have e : k = kvs.length := by omega
    subst e
    exact .inl ⟨⟨q, Nat.le_refl _⟩, q, hd σ H p⟩
/-- y = [elt for x in range(a) if c] -/
def LcRf (X : Cx) (Vn : List (Nat × Str)) (G' : List Str) (elt c : Expr) (scope : Scope) (i n : Nat) (D : Addr) (σ : L2.St) (H1 : Hp) (Qd : Hp → Prop) : Prop := ∃ Pv : Nat → Hp → Prop, Pv 0 (upd H1 D (.lst [])) ∧
  (∀ k H2, k < n → Pv k H2 → Turn1 X Vn G' elt c scope i D σ (.int (k : Int)) H2 (Pv (k + 1))) ∧ ∀ H2, Pv n H2 → Qd H2
theorem lcRf_of {i n : Nat} {D : Addr} {H1 : Hp} {Qd : Hp → Prop} (q : LcRf X Vn G' elt c scope i n D σ H1 Qd) : ∃ W : Nat → Nat → Hp → Prop, (∃ m, W 0 m (upd H1 D (.lst []))) ∧ ∀ k m H, W k m H →
    ((Itr 0 n).stop k H ∧ Qd H) ∨ ((Itr 0 n).go k H ∧ ∃ Nx : Hp → Prop, (∀ H', Nx H' → ∃ m', m' < m ∧ W (k + 1) m' H') ∧ ∀ x H', (Itr 0 n).yld k H x H' → gName i x (wipe σ [i]) H' fun σ2 H2 => wipe σ2 [i] = wipe σ [i] ∧ wBkT X Vn G' c scope σ2 H2 fun b H3 =>
      if b = true then wBk X Vn G' elt scope σ2 H3 fun y H4 => ∃ acc, H4 D = some (.lst acc) ∧ acc.length < sizeLine ∧ Nx (upd H4 D (.lst (acc ++ [y]))) else Nx H3) := by
  obtain ⟨Pv, h0, hs, hd⟩ := q
  refine lc_range Pv h0 (fun k H hk p => ?_) hd
  rw [Int.zero_add]
  exact turn1_of (hs k H hk p)
theorem s_lcRf {nx : L2.St → Hp → Prop} {rt : VK} {bk ct : L2.St → Hp → Prop} {i j g : Nat} {x y : Str} {px py p cp spos : Pos} (B : BkOk X.N Vn G' i x sc scope) (hm : X.mg "range" = none)
    (q : wE X a σ H fun v H1 => ∃ n : Nat, v = .int n ∧ n < 2 ^ 62 ∧ ∀ D, H1 D = none → LcRf X Vn G' elt c scope i n D σ H1 fun H2 => nx (σ.set j (some (.ref D))) H2)
    (I : In X N G sc := by assumption) (hc : X.calm = true := by rfl) (hA : At N j y := by repeat (first | with_reducible apply At.z | with_reducible apply At.s)) (hG : At G g ("range" : Str) := by repeat (first | with_reducible apply At.z | with_reducible apply At.s))
    (hk : X.env.scope.kind = .function := by rfl) (hy : X.env.scope.names.lookup y = some .local := by rfl) (hl : (py.line == pos.line) = true := by rfl) (ha : (scope.names.any fun (n, k) => n == y && (k == .local || k == .cell)) = false := by decide +kernel)
    (hs : starEach [a] X.env = [(false, eval a X.env)] := by rfl) (hs2 : ∀ z, foldedSetIterable (.Call (.Name "range" p) [a] [] cp) X.env z = pure z := by intro _; rfl) (hs1 : starEach (a :: []) X.env = (false, eval a X.env) :: starEach [] X.env := by rfl) :
    wS X (.Assign [.Name y py] (.ListComp elt [⟨.Name x px, .Call (.Name "range" p) [a] [] cp, [c], 0⟩] scope pos) spos) ⟨nx, rt, bk, ct⟩ σ H := by
  refine s_of (ps_setLc (own := [(x, i)]) (g := gName i) (tt := wBkT X Vn G' c scope) (te := wBk X Vn G' elt scope) hc I.nd (I.hi hA) hy (sw_true hk hy hl ha) (pi_range1 (I.g hG) hm (pa_cons pe pa_nil hs1) hs) (B.ok I) (fun s H C cl fp => B.pg I s H C cl fp) (fun s H C cl fp => pts_bk (B.inB I s H C cl fp)) (fun s H C cl fp => pe_bk (B.inB I s H C cl fp)) hs2) (e_mono q fun v H1 q1 => ?_)
  obtain ⟨n, rfl, hn, q2⟩ := q1
  refine ⟨(n : Int), rfl, by omega, by omega, ?_⟩
  rw [Int.toNat_natCast]
  exact fun D hD => lcRf_of (q2 D hD)
end
end Wk

set_option maxHeartbeats 4000000
/-! My own layer: a walk over zip(a, b), each of the two a list or a tuple. -/
namespace Wk
open PySem PySem.Spec PyProof.Rows L2
/-- what stands on one side of a zip -/
inductive Side where
  | l | t
def Side.con : Side → Heap → Addr → Array Value → Prop
  | .l => fun h a xs => h.IsList a xs
  | .t => fun h a xs => h.IsTuple a xs
def Side.itr : Side → Heap → Addr → Addr → Nat → Prop
  | .l => fun h it a i => h.IsListIter it a i
  | .t => fun h it a i => h.IsTupleIter it a i
def Side.ob : Side → Addr → Obj
  | .l => fun a => { cls := .type "list_iterator", data := .fields #[.ref a, .int 0 0] }
  | .t => fun a => { cls := .type "tuple_iterator", data := .fields #[.ref a, .int 0 0] }
def Side.sq (K : PySem.W.Frag) : Side → Hp → Addr → List V → Prop
  | .l => SqL K
  | .t => SqT K
theorem Side.begins (c : Side) (a : Addr) (xs : Array Value) : Begins (.ref a) (c.ob a) fun h => c.con h a xs := by
  cases c with
  | l => exact begins_list a xs
  | t => exact begins_tuple a xs
theorem Side.draws {P : Program} {w : World} {A : Around} (c : Side) (hh : A.handled = none) (it a : Addr) (ne : a ≠ it) (xs : Array Value) : Draws P w A it [it, a] xs.size (fun i v => xs[i]? = some v) (fun i h => c.itr h it a i ∧ c.con h a xs) := by
  cases c with
  | l => exact Draws.list hh it a ne xs
  | t => exact Draws.tuple hh it a ne xs
theorem Side.own {X : Cx} {pins : List (Addr × Obj)} {σ : L2.St} {H : Hp} {s : Shared} {a : Addr} {xs : List V} (I : Inv X pins σ H s) (c : Side) (h : c.sq X.K H a xs) : ∃ its : List Value, Vals xs its ∧ c.con s.heap a its.toArray := by
  cases c with
  | l => obtain ⟨its, r, p, _⟩ := I.list h; exact ⟨its, r, p.isList⟩
  | t => obtain ⟨its, r, p, _⟩ := I.tuple h; exact ⟨its, r, p⟩
theorem Side.inj {X : Cx} {pins : List (Addr × Obj)} {σ : L2.St} {H : Hp} {s : Shared} {a : Addr} {xs ys : List V} (I : Inv X pins σ H s) (c : Side) (h : c.sq X.K H a xs) (h' : c.sq X.K H a ys) : xs = ys := by
  cases c with
  | l => exact I.list_inj h h'
  | t => exact I.tuple_inj h h'
theorem Side.up {h h' : Heap} {it a : Addr} {i : Nat} (c : Side) (x : c.itr h it a i) (k : ∀ o, h.get? it = some o → h'.get? it = some o) : c.itr h' it a i := by
  cases c with
  | l => exact x.at k
  | t => exact x.at k
theorem Side.nocell {h : Heap} {it a : Addr} {i : Nat} (c : Side) (x : c.itr h it a i) : ∃ o, h.get? it = some o ∧ ∀ v, o.data ≠ .cell v := by
  cases c with
  | l => obtain ⟨o, e, _, d⟩ := x; exact ⟨o, e, fun v q => by rw [d] at q; cases q⟩
  | t => obtain ⟨o, e, _, d⟩ := x; exact ⟨o, e, fun v q => by rw [d] at q; cases q⟩
theorem Side.start {h : Heap} {it a : Addr} (c : Side) (e : h.get? it = some (c.ob a)) : c.itr h it a 0 := by
  cases c with
  | l => exact ⟨_, e, rfl, rfl⟩
  | t => exact ⟨_, e, rfl, rfl⟩
theorem Side.lt {h : Heap} {a : Addr} {xs : Array Value} (c : Side) (x : c.con h a xs) : a < h.objs.size := by
  cases c with
  | l => obtain ⟨o, e, _⟩ := x; exact Heap.lt_size e
  | t => obtain ⟨o, e, _⟩ := x; exact Heap.lt_size e
/-- pairs out of the two sides, as they stand at each turn -/
def ItM (K : PySem.W.Frag) (c d : Side) (a b : Addr) : It :=
  ⟨fun i H => ∃ (xs ys : List V) (x y : V), c.sq K H a xs ∧ d.sq K H b ys ∧ xs[i]? = some x ∧ ys[i]? = some y,
    fun i H v H' => ∃ T x y, v = .ref T ∧ H T = none ∧ H' = upd H T (.tup [x, y]) ∧ (∀ xs, c.sq K H a xs → xs[i]? = some x) ∧ ∀ ys, d.sq K H b ys → ys[i]? = some y,
    fun i H => ∃ xs ys : List V, c.sq K H a xs ∧ d.sq K H b ys ∧ i ≤ xs.length ∧ i ≤ ys.length ∧ (i = xs.length ∨ i = ys.length)⟩
theorem turn_zipM {P : Program} {w : World} {K : PySem.W.Frag} {es : List Expr} {kk : Nat} {tp : Pos} {c d : Side} {a b z TI TO i1 i2 : Addr} (S : ZipSep2 z TI TO i1 i2 [i1, a] [i2, b]) (na : a ≠ i1) (nb : b ≠ i2) :
    Turn P w K (.Tuple es kk tp) (ItM K c d a b) [z, TI, TO, i1, i2] z (fun i h => IsZip h z TI TO .none ∧ IsTupOf2 h TI (.ref i1) (.ref i2) ∧ (∃ u v, IsTupOf2 h TO u v) ∧ c.itr h i1 a i ∧ d.itr h i2 b i) where
  mem := List.mem_cons_self ..
  obj := fun i h ⟨q1, q2, ⟨u, v, q3⟩, q4, q5⟩ e he => by
    simp only [List.mem_cons, List.not_mem_nil, or_false] at he
    rcases he with rfl | rfl | rfl | rfl | rfl
    · exact ⟨_, q1, fun _ r => nomatch r⟩
    · exact ⟨_, q2, fun _ r => nomatch r⟩
    · exact ⟨_, q3, fun _ r => nomatch r⟩
    · exact c.nocell q4
    · exact d.nocell q5
  keep := fun i h h' ⟨q1, q2, ⟨u, v, q3⟩, q4, q5⟩ kp => ⟨kp z (by simp) _ q1, kp TI (by simp) _ q2, ⟨u, v, kp TO (by simp) _ q3⟩, c.up q4 (kp i1 (by simp)), d.up q5 (kp i2 (by simp))⟩
  item := by
    intro X hP hw hK hc i pins s σ H E I fpk ⟨q1, q2, ⟨u, v, q3⟩, q4, q5⟩ ⟨xs, ys, x, y, sx, sy, ex, ey⟩
    subst hP hw hK
    obtain ⟨us, rus, cx⟩ := c.own I sx
    obtain ⟨vs, rvs, cy⟩ := d.own I sy
    obtain ⟨g, eg, rg⟩ := rus.get ex
    obtain ⟨g2, eg2, rg2⟩ := rvs.get ey
    have hh : X.A.in1.handled = none := I.ok.hd hc
    refine wpAny_pyNext_zipD2_item S (c.draws hh i1 a na us.toArray) (d.draws hh i2 b nb vs.toArray) q1 q2 q3 ⟨q4, cx⟩ ⟨q5, cy⟩ ?_ ?_ fun x1 x2 h1 tk p1 p2 n1 n2 n3 n4 n5 _ n7 => ?_
    · rw [List.size_toArray]; exact (List.getElem?_eq_some_iff.mp eg).1
    · rw [List.size_toArray]; exact (List.getElem?_eq_some_iff.mp eg2).1
    rw [List.getElem?_toArray, eg] at p1
    rw [List.getElem?_toArray, eg2] at p2
    cases p1
    cases p2
    have zl : z < s.heap.objs.size := Heap.lt_size q1
    refine ⟨_, rfl, wpAny_letOwnedTupleGo_zip (s := { s with heap := h1, toks := tk }) n1 fun h2 m1 sb => ?_⟩
    have tup2 : h2.get? s.heap.objs.size = some { cls := .type "tuple", data := .seq #[g, g2] } := (sb.2 _ (Nat.ne_of_gt zl)).trans n5
    have I1 : Inv X pins σ (upd H s.heap.objs.size (.tup [x, y])) { s with heap := h2, toks := tk } := by
      refine I.turnedNew (t' := tk) (ch := [z, TI, TO, i1, i2]) (fun e o hb q => ?_) fpk (Nat.le_refl _) ⟨by show 2 ≤ 2 ^ 24; decide, [g, g2], .cons rg (.cons rg2 .nil), ⟨_, tup2, rfl, _, rfl⟩⟩
      simp only [List.mem_cons, List.not_mem_nil, or_false, not_or] at hb
      exact (sb.2 e hb.1).trans (n7 e o hb.1 hb.2.2.1 hb.2.2.2.1 hb.2.2.2.2 q)
    have up : ∀ {e : Addr} {o : Obj}, e ≠ z → h1.get? e = some o → h2.get? e = some o := fun ne q => (sb.2 _ ne).trans q
    refine ⟨.ref s.heap.objs.size, _, I1, rfl, ⟨_, x, y, rfl, I.hok.fresh (Nat.le_refl _), rfl, fun l hl => by rw [c.inj I hl sx]; exact ex, fun l hl => by rw [d.inj I hl sy]; exact ey⟩,
      ⟨m1, up S.TIz (n7 TI _ S.TIz S.TITO S.TIi1 S.TIi2 q2), ⟨g, g2, up S.TOz n2⟩, c.up n3.1 fun o q => up (Ne.symm S.zi1) q, d.up n4.1 fun o q => up (Ne.symm S.zi2) q⟩, fun e he => ?_⟩
    rw [upd_ne]
    · exact (fpk e he).1
    · have : e < s.heap.objs.size := by
        simp only [List.mem_cons, List.not_mem_nil, or_false] at he
        rcases he with rfl | rfl | rfl | rfl | rfl
        · exact zl
        · exact Heap.lt_size q2
        · exact Heap.lt_size q3
        · obtain ⟨o, eo, _⟩ := c.nocell q4; exact Heap.lt_size eo
        · obtain ⟨o, eo, _⟩ := d.nocell q5; exact Heap.lt_size eo
      exact Nat.ne_of_lt this
  done := by
    intro X hP hw hK hc i pins s σ H E I fpk ⟨q1, q2, ⟨u, v, q3⟩, q4, q5⟩ ⟨xs, ys, sx, sy, l1, l2, le⟩
    subst hP hw hK
    obtain ⟨us, rus, cx⟩ := c.own I sx
    obtain ⟨vs, rvs, cy⟩ := d.own I sy
    have g1 := rus.length
    have g2 := rvs.length
    have hh : X.A.in1.handled = none := I.ok.hd hc
    refine wpAny_pyNext_zipD2_end S (c.draws hh i1 a na us.toArray) (d.draws hh i2 b nb vs.toArray) q1 q2 q3 ⟨q4, cx⟩ ⟨q5, cy⟩ (by rw [List.size_toArray]; omega) (by rw [List.size_toArray]; omega) (by rw [List.size_toArray, List.size_toArray]; omega) fun h1 tk kp => ⟨rfl, ?_⟩
    refine I.turnedL (t' := tk) (ch := [z, TI, TO, i1, i2]) (fun e o hb q => ?_) fpk
    simp only [List.mem_cons, List.not_mem_nil, or_false, not_or] at hb
    exact kp e o hb.1 hb.2.2.1 hb.2.2.2.1 hb.2.2.2.2 q
  self := fun A i s Q E st h => wpAny_pyIter_zip st.1 h
/-- zip(e, e2) -/
def iZipM (K : PySem.W.Frag) (c d : Side) (ta : TA) : TI := fun σ H R => ta σ H fun vs H1 => ∃ a b xs ys, vs = [.ref a, .ref b] ∧ c.sq K H1 a xs ∧ d.sq K H1 b ys ∧ R (ItM K c d a b) H1
theorem pi_zipM {X : Cx} {e e2 : Expr} {ta : TA} {p pos tp : Pos} {es : List Expr} {kk : Nat} {c d : Side} (hg : Gl X "zip") (hm : X.mg "zip" = none) (ha : PA X [e, e2] ta)
    (hs : starEach [e, e2] X.env = (false, eval e X.env) :: starEach [e2] X.env := by rfl) (hpl : (backTo pos (starEach [e2] X.env)).any (·.1) = false := by rfl) :
    PI X (.Tuple es kk tp) (.Call (.Name "zip" p) [e, e2] [] pos) (iZipM X.K c d ta) := by
  refine ⟨fun pins s σ H R I h => Call_ (ld_blt I hg hm PyProof.Rows.boot_zip (PyProof.Rows.callWith_type1 (thn (ha.run pos pins s σ H _ I h) fun us s1 ⟨vs, H1, I1, r1, a, b, xs, ys, ev, sx, sy, q⟩ => ?_) hs hpl))⟩
  subst ev
  obtain ⟨u, v, rfl, ru, rv⟩ : ∃ u v, us = [u, v] ∧ RelV (.ref a) u ∧ RelV (.ref b) v := by
    cases r1 with
    | cons r t => cases t with
      | cons r' t => cases t; exact ⟨_, _, rfl, r, r'⟩
  cases ru
  cases rv
  obtain ⟨ws, rw1, cx⟩ := c.own I1 sx
  obtain ⟨zs, rw2, cy⟩ := d.own I1 sy
  have la := c.lt cx
  have lb := d.lt cy
  generalize hN : s1.heap.objs.size = N at la lb
  have nw : ∀ e ∈ [N + 4, N + 2, N + 3, N, N + 1], FpOk X pins H1 e := fun e he => by
    have hle : s1.heap.objs.size ≤ e := by
      rw [hN]
      simp only [List.mem_cons, List.not_mem_nil, or_false] at he
      rcases he with z | z | z | z | z <;> (rw [z]; first | exact Nat.le_refl _ | exact Nat.le_add_right _ _)
    exact I1.fpOk hle (I1.hok.fresh hle)
  refine zip_begins2 (c.begins a ws.toArray) (d.begins b zs.toArray) cx cy fun h1 g1 g2 g3 g4 g5 _ kp => wpAny_pyIter_zip g1 ?_
  rw [hN] at g1 g2 g3 g4 g5 ⊢
  have S : ZipSep2 (N + 4) (N + 2) (N + 3) N (N + 1) [N, a] [N + 1, b] := zip_sep2 (fun e he => by rw [List.mem_singleton.mp he]; exact la) (fun e he => by rw [List.mem_singleton.mp he]; exact lb)
  exact ⟨N + 4, [N + 4, N + 2, N + 3, N, N + 1], _, ItM X.K c d a b, H1, rfl, I1.kept (t' := s1.toks) kp, turn_zipM S (Nat.ne_of_lt la) (Nat.ne_of_lt (Nat.lt_succ_of_lt lb)), ⟨g1, g2, ⟨_, _, g3⟩, c.start g4, d.start g5⟩, nw, q⟩
section
variable {X : Cx} {e a b : Expr} {σ : L2.St} {H : Hp} {N G : List Str} {sc : Scope}
/-- [elt for x in range(a) if c], as a value -/
theorem e_lcRf {X : Cx} {elt c a : Expr} {σ : L2.St} {H : Hp} {Q : VK} {pos : Pos} {N G G' : List Str} {Vn : List (Nat × Str)} {sc scope : Scope} {i g : Nat} {x : Str} {px p cp : Pos} (B : BkOk X.N Vn G' i x sc scope) (hm : X.mg "range" = none)
    (q : wE X a σ H fun v H1 => ∃ n : Nat, v = .int n ∧ n < 2 ^ 62 ∧ ∀ D, H1 D = none → LcRf X Vn G' elt c scope i n D σ H1 fun H2 => Q (.ref D) H2)
    (I : In X N G sc := by assumption) (hc : X.calm = true := by rfl) (hG : At G g ("range" : Str) := by repeat (first | with_reducible apply At.z | with_reducible apply At.s))
    (hs : starEach [a] X.env = [(false, eval a X.env)] := by rfl) (hs2 : ∀ z, foldedSetIterable (.Call (.Name "range" p) [a] [] cp) X.env z = pure z := by intro _; rfl) (hs1 : starEach (a :: []) X.env = (false, eval a X.env) :: starEach [] X.env := by rfl) :
    wE X (.ListComp elt [⟨.Name x px, .Call (.Name "range" p) [a] [] cp, [c], 0⟩] scope pos) σ H Q := by
  refine e_of (pe_lc (own := [(x, i)]) (g := gName i) (tt := wBkT X Vn G' c scope) (te := wBk X Vn G' elt scope) hc I.nd (pi_range1 (I.g hG) hm (pa_cons pe pa_nil hs1) hs) (B.ok I) (fun s H C cl fp => B.pg I s H C cl fp) (fun s H C cl fp => pts_bk (B.inB I s H C cl fp)) (fun s H C cl fp => pe_bk (B.inB I s H C cl fp)) hs2) (e_mono q fun v H1 q1 => ?_)
  obtain ⟨n, rfl, hn, q2⟩ := q1
  refine ⟨(n : Int), rfl, by omega, by omega, ?_⟩
  rw [Int.toNat_natCast]
  exact fun D hD => lcRf_of (q2 D hD)
/-- for x in reversed(range(a)) -/
theorem s_forRR {X : Cx} {a : Expr} {σ : L2.St} {H : Hp} {N G : List Str} {sc : Scope} {nx : L2.St → Hp → Prop} {rt : VK} {bk ct : L2.St → Hp → Prop} {g g2 : Nat} {x : Str} {i : Nat} {body : List Stmt} {px p p2 cp cp2 pos : Pos} (hm : X.mg "reversed" = none) (hm2 : X.mg "range" = none)
    (q : wE X a σ H fun v H1 => ∃ n : Nat, v = .int n ∧ n < 2 ^ 62 ∧ ∃ Pv : Nat → L2.St → Hp → Prop, Pv 0 σ H1 ∧ (∀ k σ H, k < n → Pv k σ H → wL X body ⟨Pv (k + 1), rt, nx, Pv (k + 1)⟩ (σ.set i (some (.int ((n - 1 - k : Nat) : Int)))) H) ∧ ∀ σ H, Pv n σ H → nx σ H)
    (I : In X N G sc := by assumption) (hc : X.calm = true := by rfl) (hA : At N i x := by repeat (first | with_reducible apply At.z | with_reducible apply At.s))
    (hG : At G g ("reversed" : Str) := by repeat (first | with_reducible apply At.z | with_reducible apply At.s)) (hG2 : At G g2 ("range" : Str) := by repeat (first | with_reducible apply At.z | with_reducible apply At.s))
    (hs : starEach [.Call (.Name "range" p2) [a] [] cp2] X.env = (false, eval (.Call (.Name "range" p2) [a] [] cp2) X.env) :: starEach [] X.env := by rfl) (hs1 : starEach [a] X.env = (false, eval a X.env) :: starEach [] X.env := by rfl)
    (hs2 : ∀ z, foldedSetIterable (.Call (.Name "reversed" p) [.Call (.Name "range" p2) [a] [] cp2] [] cp) X.env z = pure z := by intro _; rfl) :
    wS X (.For (.Name x px) (.Call (.Name "reversed" p) [.Call (.Name "range" p2) [a] [] cp2] [] cp) body [] pos) ⟨nx, rt, bk, ct⟩ σ H := by
  refine s_of (ps_for I.never hc (pi_revR (I.g hG) hm (prg_1 (I.g hG2) hm2 pe hs1) hs) (pg_name I.nd (I.hi hA) (I.loc hA) I.f) pl hs2) (e_mono q fun v H1 q1 => ?_)
  obtain ⟨n, rfl, hn, Pv, h0, hb, hd⟩ := q1
  refine ⟨(n : Int), rfl, by omega, by omega, by omega, by omega, ?_⟩
  rw [show ((n : Int) - 0).toNat = n by omega]
  refine for_rangeC (n := n) Pv h0 (fun k σ H hk pv => ?_) hd
  rw [show (0 : Int) + ((n : Nat) : Int) - 1 + ((k : Nat) : Int) * (-1) = ((n - 1 - k : Nat) : Int) by omega]
  exact hb k σ H hk pv
end
end Wk

set_option maxHeartbeats 4000000
/-! My own layer: list(zip(a, b)), whose pairs the list holds. -/
namespace Wk
open PySem PySem.Spec PyProof.Rows L2
section
variable {prog : Program} {w : World} {A : Around} {E : Value → Shared → Prop} {s : Shared} {z TI TO T i1 i2 : Addr} {fa fb : List Addr} {n1 n2 i : Nat} {Pa Pb : Nat → Value → Prop} {Sa Sb : Nat → Heap → Prop} {fl : Bool} {oT : Obj}
end
section
variable {prog : Program} {w : World} {A : Around} {s : Shared} {R : Result → Shared → Prop} {z TI TO i1 i2 : Addr} {fa fb : List Addr} {n1 n2 : Nat} {Pa Pb : Nat → Value → Prop} {Sa Sb : Nat → Heap → Prop}
end
section
variable {prog : Program} {w : World} {A : Around} {E : Value → Shared → Prop} {s : Shared} {z TI TO i1 i2 : Addr} {fa fb : List Addr} {n1 n2 : Nat} {Pa Pb : Nat → Value → Prop} {Sa Sb : Nat → Heap → Prop}
end
/-! ### in the abstract heap -/
end Wk
namespace Wk
open PySem PySem.Spec PyProof.Rows L2
section
variable {X : Cx} {e a b c elt kx vx o : Expr} {es rest : List Expr} {σ : L2.St} {H : Hp} {Q : VK} {pos p0 apos : Pos} {N G G' : List Str} {Vn : List (Nat × Str)} {sc scope : Scope}
/-- what the turns of a dict's comprehension over a dict ask, with a test or without -/
def DTurn (X : Cx) (Vn : List (Nat × Str)) (G' : List Str) (kx vx : Expr) (scope : Scope) (i : Nat) (D : Addr) (σ : L2.St) (x : V) (H2 : Hp) (nxt : Hp → Prop) : Prop := ∀ s0 H0 C cl fp, InB (Bk X s0 H0 scope C cl fp) Vn G' →
  wE (Bk X s0 H0 scope C cl fp) kx ((wipe σ [i]).set i (some x)) H2 fun y H3 => ∀ s0 H0 C cl fp, InB (Bk X s0 H0 scope C cl fp) Vn G' →
    wE (Bk X s0 H0 scope C cl fp) vx ((wipe σ [i]).set i (some x)) H3 fun z H4 => ∃ kvs ky, y = kV ky ∧ H4 D = some (.dK kvs) ∧ kvs.length < sizeLine ∧ nxt (upd H4 D (.dK (putK kvs ky z)))
def DcD (X : Cx) (Vn : List (Nat × Str)) (G' : List Str) (kx vx : Expr) (scope : Scope) (i : Nat) (d : Addr) (o : Obj) (kvs : List (Key × V)) (D : Addr) (σ : L2.St) (H1 : Hp) (Qd : Hp → Prop) : Prop := ∃ Pv : Nat → Hp → Prop, Pv 0 (upd H1 D (.dK [])) ∧ (∀ k H2, k ≤ kvs.length → Pv k H2 → H2 d = some (.frz o (.dK kvs))) ∧
  (∀ k y v H2, kvs[k]? = some (y, v) → Pv k H2 → DTurn X Vn G' kx vx scope i D σ (kV y) H2 (Pv (k + 1))) ∧ ∀ H2, Pv kvs.length H2 → Qd H2
theorem dturn_of {i : Nat} {D : Addr} {x : V} {H2 : Hp} {nxt : Hp → Prop} (q : DTurn X Vn G' kx vx scope i D σ x H2 nxt) : wBk X Vn G' kx scope ((wipe σ [i]).set i (some x)) H2 fun y H4 => wBk X Vn G' vx scope ((wipe σ [i]).set i (some x)) H4 fun z H5 => ∃ kvs k, y = kV k ∧ H5 D = some (.dK kvs) ∧ kvs.length < sizeLine ∧ nxt (upd H5 D (.dK (putK kvs k z))) := by
  unfold wBk
  exact q
theorem dcD_of {i : Nat} {d : Addr} {ob : Obj} {kvs : List (Key × V)} {D : Addr} {H1 : Hp} {Qd : Hp → Prop} (q : DcD X Vn G' kx vx scope i d ob kvs D σ H1 Qd) : ∃ W : Nat → Nat → Hp → Prop, (∃ m, W 0 m (upd H1 D (.dK []))) ∧ ∀ k m H, W k m H →
    ((Itk d ob kvs).stop k H ∧ Qd H) ∨ ((Itk d ob kvs).go k H ∧ ∃ Nx : Hp → Prop, (∀ H', Nx H' → ∃ m', m' < m ∧ W (k + 1) m' H') ∧ ∀ x H', (Itk d ob kvs).yld k H x H' → gName i x (wipe σ [i]) H' fun σ2 H2 => wipe σ2 [i] = wipe σ [i] ∧ tYes σ2 H2 fun b H3 =>
      if b = true then wBk X Vn G' kx scope σ2 H3 fun y H4 => wBk X Vn G' vx scope σ2 H4 fun z H5 => ∃ kvs k, y = kV k ∧ H5 D = some (.dK kvs) ∧ kvs.length < sizeLine ∧ Nx (upd H5 D (.dK (putK kvs k z))) else Nx H3) := by
  obtain ⟨Pv, h0, hl, hs, hd⟩ := q
  refine ⟨fun k m H => m = kvs.length - k ∧ k ≤ kvs.length ∧ Pv k H, ⟨kvs.length, rfl, Nat.zero_le _, h0⟩, ?_⟩
  rintro k m H ⟨rfl, hk, p⟩
  have fz := hl k H hk p
  by_cases lt : k < kvs.length
  · refine .inr ⟨⟨fz, lt⟩, Pv (k + 1), fun H' p' => ⟨kvs.length - (k + 1), by omega, rfl, lt, p'⟩, fun x H' y => ?_⟩
    obtain ⟨rfl, ky, v, hkv, rfl⟩ := y
    refine ⟨wipe_set σ i _, ?_⟩
    unfold tYes
    exact iteT (dturn_of (hs k ky v _ hkv p))
  · have ek : k = kvs.length := by omega
    subst ek
    exact .inl ⟨⟨fz, Nat.le_refl _⟩, hd H p⟩
/-- {kx: vx for x in d}, d a dict that stands at ad -/
theorem e_dcD {i : Nat} {x : Str} {px : Pos} {ad : Addr} {kvs : List (Key × V)} (B : BkOk X.N Vn G' i x sc scope) (hd : H ad = some (.dK kvs))
    (q : ∀ o, wE X a σ (upd H ad (.frz o (.dK kvs))) fun v H1 => v = .ref ad ∧ H1 ad = some (.frz o (.dK kvs)) ∧ ∀ D, H1 D = none → DcD X Vn G' kx vx scope i ad o kvs D σ H1 fun H2 => H2 ad = some (.frz o (.dK kvs)) ∧ Q (.ref D) (upd H2 ad (.dK kvs)))
    (I : In X N G sc := by assumption) (hc : X.calm = true := by rfl) (hs2 : ∀ z, foldedSetIterable a X.env z = pure z := by intro _; rfl) :
    wE X (.DictComp kx vx [⟨.Name x px, a, [], 0⟩] scope pos) σ H Q := by
  refine e_of (pe_lock (pe_dc (own := [(x, i)]) (g := gName i) (tt := tYes) (tk := wBk X Vn G' kx scope) (tv := wBk X Vn G' vx scope) hc I.nd (pi_keys pe) (B.ok I) (fun s H C cl fp => B.pg I s H C cl fp) (fun _ _ _ _ _ => pts_nil) (fun s H C cl fp => pe_bk (B.inB I s H C cl fp)) (fun s H C cl fp => pe_bk (B.inB I s H C cl fp)) hs2)) ?_
  refine ⟨ad, .dK kvs, hd, trivial, fun o => e_mono (q o) fun v H1 q1 => ?_⟩
  obtain ⟨rfl, h1, q2⟩ := q1
  exact ⟨ad, o, rfl, .inl ⟨kvs, h1, fun D hD => dcD_of (q2 D hD)⟩⟩
theorem op_ninDt (hu : X.A.units + 1 < cLine) : OpR X (compareOp .NotIn) (fun x y H Q => ∃ a o, y = .ref a ∧ DGet H a x o ∧ Q (.bl (!o.isSome)) H) := by
  intro pins s σ H x y v u Q I rx ry h
  obtain ⟨ad, ov, rfl, g, q⟩ := h
  cases ry
  exact d_notIn hu I g rx fun s3 I3 => ⟨.bl (!ov.isSome), H, I3, rfl, q⟩
theorem o_ninD {n : Nat} {x : V} {d : Addr} {ov : Option V} (hr : Room n X.A) (g : DGet H d x ov) (q : Q (.bl (!ov.isSome)) H) : wK X .NotIn x (.ref d) H Q := k_of (op_ninDt (hu_of hr)) ⟨d, ov, rfl, g, q⟩
theorem dg_K {ad : Addr} {kvs : List (Key × V)} {k : Key} (h : H ad = some (.dK kvs)) : DGet H ad (kV k) (valV kvs k) := .inl ⟨kvs, k, .inl h, rfl, rfl⟩
theorem dg_F {ad : Addr} {ob : Obj} {kvs : List (Key × V)} {k : Key} (h : H ad = some (.frz ob (.dK kvs))) : DGet H ad (kV k) (valV kvs k) := .inl ⟨kvs, k, .inr ⟨ob, h⟩, rfl, rfl⟩
/-- {k: v}, k a text or a number -/
theorem e_dk1 {k v : Expr} (q : ∀ p, H p = none → wE X k σ (upd H p (.dK [])) fun x H1 => wE X v σ H1 fun y H2 => H2 p = some (.dK []) ∧ ∃ z, x = kV z ∧ Q (.ref p) (upd H2 p (.dK [(z, y)]))) : wE X (.Dict [some k] [v] pos) σ H Q := by
  refine e_of (pe_disp (pps_cons pe pe pps_nil) rfl rfl (by simp) (by simp)) fun p np => e_mono (q p np) fun x H1 q1 => e_mono q1 fun y H2 q2 => ?_
  obtain ⟨h, z, rfl, q3⟩ := q2
  exact ⟨h, [(z, y)], rfl, by simp, q3⟩
end
end Wk
namespace Wk
open PySem PySem.Spec
/-! places in a text -/
def nE : Expr := .Name "" ⟨0, 0, 0, 0⟩
def exA : Expr → Nat → Expr
  | .BoolOp _ es _, n => es.getD n nE
  | .BinOp a _ b _, n => [a, b].getD n nE
  | .UnaryOp _ a _, _ => a
  | .IfExp c a b _, n => [c, a, b].getD n nE
  | .Dict _ vs _, n => vs.getD n nE
  | .ListComp e gs _ _, n => (e :: gs.flatMap fun g => g.iter :: g.ifs).getD n nE
  | .DictComp e f gs _ _, n => (e :: f :: gs.flatMap fun g => g.iter :: g.ifs).getD n nE
  | .Compare a _ bs _, n => (a :: bs).getD n nE
  | .Call f as ks _, n => (f :: as ++ ks.map (·.value)).getD n nE
  | .Attribute a _ _, _ => a
  | .Subscript a b _, n => [a, b].getD n nE
  | .List es _, n => es.getD n nE
  | .Tuple es _ _, n => es.getD n nE
  | e, _ => e
def stE : Stmt → Expr
  | .Return (some e) _ => e
  | .Assign _ e _ => e
  | .For _ e _ _ _ => e
  | .While e _ _ _ => e
  | .If e _ _ _ => e
  | .Expr e _ => e
  | _ => nE
def nS : Stmt := .Pass ⟨0, 0, 0, 0⟩
def stB : Stmt → Nat → Nat → Stmt
  | .For _ _ a b _, j, n => ((if j = 0 then a else b).getD n nS)
  | .While _ a b _, j, n => ((if j = 0 then a else b).getD n nS)
  | .If _ a b _, j, n => ((if j = 0 then a else b).getD n nS)
  | .Try a _ b _ _, j, n => ((if j = 0 then a else b).getD n nS)
  | _, _, _ => nS
def xSc : Expr → Scope
  | .ListComp _ _ sc _ => sc
  | .DictComp _ _ _ sc _ => sc
  | _ => { kind := .function, names := [], isGenerator := false, isCoroutine := false }
end Wk
namespace Wk
open PySem PySem.Spec PyProof.Rows L2
section
variable {X : Cx} {o e : Expr} {σ : L2.St} {H : Hp} {Q : VK} {pos apos : Pos}
end
end Wk

set_option maxHeartbeats 4000000
/-! My own layer: enumerate, ranges that are held, list(range(..)), all of a list, dicts of lists compared, classes whose making may raise. -/
namespace Wk
open PySem PySem.Spec PyProof.Rows L2
section
variable {X : Cx} {e a b : Expr} {σ : L2.St} {H : Hp} {Q : VK} {N G G' : List Str} {sc scope : Scope} {Vn : List (Nat × Str)} {elt : Expr} {pos : Pos}
/-- for x, y in enumerate(a) -/
theorem s_forE {nx : L2.St → Hp → Prop} {rt : VK} {bk ct : L2.St → Hp → Prop} {g : Nat} {x y : Str} {i j : Nat} {body : List Stmt} {px py pt p cp pos : Pos} {kk : Nat} (hm : X.mg "enumerate" = none)
    (q : wE X a σ H fun v H1 => ∃ va xs, v = .ref va ∧ SqL X.K H1 va xs ∧ ∃ Pv : Nat → L2.St → Hp → Prop, Pv 0 σ H1 ∧ (∀ k σ H, k ≤ xs.length → Pv k σ H → SqL X.K H va xs) ∧
      (∀ k u T σ H, xs[k]? = some u → Pv k σ H → H T = none → wL X body ⟨Pv (k + 1), rt, nx, Pv (k + 1)⟩ ((σ.set i (some (.int (k : Nat)))).set j (some u)) (upd H T (.tup [.int (k : Nat), u]))) ∧ ∀ σ H, Pv xs.length σ H → nx σ H)
    (I : In X N G sc := by assumption) (hc : X.calm = true := by rfl) (hA : At N i x := by repeat (first | with_reducible apply At.z | with_reducible apply At.s)) (hB : At N j y := by repeat (first | with_reducible apply At.z | with_reducible apply At.s))
    (hG : At G g ("enumerate" : Str) := by repeat (first | with_reducible apply At.z | with_reducible apply At.s)) (hs : starEach [a] X.env = [(false, eval a X.env)] := by rfl)
    (hs1 : starEach (a :: []) X.env = (false, eval a X.env) :: starEach [] X.env := by rfl) (hs2 : ∀ z, foldedSetIterable (.Call (.Name "enumerate" p) [a] [] cp) X.env z = pure z := by intro _; rfl) :
    wS X (.For (.Tuple [.Name x px, .Name y py] kk pt) (.Call (.Name "enumerate" p) [a] [] cp) body [] pos) ⟨nx, rt, bk, ct⟩ σ H := by
  refine s_of (ps_for I.never hc (pi_enum (I.g hG) hm (pa_cons pe pa_nil hs1) hs) (pg_tup hc (pgs_cons (pg_name I.nd (I.hi hA) (I.loc hA) I.f) (pgs_cons (pg_name I.nd (I.hi hB) (I.loc hB) I.f) pgs_nil))) pl hs2) (e_mono q fun v H1 q1 => ?_)
  obtain ⟨va, xs, rfl, sx, Pv, h0, hk, hb, hd⟩ := q1
  refine ⟨va, xs, rfl, sx, fun k m σ H => m = xs.length - k ∧ k ≤ xs.length ∧ Pv k σ H, ⟨_, rfl, Nat.zero_le _, h0⟩, ?_⟩
  rintro k m σ H ⟨rfl, hle, pv⟩
  have tx := hk k σ H hle pv
  by_cases lt : k < xs.length
  · refine .inr ⟨⟨xs, xs[k], tx, List.getElem?_eq_getElem lt⟩, Pv (k + 1), fun σ' H' p' => ⟨_, by omega, rfl, lt, p'⟩, fun w H' yl => ?_⟩
    obtain ⟨T, u1, rfl, nT, rfl, y1⟩ := yl
    exact ⟨T, [.int (k : Nat), u1], rfl, SqT.of upd_same, rfl, .int (k : Nat), [u1], rfl, u1, [], rfl, rfl, hb k u1 T σ H (y1 xs tx) pv nT⟩
  · have ek : k = xs.length := by omega
    subst ek
    refine .inl ⟨⟨xs, tx, by omega⟩, hd σ H pv⟩
theorem cr_range1 : CallR X (.type "range") (fun vs H Q => ∃ j, vs = [V.int j] ∧ ∀ p, H p = none → Q (.ref p) (upd H p (.rng 0 j))) := by
  intro pins s σ H vs us Q I r h
  obtain ⟨j, rfl, q⟩ := h
  cases r with
  | cons r1 rr =>
    cases rr
    obtain ⟨t, rfl⟩ := r1
    exact call_range_1 ⟨.ref s.heap.objs.size, upd H s.heap.objs.size (.rng 0 j), I.laid (t' := s.toks + 1 + 1) (fun b o e => Heap.get?_push_of_some _ e) (Nat.le_refl _) ⟨_, _, _, Heap.get?_push_size _ rfl⟩, rfl, q _ (I.hok.fresh (Nat.le_refl _))⟩
theorem c_rng1 {j : Int} (q : ∀ p, H p = none → Q (.ref p) (upd H p (.rng 0 j))) : wC X (.type "range") [.int j] H Q := c_of cr_range1 ⟨j, rfl, q⟩
def iRngV (tl : TE) : TI := fun σ H R => tl σ H fun x H1 => ∃ ad lo hi, x = .ref ad ∧ H1 ad = some (.rng lo hi) ∧ (-(2 ^ 62) ≤ lo ∧ lo < 2 ^ 62 ∧ -(2 ^ 62) ≤ hi ∧ hi < 2 ^ 62) ∧ R (Itr lo (hi - lo).toNat) H1
/-- a range object that stands -/
theorem pi_rngV {tg l : Expr} {tl : TE} (hl : PE X l tl) : PI X tg l (iRngV tl) := by
  refine ⟨fun pins s σ H R I h => thn (hl.run pins s σ H _ I h) fun v s1 ⟨x, H1, I1, r1, ad, lo, hi, ex, had, ⟨b1, b2, b3, b4⟩, q⟩ => ?_⟩
  subst ex
  cases r1
  obtain ⟨t, u, w, ho⟩ := I1.hok ad _ had
  refine wpAny_pyIter_range (show IsRange s1.heap ad lo hi 1 t u w from ho) (small_one b1 b2 b3 b4) ?_
  refine ⟨s1.heap.objs.size, [s1.heap.objs.size], _, _, H1, rfl, I1.kept (t' := s1.toks) fun b o e => Heap.get?_push_of_some _ e, turn_range _ lo (hi - lo).toNat, ?_, fun b hb => ?_, q⟩
  · have z1 : lo + ((0 : Nat) : Int) * 1 = lo := by simp
    have z2 : (((hi - lo).toNat : Nat) : Int) - ((0 : Nat) : Int) = Builtin.Range.rangeSize lo hi 1 := by rw [rangeSize_one]; split <;> omega
    show IsRangeIter _ _ (lo + ((0 : Nat) : Int) * 1) ((((hi - lo).toNat : Nat) : Int) - ((0 : Nat) : Int)) 1
    rw [z1, z2]
    exact Heap.get?_push_size _ rfl
  · obtain rfl : b = s1.heap.objs.size := by simpa using hb
    exact I1.fpOk (Nat.le_refl _) (I1.hok.fresh (Nat.le_refl _))
/-- [elt for x in a], a holds range(n) -/
theorem e_lcRv {i : Nat} {x : Str} {px : Pos} (B : BkOk X.N Vn G' i x sc scope)
    (q : wE X a σ H fun v H1 => ∃ (ad : Addr) (n : Nat), v = .ref ad ∧ H1 ad = some (.rng 0 n) ∧ n < 2 ^ 62 ∧ ∀ D, H1 D = none → LcR X Vn G' elt scope i n D σ H1 fun H2 => Q (.ref D) H2)
    (I : In X N G sc := by assumption) (hc : X.calm = true := by rfl) (hs2 : ∀ z, foldedSetIterable a X.env z = pure z := by intro _; rfl) :
    wE X (.ListComp elt [⟨.Name x px, a, [], 0⟩] scope pos) σ H Q := by
  refine e_of (pe_lc (own := [(x, i)]) (g := gName i) (tt := tYes) (te := wBk X Vn G' elt scope) hc I.nd (pi_rngV pe) (B.ok I) (fun s H C cl fp => B.pg I s H C cl fp) (fun _ _ _ _ _ => pts_nil) (fun s H C cl fp => pe_bk (B.inB I s H C cl fp)) hs2) (e_mono q fun v H1 q1 => ?_)
  obtain ⟨ad, n, rfl, had, hn, q2⟩ := q1
  refine ⟨ad, 0, n, rfl, had, ⟨by omega, by omega, by omega, by omega⟩, ?_⟩
  rw [Int.sub_zero, Int.toNat_natCast]
  exact fun D hD => lcR_of (q2 D hD)
theorem c_allL {l : Addr} {bs : List Bool} (hc : X.calm = true) (h : SqL X.K H l (bs.map V.bl)) (q : Q (.bl (bs.all id)) H) : wC X (.builtin "all") [.ref l] H Q := c_of (cr_all hc) ⟨l, bs, rfl, h, q⟩
theorem b_all : bootBuiltins "all" = some (.builtin "all") := by decide +kernel
theorem b_range : bootBuiltins "range" = some (.type "range") := by decide +kernel
/-- list(range(a)) -/
theorem e_listRg {g g2 : Nat} {p p2 cp cp2 : Pos} (hm : X.mg "list" = none) (hm2 : X.mg "range" = none) (q : wE X a σ H fun v H1 => ∃ n : Nat, v = .int n ∧ n ≤ 100000 ∧ ∀ l, H1 l = none → Q (.ref l) (upd H1 l (.lst ((List.range n).map fun (k : Nat) => V.int (k : Int)))))
    (I : In X N G sc := by assumption) (hc : X.calm = true := by rfl) (hG : At G g ("list" : Str) := by repeat (first | with_reducible apply At.z | with_reducible apply At.s)) (hG2 : At G g2 ("range" : Str) := by repeat (first | with_reducible apply At.z | with_reducible apply At.s))
    (hs : starEach [a] X.env = (false, eval a X.env) :: starEach [] X.env := by rfl) (na : starEach [.Call (.Name "range" p2) [a] [] cp2] X.env = (false, eval (.Call (.Name "range" p2) [a] [] cp2) X.env) :: starEach [] X.env := by rfl) :
    wE X (.Call (.Name "list" p) [.Call (.Name "range" p2) [a] [] cp2] [] cp) σ H Q := by
  refine e_of (pe_listRg hc (I.g hG) hm (prg_1 (I.g hG2) hm2 pe hs) na) (e_mono q fun v H1 q1 => ?_)
  obtain ⟨n, rfl, hn, q2⟩ := q1
  refine ⟨n, rfl, ⟨by omega, by omega, by omega, by omega, by omega⟩, fun l nl => ?_⟩
  have := q2 l nl
  have e : rgV 0 (n : Int) = (List.range n).map fun (k : Nat) => V.int (k : Int) := by
    unfold rgV
    simp
  rw [e]
  exact this
end
/-! ### dicts of lists of numbers -/
abbrev iV (l : List Int) : List V := l.map V.int
theorem dp_ints {K : PySem.W.Frag} {H : Hp} : ∀ l : List Int, DpAll K H (iV l) (l.map PyData.int)
  | [] => .nil
  | i :: l => .cons (.int i) (dp_ints l)
theorem depth_ints : ∀ l : List Int, PyData.depthAll (l.map PyData.int) = 0
  | [] => rfl
  | _ :: l => by show max 0 (PyData.depthAll _) = 0; rw [depth_ints l]; rfl
/-! ### a class whose making may raise -/
section
variable {P : Program} {w : World} {K : PySem.W.Frag} {mg : Str → Option Value} {base : Heap}
theorem me_okN {x qual : Str} {C : Addr} {st : Stmt} {N D G ps : List Str} {k : Nat} {sp : Sp} (T : TopM K C x qual st) (S : FnScope (N ++ D) ps (defScope st)) (O : ScOk N G (defScope st)) (len : ∀ vs H Q E, sp vs H Q E → vs.length = ps.length)
    (hb : ∀ (kV doc pm : Value) (an : Option Addr) (cdv ct : Value) (us : List Value), us.length = ps.length → bindArgs (PySem.W.fnOf x qual (defArgs st) (defBody st) (defScope st) .none kV doc pm an cdv ct) ⟨us, []⟩ = pure (ps.zip us))
    (hbody : ∀ (f : Addr) (cdv : Value) (A : Around) (outer : List Env) (s : Shared) (H : Hp) (vs : List V) (Q : VK) (E : XK), Room k (A.deeper (envOfC qual (defScope st) s.heap.objs.size f cdv)) → sp vs H Q E → In (cxOf (L2N.CX P w) P w K mg base (N ++ D) qual (defScope st) f cdv A outer s H E) N G (defScope st) →
      L2N.Takes (cxOf (L2N.CX P w) P w K mg base (N ++ D) qual (defScope st) f cdv A outer s H E) (fun cls d _ H => E cls d H) →
      wL (cxOf (L2N.CX P w) P w K mg base (N ++ D) qual (defScope st) f cdv A outer s H E) (defBody st) { nx := fun _ H' => Q .non H', rt := Q } (start (N ++ D) vs) H) :
    ∃ (f : Addr) (fd : FuncData), FnOk P w K mg base (L2N.CX P w) (k + 1) f fd ps sp ∧ Binds K fd ps [] ∧ PySem.W.findIn K (.ref C) x = some (some (.ref f)) ∧ PySem.W.isFn K (.ref f) = true ∧ PySem.W.keepIn K (.ref f) = true := by
  obtain ⟨f, fd, F, hf, hi⟩ := T.ex
  obtain ⟨oc, od, kV, doc, pm, an, cdv, ct, osl, rfl, lk, hcd⟩ := id F.ex
  exact ⟨f, _, fn_of lk hcd S len (fun A outer s H vs Q E hr h => ⟨_, pl, hbody f cdv A outer s H vs Q E hr h ⟨O, ⟨D, rfl⟩, S.nd, rfl, rfl, passes_of rfl⟩ (L2N.takes_of rfl rfl rfl rfl)⟩), F.binds hb, hf, hi, F.kp⟩
structure KlN (P : Program) (w : World) (K : PySem.W.Frag) (mg : Str → Option Value) (base : Heap) (k : Nat) (x : Str) (C : Addr) (sp : Sp) : Prop where
  ex : ∃ (f : Addr) (fd : FuncData) (ps : List Str), FnOk P w K mg base (L2N.CX P w) k f fd ps sp ∧ mg x = some (.ref C) ∧ Mk K C f ∧ Binds K fd ps []
theorem cx_weak {outer : List Env} {H : Hp} {s s' : Shared} {E E' : XK} {u : Value} (h : L2N.CX P w outer H s E u s') (m : ∀ cls d H, E cls d H → E' cls d H) : L2N.CX P w outer H s E' u s' := by
  obtain ⟨a, B, H', cls, d, h1, h2, h3, h4, h5, h6, h7, h8⟩ := h
  exact ⟨a, B, H', cls, d, h1, h2, h3, h4, h5, h6, h7, m _ _ _ h8⟩
end
section
variable {X : Cx} {e : Expr} {es : List Expr} {pos p0 : Pos} {σ : L2.St} {H : Hp} {Q : VK} {N G : List Str} {sc : Scope}
theorem e_makeN {g k n : Nat} {x : Str} {C : Addr} {sp : Sp} {W : WX} (F : KlN X.prog X.w X.K X.mg X.base k x C sp) (tk : L2N.Takes X W) (hr : Room n X.A) (hk : k + 1 ≤ n)
    (q : wA X (e :: es) σ H fun vs H1 => ∀ x dx, H1 x = none → H1 dx = none → dx ≠ x → sp (.ref x :: vs) (upd (upd H1 dx (.own x)) x (.ins C dx [])) (fun v H2 => v = .non ∧ Q (.ref x) H2) (fun cls d H' => ∀ σ' : L2.St, σ'.length = X.N.length → W cls d σ' H'))
    (I : In X N G sc := by assumption) (hG : At G g x := by repeat (first | with_reducible apply At.z | with_reducible apply At.s)) (he : starEach (e :: es) X.env = (false, eval e X.env) :: starEach es X.env := by rfl) (hpl : (backTo pos (starEach es X.env)).any (·.1) = false := by rfl) : wE X (.Call (.Name x p0) (e :: es) [] pos) σ H Q := by
  obtain ⟨f, fd, ps, F0, hm, M, hb⟩ := F.ex
  have hx : Passes (L2N.CX X.prog X.w) X (fun cls d H' => ∀ σ' : L2.St, σ'.length = X.N.length → W cls d σ' H') := fun pins σ' H s e s' I0 c => L2N.passAt tk σ' pins H s e s' I0 (cx_weak c fun cls d H z => z σ' I0.len)
  refine e_of (pe_make M F0 (hr.mono hk) (I.g hG) hm hb .nil hx pa (I.gd hG) he hpl) ?_
  show wA X (e :: es) σ H fun vs H1 => ∀ x dx, H1 x = none → H1 dx = none → dx ≠ x → sp (.ref x :: (vs ++ [])) (upd (upd H1 dx (.own x)) x (.ins C dx [])) (fun v H2 => v = .non ∧ Q (.ref x) H2) _
  simp only [List.append_nil]
  exact q
end
/-! ### len of an instance whose class has its own __len__ -/
section
variable {X : Cx} {σ : L2.St} {H : Hp}
/-- for x in range(a, b), a below b + 1 -/
theorem s_forR12 {nx : L2.St → Hp → Prop} {rt : VK} {bk ct : L2.St → Hp → Prop} {g : Nat} {N G : List Str} {sc : Scope} {x : Str} {i : Nat} {a b : Expr} {body : List Stmt} {px p cp pos : Pos} (hm : X.mg "range" = none)
    (q : wE X a σ H fun v H1 => wE X b σ H1 fun u H2 => ∃ lo n : Nat, v = .int (lo : Int) ∧ u = .int ((lo + n : Nat) : Int) ∧ lo + n < 2 ^ 62 ∧ ∃ Pv : Nat → L2.St → Hp → Prop, Pv 0 σ H2 ∧ (∀ k σ H, k < n → Pv k σ H → wL X body ⟨Pv (k + 1), rt, nx, Pv (k + 1)⟩ (σ.set i (some (.int ((lo + k : Nat) : Int)))) H) ∧ ∀ σ H, Pv n σ H → nx σ H)
    (I : In X N G sc := by assumption) (hc : X.calm = true := by rfl) (hA : At N i x := by repeat (first | with_reducible apply At.z | with_reducible apply At.s))
    (hG : At G g ("range" : Str) := by repeat (first | with_reducible apply At.z | with_reducible apply At.s)) (hs : starEach [a, b] X.env = [(false, eval a X.env), (false, eval b X.env)] := by rfl) (hsb : starEach [b] X.env = [(false, eval b X.env)] := by rfl)
    (hs2 : ∀ z, foldedSetIterable (.Call (.Name "range" p) [a, b] [] cp) X.env z = pure z := by intro _; rfl)
    (h1 : starEach (a :: [b]) X.env = (false, eval a X.env) :: starEach [b] X.env := by rfl) (h2 : starEach (b :: []) X.env = (false, eval b X.env) :: starEach [] X.env := by rfl) :
    wS X (.For (.Name x px) (.Call (.Name "range" p) [a, b] [] cp) body [] pos) ⟨nx, rt, bk, ct⟩ σ H := by
  refine s_of (ps_for I.never hc (pi_range2 (I.g hG) hm (pa_cons pe (pa_cons pe pa_nil h2) h1) hs hsb) (pg_name I.nd (I.hi hA) (I.loc hA) I.f) pl hs2) (e_mono q fun v H1 q1 => e_mono q1 fun u H2 q2 => ?_)
  obtain ⟨lo, n, rfl, rfl, hn, Pv, h0, hb, hd⟩ := q2
  refine ⟨(lo : Int), ((lo + n : Nat) : Int), rfl, ⟨by omega, by omega, by omega, by omega⟩, ?_⟩
  rw [show (((lo + n : Nat) : Int) - (lo : Int)).toNat = n by omega]
  refine for_range (n := n) Pv h0 (fun k σ H hk p => ?_) hd
  have := hb k σ H hk p
  rwa [show ((lo + k : Nat) : Int) = (lo : Int) + (k : Int) by omega] at this
theorem o_bor {X : Cx} {H : Hp} {Q : VK} {i j : Int} (q : Q (.int (Builtin.bitOr i j)) H) : wB X .BitOr (.int i) (.int j) H Q := b_of op_or ⟨i, j, rfl, rfl, q⟩
end
end Wk

/-! str of plain lists and tuples: it asks what is under way below (A.guards), so a def that shows them is promised where nothing is: FnG. -/
namespace Wk
open PySem PySem.Spec PyProof.Rows L2
section
variable {X : Cx} {H : Hp} {Q : VK}
end
end Wk
namespace Wk
open PySem PySem.Spec PyProof.Rows L2
section
variable {P : Program} {w : World} {K : PySem.W.Frag} {mg : Str → Option Value} {base : Heap}
/-- a def that is promised where nothing is being shown below -/
structure FnG (P : Program) (w : World) (K : PySem.W.Frag) (mg : Str → Option Value) (base : Heap) (k : Nat) (f : Addr) (fd : FuncData) (ps : List Str) (sp : Sp) : Prop where
  len : ∀ vs H Q E, sp vs H Q E → vs.length = ps.length
  run : ∀ (A : Around) (outer : List Env) (s : Shared) (H : Hp) (args : Args) (us : List Value) (vs : List V) (Q : VK) (E : XK), A.guards = some [] → Room k A → Env0 P w K mg base A outer s H → BindsTo s fd args (ps.zip us) → Vals vs us → sp vs H Q E →
    codeAny (model P w) A (.call (.ref f) args) (CR CX0 outer P w H s Q E) s
end
end Wk
namespace Wk
open PySem PySem.Spec PyProof.Rows L2
section
variable {X : Cx}
end
end Wk
namespace Wk
open PySem PySem.Spec PyProof.Rows L2
section
variable {P : Program} {w : World} {K : PySem.W.Frag}
end
end Wk

set_option maxHeartbeats 4000000
/-! My own layer: a def that hands out, walked by a loop: while it sleeps its consumer works. The generator's run is told over a family of contexts; the consumer tells at each wake what it did. -/
namespace Wk
open PySem PySem.Spec PyProof.Rows L2 GenW
section
variable {ι : Type} {𝒳 : ι → Cx} {P : Program} {w : World} {env : Env} {AX : Around} {xe : Value → Shared → Prop} {Pp : List (Addr × Obj) → Prop} {Wy : Nat → L2.V → Hp → Prop} {Wr : L2.V → Hp → Hp → Prop}
structure HC (AX A : Around) (c : Code) (fs : List Frame) (gd : Bool → Bool) : Prop where
  over : A.over c fs = AX
  split : splitAtGen fs = none
  guard : fs.any Frame.guarded = false
  gd : gd false = false
variable {st : Stmt} {rest : List Stmt}
end

/-! ### by the weakest readings, in every context of the family -/
section
variable {ι : Type} {𝒳 : ι → Cx} {P : Program} {w : World} {env : Env} {AX : Around} {xe : Value → Shared → Prop} {Pp : List (Addr × Obj) → Prop} {Wy : Nat → L2.V → Hp → Prop} {Wr : L2.V → Hp → Hp → Prop} {st : Stmt} {rest : List Stmt}
end
/-! ### the def -/
section
variable {P : Program} {w : World} {K : PySem.W.Frag} {mg : Str → Option Value} {base : Heap} {N : List Str} {qual : Str} {scope : Scope} {f : Addr} {cd : Value} {A : Around} {outer : List Env} {n0 : Nat} {pn : List (Addr × Obj)}
end
/-- a promise: the arguments, the heap at the first wake, what goes out, what the consumer does, the end -/
abbrev SpH := List L2.V → Hp → (Nat → L2.V → Hp → Prop) → (L2.V → Hp → Hp → Prop) → (Nat → Hp → Prop) → Prop
end Wk

set_option maxHeartbeats 4000000
/-! My own layer: a list comprehension with a test over a def that hands out pairs. -/
namespace Wk
open PySem PySem.Spec PyProof.Rows L2 GenW
section
variable {Xg : Cx} {A : Around} {E : Value → Shared → Prop} {cenv : Env} {a C D T : Addr} {x y lit : Str} {nm : Str} {u : L2.V} {us : List L2.V} {H : Hp} {σ : L2.St} {s : Shared} {oC : Obj}
end
section
variable {X : Cx} {k : Nat} {f : Addr} {fd : FuncData} {ps : List Str} {Ng : List Str} {qual : Str} {scg : Scope} {cdg : Value} {sp : SpH}
end
section
variable {X : Cx} {arg : Expr} {σ : L2.St} {H : Hp} {Q : VK} {N G G' : List Str} {Vn : List (Nat × Str)} {sc scope : Scope}
end
end Wk

set_option maxHeartbeats 4000000
/-! My own layer: a loop of a def over a def that hands out pairs, with a test of the second that ends it. The consumer's own names are stored while the generator sleeps: at each wake its run is told from a snapshot. -/
namespace Wk
open PySem PySem.Spec PyProof.Rows L2 GenW
section
variable {X : Cx} {k : Nat} {f : Addr} {fd : FuncData} {ps : List Str} {Ng : List Str} {qual : Str} {scg : Scope} {cdg : Value} {sp : SpH}
end
section
variable {X : Cx} {arg : Expr} {σ : L2.St} {H : Hp} {N G : List Str} {sc : Scope}
end
end Wk

set_option maxHeartbeats 4000000
/-! My own layer: comprehensions inside of comprehensions, comprehensions over zip, a loop over zip that unpacks triples, not of a list, methods that raise, errors without own __init__. -/
namespace Wk
open PySem PySem.Spec PyProof.Rows L2
/-- where a block's scope stands in -/
structure Sc (X : Cx) (sc : Scope) : Prop where
  nd : X.N.Nodup
  sc : X.env.scope = sc
section
variable {X : Cx} {e a b c elt o : Expr} {es rest : List Expr} {σ : L2.St} {H : Hp} {Q : VK} {pos p0 apos : Pos} {N G G' : List Str} {Vn : List (Nat × Str)} {sc scope : Scope}
theorem In.s (I : In X N G sc) : Sc X sc := ⟨I.nd, I.sc⟩
theorem Sc.bk (S : Sc X sc) {s : Shared} {H : Hp} {C : Addr} {cl : List (Str × Addr)} {fp : List Addr} : Sc (Bk X s H scope C cl fp) (relS scope sc) := ⟨S.nd, rel_eq S.sc C cl⟩
theorem BkOk.inS {i : Nat} {x : Str} (B : BkOk X.N Vn G' i x sc scope) (I : Sc X sc) (s : Shared) (H : Hp) (C : Addr) (cl : List (Str × Addr)) (fp : List Addr) : InB (Bk X s H scope C cl fp) Vn G' := by
  have e : (compEnvC scope cl C X.env).scope = relS scope sc := rel_eq I.sc C cl
  refine ⟨I.nd, fun p hp => ?_, fun y hy => ?_⟩
  · obtain ⟨h1, h2, h3, h4⟩ := B.lo p hp
    exact ⟨h1, by show Vis (compEnvC scope cl C X.env).scope p.2; rw [e]; exact h2, h3, h4⟩
  · obtain ⟨h1, h2, h3⟩ := B.gl y hy
    exact ⟨by show (compEnvC scope cl C X.env).scope.names.lookup y = _; rw [e]; exact h1, h2, h3⟩
theorem BkOk.pgS {i : Nat} {x : Str} {px : Pos} (B : BkOk X.N Vn G' i x sc scope) (I : Sc X sc) (s : Shared) (H : Hp) (C : Addr) (cl : List (Str × Addr)) (fp : List Addr) : PG (Bk X s H scope C cl fp) (.Name x px) (gName i) := by
  have e : (compEnvC scope cl C X.env).scope = relS scope sc := rel_eq I.sc C cl
  have l : (Bk X s H scope C cl fp).env.scope.names.lookup x = some .local := by
    show (compEnvC scope cl C X.env).scope.names.lookup x = _
    rw [e]
    exact B.own.2
  exact pg_name I.nd B.own.1 (.inl l) (.inr l)
theorem BkOk.okS {i : Nat} {x : Str} (B : BkOk X.N Vn G' i x sc scope) (I : Sc X sc) : BlkOk X.N X.env.scope scope [(x, i)] := by
  rw [I.sc]
  exact blkOk_by B.blk
/-- a block whose own name is captured by a block inside of it -/
structure BkOkC (N : List Str) (Vn : List (Nat × Str)) (G : List Str) (i : Nat) (x : Str) (sc scope : Scope) : Prop where
  lo : ∀ p ∈ Vn, N[p.1]? = some p.2 ∧ Vis (relS scope sc) p.2 ∧ (p.2 == ("__debug__" : Str)) = false ∧ (p.2 == ("__classdict__" : Str)) = false
  gl : ∀ x ∈ G, (relS scope sc).names.lookup x = some .globalImplicit ∧ (x == ("__debug__" : Str)) = false ∧ x ≠ "__name__"
  own : N[i]? = some x ∧ (relS scope sc).names.lookup x = some .cell
  cel : (scope.names.lookup x == some .cell) = true
  blk : blkC N sc scope [(x, i)] = true
theorem BkOkC.inS {i : Nat} {x : Str} (B : BkOkC X.N Vn G' i x sc scope) (I : Sc X sc) (s : Shared) (H : Hp) (C : Addr) (cl : List (Str × Addr)) (fp : List Addr) : InB (Bk X s H scope C cl fp) Vn G' := by
  have e : (compEnvC scope cl C X.env).scope = relS scope sc := rel_eq I.sc C cl
  refine ⟨I.nd, fun p hp => ?_, fun y hy => ?_⟩
  · obtain ⟨h1, h2, h3, h4⟩ := B.lo p hp
    exact ⟨h1, by show Vis (compEnvC scope cl C X.env).scope p.2; rw [e]; exact h2, h3, h4⟩
  · obtain ⟨h1, h2, h3⟩ := B.gl y hy
    exact ⟨by show (compEnvC scope cl C X.env).scope.names.lookup y = _; rw [e]; exact h1, h2, h3⟩
theorem BkOkC.pgS {i : Nat} {x : Str} {px : Pos} (B : BkOkC X.N Vn G' i x sc scope) (I : Sc X sc) (s : Shared) (H : Hp) (C : Addr) (cl : List (Str × Addr)) (fp : List Addr) : PG (Bk X s H scope C cl fp) (.Name x px) (gName i) := by
  have e : (compEnvC scope cl C X.env).scope = relS scope sc := rel_eq I.sc C cl
  have l : (Bk X s H scope C cl fp).env.scope.names.lookup x = some .cell := by
    show (compEnvC scope cl C X.env).scope.names.lookup x = _
    rw [e]
    exact B.own.2
  exact pg_name I.nd B.own.1 (.inr l) (.inl B.cel)
theorem BkOkC.okS {i : Nat} {x : Str} (B : BkOkC X.N Vn G' i x sc scope) (I : Sc X sc) : BlkOk X.N X.env.scope scope [(x, i)] := by
  rw [I.sc]
  exact blkOk_by B.blk
theorem e_lcLC {i : Nat} {x : Str} {px : Pos} (B : BkOkC X.N Vn G' i x sc scope)
    (q : wE X a σ H fun v H1 => ∃ ad xs, v = .ref ad ∧ SqL X.K H1 ad xs ∧ ∀ D, H1 D = none → LcL X Vn G' elt scope i ad xs D σ H1 fun H2 => Q (.ref D) H2)
    (I : In X N G sc := by assumption) (hc : X.calm = true := by rfl) (hs2 : ∀ z, foldedSetIterable a X.env z = pure z := by intro _; rfl) :
    wE X (.ListComp elt [⟨.Name x px, a, [], 0⟩] scope pos) σ H Q := by
  refine e_of (pe_lc (own := [(x, i)]) (g := gName i) (tt := tYes) (te := wBk X Vn G' elt scope) hc I.nd (pi_list pe) (B.okS I.s) (fun s H C cl fp => B.pgS I.s s H C cl fp) (fun _ _ _ _ _ => pts_nil) (fun s H C cl fp => pe_bk (B.inS I.s s H C cl fp)) hs2) (e_mono q fun v H1 q1 => ?_)
  obtain ⟨ad, xs, rfl, hl, q2⟩ := q1
  exact ⟨ad, rfl, ⟨xs, hl⟩, fun D hD => lcL_of (q2 D hD)⟩
theorem e_lcRC {i g : Nat} {x : Str} {px p cp : Pos} (B : BkOkC X.N Vn G' i x sc scope) (hm : X.mg "range" = none)
    (q : wE X a σ H fun v H1 => ∃ n : Nat, v = .int n ∧ n < 2 ^ 62 ∧ ∀ D, H1 D = none → LcR X Vn G' elt scope i n D σ H1 fun H2 => Q (.ref D) H2)
    (I : In X N G sc := by assumption) (hc : X.calm = true := by rfl) (hG : At G g ("range" : Str) := by repeat (first | with_reducible apply At.z | with_reducible apply At.s)) (hs : starEach [a] X.env = [(false, eval a X.env)] := by rfl) (hs2 : ∀ z, foldedSetIterable (.Call (.Name "range" p) [a] [] cp) X.env z = pure z := by intro _; rfl)
    (hs1 : starEach (a :: []) X.env = (false, eval a X.env) :: starEach [] X.env := by rfl) :
    wE X (.ListComp elt [⟨.Name x px, .Call (.Name "range" p) [a] [] cp, [], 0⟩] scope pos) σ H Q := by
  refine e_of (pe_lc (own := [(x, i)]) (g := gName i) (tt := tYes) (te := wBk X Vn G' elt scope) hc I.nd (pi_range1 (I.g hG) hm (pa_cons pe pa_nil hs1) hs) (B.okS I.s) (fun s H C cl fp => B.pgS I.s s H C cl fp) (fun _ _ _ _ _ => pts_nil) (fun s H C cl fp => pe_bk (B.inS I.s s H C cl fp)) hs2) (e_mono q fun v H1 q1 => ?_)
  obtain ⟨n, rfl, hn, q2⟩ := q1
  refine ⟨(n : Int), rfl, by omega, by omega, ?_⟩
  rw [Int.toNat_natCast]
  exact fun D hD => lcR_of (q2 D hD)
/-- [elt for x in a], a list, inside of a block -/
theorem n_lcL {i : Nat} {x : Str} {px : Pos} (S : Sc X sc) (B : BkOk X.N Vn G' i x sc scope)
    (q : wE X a σ H fun v H1 => ∃ ad xs, v = .ref ad ∧ SqL X.K H1 ad xs ∧ ∀ D, H1 D = none → LcL X Vn G' elt scope i ad xs D σ H1 fun H2 => Q (.ref D) H2)
    (hc : X.calm = true := by rfl) (hs2 : ∀ z, foldedSetIterable a X.env z = pure z := by intro _; rfl) :
    wE X (.ListComp elt [⟨.Name x px, a, [], 0⟩] scope pos) σ H Q := by
  refine e_of (pe_lc (own := [(x, i)]) (g := gName i) (tt := tYes) (te := wBk X Vn G' elt scope) hc S.nd (pi_list pe) (B.okS S) (fun s H C cl fp => B.pgS S s H C cl fp) (fun _ _ _ _ _ => pts_nil) (fun s H C cl fp => pe_bk (B.inS S s H C cl fp)) hs2) (e_mono q fun v H1 q1 => ?_)
  obtain ⟨ad, xs, rfl, hl, q2⟩ := q1
  exact ⟨ad, rfl, ⟨xs, hl⟩, fun D hD => lcL_of (q2 D hD)⟩
theorem n_lcLf {i : Nat} {x : Str} {px : Pos} (S : Sc X sc) (B : BkOk X.N Vn G' i x sc scope)
    (q : wE X a σ H fun v H1 => ∃ ad xs, v = .ref ad ∧ SqL X.K H1 ad xs ∧ ∀ D, H1 D = none → LcLf X Vn G' elt c scope i ad xs D σ H1 fun H2 => Q (.ref D) H2)
    (hc : X.calm = true := by rfl) (hs2 : ∀ z, foldedSetIterable a X.env z = pure z := by intro _; rfl) :
    wE X (.ListComp elt [⟨.Name x px, a, [c], 0⟩] scope pos) σ H Q := by
  refine e_of (pe_lc (own := [(x, i)]) (g := gName i) (tt := wBkT X Vn G' c scope) (te := wBk X Vn G' elt scope) hc S.nd (pi_list pe) (B.okS S) (fun s H C cl fp => B.pgS S s H C cl fp) (fun s H C cl fp => pts_bk (B.inS S s H C cl fp)) (fun s H C cl fp => pe_bk (B.inS S s H C cl fp)) hs2) (e_mono q fun v H1 q1 => ?_)
  obtain ⟨ad, xs, rfl, hl, q2⟩ := q1
  exact ⟨ad, rfl, ⟨xs, hl⟩, fun D hD => lcLf_of (q2 D hD)⟩
/-- [elt for x in a if c], a holds range(n) -/
theorem e_lcRvf {i : Nat} {x : Str} {px : Pos} (B : BkOk X.N Vn G' i x sc scope)
    (q : wE X a σ H fun v H1 => ∃ (ad : Addr) (n : Nat), v = .ref ad ∧ H1 ad = some (.rng 0 n) ∧ n < 2 ^ 62 ∧ ∀ D, H1 D = none → LcRf X Vn G' elt c scope i n D σ H1 fun H2 => Q (.ref D) H2)
    (I : In X N G sc := by assumption) (hc : X.calm = true := by rfl) (hs2 : ∀ z, foldedSetIterable a X.env z = pure z := by intro _; rfl) :
    wE X (.ListComp elt [⟨.Name x px, a, [c], 0⟩] scope pos) σ H Q := by
  refine e_of (pe_lc (own := [(x, i)]) (g := gName i) (tt := wBkT X Vn G' c scope) (te := wBk X Vn G' elt scope) hc I.nd (pi_rngV pe) (B.ok I) (fun s H C cl fp => B.pg I s H C cl fp) (fun s H C cl fp => pts_bk (B.inB I s H C cl fp)) (fun s H C cl fp => pe_bk (B.inB I s H C cl fp)) hs2) (e_mono q fun v H1 q1 => ?_)
  obtain ⟨ad, n, rfl, had, hn, q2⟩ := q1
  refine ⟨ad, 0, n, rfl, had, ⟨by omega, by omega, by omega, by omega⟩, ?_⟩
  rw [Int.sub_zero, Int.toNat_natCast]
  exact fun D hD => lcRf_of (q2 D hD)
/-- not a, by its truth -/
theorem e_notT (q : wE X a σ H fun x H1 => ∃ k, TruV X.K x H1 k ∧ Q (.bl (!k)) H1) : wE X (.UnaryOp .Not a pos) σ H Q := e_of (pe_notT pe) q
/-- [elt for x, y in zip(a, b)] -/
def LcZ (X : Cx) (Vn : List (Nat × Str)) (G' : List Str) (c d : Side) (elt : Expr) (scope : Scope) (i j : Nat) (va vb : Addr) (xs ys : List L2.V) (D : Addr) (σ : L2.St) (H1 : Hp) (Qd : Hp → Prop) : Prop := ∃ Pv : Nat → Hp → Prop, Pv 0 (upd H1 D (.lst [])) ∧ (∀ k H2, k ≤ min xs.length ys.length → Pv k H2 → c.sq X.K H2 va xs ∧ d.sq X.K H2 vb ys) ∧
  (∀ k u1 u2 T H2, xs[k]? = some u1 → ys[k]? = some u2 → Pv k H2 → H2 T = none → ∀ s0 H0 C cl fp, InB (Bk X s0 H0 scope C cl fp) Vn G' → wE (Bk X s0 H0 scope C cl fp) elt (((wipe σ [i, j]).set i (some u1)).set j (some u2)) (upd H2 T (.tup [u1, u2])) fun y H4 => ∃ acc, H4 D = some (.lst acc) ∧ acc.length < sizeLine ∧ Pv (k + 1) (upd H4 D (.lst (acc ++ [y])))) ∧
  ∀ H2, Pv (min xs.length ys.length) H2 → Qd H2
theorem e_lcZ (cs ds : Side) {i j g : Nat} {x y : Str} {px py pt p cp : Pos} {kt : Nat} (B : BkOk2 X.N Vn G' i j x y sc scope) (hm : X.mg "zip" = none)
    (q : wE X a σ H fun v H1 => wE X b σ H1 fun u H2 => ∃ va vb xs ys, v = .ref va ∧ u = .ref vb ∧ cs.sq X.K H2 va xs ∧ ds.sq X.K H2 vb ys ∧ ∀ D, H2 D = none → LcZ X Vn G' cs ds elt scope i j va vb xs ys D σ H2 fun H3 => Q (.ref D) H3)
    (I : In X N G sc := by assumption) (hc : X.calm = true := by rfl) (hG : At G g ("zip" : Str) := by repeat (first | with_reducible apply At.z | with_reducible apply At.s)) (hs : starEach [a, b] X.env = (false, eval a X.env) :: starEach [b] X.env := by rfl) (hpl : (backTo cp (starEach [b] X.env)).any (·.1) = false := by rfl)
    (hs1 : starEach (b :: []) X.env = (false, eval b X.env) :: starEach [] X.env := by rfl) (hs2 : ∀ z, foldedSetIterable (.Call (.Name "zip" p) [a, b] [] cp) X.env z = pure z := by intro _; rfl) :
    wE X (.ListComp elt [⟨.Tuple [.Name x px, .Name y py] kt pt, .Call (.Name "zip" p) [a, b] [] cp, [], 0⟩] scope pos) σ H Q := by
  refine e_of (pe_lc (own := [(x, i), (y, j)]) (g := gT2 X.K i j) (tt := tYes) (te := wBk X Vn G' elt scope) hc I.nd (pi_zipM (c := cs) (d := ds) (I.g hG) hm (pa_cons pe (pa_cons pe pa_nil hs1) hs) hs hpl) (B.ok I) (fun s H C cl fp => B.pg hc I s H C cl fp) (fun _ _ _ _ _ => pts_nil) (fun s H C cl fp => pe_bk (B.inB I s H C cl fp)) hs2) (e_mono q fun v H1 q1 => e_mono q1 fun u H2 q2 => ?_)
  obtain ⟨va, vb, xs, ys, rfl, rfl, sx, sy, q3⟩ := q2
  refine ⟨va, vb, xs, ys, rfl, sx, sy, fun D hD => ?_⟩
  obtain ⟨Pv, h0, hk, hb, hd⟩ := q3 D hD
  refine ⟨fun k m H => m = min xs.length ys.length - k ∧ k ≤ min xs.length ys.length ∧ Pv k H, ⟨_, rfl, Nat.zero_le _, h0⟩, ?_⟩
  rintro k m H ⟨rfl, hle, pv⟩
  obtain ⟨tx, ty⟩ := hk k H hle pv
  by_cases lt : k < min xs.length ys.length
  · have l1 : k < xs.length := by omega
    have l2 : k < ys.length := by omega
    refine .inr ⟨⟨xs, ys, xs[k], ys[k], tx, ty, List.getElem?_eq_getElem l1, List.getElem?_eq_getElem l2⟩, Pv (k + 1), fun H' p' => ⟨_, by omega, rfl, lt, p'⟩, fun w H' yl => ?_⟩
    obtain ⟨T, u1, u2, rfl, nT, rfl, y1, y2⟩ := yl
    refine ⟨T, u1, u2, rfl, SqT.of upd_same, wipe_set2 σ B.ne u1 u2, ?_⟩
    unfold tYes
    refine iteT ?_
    unfold wBk
    exact fun s0 H0 C cl fp I => hb k u1 u2 T H (y1 xs tx) (y2 ys ty) pv nT s0 H0 C cl fp I
  · have ek : k = min xs.length ys.length := by omega
    subst ek
    exact .inl ⟨⟨xs, ys, tx, ty, by omega, by omega, by omega⟩, hd H pv⟩
/-- for (x1, x2, x3), y in zip(a, b) -/
theorem s_forZ3 {nx : L2.St → Hp → Prop} {rt : VK} {bk ct : L2.St → Hp → Prop} (c d : Side) {g : Nat} {x1 x2 x3 y : Str} {i1 i2 i3 j : Nat} {body : List Stmt} {p1 p2 p3 py pt pt2 p cp pos : Pos} {kk kk2 : Nat} (hm : X.mg "zip" = none)
    (q : wE X a σ H fun v H1 => wE X b σ H1 fun u H2 => ∃ va vb xs ys, v = .ref va ∧ u = .ref vb ∧ c.sq X.K H2 va xs ∧ d.sq X.K H2 vb ys ∧ ∃ Pv : Nat → L2.St → Hp → Prop, Pv 0 σ H2 ∧ (∀ k σ H, k ≤ min xs.length ys.length → Pv k σ H → c.sq X.K H va xs ∧ d.sq X.K H vb ys) ∧
      (∀ k u1 u2 T σ H, xs[k]? = some u1 → ys[k]? = some u2 → Pv k σ H → H T = none → ∃ t v1 v2 v3, u1 = .ref t ∧ SqT X.K (upd H T (.tup [u1, u2])) t [v1, v2, v3] ∧ wL X body ⟨Pv (k + 1), rt, nx, Pv (k + 1)⟩ ((((σ.set i1 (some v1)).set i2 (some v2)).set i3 (some v3)).set j (some u2)) (upd H T (.tup [u1, u2]))) ∧ ∀ σ H, Pv (min xs.length ys.length) σ H → nx σ H)
    (I : In X N G sc := by assumption) (hc : X.calm = true := by rfl) (hA1 : At N i1 x1 := by repeat (first | with_reducible apply At.z | with_reducible apply At.s)) (hA2 : At N i2 x2 := by repeat (first | with_reducible apply At.z | with_reducible apply At.s)) (hA3 : At N i3 x3 := by repeat (first | with_reducible apply At.z | with_reducible apply At.s)) (hB : At N j y := by repeat (first | with_reducible apply At.z | with_reducible apply At.s))
    (hG : At G g ("zip" : Str) := by repeat (first | with_reducible apply At.z | with_reducible apply At.s)) (hs : starEach [a, b] X.env = (false, eval a X.env) :: starEach [b] X.env := by rfl) (hpl : (backTo cp (starEach [b] X.env)).any (·.1) = false := by rfl)
    (hs1 : starEach (b :: []) X.env = (false, eval b X.env) :: starEach [] X.env := by rfl) (hs2 : ∀ z, foldedSetIterable (.Call (.Name "zip" p) [a, b] [] cp) X.env z = pure z := by intro _; rfl) :
    wS X (.For (.Tuple [.Tuple [.Name x1 p1, .Name x2 p2, .Name x3 p3] kk2 pt2, .Name y py] kk pt) (.Call (.Name "zip" p) [a, b] [] cp) body [] pos) ⟨nx, rt, bk, ct⟩ σ H := by
  refine s_of (ps_for I.never hc (pi_zipM (c := c) (d := d) (I.g hG) hm (pa_cons pe (pa_cons pe pa_nil hs1) hs) hs hpl) (pg_tup hc (pgs_cons (pg_tup hc (pgs_cons (pg_name I.nd (I.hi hA1) (I.loc hA1) I.f) (pgs_cons (pg_name I.nd (I.hi hA2) (I.loc hA2) I.f) (pgs_cons (pg_name I.nd (I.hi hA3) (I.loc hA3) I.f) pgs_nil)))) (pgs_cons (pg_name I.nd (I.hi hB) (I.loc hB) I.f) pgs_nil))) pl hs2) (e_mono q fun v H1 q1 => e_mono q1 fun u H2 q2 => ?_)
  obtain ⟨va, vb, xs, ys, rfl, rfl, sx, sy, Pv, h0, hk, hb, hd⟩ := q2
  refine ⟨va, vb, xs, ys, rfl, sx, sy, fun k m σ H => m = min xs.length ys.length - k ∧ k ≤ min xs.length ys.length ∧ Pv k σ H, ⟨_, rfl, Nat.zero_le _, h0⟩, ?_⟩
  rintro k m σ H ⟨rfl, hle, pv⟩
  obtain ⟨tx, ty⟩ := hk k σ H hle pv
  by_cases lt : k < min xs.length ys.length
  · have l1 : k < xs.length := by omega
    have l2 : k < ys.length := by omega
    refine .inr ⟨⟨xs, ys, xs[k], ys[k], tx, ty, List.getElem?_eq_getElem l1, List.getElem?_eq_getElem l2⟩, Pv (k + 1), fun σ' H' p' => ⟨_, by omega, rfl, lt, p'⟩, fun w H' yl => ?_⟩
    obtain ⟨T, u1, u2, rfl, nT, rfl, y1, y2⟩ := yl
    obtain ⟨t, v1, v2, v3, rfl, ht, z⟩ := hb k u1 u2 T σ H (y1 xs tx) (y2 ys ty) pv nT
    exact ⟨T, [.ref t, u2], rfl, SqT.of upd_same, rfl, .ref t, [u2], rfl, t, [v1, v2, v3], rfl, ht, rfl, v1, [v2, v3], rfl, v2, [v3], rfl, v3, [], rfl, rfl, u2, [], rfl, rfl, z⟩
  · have ek : k = min xs.length ys.length := by omega
    subst ek
    exact .inl ⟨⟨xs, ys, tx, ty, by omega, by omega, by omega⟩, hd σ H pv⟩
/-! ### errors without own __init__, methods that raise -/
abbrev bmVE : List Value := [.type "ValueError", .type "Exception", .type "BaseException", .type "object"]
structure Ei (K : PySem.W.Frag) (mg : Str → Option Value) (x : Str) (C : Addr) : Prop where
  mgC : mg x = some (.ref C)
  kp : PySem.W.keepIn K (.ref C) = true
  ex : PySem.W.excIn K C bmVE "ValueError.__new__" = true
  sub : PySem.W.subIn K (.ref C) (.type "BaseException") = some true
  ty : PySem.W.typeIn K (.ref C) = some (.type "type")
theorem pmk0N {x : Str} {C : Addr} (R : Ei X.K X.mg x C) (hg : Gl X x) (hdb : (x == ("__debug__" : Str)) = false) : L2N.PMk X (.Call (.Name x p0) [] [] pos) (fun _ H Q => Q (.ref C) none H) := by
  intro pins s σ H Q I h
  refine wpAny_Call_Name_kw (ld_glob I hg R.mgC ?_ hdb)
  refine PySem.W.callWith_K0 I.kIn R.kp ?_
  obtain ⟨bm, N, nm, qn, bs, hdct, sn, sub, ab, col, dd, k0, k1, k2, k3, k5, mN, hC, hN, hni, T⟩ := exc_obj I.kIn R.ex
  refine wpAny_call_exc_subT F.excBase_ValueError T hC hN hni (fun h' e hm => ?_) (Nat.zero_le _)
  exact L2N.mk_of I hm (raises_own R.sub R.ty) h (I.hok.gone hm.new)
/-- raise C() -/
theorem s_raise0 {nx : L2.St → Hp → Prop} {rt : VK} {bk ct : L2.St → Hp → Prop} {g : Nat} {x : Str} {C : Addr} {W : WX} {pos' : Pos} (R : Ei X.K X.mg x C) (tk : L2N.Takes X W) (q : W (.ref C) none σ H)
    (I : In X N G sc := by assumption) (hG : At G g x := by repeat (first | with_reducible apply At.z | with_reducible apply At.s)) (hc : X.calm = true := by rfl) :
    wS X (.Raise (some (.Call (.Name x p0) [] [] pos)) none pos') ⟨nx, rt, bk, ct⟩ σ H :=
  s_of (L2N.ps_raise hc tk (pmk0N R (I.g hG) (I.gd hG))) q
structure MtN (P : Program) (w : World) (K : PySem.W.Frag) (mg : Str → Option Value) (base : Heap) (k : Nat) (C : Addr) (m : Str) (sp : Sp) : Prop where
  ex : ∃ (f : Addr) (fd : FuncData) (ps : List Str), FnOk P w K mg base (L2N.CX P w) k f fd ps sp ∧ Meth K C m f ∧ Binds K fd ps [] ∧ Cls K C
theorem e_methN {k n : Nat} {m : Str} {C : Addr} {pl : Sem Bool} {sp : Sp} {W : WX} (F : MtN X.prog X.w X.K X.mg X.base k C m sp) (tk : L2N.Takes X W) (hr : Room n X.A) (hk : k ≤ n)
    (q : wE X o σ H fun x H1 => ∃ a dx fs, x = .ref a ∧ H1 a = some (.ins C dx fs) ∧ fs.lookup m = none ∧ wA X (e :: es) σ H1 fun vs H2 => sp (x :: vs) H2 Q (fun cls d H' => W cls d σ H'))
    (hst : starEach (e :: es) X.env = (false, eval e X.env) :: starEach es X.env := by rfl) (hpl : (backTo pos (starEach es X.env)).any (·.1) = false := by rfl)
    (ht : eval (.Call (.Attribute o m apos) (e :: es) [] pos) X.env = (do let ov ← eval o X.env; standAt apos.atName; let (f, first) ← holding [ov] (getMethod ov m pl); callWith pos f first (backTo pos (starEach (e :: es) X.env)) (backToKw pos (keywordEach [] X.env))) := by rfl) :
    wE X (.Call (.Attribute o m apos) (e :: es) [] pos) σ H Q := by
  obtain ⟨f, fd, ps, F0, M, hb, c⟩ := F.ex
  refine e_of (t := fun σ H Q => wE X o σ H fun x H1 => ∃ a dx fs, x = .ref a ∧ H1 a = some (.ins C dx fs) ∧ fs.lookup m = none ∧ wA X (e :: es) σ H1 fun vs H2 => sp (x :: vs) H2 Q (fun cls d H' => W cls d σ H')) ⟨fun pins s σ H Q I h => ?_⟩ q
  refine PySem.W.methodCall_KW (pl := pl) (thn (pe.run pins s σ H _ I h) fun u s1 ⟨x, H1, I1, rx, a, dx, fs, ex, ea, l, q⟩ => ?_) ht
  subst ex
  obtain rfl : u = Value.ref a := rx
  refine getmeth_ok I1 ea c M l ?_
  refine PySem.W.callWith_K (first := [.ref a]) (h₀ := X.base) I.ok.mod.kin M.kp (thn (pa.run pos pins s1 σ H1 _ I1 q) fun us s2 ⟨vs, H2, I2, r, q2⟩ => ⟨I2.kIn, ?_⟩) hst hpl
  exact run_fnSD (us := .ref a :: us) (vs := .ref a :: vs) (E := fun σ cls d H' => W cls d σ H') F0 (hr.mono hk) hb .nil (L2N.passAt tk σ) I2 (.cons rfl r) (by rw [List.append_nil]; exact q2)
end
end Wk

set_option maxHeartbeats 4000000
/-! My own layer: errors as values: made, their fields read, asked by isinstance; repr of plain data. -/
namespace Wk
open PySem PySem.Spec PyProof.Rows L2
section
variable {X : Cx} {e o : Expr} {es : List Expr} {σ : L2.St} {H : Hp} {Q : VK} {pos p0 apos : Pos} {N G : List Str} {sc : Scope}
end
end Wk

set_option maxHeartbeats 4000000
/-! My own layer: a piece of a text between two places, x += e, f-strings, a class called without arguments, a text repeated, int of a text, count. -/
namespace Wk
open PySem PySem.Spec PyProof.Rows L2
section
variable {X : Cx} {a b e o : Expr} {es : List Expr} {σ : L2.St} {H : Hp} {Q : VK} {pos p0 p2 apos : Pos} {N G : List Str} {sc : Scope}
end
end Wk

set_option maxHeartbeats 4000000
/-! My own layer: split and join of texts, displayed dicts of many text keys. -/
namespace Wk
open PySem PySem.Spec PyProof.Rows L2
section
variable {X : Cx} {a b e o : Expr} {es : List Expr} {σ : L2.St} {H : Hp} {Q : VK} {pos p0 p2 apos : Pos} {N G : List Str} {sc : Scope}
/-- a displayed dict of constant texts -/
abbrev IsC (e : Option Expr) (z : Str) : Prop := ∃ j p, e = some (.Constant (.str z) j p)
abbrev IsC1 (e : Expr) (z : Str) : Prop := ∃ j p, e = .Constant (.str z) j p
theorem pps_const : ∀ {ks : List (Option Expr)} {vs : List Expr} {zs ws : List Str}, Paired IsC ks zs → Paired IsC1 vs ws → ks.length = vs.length →
    ∃ trs, PPs X pos ks vs trs ∧ ∀ σ H (Q : List (V × V) → Hp → Prop), Q ((zs.zip ws).map fun z => (V.str z.1, V.str z.2)) H → tPairs trs σ H Q
  | _, _, _, _, .nil, .nil, _ => ⟨[], pps_nil, fun _ _ _ q => q⟩
  | _, _, _, _, .cons ⟨j, p, e⟩ h1, .cons ⟨j', p', e'⟩ h2, hl => by
    subst e e'
    obtain ⟨trs, h, q⟩ := pps_const h1 h2 (by simpa using hl)
    refine ⟨_, pps_cons pe pe h, fun σ H Q q0 => ?_⟩
    exact e_str (e_str (q σ H _ q0))
  | _, _, _, _, .nil, .cons _ _, hl => by cases hl
  | _, _, _, _, .cons _ _, .nil, hl => by cases hl
theorem e_dC {keys : List (Option Expr)} {vals : List Expr} {zs ws : List Str} (h1 : Paired IsC keys zs) (h2 : Paired IsC1 vals ws) (hl : keys.length = vals.length) (h0 : keys ≠ []) (h15 : keys.length ≤ 15) (h16 : (zs.zip ws).length ≤ 15)
    (q : ∀ p H2, Same H H2 → H p = none → H2 p = some (.dK (mergeK [] ((zs.zip ws).map fun z => ((Sum.inr z.1 : Key), V.str z.2)))) → Q (.ref p) H2) : wE X (.Dict keys vals pos) σ H Q := by
  obtain ⟨trs, h, hq⟩ := pps_const (X := X) (pos := pos) h1 h2 hl
  have hall : keys.all (·.isSome) = true := by
    clear hl h0 h15 h16 q h hq
    induction h1 with
    | nil => rfl
    | cons a _ ih =>
      obtain ⟨j, p, rfl⟩ := a
      simpa using ih
  refine e_of (pe_disp h hall hl h0 h15) fun p np => hq _ _ _ ?_
  refine ⟨upd_same, (zs.zip ws).map (fun z => ((Sum.inr z.1 : Key), V.str z.2)), by rw [List.map_map]; rfl, by rw [List.length_map]; exact h16, ?_⟩
  exact q p _ (fun c u eo => by rw [upd_ne (ne_of_none eo np), upd_ne (ne_of_none eo np)]; exact eo) np upd_same
end
end Wk
namespace Wk
open PySem PySem.Spec PyProof.Rows L2
/-! ### pure values and pure tests: what is read in any heap from H on -/
@[irreducible] def PV (X : Cx) (e : Expr) (σ : L2.St) (H : Hp) (v : V) : Prop := ∀ H1 (Q : VK), Same H H1 → (∀ H2, Same H1 H2 → Q v H2) → wE X e σ H1 Q
@[irreducible] def TV (X : Cx) (e : Expr) (σ : L2.St) (H : Hp) (b : Bool) : Prop := ∀ H1 (QT : Bool → Hp → Prop), Same H H1 → (∀ H2, Same H1 H2 → QT b H2) → wT X e σ H1 QT
@[irreducible] def TWV (X : Cx) (e : Expr) (σ : L2.St) (H : Hp) (b : Bool) : Prop := ∀ H1 (QT : Bool → Hp → Prop), Same H H1 → (∀ H2, Same H1 H2 → QT b H2) → wW X e σ H1 QT
section
variable {X : Cx} {N G : List Str} {sc : Scope} {a b c e o : Expr} {es rest : List Expr} {σ : L2.St} {H : Hp} {Q : VK} {pos p0 : Pos} {QT : Bool → Hp → Prop} {u v w : V} {x y z : Bool}
section
variable {m n : Str} {i j : Int}
end
end
end Wk

set_option maxHeartbeats 4000000
namespace K36
open PySem PySem.Spec PyProof.Rows L2 Wk
def topS (i : Nat) : Stmt := PySem.Challenge.pw_heldproofs_k36_whole_worlds_sound.main.body.getD i (.Pass ⟨0, 0, 0, 0⟩)
abbrev s_BadWorld___init : Stmt := inClass (topS 2) 0
abbrev N_BadWorld___init : List Str := ["self", "reason"]
abbrev P_BadWorld___init : List Str := ["self", "reason"]
abbrev G_BadWorld___init : List Str := []
theorem so_BadWorld___init : ScOk N_BadWorld___init G_BadWorld___init (defScope s_BadWorld___init) := ⟨by decide +kernel, by decide +kernel, by decide +kernel⟩
theorem sc_BadWorld___init : FnScope N_BadWorld___init P_BadWorld___init (defScope s_BadWorld___init) := ⟨rfl, rfl, rfl, by decide +kernel, rfl, by decide +kernel, by decide +kernel⟩
abbrev s_is_all_once : Stmt := topS 5
abbrev N_is_all_once : List Str := ["sentence", "waiting", "here"]
abbrev P_is_all_once : List Str := ["sentence"]
abbrev G_is_all_once : List Str := []
theorem so_is_all_once : ScOk N_is_all_once G_is_all_once (defScope s_is_all_once) := ⟨by decide +kernel, by decide +kernel, by decide +kernel⟩
theorem sc_is_all_once : FnScope N_is_all_once P_is_all_once (defScope s_is_all_once) := ⟨rfl, rfl, rfl, by decide +kernel, rfl, by decide +kernel, by decide +kernel⟩
abbrev s_World___init : Stmt := inClass (topS 7) 0
abbrev N_World___init : List Str := ["self", "products", "facts", "reason"]
abbrev P_World___init : List Str := ["self", "products", "facts"]
abbrev G_World___init : List Str := ["fault_of", "BadWorld"]
theorem so_World___init : ScOk N_World___init G_World___init (defScope s_World___init) := ⟨by decide +kernel, by decide +kernel, by decide +kernel⟩
abbrev C_World___init : List Str := ["row", "name"]
theorem sc_World___init : FnScope (N_World___init ++ C_World___init) P_World___init (defScope s_World___init) := ⟨rfl, rfl, rfl, by decide +kernel, rfl, by decide +kernel, by decide +kernel⟩
abbrev s_World___len : Stmt := inClass (topS 7) 1
abbrev s_World_product : Stmt := inClass (topS 7) 2
abbrev s_World_has : Stmt := inClass (topS 7) 3
abbrev N_World_has : List Str := ["self", "element", "sentence"]
abbrev P_World_has : List Str := ["self", "element", "sentence"]
abbrev G_World_has : List Str := ["is_all_once", "NotOnce", "truths"]
theorem so_World_has : ScOk N_World_has G_World_has (defScope s_World_has) := ⟨by decide +kernel, by decide +kernel, by decide +kernel⟩
theorem sc_World_has : FnScope N_World_has P_World_has (defScope s_World_has) := ⟨rfl, rfl, rfl, by decide +kernel, rfl, by decide +kernel, by decide +kernel⟩
abbrev s_World_fails : Stmt := inClass (topS 7) 4
abbrev N_World_fails : List Str := ["self", "claim", "places", "holds", "goal", "whole", "_", "sentence", "place"]
abbrev P_World_fails : List Str := ["self", "claim", "places"]
abbrev G_World_fails : List Str := ["require_once", "zip", "truths"]
theorem so_World_fails : ScOk N_World_fails G_World_fails (defScope s_World_fails) := ⟨by decide +kernel, by decide +kernel, by decide +kernel⟩
theorem sc_World_fails : FnScope N_World_fails P_World_fails (defScope s_World_fails) := ⟨rfl, rfl, rfl, by decide +kernel, rfl, by decide +kernel, by decide +kernel⟩
abbrev s_require_once : Stmt := topS 8
abbrev N_require_once : List Str := ["claim", "holds", "goal", "_", "kind", "sentence"]
abbrev P_require_once : List Str := ["claim"]
abbrev G_require_once : List Str := ["is_all_once", "NotOnce"]
theorem so_require_once : ScOk N_require_once G_require_once (defScope s_require_once) := ⟨by decide +kernel, by decide +kernel, by decide +kernel⟩
theorem sc_require_once : FnScope N_require_once P_require_once (defScope s_require_once) := ⟨rfl, rfl, rfl, by decide +kernel, rfl, by decide +kernel, by decide +kernel⟩
abbrev s_truths : Stmt := topS 9
abbrev N_truths : List Str := ["products", "facts", "sentence", "numbers", "listed", "first", "second", "priced"]
abbrev P_truths : List Str := ["products", "facts", "sentence"]
abbrev G_truths : List Str := ["range", "len", "truths", "zip"]
theorem so_truths : ScOk N_truths G_truths (defScope s_truths) := ⟨by decide +kernel, by decide +kernel, by decide +kernel⟩
abbrev C_truths : List Str := ["element", "left", "right", "row"]
theorem sc_truths : FnScope (N_truths ++ C_truths) P_truths (defScope s_truths) := ⟨rfl, rfl, rfl, by decide +kernel, rfl, by decide +kernel, by decide +kernel⟩
abbrev s_fault_of : Stmt := topS 10
abbrev N_fault_of : List Str := ["products", "facts", "many", "a", "b", "name"]
abbrev P_fault_of : List Str := ["products", "facts"]
abbrev G_fault_of : List Str := ["len", "all", "list", "range", "does_grouping_hold"]
theorem so_fault_of : ScOk N_fault_of G_fault_of (defScope s_fault_of) := ⟨by decide +kernel, by decide +kernel, by decide +kernel⟩
abbrev C_fault_of : List Str := ["row", "element"]
theorem sc_fault_of : FnScope (N_fault_of ++ C_fault_of) P_fault_of (defScope s_fault_of) := ⟨rfl, rfl, rfl, by decide +kernel, rfl, by decide +kernel, by decide +kernel⟩
abbrev s_has_shape : Stmt := topS 11
abbrev N_has_shape : List Str := ["row", "many"]
abbrev P_has_shape : List Str := ["row", "many"]
abbrev G_has_shape : List Str := ["len", "all"]
theorem so_has_shape : ScOk N_has_shape G_has_shape (defScope s_has_shape) := ⟨by decide +kernel, by decide +kernel, by decide +kernel⟩
abbrev C_has_shape : List Str := ["item"]
theorem sc_has_shape : FnScope (N_has_shape ++ C_has_shape) P_has_shape (defScope s_has_shape) := ⟨rfl, rfl, rfl, by decide +kernel, rfl, by decide +kernel, by decide +kernel⟩
abbrev s_does_grouping_hold : Stmt := topS 12
abbrev N_does_grouping_hold : List Str := ["products", "a", "row", "b", "first"]
abbrev P_does_grouping_hold : List Str := ["products"]
abbrev G_does_grouping_hold : List Str := ["enumerate"]
theorem so_does_grouping_hold : ScOk N_does_grouping_hold G_does_grouping_hold (defScope s_does_grouping_hold) := ⟨by decide +kernel, by decide +kernel, by decide +kernel⟩
abbrev C_does_grouping_hold : List Str := ["inner"]
theorem sc_does_grouping_hold : FnScope (N_does_grouping_hold ++ C_does_grouping_hold) P_does_grouping_hold (defScope s_does_grouping_hold) := ⟨rfl, rfl, rfl, by decide +kernel, rfl, by decide +kernel, by decide +kernel⟩
abbrev s_cell : Stmt := topS 14
abbrev N_cell : List Str := ["_law_script", "_law_k"]
abbrev P_cell : List Str := ["_law_script", "_law_k"]
abbrev G_cell : List Str := ["len", "abs"]
theorem so_cell : ScOk N_cell G_cell (defScope s_cell) := ⟨by decide +kernel, by decide +kernel, by decide +kernel⟩
theorem sc_cell : FnScope N_cell P_cell (defScope s_cell) := ⟨rfl, rfl, rfl, by decide +kernel, rfl, by decide +kernel, by decide +kernel⟩
abbrev s_pool : Stmt := topS 15
abbrev N_pool : List Str := ["_law_script", "_law_k", "_law_cell_here"]
abbrev P_pool : List Str := ["_law_script", "_law_k"]
abbrev G_pool : List Str := ["_law_cell", "int"]
theorem so_pool : ScOk N_pool G_pool (defScope s_pool) := ⟨by decide +kernel, by decide +kernel, by decide +kernel⟩
theorem sc_pool : FnScope N_pool P_pool (defScope s_pool) := ⟨rfl, rfl, rfl, by decide +kernel, rfl, by decide +kernel, by decide +kernel⟩
abbrev s_next : Stmt := topS 16
abbrev N_next : List Str := ["_law_pool_here", "_law_many", "_law_digit", "_law_mixed"]
abbrev P_next : List Str := ["_law_pool_here", "_law_many"]
abbrev G_next : List Str := ["int"]
theorem so_next : ScOk N_next G_next (defScope s_next) := ⟨by decide +kernel, by decide +kernel, by decide +kernel⟩
theorem sc_next : FnScope N_next P_next (defScope s_next) := ⟨rfl, rfl, rfl, by decide +kernel, rfl, by decide +kernel, by decide +kernel⟩
abbrev s_name : Stmt := topS 17
abbrev N_name : List Str := ["_law_pool_here", "_law_taken", "_law_stems", "_law_name_here", "_law_k"]
abbrev P_name : List Str := ["_law_pool_here", "_law_taken"]
abbrev G_name : List Str := ["_law_next", "range", "str", "len"]
theorem so_name : ScOk N_name G_name (defScope s_name) := ⟨by decide +kernel, by decide +kernel, by decide +kernel⟩
theorem sc_name : FnScope N_name P_name (defScope s_name) := ⟨rfl, rfl, rfl, by decide +kernel, rfl, by decide +kernel, by decide +kernel⟩
abbrev s_state : Stmt := topS 18
abbrev N_state : List Str := ["_law_pool_here", "_law_forms", "_law_most", "_law_stems", "_law_first", "_law_words"]
abbrev P_state : List Str := ["_law_pool_here", "_law_forms", "_law_most"]
abbrev G_state : List Str := ["_law_next", "range"]
theorem so_state : ScOk N_state G_state (defScope s_state) := ⟨by decide +kernel, by decide +kernel, by decide +kernel⟩
abbrev C_state : List Str := ["_law_k"]
theorem sc_state : FnScope (N_state ++ C_state) P_state (defScope s_state) := ⟨rfl, rfl, rfl, by decide +kernel, rfl, by decide +kernel, by decide +kernel⟩
abbrev s_sentence : Stmt := topS 19
abbrev N_sentence : List Str := ["_law_state_here", "_law_depth", "_law_pool_here", "_law_pick", "_law_one", "_law_two"]
abbrev P_sentence : List Str := ["_law_state_here", "_law_depth"]
abbrev G_sentence : List Str := ["_law_next", "len", "_law_sentence"]
theorem so_sentence : ScOk N_sentence G_sentence (defScope s_sentence) := ⟨by decide +kernel, by decide +kernel, by decide +kernel⟩
theorem sc_sentence : FnScope N_sentence P_sentence (defScope s_sentence) := ⟨rfl, rfl, rfl, by decide +kernel, rfl, by decide +kernel, by decide +kernel⟩
abbrev s_merge : Stmt := topS 20
abbrev N_merge : List Str := ["_law_one", "_law_two", "_law_either", "_law_total", "_law_ref", "_law_left_here", "_law_right_here"]
abbrev P_merge : List Str := ["_law_one", "_law_two", "_law_either"]
abbrev G_merge : List Str := ["list", "max", "min"]
theorem so_merge : ScOk N_merge G_merge (defScope s_merge) := ⟨by decide +kernel, by decide +kernel, by decide +kernel⟩
theorem sc_merge : FnScope N_merge P_merge (defScope s_merge) := ⟨rfl, rfl, rfl, by decide +kernel, rfl, by decide +kernel, by decide +kernel⟩
abbrev s_box : Stmt := topS 21
abbrev N_box : List Str := ["_law_found", "_law_mode", "_law_gone", "_law_total", "_law_ref", "_law_told"]
abbrev P_box : List Str := ["_law_found", "_law_mode", "_law_gone"]
abbrev G_box : List Str := []
theorem so_box : ScOk N_box G_box (defScope s_box) := ⟨by decide +kernel, by decide +kernel, by decide +kernel⟩
theorem sc_box : FnScope N_box P_box (defScope s_box) := ⟨rfl, rfl, rfl, by decide +kernel, rfl, by decide +kernel, by decide +kernel⟩
abbrev s_counts : Stmt := topS 22
abbrev N_counts : List Str := ["_law_tree", "_law_level", "_law_name_here", "_law_found"]
abbrev P_counts : List Str := ["_law_tree", "_law_level"]
abbrev G_counts : List Str := ["_law_counts", "_law_merge", "_law_box"]
theorem so_counts : ScOk N_counts G_counts (defScope s_counts) := ⟨by decide +kernel, by decide +kernel, by decide +kernel⟩
theorem sc_counts : FnScope N_counts P_counts (defScope s_counts) := ⟨rfl, rfl, rfl, by decide +kernel, rfl, by decide +kernel, by decide +kernel⟩
abbrev s_fits : Stmt := topS 23
abbrev s_usable : Stmt := topS 24
abbrev N_usable : List Str := ["_law_state_here", "_law_sentence_here", "_law_box_here"]
abbrev P_usable : List Str := ["_law_state_here", "_law_sentence_here", "_law_box_here"]
abbrev G_usable : List Str := ["len"]
theorem so_usable : ScOk N_usable G_usable (defScope s_usable) := ⟨by decide +kernel, by decide +kernel, by decide +kernel⟩
theorem sc_usable : FnScope N_usable P_usable (defScope s_usable) := ⟨rfl, rfl, rfl, by decide +kernel, rfl, by decide +kernel, by decide +kernel⟩
abbrev s_hold : Stmt := topS 25
abbrev N_hold : List Str := ["_law_state_here", "_law_sentence_here", "_law_box_here", "_law_pool_here", "_law_again", "_law_mode", "_law_name_here", "_law_holds"]
abbrev P_hold : List Str := ["_law_state_here", "_law_sentence_here", "_law_box_here"]
abbrev G_hold : List Str := ["_law_next", "len", "_law_name"]
theorem so_hold : ScOk N_hold G_hold (defScope s_hold) := ⟨by decide +kernel, by decide +kernel, by decide +kernel⟩
abbrev C_hold : List Str := ["_law_row_here"]
theorem sc_hold : FnScope (N_hold ++ C_hold) P_hold (defScope s_hold) := ⟨rfl, rfl, rfl, by decide +kernel, rfl, by decide +kernel, by decide +kernel⟩
abbrev s_close : Stmt := topS 26
abbrev N_close : List Str := ["_law_state_here", "_law_goal", "_law_must", "_law_scope", "_law_level", "_law_box_here", "_law_pool_here", "_law_cited", "_law_entry", "_law_able", "_law_pick", "_law_chain", "_law_row_here", "_law_k", "_law_refs", "_law_done"]
abbrev P_close : List Str := ["_law_state_here", "_law_goal", "_law_must", "_law_scope", "_law_level", "_law_box_here"]
abbrev G_close : List Str := ["len", "_law_next", "_law_hold", "reversed", "range"]
theorem so_close : ScOk N_close G_close (defScope s_close) := ⟨by decide +kernel, by decide +kernel, by decide +kernel⟩
abbrev C_close : List Str := ["_law_name_here"]
theorem sc_close : FnScope (N_close ++ C_close) P_close (defScope s_close) := ⟨rfl, rfl, rfl, by decide +kernel, rfl, by decide +kernel, by decide +kernel⟩
abbrev s_split : Stmt := topS 27
abbrev N_split : List Str := ["_law_pool_here", "_law_must", "_law_mine", "_law_rest", "_law_row_here"]
abbrev P_split : List Str := ["_law_pool_here", "_law_must"]
abbrev G_split : List Str := ["_law_next"]
theorem so_split : ScOk N_split G_split (defScope s_split) := ⟨by decide +kernel, by decide +kernel, by decide +kernel⟩
theorem sc_split : FnScope N_split P_split (defScope s_split) := ⟨rfl, rfl, rfl, by decide +kernel, rfl, by decide +kernel, by decide +kernel⟩
abbrev s_paid : Stmt := topS 28
abbrev N_paid : List Str := ["_law_state_here", "_law_mode", "_law_sentence_here", "_law_must", "_law_scope", "_law_level", "_law_box_here", "_law_wish", "_law_pair", "_law_inner"]
abbrev P_paid : List Str := ["_law_state_here", "_law_mode", "_law_sentence_here", "_law_must", "_law_scope", "_law_level", "_law_box_here", "_law_wish"]
abbrev G_paid : List Str := ["_law_split", "_law_grow"]
theorem so_paid : ScOk N_paid G_paid (defScope s_paid) := ⟨by decide +kernel, by decide +kernel, by decide +kernel⟩
theorem sc_paid : FnScope N_paid P_paid (defScope s_paid) := ⟨rfl, rfl, rfl, by decide +kernel, rfl, by decide +kernel, by decide +kernel⟩
abbrev s_under : Stmt := topS 29
abbrev N_under : List Str := ["_law_state_here", "_law_goal", "_law_mode", "_law_sentence_here", "_law_must", "_law_scope", "_law_level", "_law_box_here", "_law_wish", "_law_more"]
abbrev P_under : List Str := ["_law_state_here", "_law_goal", "_law_mode", "_law_sentence_here", "_law_must", "_law_scope", "_law_level", "_law_box_here", "_law_wish"]
abbrev G_under : List Str := ["_law_grow"]
theorem so_under : ScOk N_under G_under (defScope s_under) := ⟨by decide +kernel, by decide +kernel, by decide +kernel⟩
theorem sc_under : FnScope N_under P_under (defScope s_under) := ⟨rfl, rfl, rfl, by decide +kernel, rfl, by decide +kernel, by decide +kernel⟩
abbrev s_use : Stmt := topS 30
abbrev N_use : List Str := ["_law_state_here", "_law_ref", "_law_sentence_here", "_law_goal", "_law_must", "_law_scope", "_law_level", "_law_box_here", "_law_pool_here", "_law_at", "_law_body", "_law_opened", "_law_pair"]
abbrev P_use : List Str := ["_law_state_here", "_law_ref", "_law_sentence_here", "_law_goal", "_law_must", "_law_scope", "_law_level", "_law_box_here"]
abbrev G_use : List Str := ["_law_next", "_law_under", "len", "_law_paid"]
theorem so_use : ScOk N_use G_use (defScope s_use) := ⟨by decide +kernel, by decide +kernel, by decide +kernel⟩
theorem sc_use : FnScope N_use P_use (defScope s_use) := ⟨rfl, rfl, rfl, by decide +kernel, rfl, by decide +kernel, by decide +kernel⟩
abbrev s_right_row : Stmt := topS 31
abbrev N_right_row : List Str := ["_law_state_here", "_law_goal", "_law_must", "_law_scope", "_law_level", "_law_box_here", "_law_inner", "_law_one", "_law_made", "_law_at"]
abbrev P_right_row : List Str := ["_law_state_here", "_law_goal", "_law_must", "_law_scope", "_law_level", "_law_box_here"]
abbrev G_right_row : List Str := ["_law_under", "_law_grow", "_law_next", "len"]
theorem so_right_row : ScOk N_right_row G_right_row (defScope s_right_row) := ⟨by decide +kernel, by decide +kernel, by decide +kernel⟩
theorem sc_right_row : FnScope N_right_row P_right_row (defScope s_right_row) := ⟨rfl, rfl, rfl, by decide +kernel, rfl, by decide +kernel, by decide +kernel⟩
abbrev s_cut : Stmt := topS 32
abbrev N_cut : List Str := ["_law_state_here", "_law_goal", "_law_must", "_law_scope", "_law_level", "_law_box_here", "_law_pool_here", "_law_name_here", "_law_names", "_law_sentence_here", "_law_mode", "_law_pair"]
abbrev P_cut : List Str := ["_law_state_here", "_law_goal", "_law_must", "_law_scope", "_law_level", "_law_box_here"]
abbrev G_cut : List Str := ["_law_next", "len", "_law_under", "_law_sentence", "_law_paid"]
theorem so_cut : ScOk N_cut G_cut (defScope s_cut) := ⟨by decide +kernel, by decide +kernel, by decide +kernel⟩
theorem sc_cut : FnScope N_cut P_cut (defScope s_cut) := ⟨rfl, rfl, rfl, by decide +kernel, rfl, by decide +kernel, by decide +kernel⟩
abbrev s_grow : Stmt := topS 33
abbrev N_grow : List Str := ["_law_state_here", "_law_goal", "_law_must", "_law_scope", "_law_level", "_law_box_here", "_law_wish", "_law_pool_here", "_law_pick", "_law_able", "_law_at", "_law_rest", "_law_entry", "_law_room_here", "_law_sentence_here"]
abbrev P_grow : List Str := ["_law_state_here", "_law_goal", "_law_must", "_law_scope", "_law_level", "_law_box_here", "_law_wish"]
abbrev G_grow : List Str := ["_law_next", "_law_close", "len", "_law_right_row", "_law_cut", "range", "_law_use", "_law_sentence", "_law_usable", "_law_hold"]
theorem so_grow : ScOk N_grow G_grow (defScope s_grow) := ⟨by decide +kernel, by decide +kernel, by decide +kernel⟩
abbrev C_grow : List Str := ["_law_k"]
theorem sc_grow : FnScope (N_grow ++ C_grow) P_grow (defScope s_grow) := ⟨rfl, rfl, rfl, by decide +kernel, rfl, by decide +kernel, by decide +kernel⟩
abbrev s_grown : Stmt := topS 34
abbrev N_grown : List Str := ["_law_state_here", "_law_goal", "_law_pool_here", "_law_tree", "_law_found", "_law_holds", "_law_row_here", "_law_mode", "_law_told", "_law_idle"]
abbrev P_grown : List Str := ["_law_state_here", "_law_goal"]
abbrev G_grown : List Str := ["_law_next", "_law_cut", "_law_grow", "_law_counts", "max", "_law_name", "_law_sentence", "len", "tuple"]
theorem so_grown : ScOk N_grown G_grown (defScope s_grown) := ⟨by decide +kernel, by decide +kernel, by decide +kernel⟩
theorem sc_grown : FnScope N_grown P_grown (defScope s_grown) := ⟨rfl, rfl, rfl, by decide +kernel, rfl, by decide +kernel, by decide +kernel⟩
abbrev s_is_number : Stmt := topS 35
abbrev N_is_number : List Str := ["_law_value"]
abbrev P_is_number : List Str := ["_law_value"]
abbrev G_is_number : List Str := ["isinstance", "int", "bool"]
theorem so_is_number : ScOk N_is_number G_is_number (defScope s_is_number) := ⟨by decide +kernel, by decide +kernel, by decide +kernel⟩
theorem sc_is_number : FnScope N_is_number P_is_number (defScope s_is_number) := ⟨rfl, rfl, rfl, by decide +kernel, rfl, by decide +kernel, by decide +kernel⟩
abbrev s_is_mode : Stmt := topS 36
abbrev N_is_mode : List Str := ["_law_value"]
abbrev P_is_mode : List Str := ["_law_value"]
abbrev G_is_mode : List Str := ["isinstance", "str", "tuple", "len", "_law_is_number"]
theorem so_is_mode : ScOk N_is_mode G_is_mode (defScope s_is_mode) := ⟨by decide +kernel, by decide +kernel, by decide +kernel⟩
theorem sc_is_mode : FnScope N_is_mode P_is_mode (defScope s_is_mode) := ⟨rfl, rfl, rfl, by decide +kernel, rfl, by decide +kernel, by decide +kernel⟩
abbrev s_is_item : Stmt := topS 37
abbrev N_is_item : List Str := ["_law_letter", "_law_item"]
abbrev P_is_item : List Str := ["_law_letter", "_law_item"]
abbrev G_is_item : List Str := ["_law_is_tree", "_law_is_sentence", "_law_is_mode", "isinstance", "str", "_law_is_number"]
theorem so_is_item : ScOk N_is_item G_is_item (defScope s_is_item) := ⟨by decide +kernel, by decide +kernel, by decide +kernel⟩
theorem sc_is_item : FnScope N_is_item P_is_item (defScope s_is_item) := ⟨rfl, rfl, rfl, by decide +kernel, rfl, by decide +kernel, by decide +kernel⟩
abbrev s_is_like : Stmt := topS 38
abbrev N_is_like : List Str := ["_law_value", "_law_forms", "_law_form", "_law_k"]
abbrev P_is_like : List Str := ["_law_value", "_law_forms"]
abbrev G_is_like : List Str := ["isinstance", "tuple", "str", "len", "range", "_law_is_item"]
theorem so_is_like : ScOk N_is_like G_is_like (defScope s_is_like) := ⟨by decide +kernel, by decide +kernel, by decide +kernel⟩
theorem sc_is_like : FnScope N_is_like P_is_like (defScope s_is_like) := ⟨rfl, rfl, rfl, by decide +kernel, rfl, by decide +kernel, by decide +kernel⟩
abbrev s_is_sentence : Stmt := topS 39
abbrev N_is_sentence : List Str := ["_law_value"]
abbrev P_is_sentence : List Str := ["_law_value"]
abbrev G_is_sentence : List Str := ["_law_is_like"]
theorem so_is_sentence : ScOk N_is_sentence G_is_sentence (defScope s_is_sentence) := ⟨by decide +kernel, by decide +kernel, by decide +kernel⟩
theorem sc_is_sentence : FnScope N_is_sentence P_is_sentence (defScope s_is_sentence) := ⟨rfl, rfl, rfl, by decide +kernel, rfl, by decide +kernel, by decide +kernel⟩
abbrev s_is_tree : Stmt := topS 40
abbrev N_is_tree : List Str := ["_law_value"]
abbrev P_is_tree : List Str := ["_law_value"]
abbrev G_is_tree : List Str := ["_law_is_like"]
theorem so_is_tree : ScOk N_is_tree G_is_tree (defScope s_is_tree) := ⟨by decide +kernel, by decide +kernel, by decide +kernel⟩
theorem sc_is_tree : FnScope N_is_tree P_is_tree (defScope s_is_tree) := ⟨rfl, rfl, rfl, by decide +kernel, rfl, by decide +kernel, by decide +kernel⟩
abbrev s_room : Stmt := topS 41
abbrev N_room : List Str := ["_law_told", "_law_mode"]
abbrev P_room : List Str := ["_law_told", "_law_mode"]
abbrev G_room : List Str := []
theorem so_room : ScOk N_room G_room (defScope s_room) := ⟨by decide +kernel, by decide +kernel, by decide +kernel⟩
theorem sc_room : FnScope N_room P_room (defScope s_room) := ⟨rfl, rfl, rfl, by decide +kernel, rfl, by decide +kernel, by decide +kernel⟩
abbrev s_brought : Stmt := topS 42
abbrev N_brought : List Str := ["_law_state_here", "_law_scope", "_law_goal", "_law_tree", "_law_level", "_law_mode", "_law_sentence_here", "_law_more", "_law_ref"]
abbrev P_brought : List Str := ["_law_state_here", "_law_scope", "_law_goal", "_law_tree", "_law_level", "_law_mode", "_law_sentence_here"]
abbrev G_brought : List Str := ["_law_right", "_law_room", "_law_counts"]
theorem so_brought : ScOk N_brought G_brought (defScope s_brought) := ⟨by decide +kernel, by decide +kernel, by decide +kernel⟩
theorem sc_brought : FnScope N_brought P_brought (defScope s_brought) := ⟨rfl, rfl, rfl, by decide +kernel, rfl, by decide +kernel, by decide +kernel⟩
abbrev s_right : Stmt := topS 43
abbrev N_right : List Str := ["_law_state_here", "_law_scope", "_law_goal", "_law_tree", "_law_level", "_law_name_here", "_law_made"]
abbrev P_right : List Str := ["_law_state_here", "_law_scope", "_law_goal", "_law_tree", "_law_level"]
abbrev G_right : List Str := ["_law_brought", "_law_right", "len", "_law_left"]
theorem so_right : ScOk N_right G_right (defScope s_right) := ⟨by decide +kernel, by decide +kernel, by decide +kernel⟩
theorem sc_right : FnScope N_right P_right (defScope s_right) := ⟨rfl, rfl, rfl, by decide +kernel, rfl, by decide +kernel, by decide +kernel⟩
abbrev s_left : Stmt := topS 44
abbrev N_left : List Str := ["_law_state_here", "_law_scope", "_law_goal", "_law_tree", "_law_level", "_law_sentence_here", "_law_opened"]
abbrev P_left : List Str := ["_law_state_here", "_law_scope", "_law_goal", "_law_tree", "_law_level", "_law_sentence_here"]
abbrev G_left : List Str := ["_law_brought", "int", "_law_right", "len"]
theorem so_left : ScOk N_left G_left (defScope s_left) := ⟨by decide +kernel, by decide +kernel, by decide +kernel⟩
theorem sc_left : FnScope N_left P_left (defScope s_left) := ⟨rfl, rfl, rfl, by decide +kernel, rfl, by decide +kernel, by decide +kernel⟩
abbrev s_shows : Stmt := topS 45
abbrev N_shows : List Str := ["_law_state_here", "_law_claim", "_law_tree", "_law_scope", "_law_row_here", "_law_found"]
abbrev P_shows : List Str := ["_law_state_here", "_law_claim", "_law_tree"]
abbrev G_shows : List Str := ["_law_is_tree", "_law_right", "_law_counts", "_law_room"]
theorem so_shows : ScOk N_shows G_shows (defScope s_shows) := ⟨by decide +kernel, by decide +kernel, by decide +kernel⟩
theorem sc_shows : FnScope N_shows P_shows (defScope s_shows) := ⟨rfl, rfl, rfl, by decide +kernel, rfl, by decide +kernel, by decide +kernel⟩
abbrev s_row : Stmt := topS 46
abbrev N_row : List Str := ["_law_item", "_law_names"]
abbrev P_row : List Str := ["_law_item"]
abbrev G_row : List Str := ["isinstance", "tuple", "len"]
theorem so_row : ScOk N_row G_row (defScope s_row) := ⟨by decide +kernel, by decide +kernel, by decide +kernel⟩
theorem sc_row : FnScope N_row P_row (defScope s_row) := ⟨rfl, rfl, rfl, by decide +kernel, rfl, by decide +kernel, by decide +kernel⟩
abbrev s_moved : Stmt := topS 47
abbrev N_moved : List Str := ["_law_tree", "_law_old", "_law_new", "_law_names", "_law_out", "_law_k", "_law_item"]
abbrev P_moved : List Str := ["_law_tree", "_law_old", "_law_new", "_law_names"]
abbrev G_moved : List Str := ["range", "len", "isinstance", "int", "_law_row", "_law_moved", "tuple"]
theorem so_moved : ScOk N_moved G_moved (defScope s_moved) := ⟨by decide +kernel, by decide +kernel, by decide +kernel⟩
theorem sc_moved : FnScope N_moved P_moved (defScope s_moved) := ⟨rfl, rfl, rfl, by decide +kernel, rfl, by decide +kernel, by decide +kernel⟩
abbrev s_product : Stmt := topS 48
abbrev N_product : List Str := ["_law_pick", "_law_many", "_law_a", "_law_b"]
abbrev P_product : List Str := ["_law_pick", "_law_many", "_law_a", "_law_b"]
abbrev G_product : List Str := ["min", "int", "max"]
theorem so_product : ScOk N_product G_product (defScope s_product) := ⟨by decide +kernel, by decide +kernel, by decide +kernel⟩
theorem sc_product : FnScope N_product P_product (defScope s_product) := ⟨rfl, rfl, rfl, by decide +kernel, rfl, by decide +kernel, by decide +kernel⟩
abbrev s_renamed : Stmt := topS 49
abbrev N_renamed : List Str := ["_law_pool_here", "_law_rows", "_law_many", "_law_names", "_law_k", "_law_at", "_law_held", "_law_a", "_law_new", "_law_row_here", "_law_b"]
abbrev P_renamed : List Str := ["_law_pool_here", "_law_rows"]
abbrev G_renamed : List Str := ["len", "list", "range", "_law_next"]
theorem so_renamed : ScOk N_renamed G_renamed (defScope s_renamed) := ⟨by decide +kernel, by decide +kernel, by decide +kernel⟩
theorem sc_renamed : FnScope N_renamed P_renamed (defScope s_renamed) := ⟨rfl, rfl, rfl, by decide +kernel, rfl, by decide +kernel, by decide +kernel⟩
abbrev s_table : Stmt := topS 50
abbrev N_table : List Str := ["_law_pool_here", "_law_picks", "_law_many", "_law_pick", "_law_rows", "_law_a"]
abbrev P_table : List Str := ["_law_pool_here", "_law_picks"]
abbrev G_table : List Str := ["_law_next", "max", "range", "_law_renamed"]
theorem so_table : ScOk N_table G_table (defScope s_table) := ⟨by decide +kernel, by decide +kernel, by decide +kernel⟩
abbrev C_table : List Str := ["_law_b"]
theorem sc_table : FnScope (N_table ++ C_table) P_table (defScope s_table) := ⟨rfl, rfl, rfl, by decide +kernel, rfl, by decide +kernel, by decide +kernel⟩
abbrev s_facts : Stmt := topS 51
abbrev N_facts : List Str := ["_law_pool_here", "_law_words", "_law_many", "_law_picks", "_law_facts_here", "_law_name_here", "_law_pick", "_law_at", "_law_found"]
abbrev P_facts : List Str := ["_law_pool_here", "_law_words", "_law_many", "_law_picks"]
abbrev G_facts : List Str := ["_law_next", "range"]
theorem so_facts : ScOk N_facts G_facts (defScope s_facts) := ⟨by decide +kernel, by decide +kernel, by decide +kernel⟩
abbrev C_facts : List Str := ["_law_k"]
theorem sc_facts : FnScope (N_facts ++ C_facts) P_facts (defScope s_facts) := ⟨rfl, rfl, rfl, by decide +kernel, rfl, by decide +kernel, by decide +kernel⟩
abbrev s_true : Stmt := topS 52
abbrev N_true : List Str := ["_law_rows", "_law_facts_here", "_law_sentence_here", "_law_many", "_law_one", "_law_two", "_law_able"]
abbrev P_true : List Str := ["_law_rows", "_law_facts_here", "_law_sentence_here"]
abbrev G_true : List Str := ["len", "range", "_law_true"]
theorem so_true : ScOk N_true G_true (defScope s_true) := ⟨by decide +kernel, by decide +kernel, by decide +kernel⟩
abbrev C_true : List Str := ["_law_k", "_law_v"]
theorem sc_true : FnScope (N_true ++ C_true) P_true (defScope s_true) := ⟨rfl, rfl, rfl, by decide +kernel, rfl, by decide +kernel, by decide +kernel⟩
abbrev s_picked : Stmt := topS 53
abbrev N_picked : List Str := ["_law_state_here", "_law_claim", "_law_tree", "_law_pool_here", "_law_at", "_law_name_here", "_law_goal", "_law_other", "_law_body", "_law_row_here"]
abbrev P_picked : List Str := ["_law_state_here", "_law_claim", "_law_tree"]
abbrev G_picked : List Str := ["_law_next", "len", "_law_sentence", "_law_moved"]
theorem so_picked : ScOk N_picked G_picked (defScope s_picked) := ⟨by decide +kernel, by decide +kernel, by decide +kernel⟩
theorem sc_picked : FnScope N_picked P_picked (defScope s_picked) := ⟨rfl, rfl, rfl, by decide +kernel, rfl, by decide +kernel, by decide +kernel⟩
abbrev s_case : Stmt := topS 54
abbrev N_case : List Str := ["_law_state_here", "_law_pool_here", "_law_pair", "_law_claim", "_law_tree"]
abbrev P_case : List Str := ["_law_state_here"]
abbrev G_case : List Str := ["_law_grown", "_law_sentence", "_law_next", "_law_picked"]
theorem so_case : ScOk N_case G_case (defScope s_case) := ⟨by decide +kernel, by decide +kernel, by decide +kernel⟩
theorem sc_case : FnScope N_case P_case (defScope s_case) := ⟨rfl, rfl, rfl, by decide +kernel, rfl, by decide +kernel, by decide +kernel⟩
abbrev s_asks : Stmt := topS 55
abbrev N_asks : List Str := ["_law_world", "_law_rows", "_law_claim", "_law_truths", "_law_places", "_law_other", "_law_told", "_law_total", "_law_fine", "_law_k"]
abbrev P_asks : List Str := ["_law_world", "_law_rows", "_law_claim", "_law_truths", "_law_places", "_law_other"]
abbrev G_asks : List Str := ["list", "isinstance", "bool", "range", "len"]
theorem so_asks : ScOk N_asks G_asks (defScope s_asks) := ⟨by decide +kernel, by decide +kernel, by decide +kernel⟩
theorem sc_asks : FnScope N_asks P_asks (defScope s_asks) := ⟨rfl, rfl, rfl, by decide +kernel, rfl, by decide +kernel, by decide +kernel⟩
abbrev s_sound : Stmt := topS 56
abbrev N_sound : List Str := ["_law_state_here", "_law_pool_here", "_law_claim", "_law_rows", "_law_many", "_law_facts_here", "_law_world", "_law_truths", "_law_able", "_law_found", "_law_k", "_law_goal", "_law_places", "_law_rest", "_law_at"]
abbrev P_sound : List Str := ["_law_state_here", "_law_pool_here", "_law_claim"]
abbrev G_sound : List Str := ["_law_table", "len", "_law_facts", "World", "dict", "range", "_law_sentence", "_law_next", "int", "_law_asks", "_law_true"]
theorem so_sound : ScOk N_sound G_sound (defScope s_sound) := ⟨by decide +kernel, by decide +kernel, by decide +kernel⟩
abbrev C_sound : List Str := ["_law_row_here", "_law_v"]
theorem sc_sound : FnScope (N_sound ++ C_sound) P_sound (defScope s_sound) := ⟨rfl, rfl, rfl, by decide +kernel, rfl, by decide +kernel, by decide +kernel⟩
abbrev s_law : Stmt := topS 57
abbrev N_law : List Str := ["_law_script", "_law_state_here", "_law_pair", "_law_pool_here", "_law_k"]
abbrev P_law : List Str := ["_law_script"]
abbrev G_law : List Str := ["_law_state", "_law_pool", "_law_case", "_law_shows", "range", "_law_sound"]
theorem so_law : ScOk N_law G_law (defScope s_law) := ⟨by decide +kernel, by decide +kernel, by decide +kernel⟩
theorem sc_law : FnScope N_law P_law (defScope s_law) := ⟨rfl, rfl, rfl, by decide +kernel, rfl, by decide +kernel, by decide +kernel⟩
theorem bk_World___init0 : BkOk (N_World___init ++ C_World___init) [(4, "row")] ["list"] 4 "row" (defScope s_World___init) (xSc (stE ((defBody s_World___init).getD 0 nS))) := ⟨by decide +kernel, by decide +kernel, by decide +kernel, by decide +kernel⟩
theorem bk_World___init1 : BkOk (N_World___init ++ C_World___init) [(5, "name"), (2, "facts")] ["list"] 5 "name" (defScope s_World___init) (xSc (stE ((defBody s_World___init).getD 1 nS))) := ⟨by decide +kernel, by decide +kernel, by decide +kernel, by decide +kernel⟩
theorem bk_truths0 : BkOk (N_truths ++ C_truths) [(8, "element"), (4, "listed")] [] 8 "element" (defScope s_truths) (xSc (stE (stB ((defBody s_truths).getD 1 nS) 0 1))) := ⟨by decide +kernel, by decide +kernel, by decide +kernel, by decide +kernel⟩
theorem bk_truths1 : BkOk2 (N_truths ++ C_truths) [(9, "left"), (10, "right")] [] 9 10 "left" "right" (defScope s_truths) (xSc (stE (stB ((defBody s_truths).getD 4 nS) 0 0))) := ⟨by decide +kernel, by decide +kernel, by decide +kernel, by decide +kernel, by decide, by decide +kernel⟩
theorem bk_truths2 : BkOk (N_truths ++ C_truths) [(8, "element"), (5, "first")] [] 8 "element" (defScope s_truths) (xSc (stE ((defBody s_truths).getD 5 nS))) := ⟨by decide +kernel, by decide +kernel, by decide +kernel, by decide +kernel⟩
theorem bk_fault_of0 : BkOk (N_fault_of ++ C_fault_of) [(6, "row"), (2, "many")] ["has_shape"] 6 "row" (defScope s_fault_of) (xSc (exA (exA (exA (stE ((defBody s_fault_of).getD 1 nS)) 1) 0) 1)) := ⟨by decide +kernel, by decide +kernel, by decide +kernel, by decide +kernel⟩
theorem bk_fault_of1 : BkOk (N_fault_of ++ C_fault_of) [(7, "element"), (2, "many")] [] 7 "element" (defScope s_fault_of) (xSc (exA (exA (stE (stB ((defBody s_fault_of).getD 5 nS) 0 0)) 0) 1)) := ⟨by decide +kernel, by decide +kernel, by decide +kernel, by decide +kernel⟩
theorem bk_has_shape0 : BkOk (N_has_shape ++ C_has_shape) [(2, "item"), (1, "many")] [] 2 "item" (defScope s_has_shape) (xSc (exA (exA (stE ((defBody s_has_shape).getD 0 nS)) 1) 1)) := ⟨by decide +kernel, by decide +kernel, by decide +kernel, by decide +kernel⟩
theorem bk_does_grouping_hold0 : BkOk (N_does_grouping_hold ++ C_does_grouping_hold) [(5, "inner"), (0, "products"), (1, "a")] [] 5 "inner" (defScope s_does_grouping_hold) (xSc (exA (stE (stB (stB ((defBody s_does_grouping_hold).getD 0 nS) 0 0) 0 0)) 1)) := ⟨by decide +kernel, by decide +kernel, by decide +kernel, by decide +kernel⟩
theorem bk_state0 : BkOk (N_state ++ C_state) [(3, "_law_stems"), (4, "_law_first"), (6, "_law_k")] ["int"] 6 "_law_k" (defScope s_state) (xSc (stE ((defBody s_state).getD 2 nS))) := ⟨by decide +kernel, by decide +kernel, by decide +kernel, by decide +kernel⟩
theorem bk_hold0 : BkOk (N_hold ++ C_hold) [(8, "_law_row_here"), (1, "_law_sentence_here")] [] 8 "_law_row_here" (defScope s_hold) (xSc (stE ((defBody s_hold).getD 1 nS))) := ⟨by decide +kernel, by decide +kernel, by decide +kernel, by decide +kernel⟩
theorem bk_close0 : BkOk (N_close ++ C_close) [(16, "_law_name_here"), (1, "_law_goal"), (0, "_law_state_here")] [] 16 "_law_name_here" (defScope s_close) (xSc (stE (stB ((defBody s_close).getD 2 nS) 0 0))) := ⟨by decide +kernel, by decide +kernel, by decide +kernel, by decide +kernel⟩
theorem bk_close1 : BkOk (N_close ++ C_close) [(8, "_law_entry"), (1, "_law_goal"), (5, "_law_box_here")] ["_law_fits"] 8 "_law_entry" (defScope s_close) (xSc (stE (stB ((defBody s_close).getD 2 nS) 0 1))) := ⟨by decide +kernel, by decide +kernel, by decide +kernel, by decide +kernel⟩
theorem bk_close2 : BkOk (N_close ++ C_close) [(4, "_law_level"), (13, "_law_k")] [] 13 "_law_k" (defScope s_close) (xSc (exA (stE ((defBody s_close).getD 5 nS)) 1)) := ⟨by decide +kernel, by decide +kernel, by decide +kernel, by decide +kernel⟩
theorem bk_cut0 : BkOk N_cut [(7, "_law_name_here")] [] 7 "_law_name_here" (defScope s_cut) (xSc (stE ((defBody s_cut).getD 1 nS))) := ⟨by decide +kernel, by decide +kernel, by decide +kernel, by decide +kernel⟩
theorem bk_grow0 : BkOk (N_grow ++ C_grow) [(15, "_law_k"), (0, "_law_state_here"), (5, "_law_box_here"), (2, "_law_must")] ["_law_usable"] 15 "_law_k" (defScope s_grow) (xSc (stE ((defBody s_grow).getD 7 nS))) := ⟨by decide +kernel, by decide +kernel, by decide +kernel, by decide +kernel⟩
theorem bk_grow1 : BkOk (N_grow ++ C_grow) [(12, "_law_entry"), (0, "_law_state_here"), (5, "_law_box_here")] ["_law_usable", "_law_fits"] 12 "_law_entry" (defScope s_grow) (xSc (stE ((defBody s_grow).getD 9 nS))) := ⟨by decide +kernel, by decide +kernel, by decide +kernel, by decide +kernel⟩
theorem bk_renamed0 : BkOk N_renamed [(2, "_law_many")] [] 7 "_law_a" (defScope s_renamed) (xSc (stE ((defBody s_renamed).getD 3 nS))) := ⟨by decide +kernel, by decide +kernel, by decide +kernel, by decide +kernel⟩
theorem bk_table0 : BkOk (N_table ++ C_table) [(3, "_law_pick"), (2, "_law_many"), (5, "_law_a"), (6, "_law_b")] ["_law_product"] 6 "_law_b" (defScope s_table) (xSc (exA (stE (stB ((defBody s_table).getD 5 nS) 0 0)) 1)) := ⟨by decide +kernel, by decide +kernel, by decide +kernel, by decide +kernel⟩
theorem bk_facts0 : BkOk (N_facts ++ C_facts) [(9, "_law_k"), (7, "_law_at")] [] 9 "_law_k" (defScope s_facts) (xSc (stE (stB ((defBody s_facts).getD 1 nS) 0 2))) := ⟨by decide +kernel, by decide +kernel, by decide +kernel, by decide +kernel⟩
theorem bk_facts1 : BkOk (N_facts ++ C_facts) [(9, "_law_k"), (7, "_law_at")] [] 9 "_law_k" (defScope s_facts) (xSc (stE (stB (stB ((defBody s_facts).getD 1 nS) 0 3) 0 0))) := ⟨by decide +kernel, by decide +kernel, by decide +kernel, by decide +kernel⟩
theorem bk_facts2 : BkOk (N_facts ++ C_facts) [(9, "_law_k"), (0, "_law_pool_here")] ["_law_next"] 9 "_law_k" (defScope s_facts) (xSc (stE (stB (stB ((defBody s_facts).getD 1 nS) 0 4) 0 0))) := ⟨by decide +kernel, by decide +kernel, by decide +kernel, by decide +kernel⟩
theorem bk_facts3 : BkOk (N_facts ++ C_facts) [(9, "_law_k"), (0, "_law_pool_here")] ["_law_next"] 9 "_law_k" (defScope s_facts) (xSc (stE (stB (stB ((defBody s_facts).getD 1 nS) 0 5) 0 0))) := ⟨by decide +kernel, by decide +kernel, by decide +kernel, by decide +kernel⟩
theorem bk_facts4 : BkOk (N_facts ++ C_facts) [(0, "_law_pool_here"), (2, "_law_many")] ["_law_next"] 9 "_law_k" (defScope s_facts) (xSc (stE (stB (stB ((defBody s_facts).getD 1 nS) 0 6) 0 0))) := ⟨by decide +kernel, by decide +kernel, by decide +kernel, by decide +kernel⟩
theorem bk_true0 : BkOk (N_true ++ C_true) [(7, "_law_k"), (1, "_law_facts_here"), (2, "_law_sentence_here")] [] 7 "_law_k" (defScope s_true) (xSc (stE (stB ((defBody s_true).getD 1 nS) 0 0))) := ⟨by decide +kernel, by decide +kernel, by decide +kernel, by decide +kernel⟩
theorem bk_true1 : BkOk (N_true ++ C_true) [(4, "_law_one"), (7, "_law_k"), (5, "_law_two")] [] 7 "_law_k" (defScope s_true) (xSc (stE (stB ((defBody s_true).getD 4 nS) 0 0))) := ⟨by decide +kernel, by decide +kernel, by decide +kernel, by decide +kernel⟩
theorem bk_true2 : BkOk (N_true ++ C_true) [(8, "_law_v"), (4, "_law_one")] [] 8 "_law_v" (defScope s_true) (xSc (stE ((defBody s_true).getD 5 nS))) := ⟨by decide +kernel, by decide +kernel, by decide +kernel, by decide +kernel⟩
theorem bk_sound0 : BkOk (N_sound ++ C_sound) [(15, "_law_row_here")] ["list"] 15 "_law_row_here" (defScope s_sound) (xSc (exA (stE ((defBody s_sound).getD 3 nS)) 1)) := ⟨by decide +kernel, by decide +kernel, by decide +kernel, by decide +kernel⟩
theorem bk_sound1 : BkOk (N_sound ++ C_sound) [(3, "_law_rows"), (5, "_law_facts_here"), (15, "_law_row_here")] ["_law_true"] 15 "_law_row_here" (defScope s_sound) (xSc (stE ((defBody s_sound).getD 4 nS))) := ⟨by decide +kernel, by decide +kernel, by decide +kernel, by decide +kernel⟩
theorem bk_sound2 : BkOk (N_sound ++ C_sound) [(16, "_law_v"), (9, "_law_found")] [] 16 "_law_v" (defScope s_sound) (xSc (exA (stE (stB ((defBody s_sound).getD 6 nS) 0 0)) 1)) := ⟨by decide +kernel, by decide +kernel, by decide +kernel, by decide +kernel⟩
theorem bk_sound3 : BkOk (N_sound ++ C_sound) [(1, "_law_pool_here"), (4, "_law_many")] ["_law_next"] 15 "_law_row_here" (defScope s_sound) (xSc (stE (stB ((defBody s_sound).getD 7 nS) 0 1))) := ⟨by decide +kernel, by decide +kernel, by decide +kernel, by decide +kernel⟩
theorem bk_sound4 : BkOk (N_sound ++ C_sound) [(15, "_law_row_here")] [] 15 "_law_row_here" (defScope s_sound) (xSc (exA (exA (stE (stB ((defBody s_sound).getD 7 nS) 0 2)) 1) 0)) := ⟨by decide +kernel, by decide +kernel, by decide +kernel, by decide +kernel⟩
local macro_rules | `(tactic| walk_at "bl") => `(tactic| first
  | refine e_callB (x := "len") (by assumption) b_len ?_
  | refine e_callB (x := "isinstance") (by assumption) b_isi ?_
  | refine e_callB (x := "abs") (by assumption) b_abs ?_
  | refine e_callB (x := "max") (by assumption) b_max ?_
  | refine e_callB (x := "min") (by assumption) b_min ?_
  | refine e_callTy (x := "str") (by assumption) b_str ?_
  | refine e_callTy (x := "int") (by assumption) b_int ?_)
local macro_rules | `(tactic| walk_at "gl") => `(tactic| first
  | refine e_bltn (x := "int") (v := .ty "int") (by assumption) b_int rfl ?_
  | refine e_bltn (x := "bool") (v := .ty "bool") (by assumption) b_bool rfl ?_
  | refine e_bltn (x := "str") (v := .ty "str") (by assumption) b_str rfl ?_
  | refine e_bltn (x := "tuple") (v := .ty "tuple") (by assumption) b_tuple rfl ?_
  | refine e_bltn (x := "list") (v := .ty "list") (by assumption) b_list rfl ?_)
local macro_rules | `(tactic| walk_at "st") => `(tactic| first
  | refine l_cons ?_
  | refine s_ret ?_
  | refine s_if ?_
  | refine s_set ?_
  | refine s_sub ?_
  | refine e_var ?_
  | refine e_int ?_
  | refine e_ix ?_
  | refine a_cons ?_
  | refine a_nil ?_
  | refine t_cmp ?_
  | refine t_not ?_
  | refine t_w (w_and ?_)
  | refine t_w (w_or ?_)
  | refine w_and ?_
  | refine w_or ?_
  | refine w_and1 ?_
  | refine w_or1 ?_
  | refine t_val ?_
  | refine e_str ?_
  | refine e_bl ?_
  | refine e_non ?_
  | refine e_bin ?_
  | refine e_cmp ?_
  | refine e_and ?_
  | refine e_or ?_
  | refine e_not ?_
  | refine e_one ?_
  | refine l_nil ?_
  | refine s_expr ?_
  | refine e_tup ?_
  | refine e_lst ?_
  | refine ⟨_, rfl, ?_⟩
  | ((with_reducible refine ite_t ?hc ?_); (case hc => exact rfl))
  | ((with_reducible refine ite_f ?hc ?_); (case hc => exact rfl))
  | refine o_add ?_
  | refine o_sub ?_
  | refine o_lt ?_
  | refine o_le ?_
  | refine o_gt ?_
  | refine o_ge ?_
  | refine o_eqI ?_
  | refine o_neI ?_
  | refine o_eqS ?_
  | refine o_neB ?_
  | refine o_isN ?_
  | refine o_nisB ?_
  | refine o_isB ?_
  | refine e_neg ?_
  | refine o_eqB ?_
  | refine c_int ?_
  | refine c_abs ?_
  | refine c_max rfl ?_
  | refine c_min rfl ?_
  | refine a_cons (e_fld ?_)
  | walk_at "bl"
  | walk_at "gl")
local macro_rules | `(tactic| walk_at "sts") => `(tactic| repeat walk_at "st")
section
variable {P : Program} {w : World} {K : PySem.W.Frag} {mg : Str → Option Value} {base : Heap}
def PoolAt (H : Hp) (a : Addr) : Prop := ∃ x y z : Int, H a = some (.lst [.int x, .int y, .int z])
def spCell (K : PySem.W.Frag) : Sp := fun vs H Q _ => ∃ (a : Addr) (ns : List Int) (k : Nat), vs = [.ref a, .int k] ∧ SqL K H a (ns.map V.int) ∧ ∀ z : Int, 0 ≤ z → Q (.int z) H
theorem ok_cell (T : Top K mg "_law_cell" s_cell) (mLen : mg "len" = none) (mAbs : mg "abs" = none) : Fn P w K mg base 1 "_law_cell" (spCell K) := by
  refine fn_ok T sc_cell so_cell (fun vs H Q E h => ?_) (fun _ _ _ _ _ _ us hl => match us, hl with | [_, _], _ => rfl) fun f cdv A outer s H vs Q E hr h nd => ?_
  · obtain ⟨a, ns, k, rfl, _⟩ := h
    rfl
  · obtain ⟨a, ns, k, rfl, hS, q⟩ := h
    walk_at "sts"
    refine c_lenL (by exact hS) ?_
    walk_at "sts"
    refine if2 (fun h => ?_) (fun h => ?_)
    · rw [List.length_map] at h
      have hk : k < ns.length := by omega
      walk_at "sts"
      refine ix_l (by exact hS) (atI_nat (v := .int ns[k]) (by simp [hk])) ?_
      walk_at "sts"
      exact q _ (by split <;> omega)
    · walk_at "sts"
      exact q _ (Int.le_refl _)
def spPool (K : PySem.W.Frag) : Sp := fun vs H Q _ => ∃ (a : Addr) (ns : List Int) (k : Nat), vs = [.ref a, .int k] ∧ SqL K H a (ns.map V.int) ∧ ∀ p H', Same H H' → H p = none → PoolAt H' p → Q (.ref p) H'
theorem ok_pool (T : Top K mg "_law_pool" s_pool) (F : Fn P w K mg base 1 "_law_cell" (spCell K)) (mInt : mg "int" = none) : Fn P w K mg base 2 "_law_pool" (spPool K) := by
  refine fn_ok T sc_pool so_pool (fun vs H Q E h => ?_) (fun _ _ _ _ _ _ us hl => match us, hl with | [_, _], _ => rfl) fun f cdv A outer s H vs Q E hr h nd => ?_
  · obtain ⟨a, ns, k, rfl, _⟩ := h
    rfl
  · obtain ⟨a, ns, k, rfl, hS, q⟩ := h
    walk_at "sts"
    refine e_call (by exact F) (by exact hr) (by decide) ?_
    walk_at "sts"
    refine ⟨a, ns, k, rfl, hS, fun z hz => ?_⟩
    walk_at "sts"
    refine o_pow ⟨by decide, by decide, by decide⟩ ?_
    walk_at "sts"
    refine if2 (fun h => ?_) (fun h => ?_)
    · walk_at "sts"
      refine o_mod (by decide) ?_
      walk_at "sts"
      refine ⟨by show 3 ≤ sizeLine; decide, fun p H2 e np hp => ?_⟩
      exact q p H2 e np ⟨_, _, _, hp⟩
    · walk_at "sts"
      refine ⟨by show 3 ≤ sizeLine; decide, fun p H2 e np hp => ?_⟩
      exact q p H2 e np ⟨_, _, _, hp⟩
def spNext : Sp := fun vs H Q _ => ∃ (a : Addr) (m : Int), vs = [.ref a, .int m] ∧ 0 < m ∧ m < 1073741824 ∧ PoolAt H a ∧ ∀ d H', 0 ≤ d → d < m → But a H H' → PoolAt H' a → Q (.int d) H'
theorem ok_next (T : Top K mg "_law_next" s_next) (mInt : mg "int" = none) : Fn P w K mg base 1 "_law_next" spNext := by
  refine fn_ok T sc_next so_next (fun vs H Q E h => ?_) (fun _ _ _ _ _ _ us hl => match us, hl with | [_, _], _ => rfl) fun f cdv A outer s H vs Q E hr h nd => ?_
  · obtain ⟨a, m, rfl, _⟩ := h
    rfl
  · obtain ⟨a, m, rfl, m0, m1, ⟨x, y, z, hp⟩, q⟩ := h
    walk_at "sts"
    refine ix_l (by exact SqL.of hp) rfl ?_
    walk_at "sts"
    refine if2 (fun h => ?_) (fun h => ?_)
    · walk_at "sts"
      refine ix_l (by exact SqL.of hp) rfl ?_
      walk_at "sts"
      refine o_mod m0 ?_
      walk_at "sts"
      refine ix_l (by exact SqL.of hp) rfl ?_
      walk_at "sts"
      refine o_fdiv ⟨m0, m1⟩ ?_
      walk_at "sts"
      refine set_l hp rfl ?_
      walk_at "sts"
      exact q _ _ (Int.emod_nonneg _ (by omega)) (Int.emod_lt_of_pos _ m0) (But.refl.upd) ⟨_, _, _, upd_same⟩
    · walk_at "sts"
      refine ix_l (by exact SqL.of hp) rfl ?_
      walk_at "sts"
      refine set_l hp rfl ?_
      walk_at "sts"
      refine ix_l (by exact SqL.of upd_same) rfl ?_
      walk_at "sts"
      refine ix_l (by exact SqL.of upd_same) rfl ?_
      walk_at "sts"
      refine o_mul (.inl (by decide)) ?_
      walk_at "sts"
      refine o_mod (by decide) ?_
      walk_at "sts"
      have b1 := Int.emod_nonneg (z + 7919 * (y + 1) + 13) (show (2147483647 : Int) ≠ 0 by decide)
      have b2 := Int.emod_lt_of_pos (z + 7919 * (y + 1) + 13) (show (0 : Int) < 2147483647 by decide)
      refine o_mul (.inl ⟨by omega, by omega⟩) ?_
      walk_at "sts"
      refine o_mod (by decide) ?_
      walk_at "sts"
      generalize (z + 7919 * (y + 1) + 13) % 2147483647 = u at *
      have c1 := Int.emod_nonneg (u * (u + 48271)) (show (2147483629 : Int) ≠ 0 by decide)
      have c2 := Int.emod_lt_of_pos (u * (u + 48271)) (show (0 : Int) < 2147483629 by decide)
      refine o_mul (.inl ⟨by omega, by omega⟩) ?_
      walk_at "sts"
      refine ix_l (by exact SqL.of upd_same) rfl ?_
      walk_at "sts"
      refine o_mul (.inl (by decide)) ?_
      walk_at "sts"
      refine o_mod (by decide) ?_
      walk_at "sts"
      refine o_fdiv (by decide) ?_
      walk_at "sts"
      refine o_mod m0 ?_
      walk_at "sts"
      exact q _ _ (Int.emod_nonneg _ (by omega)) (Int.emod_lt_of_pos _ m0) (But.refl.upd) ⟨_, _, _, upd_same⟩
end
theorem none_of {H H' : Hp} {p : Addr} (s : Same H H') (n : H' p = none) : H p = none := by
  cases hz : H p with
  | none => rfl
  | some o => exact absurd (s p o hz) (by rw [n]; intro z; cases z)
/-- all tuples stay -/
def TS (H H' : Hp) : Prop := ∀ t xs, H t = some (.tup xs) → H' t = some (.tup xs)
theorem Same.ts {H H' : Hp} (s : Same H H') : TS H H' := fun t xs h => s t _ h
theorem But.ts {a : Addr} {H H' : Hp} {l : List V} (b : But a H H') (ha : H a = some (.lst l)) : TS H H' := fun t xs h => b.tup ha h
theorem PoolAt.ts {a : Addr} {H H' : Hp} (h : PoolAt H a) (b : But a H H') : TS H H' := let ⟨_, _, _, e⟩ := h; But.ts b e
theorem TS.upd {a : Addr} {H : Hp} {l : List V} {o : HO} (ha : H a = some (.lst l)) : TS H (L2.upd H a o) := fun t xs h => by
  rw [upd_ne (ne_of h ha (by intro z; cases z))]
  exact h
theorem TS.trans {H H1 H2 : Hp} (a : TS H H1) (b : TS H1 H2) : TS H H2 := fun t xs h => b t xs (a t xs h)



/-! ### lists of lists, dicts of lists -/
def RsV (H : Hp) : List Addr → List (List Int) → Prop
  | [], L => L = []
  | b :: bs, L => ∃ r rs, L = r :: rs ∧ H b = some (.lst (iV r)) ∧ RsV H bs rs
theorem RsV.len {H : Hp} : ∀ {bs : List Addr} {L : List (List Int)}, RsV H bs L → bs.length = L.length
  | [], _, h => by rw [show _ = _ from h]; rfl
  | _ :: _, _, ⟨r, rs, h1, h2, h3⟩ => by rw [h1, List.length_cons, List.length_cons, h3.len]
theorem RsV.keep {H H' : Hp} : ∀ {bs : List Addr} {L : List (List Int)}, RsV H bs L → (∀ b ∈ bs, ∀ o, H b = some o → H' b = some o) → RsV H' bs L
  | [], _, h, _ => h
  | b :: bs, _, ⟨r, rs, h1, h2, h3⟩, e => ⟨r, rs, h1, e b List.mem_cons_self _ h2, h3.keep fun c hc => e c (List.mem_cons_of_mem _ hc)⟩
theorem RsV.get {H : Hp} : ∀ {bs : List Addr} {L : List (List Int)} {i : Nat} {b : Addr}, RsV H bs L → bs[i]? = some b → ∃ r, L[i]? = some r ∧ H b = some (.lst (iV r))
  | [], _, i, _, _, e => by cases i <;> cases e
  | b :: bs, _, 0, c, ⟨r, rs, h1, h2, h3⟩, e => by cases e; subst h1; exact ⟨r, rfl, h2⟩
  | b :: bs, _, i + 1, c, ⟨r, rs, h1, h2, h3⟩, e => by subst h1; exact h3.get (i := i) (by simpa using e)
theorem RsV.snoc {H : Hp} {b : Addr} {r : List Int} (hb : H b = some (.lst (iV r))) : ∀ {bs : List Addr} {L : List (List Int)}, RsV H bs L → RsV H (bs ++ [b]) (L ++ [r])
  | [], _, h => by rw [show _ = _ from h]; exact ⟨r, [], rfl, hb, rfl⟩
  | _ :: _, _, ⟨r0, rs, h1, h2, h3⟩ => by subst h1; exact ⟨r0, _, rfl, h2, RsV.snoc hb h3⟩
theorem RsV.vl {H : Hp} : ∀ {bs : List Addr} {L : List (List Int)} {b : Addr}, RsV H bs L → b ∈ bs → ∃ r, H b = some (.lst (iV r))
  | b :: bs, _, c, ⟨r, rs, h1, h2, h3⟩, m => by
    rcases List.mem_cons.mp m with rfl | m
    · exact ⟨r, h2⟩
    · exact h3.vl m
structure Rows (H : Hp) (a : Addr) (as : List Addr) (L : List (List Int)) : Prop where
  hd : H a = some (.lst (as.map V.ref))
  rs : RsV H as L
  nd : (a :: as).Nodup
theorem Rows.keep {H H' : Hp} {a : Addr} {as : List Addr} {L : List (List Int)} (h : Rows H a as L) (e : ∀ b ∈ a :: as, ∀ o, H b = some o → H' b = some o) : Rows H' a as L :=
  ⟨e _ List.mem_cons_self _ h.hd, h.rs.keep fun b hb => e b (List.mem_cons_of_mem _ hb), h.nd⟩
theorem Rows.same {H H' : Hp} {a : Addr} {as : List Addr} {L : List (List Int)} (h : Rows H a as L) (e : Same H H') : Rows H' a as L := h.keep fun b _ o z => e b o z
theorem Rows.get {H : Hp} {a : Addr} {as : List Addr} {L : List (List Int)} (h : Rows H a as L) {i : Nat} {r : List Int} (e : L[i]? = some r) : ∃ b, (as.map V.ref)[i]? = some (.ref b) ∧ H b = some (.lst (iV r)) := by
  have hi := (List.getElem?_eq_some_iff.mp e).1
  have hi2 : i < as.length := by rw [h.rs.len]; exact hi
  have eb : as[i]? = some as[i] := List.getElem?_eq_getElem hi2
  obtain ⟨r', e2, hb⟩ := h.rs.get eb
  rw [e] at e2
  cases e2
  exact ⟨as[i], by rw [List.getElem?_map, eb]; rfl, hb⟩
/-- the numbers of a row -/
abbrev FcT := List (Key × List Int)
def zk (F : FcT) (bs : List Addr) : List (Key × V) := List.zipWith (fun p b => (p.1, V.ref b)) F bs
structure Facts (H : Hp) (d : Addr) (bs : List Addr) (F : FcT) : Prop where
  hd : H d = some (.dK (zk F bs))
  rs : RsV H bs (F.map (·.2))
  kn : (F.map (·.1)).Nodup
  nd : (d :: bs).Nodup
theorem Facts.keep {H H' : Hp} {a : Addr} {as : List Addr} {F : FcT} (h : Facts H a as F) (e : ∀ b ∈ a :: as, ∀ o, H b = some o → H' b = some o) : Facts H' a as F :=
  ⟨e _ List.mem_cons_self _ h.hd, h.rs.keep fun b hb => e b (List.mem_cons_of_mem _ hb), h.kn, h.nd⟩
theorem Facts.same {H H' : Hp} {a : Addr} {as : List Addr} {F : FcT} (h : Facts H a as F) (e : Same H H') : Facts H' a as F := h.keep fun b _ o z => e b o z
theorem Facts.len {H : Hp} {a : Addr} {as : List Addr} {F : FcT} (h : Facts H a as F) : as.length = F.length := by rw [h.rs.len, List.length_map]
theorem zk_keys : ∀ (F : FcT) (bs : List Addr), bs.length = F.length → (zk F bs).map (·.1) = F.map (·.1)
  | [], _, _ => rfl
  | p :: F, b :: bs, h => by
    show p.1 :: (zk F bs).map (·.1) = _
    rw [zk_keys F bs (by simpa using h)]
    rfl
theorem zk_len (F : FcT) (bs : List Addr) (h : bs.length = F.length) : (zk F bs).length = F.length := by
  unfold zk
  rw [List.length_zipWith, h, Nat.min_self]
theorem zk_get {F : FcT} {bs : List Addr} {i : Nat} {y : Key} {v : V} (e : (zk F bs)[i]? = some (y, v)) : ∃ l b, F[i]? = some (y, l) ∧ bs[i]? = some b ∧ v = .ref b := by
  unfold zk at e
  rw [List.getElem?_zipWith] at e
  cases hF : F[i]? with
  | none => rw [hF] at e; cases e
  | some p =>
    cases hb : bs[i]? with
    | none => rw [hF, hb] at e; cases e
    | some b =>
      rw [hF, hb] at e
      cases e
      exact ⟨p.2, b, rfl, rfl, rfl⟩
theorem Facts.at {H : Hp} {d : Addr} {bs : List Addr} {F : FcT} (h : Facts H d bs F) {i : Nat} {y : Key} {v : V} (e : (zk F bs)[i]? = some (y, v)) : ∃ l b, F[i]? = some (y, l) ∧ v = .ref b ∧ bs[i]? = some b ∧ H b = some (.lst (iV l)) ∧ valV (zk F bs) y = some (.ref b) := by
  obtain ⟨l, b, e1, e2, rfl⟩ := zk_get e
  obtain ⟨r, e3, hb⟩ := h.rs.get e2
  rw [List.getElem?_map, e1] at e3
  cases e3
  refine ⟨l, b, e1, rfl, e2, hb, ?_⟩
  exact val_nodup (by rw [zk_keys _ _ h.len]; exact h.kn) (y, .ref b) (List.mem_of_getElem? e)
section
variable {P : Program} {w : World} {K : PySem.W.Frag} {mg : Str → Option Value} {base : Heap}
theorem take_snoc' {α : Type} {l : List α} {i : Nat} {x : α} (h : l[i]? = some x) : l.take (i + 1) = l.take i ++ [x] := by
  rw [List.take_add_one, h]
  rfl
theorem fresh_keep {D : Addr} {H H' : Hp} {o : HO} (n : H D = none) (e : Same H H') : Same H (upd H' D o) := fun c u hc => by rw [upd_ne (ne_of_none hc n)]; exact e _ _ hc
end



theorem nd_take {α : Type} {l : List α} (nd : l.Nodup) {i : Nat} {x : α} (h : l[i]? = some x) : x ∉ l.take i := by
  intro m
  obtain ⟨j, hj, e⟩ := List.mem_iff_getElem.mp m
  rw [List.length_take] at hj
  rw [List.getElem_take] at e
  obtain ⟨hi, e2⟩ := List.getElem?_eq_some_iff.mp h
  have := (List.getElem_inj nd).mp (e.trans e2.symm)
  omega
theorem zk_snoc (F : FcT) (bs : List Addr) (h : bs.length = F.length) (p : Key × List Int) (b : Addr) : zk (F ++ [p]) (bs ++ [b]) = zk F bs ++ [(p.1, V.ref b)] := by
  unfold zk
  rw [List.zipWith_append h.symm]
  rfl
theorem put_new {kvs : List (Key × V)} {k : Key} (v : V) (h : k ∉ kvs.map (·.1)) : putK kvs k v = kvs ++ [(k, v)] := by
  refine putK_new v ?_
  cases e : valV kvs k with
  | none => rfl
  | some w => exact absurd (L2.valV_in e) h
theorem nd_snoc {l : List Addr} {c : Addr} (h : l.Nodup) (n : c ∉ l) : (l ++ [c]).Nodup := List.nodup_append.mpr ⟨h, by simp, fun x hx y hy z => n (by rw [List.mem_singleton.mp hy] at z; exact z ▸ hx)⟩
section
variable {P : Program} {w : World} {K : PySem.W.Frag} {mg : Str → Option Value} {base : Heap}
theorem at0 {x : V} {l : List V} : atI (x :: l) 0 = some x := atI_nat (j := 0) rfl
theorem at1 {x y : V} {l : List V} : atI (x :: y :: l) 1 = some y := atI_nat (j := 1) rfl
def inR (n : Nat) (x : Int) : Bool := decide (0 ≤ x) && decide (x < n)
def shB (n : Nat) (r : List Int) : Bool := decide ((r.length : Int) = n) && r.all (inR n)
theorem map_bl {α : Type} (f : α → Bool) (l : List α) : (l.map fun x => V.bl (f x)) = (l.map f).map V.bl := by rw [List.map_map]; rfl
theorem all_id {α : Type} (f : α → Bool) (l : List α) : (l.map f).all id = l.all f := by rw [List.all_map]; rfl
def spShape : Sp := fun vs H Q _ => ∃ b r n, vs = [.ref b, .int ((n : Nat) : Int)] ∧ H b = some (.lst (iV r)) ∧ r.length ≤ 1000 ∧ ∀ H', Same H H' → Q (.bl (shB n r)) H'
theorem ok_shape (T : Top K mg "has_shape" s_has_shape) (mLen : mg "len" = none) (mAll : mg "all" = none) : Fn P w K mg base 1 "has_shape" spShape := by
  refine fn_okC T sc_has_shape so_has_shape (fun vs H Q E h => by obtain ⟨b, r, n, rfl, _⟩ := h; rfl) (fun _ _ _ _ _ _ us hl => match us, hl with | [_, _], _ => rfl) fun f cdv A outer s H vs Q E hr h nd => ?_
  obtain ⟨b, r, n, rfl, hb, hz, q⟩ := h
  refine l_cons (s_ret (e_and (e_cmp (e_callB (x := "len") (by assumption) b_len (a_cons (e_var (a_nil (c_lenL (by exact SqL.of hb) (e_var (o_eqI ⟨_, rfl, ?_⟩))))))))))
  rw [List.length_map]
  by_cases hl : (r.length : Int) = n
  · refine ifT hl (e_one (e_callB (x := "all") (by assumption) b_all (a_cons (e_lcL (by exact bk_has_shape0) (e_var ⟨b, _, rfl, SqL.of hb, fun D nD => ?_⟩)))))
    refine ⟨fun k H2 => H2 D = some (.lst ((r.take k).map fun x => V.bl (inR n x))) ∧ Same H H2, ⟨by rw [List.take_zero]; exact upd_same, fun c u hc => by rw [upd_ne (ne_of_none hc nD)]; exact hc⟩, fun k H2 _ p => SqL.of (p.2 _ _ hb), ?_, ?_⟩
    · intro k x H2 hx p s0 H0 C0 cl fp IB
      obtain ⟨p1, p2⟩ := p
      rw [List.getElem?_map] at hx
      obtain ⟨i, hi, rfl⟩ := Option.map_eq_some_iff.mp hx
      have hk := (List.getElem?_eq_some_iff.mp hi).1
      have fin : ∀ z : Bool, z = inR n i → ∃ acc, H2 D = some (.lst acc) ∧ acc.length < sizeLine ∧ upd H2 D (.lst (acc ++ [.bl z])) D = some (.lst ((r.take (k + 1)).map fun x => V.bl (inR n x))) ∧ Same H (upd H2 D (.lst (acc ++ [.bl z]))) := by
        as_aux_lemma =>
          intro z hz
          subst hz
          refine ⟨_, p1, by rw [List.length_map, List.length_take]; show _ < 2 ^ 24; omega, ?_, fresh_keep nD p2⟩
          rw [take_snoc' hi, List.map_append]
          exact upd_same
      refine e_chain (e_int (b_var (o_le ⟨_, rfl, ?_⟩)))
      by_cases h0 : 0 ≤ i
      · exact ifT h0 (b_var (o_lt (fin _ (by unfold inR; rw [decide_eq_true h0]; rfl))))
      · exact ifF h0 (fin _ (by unfold inR; rw [decide_eq_false h0]; rfl))
    · intro H2 p
      obtain ⟨p1, p2⟩ := p
      rw [List.length_map, List.take_length, map_bl] at p1
      refine a_nil (c_allL rfl (SqL.of p1) ?_)
      rw [all_id]
      have := q H2 p2
      unfold shB at this
      rw [decide_eq_true hl] at this
      exact this
  · refine ifF hl ?_
    have := q H (Same.refl _)
    unfold shB at this
    rw [decide_eq_false hl] at this
    exact this
end



theorem l_join {X : Cx} {st : Stmt} {rest : List Stmt} {C : _} {σ : L2.St} {H : Hp} (Pm : L2.St → Hp → Prop) (h1 : ∀ σ H, Pm σ H → wL X rest C σ H) (h2 : (∀ σ H, Pm σ H → wL X rest C σ H) → wL X (st :: rest) C σ H) : wL X (st :: rest) C σ H := h2 h1
def nr (L : List (List Int)) (a : Nat) : List Int := L.getD a []
def gg (L : List (List Int)) (a b : Nat) : Int := (nr L a).getD b 0
def SqP (L : List (List Int)) : Prop := ∀ r ∈ L, r.length = L.length ∧ ∀ x ∈ r, 0 ≤ x ∧ x < L.length
def GrpP (L : List (List Int)) : Prop := ∀ a b, a < L.length → b < L.length → nr L (gg L a b).toNat = (nr L b).map fun c => gg L a c.toNat
def OrdP (L : List (List Int)) : Prop := ∀ a b, a < L.length → b < a → gg L a b = gg L b a
def ShpP (L : List (List Int)) : Prop := L ≠ [] ∧ L.all (shB L.length) = true
def UntP (L : List (List Int)) : Prop := nr L 0 = (List.range L.length).map fun (k : Nat) => (k : Int)
def FctP (L : List (List Int)) (F : FcT) : Prop := F.all (fun p => p.2.all (inR L.length)) = true
open Classical in
noncomputable def flt (L : List (List Int)) (F : FcT) : Option Str :=
  if ¬ ShpP L then some ("shape" : Str) else if ¬ UntP L then some ("unit" : Str) else if ¬ OrdP L then some ("order" : Str) else if ¬ GrpP L then some ("grouping" : Str) else if ¬ FctP L F then some ("fact" : Str) else none
def vO : Option Str → V
  | none => .non
  | some z => .str z
open Classical in
noncomputable def grpB (L : List (List Int)) : Bool := decide (GrpP L)
open Classical in
theorem grp_t {L : List (List Int)} (h : GrpP L) : grpB L = true := decide_eq_true h
open Classical in
theorem grp_f {L : List (List Int)} (h : ¬ GrpP L) : grpB L = false := decide_eq_false h
theorem nr_get {L : List (List Int)} {a : Nat} (h : a < L.length) : L[a]? = some (nr L a) := by
  rw [List.getElem?_eq_getElem h]
  unfold nr
  rw [List.getD_eq_getElem?_getD, List.getElem?_eq_getElem h]
  rfl
theorem gg_get {L : List (List Int)} {a b : Nat} (h : b < (nr L a).length) : (nr L a)[b]? = some (gg L a b) := by
  rw [List.getElem?_eq_getElem h]
  unfold gg
  rw [List.getD_eq_getElem?_getD, List.getElem?_eq_getElem h]
  rfl
theorem sq_row {L : List (List Int)} (s : SqP L) {a : Nat} (h : a < L.length) : (nr L a).length = L.length := (s _ (List.mem_of_getElem? (nr_get h))).1
theorem sq_in {L : List (List Int)} (s : SqP L) {a b : Nat} (h : a < L.length) (h2 : b < L.length) : 0 ≤ gg L a b ∧ gg L a b < L.length := by
  have hl := sq_row s h
  exact (s _ (List.mem_of_getElem? (nr_get h))).2 _ (List.mem_of_getElem? (gg_get (by omega)))
theorem sq_of {L : List (List Int)} (h : ShpP L) : SqP L := by
  intro r hr
  have h2 := List.all_eq_true.mp h.2 r hr
  unfold shB at h2
  rw [Bool.and_eq_true] at h2
  refine ⟨by have := of_decide_eq_true h2.1; omega, fun x hx => ?_⟩
  have h3 := List.all_eq_true.mp h2.2 x hx
  unfold inR at h3
  rw [Bool.and_eq_true] at h3
  exact ⟨of_decide_eq_true h3.1, of_decide_eq_true h3.2⟩
theorem eqv_ints : ∀ xs ys : List Int, PyData.eqvAll (xs.map .int) (ys.map .int) = decide (xs = ys)
  | [], [] => rfl
  | [], _ :: _ => rfl
  | _ :: _, [] => rfl
  | x :: xs, y :: ys => by
    show ((x == y) && PyData.eqvAll (xs.map .int) (ys.map .int)) = _
    rw [eqv_ints xs ys]
    by_cases h : x = y
    · subst h; simp
    · simp [h]
theorem lay_ints : ∀ l : List Int, PyData.canLayAll0 (l.map .int) = true
  | [] => rfl
  | _ :: l => by show (true && PyData.canLayAll0 _) = true; rw [lay_ints l]; rfl
theorem sh_ints (l : List Int) : SeqAt.shaped (.list (l.map .int)) = true := by
  unfold SeqAt.shaped
  rw [Bool.and_eq_true]
  refine ⟨lay_ints l, decide_eq_true ?_⟩
  show PyData.depthAll _ + 1 ≤ 64
  rw [depth_ints]
  decide
/-- two lists of numbers -/
theorem o_neL {X : Cx} {H : Hp} {Q : VK} {n : Nat} {a b : Addr} {xs ys : List Int} (hr : Room n X.A) (h1 : SqL X.K H a (iV xs)) (h2 : SqL X.K H b (iV ys)) (q : Q (.bl (!decide (xs = ys))) H) : wK X .NotEq (.ref a) (.ref b) H Q := by
  refine o_neD hr (.lst h1 (dp_ints xs)) (.lst h2 (dp_ints ys)) (sh_ints xs) (sh_ints ys) ?_
  rw [show PyData.eqv (.list (xs.map .int)) (.list (ys.map .int)) = PyData.eqvAll (xs.map .int) (ys.map .int) from rfl, eqv_ints]
  exact q
theorem at_int {l : List V} {i : Int} {v : V} (h0 : 0 ≤ i) (h : l[i.toNat]? = some v) : atI l i = some v := by
  have : i = ((i.toNat : Nat) : Int) := by omega
  rw [this]
  exact atI_nat h
theorem iv_get {r : List Int} {i : Nat} {x : Int} (h : r[i]? = some x) : (iV r)[i]? = some (.int x) := by rw [List.getElem?_map, h]; rfl
section
variable {P : Program} {w : World} {K : PySem.W.Frag} {mg : Str → Option Value} {base : Heap}
theorem Rows.row {H : Hp} {a : Addr} {as : List Addr} {L : List (List Int)} (h : Rows H a as L) {i : Nat} (e : i < L.length) : ∃ b, (as.map V.ref)[i]? = some (.ref b) ∧ H b = some (.lst (iV (nr L i))) := h.get (nr_get e)
def spGrp : Sp := fun vs H Q _ => ∃ a as L, vs = [.ref a] ∧ Rows H a as L ∧ SqP L ∧ L.length ≤ 1000 ∧ ∀ H', Same H H' → Q (.bl (grpB L)) H'
theorem ok_grp (T : Top K mg "does_grouping_hold" s_does_grouping_hold) (mE : mg "enumerate" = none) : Fn P w K mg base 1 "does_grouping_hold" spGrp := by
  refine fn_okC T sc_does_grouping_hold so_does_grouping_hold (fun vs H Q E h => by obtain ⟨a, as, L, rfl, _⟩ := h; rfl) (fun _ _ _ _ _ _ us hl => match us, hl with | [_], _ => rfl) fun f cdv A outer s H vs Q E hr h nd => ?_
  obtain ⟨a, as, L, rfl, hr0, sq, hz, q⟩ := h
  have lL := hr0.rs.len
  refine l_cons (s_forE (by assumption) (e_var ⟨a, as.map V.ref, rfl, SqL.of hr0.hd, ?_⟩))
  refine ⟨fun k σ H' => ∃ x1 x2 x3 x4, σ = [some (.ref a), x1, x2, x3, x4, none] ∧ Same H H' ∧ ∀ a' < k, ∀ b < L.length, nr L (gg L a' b).toNat = (nr L b).map fun c => gg L a' c.toNat, ⟨none, none, none, none, rfl, Same.refl _, fun _ h => absurd h (Nat.not_lt_zero _)⟩, ?_, ?_, ?_⟩
  · intro k σ H' _ p
    obtain ⟨_, _, _, _, _, e, _⟩ := p
    exact SqL.of (e _ _ hr0.hd)
  · intro k u T1 σ H' hu p nT
    obtain ⟨x1, x2, x3, x4, rfl, e, hk⟩ := p
    have hkl : k < L.length := by have := (List.getElem?_eq_some_iff.mp hu).1; rw [List.length_map, lL] at this; exact this
    obtain ⟨bk, hbk, hbr⟩ := hr0.row hkl
    rw [hbk] at hu
    cases hu
    have e1 : Same H (upd H' T1 (.tup [.int ((k : Nat) : Int), .ref bk])) := fun c o hc => by rw [upd_ne (ne_of_none (e _ _ hc) nT)]; exact e _ _ hc
    generalize upd H' T1 (.tup [.int ((k : Nat) : Int), .ref bk]) = H1 at e1
    show wL _ _ _ [some (.ref a), some (.int (k : Int)), some (.ref bk), x3, x4, none] _
    refine l_cons (s_forE (by assumption) (e_var ⟨bk, _, rfl, SqL.of (e1 _ _ hbr), ?_⟩))
    refine ⟨fun j σ H' => ∃ x3 x4, σ = [some (.ref a), some (.int (k : Int)), some (.ref bk), x3, x4, none] ∧ Same H H' ∧ ∀ b < j, nr L (gg L k b).toNat = (nr L b).map fun c => gg L k c.toNat, ⟨x3, x4, rfl, e1, fun _ h => absurd h (Nat.not_lt_zero _)⟩, ?_, ?_, ?_⟩
    · intro j σ H' _ p
      obtain ⟨_, _, _, e, _⟩ := p
      exact SqL.of (e _ _ hbr)
    · intro j u T2 σ H' hu p nT
      obtain ⟨x3, x4, rfl, e, hj⟩ := p
      have hjl : j < L.length := by have := (List.getElem?_eq_some_iff.mp hu).1; rw [List.length_map, sq_row sq hkl] at this; exact this
      rw [iv_get (gg_get (by rw [sq_row sq hkl]; exact hjl))] at hu
      cases hu
      have e2 : Same H (upd H' T2 (.tup [.int ((j : Nat) : Int), .int (gg L k j)])) := fun c o hc => by rw [upd_ne (ne_of_none (e _ _ hc) nT)]; exact e _ _ hc
      generalize upd H' T2 (.tup [.int ((j : Nat) : Int), .int (gg L k j)]) = H2 at e2
      show wL _ _ _ [some (.ref a), some (.int (k : Int)), some (.ref bk), some (.int (j : Int)), some (.int (gg L k j)), none] _
      obtain ⟨g0, g1⟩ := sq_in sq hkl hjl
      obtain ⟨bf, hbf, hfr⟩ := hr0.row (i := (gg L k j).toNat) (by omega)
      obtain ⟨bj, hbj, hjr⟩ := hr0.row hjl
      refine l_cons (s_if (t_cmp (e_ix (e_var (e_var (ix_l (by exact SqL.of (e2 _ _ hr0.hd)) (at_int g0 hbf) ?_))))))
      refine e_lcL (by exact bk_does_grouping_hold0) (e_ix (e_var (e_var (ix_l (by exact SqL.of (e2 _ _ hr0.hd)) (atI_nat hbj) ⟨bj, _, rfl, SqL.of (e2 _ _ hjr), fun D nD => ?_⟩))))
      refine ⟨fun i H3 => H3 D = some (.lst (iV (((nr L j).take i).map fun c => gg L k c.toNat))) ∧ Same H2 H3, ⟨by rw [List.take_zero]; exact upd_same, fun c u hc => by rw [upd_ne (ne_of_none hc nD)]; exact hc⟩, fun i H3 _ p => SqL.of (p.2 _ _ (e2 _ _ hjr)), ?_, ?_⟩
      · intro i x H3 hx p s0 H0 C0 cl fp IB
        obtain ⟨p1, p2⟩ := p
        have e3 := e2.trans p2
        rw [List.getElem?_map] at hx
        obtain ⟨c, hc, rfl⟩ := Option.map_eq_some_iff.mp hx
        have hil := (List.getElem?_eq_some_iff.mp hc).1
        rw [sq_row sq hjl] at hil
        obtain ⟨c0, c1⟩ := (sq _ (List.mem_of_getElem? (nr_get hjl))).2 c (List.mem_of_getElem? hc)
        refine e_ix (e_ix (b_var (b_var (ix_l (by exact SqL.of (e3 _ _ hr0.hd)) (atI_nat hbk) (b_var (ix_l (by exact SqL.of (e3 _ _ hbr)) (at_int c0 (iv_get (gg_get (by rw [sq_row sq hkl]; omega)))) ?_))))))
        refine ⟨_, p1, by rw [List.length_map, List.length_map, List.length_take]; show _ < 2 ^ 24; omega, ?_, fresh_keep nD p2⟩
        have ei : iV (((nr L j).take (i + 1)).map fun c => gg L k c.toNat) = iV (((nr L j).take i).map fun c => gg L k c.toNat) ++ [V.int (gg L k c.toNat)] := by
          rw [take_snoc' hc, List.map_append]
          exact List.map_append
        rw [ei]
        exact upd_same
      · intro H3 p
        obtain ⟨p1, e23⟩ := p
        rw [List.length_map, List.take_length] at p1
        have e3 := e2.trans e23
        refine o_neL (n := 0) (by exact hr) (SqL.of (e3 _ _ hfr)) (SqL.of p1) ⟨_, rfl, ?_⟩
        by_cases hq : nr L (gg L k j).toNat = (nr L j).map fun c => gg L k c.toNat
        · rw [decide_eq_true hq]
          refine iteF (l_nil (l_nil ⟨_, _, rfl, e3, fun b hb => ?_⟩))
          by_cases hbj : b = j
          · subst hbj; exact hq
          · exact hj b (by omega)
        · rw [decide_eq_false hq]
          refine iteT (l_cons (s_ret (e_bl ?_)))
          have := q H3 e3
          rw [grp_f fun hg => hq (hg k j hkl hjl)] at this
          exact this
    · intro σ H' p
      obtain ⟨x3, x4, rfl, e, hj⟩ := p
      rw [List.length_map, sq_row sq hkl] at hj
      refine l_nil ⟨_, _, _, _, rfl, e, fun a' ha b hb => ?_⟩
      by_cases hak : a' = k
      · subst hak; exact hj b hb
      · exact hk a' (by omega) b hb
  · intro σ H' p
    obtain ⟨x1, x2, x3, x4, rfl, e, hk⟩ := p
    rw [List.length_map, lL] at hk
    refine l_cons (s_ret (e_bl ?_))
    have := q H' e
    rw [grp_t fun a' b ha hb => hk a' ha b hb] at this
    exact this
end



open Classical in
theorem flt_shape {L : List (List Int)} {F : FcT} (h : ¬ ShpP L) : flt L F = some ("shape" : Str) := if_pos h
open Classical in
theorem flt_unit {L : List (List Int)} {F : FcT} (h1 : ShpP L) (h : ¬ UntP L) : flt L F = some ("unit" : Str) := by
  unfold flt
  rw [if_neg (not_not_intro h1), if_pos h]
open Classical in
theorem flt_order {L : List (List Int)} {F : FcT} (h1 : ShpP L) (h2 : UntP L) (h : ¬ OrdP L) : flt L F = some ("order" : Str) := by
  unfold flt
  rw [if_neg (not_not_intro h1), if_neg (not_not_intro h2), if_pos h]
open Classical in
theorem flt_group {L : List (List Int)} {F : FcT} (h1 : ShpP L) (h2 : UntP L) (h3 : OrdP L) (h : ¬ GrpP L) : flt L F = some ("grouping" : Str) := by
  unfold flt
  rw [if_neg (not_not_intro h1), if_neg (not_not_intro h2), if_neg (not_not_intro h3), if_pos h]
open Classical in
theorem flt_fact {L : List (List Int)} {F : FcT} (h1 : ShpP L) (h2 : UntP L) (h3 : OrdP L) (h4 : GrpP L) (h : ¬ FctP L F) : flt L F = some ("fact" : Str) := by
  unfold flt
  rw [if_neg (not_not_intro h1), if_neg (not_not_intro h2), if_neg (not_not_intro h3), if_neg (not_not_intro h4), if_pos h]
open Classical in
theorem flt_none {L : List (List Int)} {F : FcT} (h1 : ShpP L) (h2 : UntP L) (h3 : OrdP L) (h4 : GrpP L) (h : FctP L F) : flt L F = none := by
  unfold flt
  rw [if_neg (not_not_intro h1), if_neg (not_not_intro h2), if_neg (not_not_intro h3), if_neg (not_not_intro h4), if_neg (not_not_intro h)]
def SzP (L : List (List Int)) (F : FcT) : Prop := L.length ≤ 1000 ∧ (∀ r ∈ L, r.length ≤ 1000) ∧ F.length ≤ 1000 ∧ ∀ p ∈ F, p.2.length ≤ 1000
theorem rg_iV (n : Nat) : ((List.range n).map fun (k : Nat) => V.int (k : Int)) = iV ((List.range n).map fun (k : Nat) => (k : Int)) := by rw [iV, List.map_map]; rfl
section
variable {P : Program} {w : World} {K : PySem.W.Frag} {mg : Str → Option Value} {base : Heap}
def spFault : Sp := fun vs H Q _ => ∃ a d as bs L F, vs = [.ref a, .ref d] ∧ Rows H a as L ∧ Facts H d bs F ∧ SzP L F ∧ ∀ H', Same H H' → Q (vO (flt L F)) H'
theorem ok_fault (T : Top K mg "fault_of" s_fault_of) (mLen : mg "len" = none) (mAll : mg "all" = none) (mL : mg "list" = none) (mR : mg "range" = none) (FS : Fn P w K mg base 1 "has_shape" spShape) (FG : Fn P w K mg base 1 "does_grouping_hold" spGrp) : Fn P w K mg base 2 "fault_of" spFault := by
  refine fn_okC T sc_fault_of so_fault_of (fun vs H Q E h => by obtain ⟨a, d, as, bs, L, F, rfl, _⟩ := h; rfl) (fun _ _ _ _ _ _ us hl => match us, hl with | [_, _], _ => rfl) fun f cdv A outer s H vs Q E hr h nd => ?_
  obtain ⟨a, d, as, bs, L, F, rfl, hr0, hf0, ⟨z1, z2, z3, z4⟩, q⟩ := h
  have lL := hr0.rs.len
  refine l_cons (s_set (e_callB (x := "len") (by assumption) b_len (a_cons (e_var (a_nil (c_lenL (by exact SqL.of hr0.hd) ?_))))))
  rw [List.length_map, lL]
  show wL _ _ _ [some (.ref a), some (.ref d), some (.int (L.length : Int)), none, none, none, none, none] _
  -- behind the shape
  refine l_join (fun σ H' => σ = [some (.ref a), some (.ref d), some (.int (L.length : Int)), none, none, none, none, none] ∧ Same H H' ∧ ShpP L) ?_ fun go => ?_
  · intro σ H1 ⟨hσ, e1, hsh⟩
    subst hσ
    have sq := sq_of hsh
    have hpos : 0 < L.length := List.length_pos_iff.mpr hsh.1
    obtain ⟨b0, hb0, hr00⟩ := hr0.row hpos
    refine l_cons (s_if (t_cmp (e_ix (e_var (e_int (ix_l (by exact SqL.of (e1 _ _ hr0.hd)) (atI_nat hb0) ?_))))))
    refine e_listRg (by assumption) (by assumption) (e_var ⟨L.length, rfl, by omega, fun l nl => ?_⟩)
    rw [rg_iV]
    have e2 : Same H1 (upd H1 l (.lst (iV ((List.range L.length).map fun (k : Nat) => (k : Int))))) := fun c u hc => by rw [upd_ne (ne_of_none hc nl)]; exact hc
    refine o_neL (n := 1) (by exact hr) (SqL.of (e2 _ _ (e1 _ _ hr00))) (SqL.of upd_same) ⟨_, rfl, ?_⟩
    have e12 := e1.trans e2
    generalize upd H1 l (.lst (iV ((List.range L.length).map fun (k : Nat) => (k : Int)))) = H2 at e12
    by_cases hu : UntP L
    · rw [decide_eq_true (show nr L 0 = _ from hu)]
      refine iteF (l_nil ?_)
      -- the order
      refine l_cons (s_forR (by assumption) (e_var ⟨L.length, rfl, by omega, fun k σ H' => ∃ x3 x4, σ = [some (.ref a), some (.ref d), some (.int (L.length : Int)), x3, x4, none, none, none] ∧ Same H H' ∧ ∀ a' < k, ∀ b < a', gg L a' b = gg L b a', ⟨none, none, rfl, e12, fun _ h => absurd h (Nat.not_lt_zero _)⟩, ?_, ?_⟩))
      · intro k σ H' hk p
        obtain ⟨x3, x4, rfl, e, ho⟩ := p
        show wL _ _ _ [some (.ref a), some (.ref d), some (.int (L.length : Int)), some (.int (k : Int)), x4, none, none, none] _
        refine l_cons (s_forR (by assumption) (e_var ⟨k, rfl, by omega, fun j σ H' => ∃ x4, σ = [some (.ref a), some (.ref d), some (.int (L.length : Int)), some (.int (k : Int)), x4, none, none, none] ∧ Same H H' ∧ ∀ b < j, gg L k b = gg L b k, ⟨x4, rfl, e, fun _ h => absurd h (Nat.not_lt_zero _)⟩, ?_, ?_⟩))
        · intro j σ H' hj p
          obtain ⟨x4, rfl, e, ho2⟩ := p
          have hjl : j < L.length := by omega
          show wL _ _ _ [some (.ref a), some (.ref d), some (.int (L.length : Int)), some (.int (k : Int)), some (.int (j : Int)), none, none, none] _
          obtain ⟨bk, hbk, hkr⟩ := hr0.row hk
          obtain ⟨bj, hbj, hjr⟩ := hr0.row hjl
          refine l_cons (s_if (t_cmp (e_ix (e_ix (e_var (e_var (ix_l (by exact SqL.of (e _ _ hr0.hd)) (atI_nat hbk) (e_var (ix_l (by exact SqL.of (e _ _ hkr)) (atI_nat (iv_get (gg_get (by rw [sq_row sq hk]; exact hjl)))) ?_)))))))))
          refine e_ix (e_ix (e_var (e_var (ix_l (by exact SqL.of (e _ _ hr0.hd)) (atI_nat hbj) (e_var (ix_l (by exact SqL.of (e _ _ hjr)) (atI_nat (iv_get (gg_get (by rw [sq_row sq hjl]; exact hk)))) ?_))))))
          refine o_neI ⟨_, rfl, ?_⟩
          by_cases hq : gg L k j = gg L j k
          · rw [decide_eq_true hq]
            refine iteF (l_nil (l_nil ⟨_, rfl, e, fun b hb => ?_⟩))
            by_cases hbj : b = j
            · subst hbj; exact hq
            · exact ho2 b (by omega)
          · rw [decide_eq_false hq]
            refine iteT (l_cons (s_ret (e_str ?_)))
            have := q H' e
            rw [flt_order hsh hu fun hg => hq (hg k j hk hj)] at this
            exact this
        · intro σ H' p
          obtain ⟨x4, rfl, e, ho2⟩ := p
          refine l_nil ⟨_, _, rfl, e, fun a' ha b hb => ?_⟩
          by_cases hak : a' = k
          · subst hak; exact ho2 b hb
          · exact ho a' (by omega) b hb
      · intro σ H3 p
        obtain ⟨x3, x4, rfl, e3, ho⟩ := p
        have hord : OrdP L := fun a' b ha hb => ho a' ha b hb
        refine l_cons (s_if (t_not (t_val (e_call (by exact FG) (by exact hr) (by decide) ?_))))
        walk_at "sts"
        refine ⟨a, as, L, rfl, hr0.same e3, sq, z1, fun H4 e4 => ⟨_, rfl, ?_⟩⟩
        have e34 := e3.trans e4
        by_cases hg : GrpP L
        · rw [grp_t hg]
          refine iteF (l_nil ?_)
          have hd4 := e34 _ _ hf0.hd
          refine l_cons (s_forD hd4 fun o => e_var ⟨rfl, upd_same, ?_⟩)
          refine ⟨fun k σ H' => ∃ x5, σ = [some (.ref a), some (.ref d), some (.int (L.length : Int)), x3, x4, x5, none, none] ∧ H' d = some (.frz o (.dK (zk F bs))) ∧ (∀ c u, c ≠ d → H c = some u → H' c = some u) ∧ ∀ p ∈ F.take k, p.2.all (inR L.length) = true, ⟨none, rfl, upd_same, fun c u nc hc => by rw [upd_ne nc]; exact e34 _ _ hc, by simp⟩, ?_, ?_, ?_⟩
          · intro k σ H' _ p
            obtain ⟨_, _, p1, _⟩ := p
            exact p1
          · intro k y v σ H' hky p
            obtain ⟨x5, rfl, p1, p2, p3⟩ := p
            obtain ⟨l, b, hF, rfl, hb, hbl, hv⟩ := hf0.at hky
            have lz := z4 _ (List.mem_of_getElem? hF)
            have nbd : b ≠ d := fun z => by subst z; rw [hf0.hd] at hbl; cases hbl
            have hb' := p2 _ _ nbd hbl
            have gb : DGet H' d (kV y) (some (.ref b)) := by rw [← hv]; exact dg_F p1
            show wL _ _ _ [some (.ref a), some (.ref d), some (.int (L.length : Int)), x3, x4, some (kV y), none, none] _
            refine l_cons (s_if (t_not (t_val (e_callB (x := "all") (by assumption) b_all (a_cons (e_lcL (by exact bk_fault_of1) (e_dg (n := 1) (by exact hr) (e_var (e_var ⟨d, _, rfl, gb, b, _, rfl, SqL.of hb', fun D nD => ?_⟩)))))))))
            refine ⟨fun i H2 => H2 D = some (.lst ((l.take i).map fun x => V.bl (inR L.length x))) ∧ Same H' H2, ⟨by rw [List.take_zero]; exact upd_same, fun c u hc => by rw [upd_ne (ne_of_none hc nD)]; exact hc⟩, fun i H2 _ p => SqL.of (p.2 _ _ hb'), ?_, ?_⟩
            · intro i x H2 hx p s0 H0 C0 cl fp IB
              obtain ⟨r1, r2⟩ := p
              rw [List.getElem?_map] at hx
              obtain ⟨y0, hy0, rfl⟩ := Option.map_eq_some_iff.mp hx
              have hil := (List.getElem?_eq_some_iff.mp hy0).1
              have fin : ∀ z : Bool, z = inR L.length y0 → ∃ acc, H2 D = some (.lst acc) ∧ acc.length < sizeLine ∧ upd H2 D (.lst (acc ++ [.bl z])) D = some (.lst ((l.take (i + 1)).map fun x => V.bl (inR L.length x))) ∧ Same H' (upd H2 D (.lst (acc ++ [.bl z]))) := by
                as_aux_lemma =>
                  intro z hz
                  subst hz
                  refine ⟨_, r1, by rw [List.length_map, List.length_take]; show _ < 2 ^ 24; have : l.length ≤ 1000 := lz; omega, ?_, fresh_keep nD r2⟩
                  rw [take_snoc' hy0, List.map_append]
                  exact upd_same
              refine e_chain (e_int (b_var (o_le ⟨_, rfl, ?_⟩)))
              by_cases h0 : 0 ≤ y0
              · exact ifT h0 (b_var (o_lt (fin _ (by unfold inR; rw [decide_eq_true h0]; rfl))))
              · exact ifF h0 (fin _ (by unfold inR; rw [decide_eq_false h0]; rfl))
            · intro H2 p
              obtain ⟨r1, r2⟩ := p
              rw [List.length_map, List.take_length, map_bl] at r1
              refine a_nil (c_allL rfl (SqL.of r1) ⟨_, rfl, ?_⟩)
              rw [all_id]
              have keep2 : ∀ c u, c ≠ d → H c = some u → H2 c = some u := fun c u nc hc => r2 _ _ (p2 c u nc hc)
              cases hall : l.all (inR L.length) with
              | true =>
                refine iteF (l_nil (l_nil ⟨_, rfl, r2 _ _ p1, keep2, fun p hp => ?_⟩))
                rw [take_snoc' hF] at hp
                rcases List.mem_append.mp hp with hp | hp
                · exact p3 p hp
                · rw [List.mem_singleton.mp hp]; exact hall
              | false =>
                refine iteT (l_cons (s_ret (e_str ⟨r2 _ _ p1, ?_⟩)))
                have := q (upd H2 d (.dK (zk F bs))) fun c u hc => by
                  by_cases e : c = d
                  · subst e; rw [upd_same]; rw [hf0.hd] at hc; exact hc
                  · rw [upd_ne e]; exact keep2 c u e hc
                rw [flt_fact hsh hu hord hg fun hfc => by
                  have := List.all_eq_true.mp hfc _ (List.mem_of_getElem? hF)
                  have h2 : l.all (inR L.length) = true := this
                  rw [hall] at h2
                  cases h2] at this
                exact this
          · intro σ H' p
            obtain ⟨x5, rfl, p1, p2, p3⟩ := p
            rw [zk_len _ _ hf0.len, List.take_length] at p3
            refine l_cons (s_ret (e_non ?_))
            have := q (upd H' d (.dK (zk F bs))) fun c u hc => by
              by_cases e : c = d
              · subst e; rw [upd_same]; rw [hf0.hd] at hc; exact hc
              · rw [upd_ne e]; exact p2 c u e hc
            rw [flt_none hsh hu hord hg (List.all_eq_true.mpr p3)] at this
            exact this
        · rw [grp_f hg]
          refine iteT (l_cons (s_ret (e_str ?_)))
          have := q H4 e34
          rw [flt_group hsh hu hord hg] at this
          exact this
    · rw [decide_eq_false (show ¬ nr L 0 = _ from hu)]
      refine iteT (l_cons (s_ret (e_str ?_)))
      have := q H2 e12
      rw [flt_unit hsh hu] at this
      exact this
  · refine l_cons (s_if (t_w (w_or (t_cmp (e_var (e_int (o_eqI ⟨_, rfl, ?_⟩)))))))
    by_cases hn : L = []
    · subst hn
      refine ite_t rfl (ite_t rfl (l_cons (s_ret (e_str ?_))))
      have := q H (Same.refl _)
      rw [flt_shape fun h => h.1 rfl] at this
      exact this
    · have hpos : 0 < L.length := List.length_pos_iff.mpr hn
      refine ifF (by omega) (w_or1 (t_not (t_val (e_callB (x := "all") (by assumption) b_all (a_cons (e_lcL (by exact bk_fault_of0) (e_var ⟨a, _, rfl, SqL.of hr0.hd, fun D nD => ?_⟩)))))))
      refine ⟨fun k H2 => H2 D = some (.lst ((L.take k).map fun r => V.bl (shB L.length r))) ∧ Same H H2, ⟨by rw [List.take_zero]; exact upd_same, fun c u hc => by rw [upd_ne (ne_of_none hc nD)]; exact hc⟩, fun k H2 _ p => SqL.of (p.2 _ _ hr0.hd), ?_, ?_⟩
      · intro k x H2 hx p s0 H0 C0 cl fp IB
        obtain ⟨p1, p2⟩ := p
        have hkl : k < L.length := by have := (List.getElem?_eq_some_iff.mp hx).1; rw [List.length_map, lL] at this; exact this
        obtain ⟨b, hb, hbr⟩ := hr0.row hkl
        rw [hb] at hx
        cases hx
        refine b_call (by exact FS) (by exact hr) (by decide) (a_cons (b_var (a_cons (b_var (a_nil ?_)))))
        refine ⟨b, nr L k, L.length, rfl, p2 _ _ hbr, z2 _ (List.mem_of_getElem? (nr_get hkl)), fun H3 e3 => ⟨_, e3 _ _ p1, by rw [List.length_map, List.length_take]; show _ < 2 ^ 24; omega, ?_, fresh_keep nD (p2.trans e3)⟩⟩
        rw [take_snoc' (nr_get hkl), List.map_append]
        exact upd_same
      · intro H2 p
        obtain ⟨p1, p2⟩ := p
        rw [List.length_map, lL, List.take_length, map_bl] at p1
        refine a_nil (c_allL rfl (SqL.of p1) ⟨_, rfl, ?_⟩)
        rw [all_id]
        cases hall : L.all (shB L.length) with
        | true => exact iteF (l_nil (go _ H2 ⟨rfl, p2, hn, hall⟩))
        | false =>
          refine iteT (l_cons (s_ret (e_str ?_)))
          have := q H2 p2
          rw [flt_shape fun h => by have h2 := h.2; rw [hall] at h2; cases h2] at this
          exact this
end



theorem o_nisN {X : Cx} {H : Hp} {Q : VK} {x : V} (q : Q (.bl (!decide (x = .non))) H) : wK X .IsNot x .non H Q := k_of op_notN ⟨rfl, q⟩
theorem pf : ¬ (("products" : Str) = "facts") := by decide +kernel
def wfl (a d : Addr) : List (Str × V) := putF "facts" (.ref d) (putF "products" (.ref a) [])
theorem wfl_p (a d : Addr) : (wfl a d).lookup ("products" : Str) = some (.ref a) := by
  unfold wfl
  rw [lookup_putF, if_neg pf, lookup_putF, if_pos rfl]
theorem wfl_f (a d : Addr) : (wfl a d).lookup ("facts" : Str) = some (.ref d) := by
  unfold wfl
  rw [lookup_putF, if_pos rfl]
theorem wfl_no (a d : Addr) {m : Str} (h1 : ¬ m = "facts") (h2 : ¬ m = "products") : (wfl a d).lookup m = none := by
  unfold wfl
  rw [lookup_putF, if_neg h1, lookup_putF, if_neg h2]
  rfl
structure WOk (K : PySem.W.Frag) (mg : Str → Option Value) (C : Addr) : Prop where
  cl : Cls K C
  nP : NoAttr K C "products"
  nF : NoAttr K C "facts"
  mks : PySem.W.makesIn K C = true
  kp : PySem.W.keepIn K (.ref C) = true
  mg : mg "World" = some (.ref C)
def WorldAt (C : Addr) (H : Hp) (p a d : Addr) (as bs : List Addr) (L : List (List Int)) (F : FcT) : Prop := (∃ dx, H p = some (.ins C dx (wfl a d))) ∧ Rows H a as L ∧ Facts H d bs F
section
variable {P : Program} {w : World} {K : PySem.W.Frag} {mg : Str → Option Value} {base : Heap} {C CB : Addr}
theorem ok_bw (T : TopM K CB "__init__" "BadWorld.__init__" s_BadWorld___init) (O : OexC K CB) (no : PySem.W.findIn K (.ref CB) "reason" = some none) (hm : mg "BadWorld" = some (.ref CB)) : Er P w K mg base "BadWorld" CB "reason" := by
  obtain ⟨f, fd, F, hb, hf, hi, hk⟩ := me_ok (P := P) (w := w) (mg := mg) (base := base) (k := 0) (sp := sp1 CB "reason") T sc_BadWorld___init so_BadWorld___init (fun vs H Q E h => by obtain ⟨a, v, rfl, _⟩ := h; rfl) (fun _ _ _ _ _ _ us hl => match us, hl with | [_, _], _ => rfl) fun f cdv A outer s H vs Q E hr h nd => by
    obtain ⟨a, v, rfl, ha, q⟩ := h
    refine l_cons (s_ost ?_)
    walk_at "sts"
    refine ⟨a, CB, rfl, O, no, ha, fun dx nd ne => ?_⟩
    refine l_nil ?_
    exact q dx nd ne
  exact ⟨O, hm, f, fd, _, F, hf, beq_iff_eq.mp hi, hb⟩
def spWInit (C CB : Addr) : Sp := fun vs H Q E => ∃ p dx a d as bs L F, vs = [.ref p, .ref a, .ref d] ∧ H p = some (.ins C dx []) ∧ Rows H a as L ∧ Facts H d bs F ∧ SzP L F ∧
  ((flt L F = none ∧ ∀ a' d' as' bs' H', But p H H' → (∀ b ∈ a' :: as', H b = none) → (∀ b ∈ d' :: bs', H b = none) → WorldAt C H' p a' d' as' bs' L F → Q .non H') ∨
   (∃ z, flt L F = some z ∧ ∀ dd H', But p H H' → H' dd = some (.xd [("reason", .str z)]) → E (.ref CB) (some dd) H'))
theorem ok_winit (T : TopM K C "__init__" "World.__init__" s_World___init) (O : WOk K mg C) (mL : mg "list" = none) (FF : Fn P w K mg base 2 "fault_of" spFault) (ER : Er P w K mg base "BadWorld" CB "reason") : KlN P w K mg base 3 "World" C (spWInit C CB) := by
  obtain ⟨f, fd, FN, hb, hf, hi, hk⟩ := me_okN (P := P) (w := w) (mg := mg) (base := base) (k := 2) (sp := spWInit C CB) T sc_World___init so_World___init (fun vs H Q E h => by obtain ⟨p, dx, a, d, as, bs, L, F, rfl, _⟩ := h; rfl) (fun _ _ _ _ _ _ us hl => match us, hl with | [_, _, _], _ => rfl) fun f cdv A outer s H vs Q E hr h nd tk => by
    obtain ⟨p, dx, a, d, as, bs, L, F, rfl, hp, hr0, hf0, hsz, q⟩ := h
    obtain ⟨z1, z2, z3, z4⟩ := id hsz
    have lL := hr0.rs.len
    have lF := hf0.len
    have npa : ∀ b ∈ a :: as, b ≠ p := fun b hb z => by
      subst z
      rcases List.mem_cons.mp hb with rfl | hb
      · rw [hr0.hd] at hp; cases hp
      · obtain ⟨r, hr⟩ := hr0.rs.vl hb; rw [hr] at hp; cases hp
    have npd : ∀ b ∈ d :: bs, b ≠ p := fun b hb z => by
      subst z
      rcases List.mem_cons.mp hb with rfl | hb
      · rw [hf0.hd] at hp; cases hp
      · obtain ⟨r, hr⟩ := hf0.rs.vl hb; rw [hr] at hp; cases hp
    -- the rows
    refine l_cons (s_fld (e_lcL (by exact bk_World___init0) (e_var ⟨a, as.map V.ref, rfl, SqL.of hr0.hd, fun D nD => ?_⟩)))
    refine ⟨fun k H2 => ∃ cs, H2 D = some (.lst (cs.map V.ref)) ∧ RsV H2 cs (L.take k) ∧ (D :: cs).Nodup ∧ (∀ b ∈ cs, H b = none) ∧ Same H H2, ⟨[], upd_same, by rw [List.take_zero]; exact rfl, by simp, by simp, fun c u hc => by rw [upd_ne (ne_of_none hc nD)]; exact hc⟩, fun k H2 _ p => by obtain ⟨_, _, _, _, _, e⟩ := p; exact SqL.of (e _ _ hr0.hd), ?_, ?_⟩
    · intro k x H2 hx p s0 H0 C0 cl fp IB
      obtain ⟨cs, p1, p2, p3, p4, p5⟩ := p
      rw [List.getElem?_map] at hx
      obtain ⟨b, hb, rfl⟩ := Option.map_eq_some_iff.mp hx
      obtain ⟨r, hr1, hrb⟩ := hr0.rs.get hb
      have hk := (List.getElem?_eq_some_iff.mp hr1).1
      have lcs := p2.len
      rw [List.length_take] at lcs
      refine b_callTy (x := "list") (by assumption) b_list (a_cons (b_var (a_nil (c_listL (p5 _ _ hrb) fun c H3 e3 n3 h3 => ?_))))
      have ncD : c ≠ D := fun z => by subst z; rw [p1] at n3; cases n3
      have nm : c ∉ cs := fun m => by obtain ⟨r, hr⟩ := p2.vl m; rw [hr] at n3; cases n3
      refine ⟨cs.map V.ref, e3 _ _ p1, by rw [List.length_map]; show _ < 2 ^ 24; omega, cs ++ [c], by rw [List.map_append]; exact upd_same, ?_, nd_snoc (l := D :: cs) p3 (fun m => by
        rcases List.mem_cons.mp m with m | m
        · exact ncD m
        · exact nm m), ?_, fun x u hx => by rw [upd_ne (ne_of_none hx nD)]; exact e3 _ _ (p5 _ _ hx)⟩
      · rw [take_snoc' hr1]
        refine RsV.snoc (by rw [upd_ne ncD]; exact h3) (p2.keep fun b hb o z => ?_)
        rw [upd_ne (fun z2 => by subst z2; exact (List.nodup_cons.mp p3).1 hb)]
        exact e3 _ _ z
      · intro x hx
        rcases List.mem_append.mp hx with hx | hx
        · exact p4 x hx
        · rw [List.mem_singleton.mp hx]
          exact none_of p5 n3
    intro H2 p2
    obtain ⟨cs, p1, p2, p3, p4, e2⟩ := p2
    rw [List.length_map, lL, List.take_length] at p2
    have hR2 : Rows H2 D cs L := ⟨p1, p2, p3⟩
    have fD : ∀ b ∈ D :: cs, H b = none := fun b hb => by rcases List.mem_cons.mp hb with rfl | hb; exact nD; exact p4 b hb
    have nDp : ∀ b ∈ D :: cs, b ≠ p := fun b hb z => by subst z; rw [fD _ hb] at hp; cases hp
    refine e_var ⟨p, C, dx, _, rfl, e2 _ _ hp, O.cl, O.nP, by show 0 < 1000; decide, ?_⟩
    have hp3 : upd H2 p (.ins C dx (putF "products" (.ref D) [])) p = some (.ins C dx (putF "products" (.ref D) [])) := upd_same
    have b3 : But p H (upd H2 p (.ins C dx (putF "products" (.ref D) []))) := fun c o nc hc => by rw [upd_ne nc]; exact e2 _ _ hc
    have hR3 : Rows (upd H2 p (.ins C dx (putF "products" (.ref D) []))) D cs L := hR2.keep fun b hb o z => by rw [upd_ne (nDp b hb)]; exact z
    generalize upd H2 p (.ins C dx (putF "products" (.ref D) [])) = H3 at hp3 b3 hR3
    have hf3 : Facts H3 d bs F := hf0.keep fun b hb o z => b3 _ _ (npd b hb) z
    -- the facts
    refine l_cons (s_fld (e_dcD (by exact bk_World___init1) hf3.hd fun o => e_var ⟨rfl, upd_same, fun G nG => ?_⟩))
    have nGd : G ≠ d := fun z => by subst z; rw [upd_same] at nG; cases nG
    rw [upd_ne nGd] at nG
    refine ⟨fun k H' => ∃ ds, H' d = some (.frz o (.dK (zk F bs))) ∧ H' G = some (.dK (zk (F.take k) ds)) ∧ RsV H' ds ((F.take k).map (·.2)) ∧ (G :: ds).Nodup ∧ (∀ b ∈ ds, H3 b = none) ∧ ∀ c u, c ≠ d → H3 c = some u → H' c = some u, ⟨[], by rw [upd_ne (Ne.symm nGd)]; exact upd_same, by rw [List.take_zero]; exact upd_same, by rw [List.take_zero]; exact rfl, by simp, by simp, fun c u nc hc => by rw [upd_ne (ne_of_none hc nG), upd_ne nc]; exact hc⟩, fun k H' _ p => by obtain ⟨_, p1, _⟩ := p; exact p1, ?_, ?_⟩
    · intro k y v H' hk p s0 H0 C0 cl fp IB
      obtain ⟨ds, p1, p2, p3, p4, p5, p6⟩ := p
      obtain ⟨l, b, hF, rfl, hb, hbl, hv⟩ := hf3.at hk
      have hlt := (List.getElem?_eq_some_iff.mp hF).1
      have lcs := p3.len
      rw [List.length_map, List.length_take] at lcs
      have nbd : b ≠ d := fun z => by subst z; rw [hf3.hd] at hbl; cases hbl
      have hb' := p6 _ _ nbd hbl
      have gb : DGet H' d (kV y) (some (.ref b)) := by rw [← hv]; exact dg_F p1
      refine b_var fun s1 H1 C1 cl1 fp1 IB1 => ?_
      refine b_callTy (x := "list") (by assumption) b_list (a_cons (e_dg (n := 2) (by exact hr) (b_var (b_var ⟨d, _, rfl, gb, a_nil (c_listL hb' fun c H4 e4 n4 h4 => ?_)⟩))))
      have ncG : c ≠ G := fun z => by subst z; rw [p2] at n4; cases n4
      have ncd : c ≠ d := fun z => by subst z; rw [p1] at n4; cases n4
      have nH : H3 c = none := by
        cases hz : H3 c with
        | none => rfl
        | some u => have := p6 _ _ ncd hz; rw [n4] at this; cases this
      have ny : y ∉ (zk (F.take k) ds).map (·.1) := by
        rw [zk_keys _ _ (by rw [List.length_take]; omega), List.map_take]
        exact nd_take hf0.kn (by rw [List.getElem?_map, hF]; rfl)
      have nm : c ∉ ds := fun m => by obtain ⟨r, hr⟩ := p3.vl m; rw [hr] at n4; cases n4
      refine ⟨_, y, rfl, e4 _ _ p2, by rw [zk_len _ _ (by rw [List.length_take]; omega), List.length_take]; show _ < 2 ^ 24; omega, ds ++ [c], ?_, ?_, ?_, ?_, ?_, fun x u nx hx => ?_⟩
      · rw [upd_ne (Ne.symm nGd)]; exact e4 _ _ p1
      · rw [upd_same, put_new _ ny, take_snoc' hF, zk_snoc _ _ (by rw [List.length_take]; omega)]
      · rw [take_snoc' hF, List.map_append]
        refine RsV.snoc (by rw [upd_ne ncG]; exact h4) (p3.keep fun b hb o z => ?_)
        rw [upd_ne (fun z2 => by subst z2; exact (List.nodup_cons.mp p4).1 hb)]
        exact e4 _ _ z
      · exact nd_snoc (l := G :: ds) p4 (fun m => by
          rcases List.mem_cons.mp m with m | m
          · exact ncG m
          · exact nm m)
      · intro x hx
        rcases List.mem_append.mp hx with hx | hx
        · exact p5 x hx
        · rw [List.mem_singleton.mp hx]; exact nH
      · rw [upd_ne (ne_of_none hx nG)]
        exact e4 _ _ (p6 _ _ nx hx)
    intro H' p
    obtain ⟨ds, p1, p2, p3, p4, p5, p6⟩ := p
    rw [zk_len _ _ lF, List.take_length] at p2 p3
    refine ⟨p1, ?_⟩
    have fG : ∀ b ∈ G :: ds, H3 b = none := fun b hb => by rcases List.mem_cons.mp hb with rfl | hb; exact nG; exact p5 b hb
    have nGd2 : ∀ b ∈ G :: ds, b ≠ d := fun b hb z => by subst z; have := fG _ hb; rw [hf3.hd] at this; cases this
    have e4 : Same H3 (upd H' d (.dK (zk F bs))) := fun c u hc => by
      by_cases e : c = d
      · subst e; rw [upd_same]; rw [hf3.hd] at hc; exact hc
      · rw [upd_ne e]; exact p6 _ _ e hc
    have hG4 : Facts (upd H' d (.dK (zk F bs))) G ds F := ⟨by rw [upd_ne nGd]; exact p2, p3.keep fun b hb o z => by rw [upd_ne (nGd2 b (List.mem_cons_of_mem _ hb))]; exact z, hf0.kn, p4⟩
    generalize upd H' d (.dK (zk F bs)) = H4 at e4 hG4
    refine e_var ⟨p, C, dx, _, rfl, e4 _ _ hp3, O.cl, O.nF, by show 1 < 1000; decide, ?_⟩
    have npG : ∀ b ∈ G :: ds, b ≠ p := fun b hb z => by subst z; rw [fG _ hb] at hp3; cases hp3
    have fGH : ∀ b ∈ G :: ds, H b = none := fun b hb => by
      cases hz : H b with
      | none => rfl
      | some u => have := b3 _ _ (npG b hb) hz; rw [fG b hb] at this; cases this
    have hp5 : upd H4 p (.ins C dx (wfl D G)) p = some (.ins C dx (wfl D G)) := upd_same
    have b5 : But p H (upd H4 p (.ins C dx (wfl D G))) := fun c o nc hc => by rw [upd_ne nc]; exact e4 _ _ (b3 _ _ nc hc)
    have hR5 : Rows (upd H4 p (.ins C dx (wfl D G))) D cs L := (hR3.same e4).keep fun b hb o z => by rw [upd_ne (nDp b hb)]; exact z
    have hG5 : Facts (upd H4 p (.ins C dx (wfl D G))) G ds F := hG4.keep fun b hb o z => by rw [upd_ne (npG b hb)]; exact z
    show wL _ _ _ _ (upd H4 p (.ins C dx (wfl D G)))
    generalize upd H4 p (.ins C dx (wfl D G)) = H5 at hp5 b5 hR5 hG5
    refine l_cons (s_set (e_call (by exact FF) (by exact hr) (by decide) ?_))
    refine a_cons (e_fld (e_var ⟨p, C, dx, _, _, rfl, hp5, O.cl, O.nP, wfl_p _ _, ?_⟩))
    refine a_cons (e_fld (e_var ⟨p, C, dx, _, _, rfl, hp5, O.cl, O.nF, wfl_f _ _, ?_⟩))
    refine a_nil ⟨D, G, cs, ds, L, F, rfl, hR5, hG5, hsz, fun H6 e6 => ?_⟩
    have b6 : But p H H6 := fun c o nc hc => e6 _ _ (b5 _ _ nc hc)
    show wL _ _ _ [some (.ref p), some (.ref a), some (.ref d), some (vO (flt L F)), none, none] _
    refine l_cons (s_if (t_cmp (e_var (e_non (o_nisN ⟨_, rfl, ?_⟩)))))
    rcases q with ⟨hn, q⟩ | ⟨z, hn, q⟩
    · rw [hn]
      refine ite_f rfl (l_nil (l_nil ?_))
      exact q D G cs ds H6 b6 fD fGH ⟨⟨dx, e6 _ _ hp5⟩, hR5.same e6, hG5.same e6⟩
    · rw [hn]
      refine ite_t rfl (l_cons (s_raiseN (by exact ER) (by exact tk) (by exact hr) (by decide) ?_))
      refine e_var fun dd H7 e7 n7 h7 => ?_
      exact q dd H7 (fun c o nc hc => e7 _ _ (b6 _ _ nc hc)) h7
  exact ⟨f, fd, _, FN, O.mg, ⟨O.mks, hf, hi, O.kp⟩, hb⟩
end



def lkF : FcT → Key → List Int
  | [], _ => []
  | p :: F, k => if p.1 = k then p.2 else lkF F k
theorem lkF_val {H : Hp} {k : Key} : ∀ {F : FcT} {bs : List Addr}, RsV H bs (F.map (·.2)) → (valV (zk F bs) k = none ∧ lkF F k = []) ∨ ∃ b, valV (zk F bs) k = some (.ref b) ∧ H b = some (.lst (iV (lkF F k)))
  | [], _, _ => .inl ⟨by cases ‹List Addr› <;> rfl, rfl⟩
  | p :: F, [], h => by cases (show _ = _ from h)
  | p :: F, b :: bs, ⟨r, rs, h1, h2, h3⟩ => by
    cases h1
    have hv : valV (zk (p :: F) (b :: bs)) k = if p.1 = k then some (V.ref b) else valV (zk F bs) k := by
      as_aux_lemma =>
        show (List.find? (fun kv => decide (kv.1 = k)) ((p.1, V.ref b) :: zk F bs)).map (·.2) = _
        by_cases e : p.1 = k
        · rw [if_pos e, List.find?_cons_of_pos (by simpa using e)]; rfl
        · rw [if_neg e, List.find?_cons_of_neg (by simpa using e)]; rfl
    rw [hv]
    by_cases e : p.1 = k
    · rw [if_pos e]
      refine .inr ⟨b, rfl, ?_⟩
      show H b = some (.lst (iV (if p.1 = k then p.2 else lkF F k)))
      rw [if_pos e]
      exact h2
    · rw [if_neg e]
      show _ ∨ _
      simp only [lkF, if_neg e]
      exact lkF_val h3
def inF (F : FcT) (z : Str) (k : Nat) : Bool := inV (.int (k : Int)) (iV (lkF F (.inr z)))
theorem iv_flat (l : List Int) : (iV l).all flatV = true := by
  rw [List.all_eq_true]
  intro x hx
  obtain ⟨i, _, rfl⟩ := List.mem_map.mp hx
  rfl
section
variable {P : Program} {w : World} {K : PySem.W.Frag} {mg : Str → Option Value} {base : Heap} {C : Addr}
end



section
variable {P : Program} {w : World} {K : PySem.W.Frag} {mg : Str → Option Value} {base : Heap} {C : Addr}
theorem WorldAt.same {H H' : Hp} {p a d : Addr} {as bs : List Addr} {L : List (List Int)} {F : FcT} (h : WorldAt C H p a d as bs L F) (e : Same H H') : WorldAt C H' p a d as bs L F := let ⟨⟨dx, h1⟩, h2, h3⟩ := h; ⟨⟨dx, e _ _ h1⟩, h2.same e, h3.same e⟩
end



/-- the drawn product (picks 0 to 5) -/
def prd (pk n a b : Nat) : Nat :=
  if pk = 0 then min (a + b) (n - 1)
  else if pk = 1 then (a + b) % n
  else if pk = 2 then max a b
  else if pk = 3 then min (a ||| b) (n - 1)
  else if pk = 4 then (if max a b < n - 1 then (a + b) % (n - 1) else n - 1)
  else if min a b = 0 then a + b else n - 1
theorem prd_lt {pk n a b : Nat} (ha : a < n) (hb : b < n) : prd pk n a b < n := by
  unfold prd
  have h1 := Nat.mod_lt (a + b) (show 0 < n by omega)
  split
  · omega
  split
  · exact h1
  split
  · omega
  split
  · omega
  split
  · split
    · have := Nat.mod_lt (a + b) (show 0 < n - 1 by omega); omega
    · omega
  · split <;> omega
theorem prd_comm (pk n a b : Nat) : prd pk n a b = prd pk n b a := by
  unfold prd
  rw [Nat.add_comm b a, Nat.max_comm b a, Nat.min_comm b a, Nat.or_comm b a]
theorem prd_unit {pk n b : Nat} (hb : b < n) : prd pk n 0 b = b := by
  unfold prd
  rw [Nat.zero_add, Nat.zero_or, Nat.mod_eq_of_lt hb]
  split
  · omega
  split
  · rfl
  split
  · omega
  split
  · omega
  split
  · split
    · exact Nat.mod_eq_of_lt (by omega)
    · omega
  · split <;> omega
theorem cap_or (m a b c : Nat) : min (min (a ||| b) m ||| c) m = min (a ||| b ||| c) m := by
  by_cases h : a ||| b ≤ m
  · rw [Nat.min_eq_left h]
  · have h1 : m ≤ m ||| c := Nat.left_le_or
    have h2 : a ||| b ≤ a ||| b ||| c := Nat.left_le_or
    rw [Nat.min_eq_right (show m ≤ a ||| b by omega), Nat.min_eq_right h1, Nat.min_eq_right (by omega)]
theorem prd_assoc {pk n a b c : Nat} (ha : a < n) (hb : b < n) (hc : c < n) : prd pk n (prd pk n a b) c = prd pk n a (prd pk n b c) := by
  by_cases h0 : pk = 0
  · simp only [prd, h0, if_true]; omega
  by_cases h1 : pk = 1
  · simp only [prd, h1, if_true, show ¬ (1 : Nat) = 0 by decide, if_false]
    rw [Nat.mod_add_mod, Nat.add_mod_mod, Nat.add_assoc]
  by_cases h2 : pk = 2
  · simp only [prd, h2, if_true, show ¬ (2 : Nat) = 0 by decide, show ¬ (2 : Nat) = 1 by decide, if_false]; omega
  by_cases h3 : pk = 3
  · simp only [prd, h3, if_true, show ¬ (3 : Nat) = 0 by decide, show ¬ (3 : Nat) = 1 by decide, show ¬ (3 : Nat) = 2 by decide, if_false]
    rw [cap_or, Nat.or_comm a (min (b ||| c) (n - 1)), cap_or, Nat.or_comm (b ||| c) a, Nat.or_assoc]
  by_cases h4 : pk = 4
  · have e : ∀ x y, prd pk n x y = if max x y < n - 1 then (x + y) % (n - 1) else n - 1 := fun x y => by simp only [prd, if_neg h0, if_neg h1, if_neg h2, if_neg h3, if_pos h4]
    rw [e a b, e b c]
    by_cases x1 : a < n - 1
    · by_cases x2 : b < n - 1
      · have m1 := Nat.mod_lt (a + b) (show 0 < n - 1 by omega)
        rw [if_pos (show max a b < n - 1 by omega)]
        by_cases x3 : c < n - 1
        · have m2 := Nat.mod_lt (b + c) (show 0 < n - 1 by omega)
          rw [if_pos (show max b c < n - 1 by omega), e, e, if_pos (by omega), if_pos (by omega), Nat.mod_add_mod, Nat.add_mod_mod, Nat.add_assoc]
        · rw [if_neg (show ¬ max b c < n - 1 by omega), e, e, if_neg (by omega), if_neg (by omega)]
      · rw [if_neg (show ¬ max a b < n - 1 by omega), if_neg (show ¬ max b c < n - 1 by omega), e, e, if_neg (by omega), if_neg (by omega)]
    · rw [if_neg (show ¬ max a b < n - 1 by omega), e, if_neg (by omega), e, if_neg (by omega)]
  · have e : ∀ x y, prd pk n x y = if min x y = 0 then x + y else n - 1 := fun x y => by simp only [prd, if_neg h0, if_neg h1, if_neg h2, if_neg h3, if_neg h4]
    rw [e a b, e b c, e, e]
    repeat (first | omega | split)
section
variable {P : Program} {w : World} {K : PySem.W.Frag} {mg : Str → Option Value} {base : Heap}
theorem qe {Q : VK} {H : Hp} {x y : Int} (q : Q (.int y) H) (e : x = y) : Q (.int x) H := e ▸ q
end



theorem rep1 (n : Nat) (x : V) : (List.replicate n [x]).flatten = List.replicate n x := by
  induction n with
  | zero => rfl
  | succ n ih => rw [List.replicate_succ, List.flatten_cons, ih]; rfl
theorem o_rep1 {X : Cx} {H : Hp} {Q : VK} {l : Addr} {x : V} {n : Nat} (h : H l = some (.lst [x])) (hn : n ≤ 1000) (q : ∀ p H2, Same H H2 → H p = none → H2 p = some (.lst (List.replicate n x)) → Q (.ref p) H2) : wB X .Mult (.ref l) (.int (n : Int)) H Q :=
  b_of op_rep ⟨l, (n : Int), [x], rfl, rfl, h, by omega, by omega, by show 1 * n ≤ 2 ^ 24; omega, fun p np => by
    rw [Int.toNat_natCast, rep1]
    exact q p _ (fun c u eo => by rw [upd_ne (ne_of_none eo np)]; exact eo) np upd_same⟩
theorem RsV.set {H : Hp} {c : Addr} {r : List Int} : ∀ {bs : List Addr} {L : List (List Int)} {i : Nat}, RsV H bs L → bs.Nodup → bs[i]? = some c → RsV (upd H c (.lst (iV r))) bs (L.set i r)
  | [], _, i, _, _, e => by cases i <;> cases e
  | b :: bs, _, 0, ⟨r0, rs, h1, h2, h3⟩, nd, e => by
    cases e
    subst h1
    rw [List.nodup_cons] at nd
    exact ⟨r, rs, rfl, upd_same, h3.keep fun x hx o z => by rw [upd_ne (fun z2 => by subst z2; exact nd.1 hx)]; exact z⟩
  | b :: bs, _, i + 1, ⟨r0, rs, h1, h2, h3⟩, nd, e => by
    subst h1
    rw [List.nodup_cons] at nd
    have hm := List.mem_of_getElem? (show bs[i]? = some c by simpa using e)
    exact ⟨r0, rs.set i r, rfl, by rw [upd_ne (fun z => by subst z; exact nd.1 hm)]; exact h2, h3.set nd.2 (by simpa using e)⟩
theorem Rows.put {H : Hp} {a c : Addr} {as : List Addr} {L : List (List Int)} {i : Nat} {r : List Int} (h : Rows H a as L) (e : as[i]? = some c) : Rows (upd H c (.lst (iV r))) a as (L.set i r) := by
  have nd := List.nodup_cons.mp h.nd
  exact ⟨by rw [upd_ne (fun z => by subst z; exact nd.1 (List.mem_of_getElem? e))]; exact h.hd, h.rs.set nd.2 e, h.nd⟩
theorem iv_set (r : List Int) (i : Nat) (x : Int) : (iV r).set i (.int x) = iV (r.set i x) := by simp [iV, List.map_set]
theorem ixN_in {n : Nat} {i : Int} (h0 : 0 ≤ i) (h : i < n) : ixN n i = some i.toNat := by
  unfold ixN
  rw [if_pos h0, if_pos h]
def RgP (n : Nat) (r : List Int) : Prop := r.length = n ∧ ∀ x ∈ r, 0 ≤ x ∧ x < n
def RwP (n : Nat) (L : List (List Int)) : Prop := L.length = n ∧ ∀ r ∈ L, RgP n r
theorem RgP.set {n : Nat} {r : List Int} (h : RgP n r) (i : Nat) {x : Int} (hx : 0 ≤ x ∧ x < n) : RgP n (r.set i x) := by
  refine ⟨by rw [List.length_set]; exact h.1, fun y hy => ?_⟩
  rcases List.mem_or_eq_of_mem_set hy with hy | rfl
  · exact h.2 y hy
  · exact hx
theorem RgP.get {n : Nat} {r : List Int} (h : RgP n r) {i : Nat} (hi : i < n) : ∃ x, r[i]? = some x ∧ 0 ≤ x ∧ x < n := by
  have hi2 : i < r.length := by rw [h.1]; exact hi
  exact ⟨r[i], List.getElem?_eq_getElem hi2, h.2 _ (List.getElem_mem hi2)⟩
theorem RwP.set {n : Nat} {L : List (List Int)} (h : RwP n L) (i : Nat) {r : List Int} (hr : RgP n r) : RwP n (L.set i r) := by
  refine ⟨by rw [List.length_set]; exact h.1, fun y hy => ?_⟩
  rcases List.mem_or_eq_of_mem_set hy with hy | rfl
  · exact h.2 y hy
  · exact hr
section
variable {P : Program} {w : World} {K : PySem.W.Frag} {mg : Str → Option Value} {base : Heap}
theorem bor_eq : ∀ a < 32, ∀ b < 32, Builtin.bitOr ((a : Nat) : Int) ((b : Nat) : Int) = ((a ||| b : Nat) : Int) := by decide +kernel
def spPr : Sp := fun vs H Q _ => ∃ (pk n a b : Nat), vs = [.int (pk : Int), .int (n : Int), .int (a : Int), .int (b : Int)] ∧ pk ≤ 5 ∧ n < 32 ∧ a < n ∧ b < n ∧ Q (.int (prd pk n a b : Nat)) H
theorem ok_pr (T : Top K mg "_law_product" s_product) (mMin : mg "min" = none) (mMax : mg "max" = none) (mInt : mg "int" = none) : Fn P w K mg base 1 "_law_product" spPr := by
  refine fn_ok T sc_product so_product (fun vs H Q E h => by obtain ⟨pk, n, a, b, rfl, _⟩ := h; rfl) (fun _ _ _ _ _ _ us hl => match us, hl with | [_, _, _, _], _ => rfl) fun f cdv A outer s H vs Q E hr h nd => ?_
  obtain ⟨pk, n, a, b, rfl, p5, hn, ha, hb, q⟩ := h
  have hn0 : (0 : Int) < n := by omega
  have hcm : CMul (a : Int) (b : Int) := .inl ⟨by omega, by omega⟩
  refine l_cons (s_if (t_cmp (e_var (e_int (o_eqI ⟨_, rfl, ?_⟩)))))
  refine if2 (fun h1 => ?_) (fun h1 => l_nil ?_)
  · refine l_cons (s_ret (e_callB (x := "min") (by assumption) b_min (a_cons (e_bin (e_var (e_var (o_add ?_)))))))
    refine a_cons (e_bin (e_var (e_int (o_sub (a_nil (c_min rfl (qe q ?_)))))))
    simp only [prd, show pk = 0 by omega, if_true]
    split <;> omega
  refine l_cons (s_if (t_cmp (e_var (e_int (o_eqI ⟨_, rfl, ?_⟩)))))
  refine if2 (fun h2 => ?_) (fun h2 => l_nil ?_)
  · refine l_cons (s_ret (e_bin (e_callTy (x := "int") (by assumption) b_int (a_cons (e_bin (e_var (e_var (o_add (a_nil (c_int (e_var (o_mod hn0 (qe q ?_)))))))))))))
    rw [prd, if_neg (by omega), if_pos (by omega), Int.natCast_emod, Int.natCast_add]
  refine l_cons (s_if (t_cmp (e_var (e_int (o_eqI ⟨_, rfl, ?_⟩)))))
  refine if2 (fun h3 => ?_) (fun h3 => l_nil ?_)
  · refine l_cons (s_ret (e_callB (x := "max") (by assumption) b_max (a_cons (e_var (a_cons (e_var (a_nil (c_max rfl (qe q ?_)))))))))
    have e : prd pk n a b = max a b := by rw [prd, if_neg (by omega), if_neg (by omega), if_pos (by omega)]
    rw [e]
    split <;> omega
  refine l_cons (s_if (t_cmp (e_var (e_int (o_eqI ⟨_, rfl, ?_⟩)))))
  refine if2 (fun h4 => ?_) (fun h4 => l_nil ?_)
  · refine l_cons (s_ret (e_callB (x := "min") (by assumption) b_min (a_cons (e_bin (e_var (e_var (o_bor ?_)))))))
    refine a_cons (e_bin (e_var (e_int (o_sub (a_nil (c_min rfl (qe q ?_)))))))
    have e : prd pk n a b = min (a ||| b) (n - 1) := by rw [prd, if_neg (by omega), if_neg (by omega), if_neg (by omega), if_pos (by omega)]
    rw [bor_eq a (by omega) b (by omega), e]
    split <;> omega
  have e : prd pk n a b = if pk = 4 then (if max a b < n - 1 then (a + b) % (n - 1) else n - 1) else if min a b = 0 then a + b else n - 1 := by
    rw [prd, if_neg (by omega), if_neg (by omega), if_neg (by omega), if_neg (by omega)]
  rw [e] at q
  refine l_join (fun σ H' => σ = start N_product [.int (pk : Int), .int (n : Int), .int (a : Int), .int (b : Int)] ∧ H = H' ∧ ¬ (pk = 4 ∧ max a b < n - 1)) ?_ fun go => ?_
  · intro σ H' ⟨hσ, hH, x4⟩
    subst hσ
    subst hH
    refine l_join (fun σ H' => σ = start N_product [.int (pk : Int), .int (n : Int), .int (a : Int), .int (b : Int)] ∧ H = H' ∧ ¬ (4 < pk ∧ min a b = 0)) ?_ fun go => ?_
    · intro σ H' ⟨hσ, hH, x5⟩
      subst hσ
      subst hH
      refine l_cons (s_if (t_w (w_and (t_cmp (e_var (e_int (o_eqI ⟨_, rfl, ?_⟩)))))))
      refine ifF (by omega) (iteF (l_nil ?_))
      refine l_cons (s_if (t_w (w_and (t_cmp (e_var (e_int (o_eqI ⟨_, rfl, ?_⟩)))))))
      refine ifF (by omega) (iteF (l_nil ?_))
      refine l_cons (s_ret (e_bin (e_var (e_int (o_sub (qe q ?_))))))
      split
      · rw [if_neg (fun z => x4 ⟨by assumption, z⟩)]; omega
      · rw [if_neg (fun z => x5 ⟨by omega, z⟩)]; omega
    · refine l_cons (s_if (t_w (w_and (t_cmp (e_var (e_int (o_gt ⟨_, rfl, ?_⟩)))))))
      refine if2 (fun h5 => w_and1 (t_cmp (e_callB (x := "min") (by assumption) b_min (a_cons (e_var (a_cons (e_var (a_nil (c_min rfl (e_int (o_eqI ⟨_, rfl, ?_⟩))))))))))) (fun h5 => iteF (l_nil (go _ H ⟨rfl, rfl, fun z => h5 (by omega)⟩)))
      refine if2 (fun h8 => l_cons (s_ret (e_bin (e_var (e_var (o_add ?_)))))) (fun h8 => l_nil (go _ H ⟨rfl, rfl, fun z => h8 (by split <;> omega)⟩))
      refine qe q ?_
      rw [if_neg (by omega), if_pos (by split at h8 <;> omega)]
      rfl
  · refine l_cons (s_if (t_w (w_and (t_cmp (e_var (e_int (o_eqI ⟨_, rfl, ?_⟩)))))))
    refine if2 (fun h5 => w_and1 (t_cmp (e_callB (x := "max") (by assumption) b_max (a_cons (e_var (a_cons (e_var (a_nil (c_max rfl (e_bin (e_var (e_int (o_sub (o_lt ⟨_, rfl, ?_⟩)))))))))))))) (fun h5 => iteF (l_nil (go _ H ⟨rfl, rfl, fun z => h5 (by omega)⟩)))
    refine if2 (fun h8 => ?_) (fun h8 => l_nil (go _ H ⟨rfl, rfl, fun z => h8 (by split <;> omega)⟩))
    have hm : (0 : Int) < (n : Int) - 1 := by split at h8 <;> omega
    refine l_cons (s_ret (e_bin (e_callTy (x := "int") (by assumption) b_int (a_cons (e_bin (e_var (e_var (o_add (a_nil (c_int (e_bin (e_var (e_int (o_sub (o_mod hm (qe q ?_))))))))))))))))
    rw [if_pos (by omega), if_pos (by split at h8 <;> omega), Int.natCast_emod, Int.natCast_add, Int.ofNat_sub (by omega)]
    rfl
end



def But2 (a b : Addr) (H H' : Hp) : Prop := ∀ c o, c ≠ a → c ≠ b → H c = some o → H' c = some o
theorem rg_RgP (n : Nat) : RgP n ((List.range n).map fun (k : Nat) => (k : Int)) := by
  refine ⟨by rw [List.length_map, List.length_range], fun x hx => ?_⟩
  obtain ⟨k, hk, rfl⟩ := List.mem_map.mp hx
  have := List.mem_range.mp hk
  omega
theorem rep_iV (n : Nat) (x : Int) : List.replicate n (V.int x) = iV (List.replicate n x) := by rw [iV, List.map_replicate]
/-- a step that keeps all but the pool and gives new rows -/
theorem gg_put {M : List (List Int)} {t0 t1 : Nat} {r : List Int} (hr : M[t0]? = some r) (h1 : t1 < r.length) (x : Int) (a b : Nat) : gg (M.set t0 (r.set t1 x)) a b = if a = t0 ∧ b = t1 then x else gg M a b := by
  have l0 := (List.getElem?_eq_some_iff.mp hr).1
  unfold gg nr
  simp only [List.getD_eq_getElem?_getD]
  by_cases h0 : a = t0
  · subst h0
    rw [List.getElem?_set_self l0, hr]
    simp only [Option.getD_some, true_and]
    by_cases h2 : b = t1
    · subst h2
      rw [List.getElem?_set_self h1, if_pos rfl]; rfl
    · rw [List.getElem?_set_ne (Ne.symm h2), if_neg h2]
  · rw [List.getElem?_set_ne (Ne.symm h0), if_neg (fun z => h0 z.1)]
/-- names that are a turning of the numbers, 0 kept -/
def PmP (n : Nat) (ns : List Int) : Prop := RgP n ns ∧ (0 < n → ns[0]? = some 0) ∧ (∀ (i j : Nat) (x : Int), ns[i]? = some x → ns[j]? = some x → i = j) ∧ ∀ x : Nat, x < n → ∃ i < n, ns[i]? = some (x : Int)
def pm (ns : List Int) (i : Nat) : Nat := (ns.getD i 0).toNat
theorem pm_get {n : Nat} {ns : List Int} (h : RgP n ns) {i : Nat} {x : Int} (e : ns[i]? = some x) : x = (pm ns i : Nat) := by
  have := h.2 x (List.mem_of_getElem? e)
  unfold pm
  rw [List.getD_eq_getElem?_getD, e]
  show x = ((x.toNat : Nat) : Int)
  omega
theorem pm_lt {n : Nat} {ns : List Int} (h : RgP n ns) {i : Nat} (hi : i < n) : pm ns i < n := by
  obtain ⟨x, e, _, h2⟩ := h.get hi
  have := pm_get h e
  omega
theorem pm_inj {n : Nat} {ns : List Int} (h : PmP n ns) {i j : Nat} (hi : i < n) (hj : j < n) (e : pm ns i = pm ns j) : i = j := by
  obtain ⟨x, e1, _⟩ := h.1.get hi
  obtain ⟨y, e2, _⟩ := h.1.get hj
  have h1 := pm_get h.1 e1
  have h2 := pm_get h.1 e2
  exact h.2.2.1 i j x e1 (by rw [e2, h1, h2, e])
theorem pm_zero {n : Nat} {ns : List Int} (h : PmP n ns) (hn : 0 < n) : pm ns 0 = 0 := by
  have := pm_get h.1 (h.2.1 hn); omega
theorem PmP.swap {n i j : Nat} {ns : List Int} {v1 v2 : Int} (h : PmP n ns) (hi : 1 ≤ i) (hj : 1 ≤ j) (e1 : ns[i]? = some v1) (e2 : ns[j]? = some v2) : PmP n ((ns.set i v2).set j v1) := by
  have li := (List.getElem?_eq_some_iff.mp e1).1
  have lj := (List.getElem?_eq_some_iff.mp e2).1
  have key : ∀ t, ((ns.set i v2).set j v1)[t]? = ns[if t = j then i else if t = i then j else t]? := fun t => by
    by_cases h1 : t = j
    · subst h1
      rw [List.getElem?_set_self (by rw [List.length_set]; exact lj), if_pos rfl, e1]
    · rw [List.getElem?_set_ne (Ne.symm h1), if_neg h1]
      by_cases h2 : t = i
      · subst h2
        rw [List.getElem?_set_self li, if_pos rfl, e2]
      · rw [List.getElem?_set_ne (Ne.symm h2), if_neg h2]
  refine ⟨(h.1.set i (h.1.2 _ (List.mem_of_getElem? e2))).set j (h.1.2 _ (List.mem_of_getElem? e1)), fun hn => by rw [key, if_neg (by omega), if_neg (by omega)]; exact h.2.1 hn, fun s t x hs ht => ?_, fun x hx => ?_⟩
  · rw [key] at hs ht
    have := h.2.2.1 _ _ x hs ht
    split at this <;> split at this <;> (try split at this) <;> (try split at this) <;> omega
  · obtain ⟨s, hs, e⟩ := h.2.2.2 x hx
    have hli := h.1.1 ▸ li
    have hlj := h.1.1 ▸ lj
    refine ⟨if s = j then i else if s = i then j else s, by split <;> (try split) <;> omega, ?_⟩
    rw [key, ← e]
    congr 1
    split <;> (try split) <;> (try split) <;> (try split) <;> omega
theorem pm_sur {n : Nat} {ns : List Int} (h : PmP n ns) {x : Nat} (hx : x < n) : ∃ i < n, pm ns i = x := by
  obtain ⟨i, hi, e⟩ := h.2.2.2 x hx
  have := pm_get h.1 e
  exact ⟨i, hi, by omega⟩
theorem rg_PmP (n : Nat) : PmP n ((List.range n).map fun (k : Nat) => (k : Int)) := by
  have g : ∀ (i : Nat) (x : Int), ((List.range n).map fun (k : Nat) => (k : Int))[i]? = some x → x = (i : Int) := fun i x e => by
    rw [List.getElem?_map] at e
    obtain ⟨k, hk, rfl⟩ := Option.map_eq_some_iff.mp e
    rw [(List.getElem?_eq_some_iff.mp hk).2.symm, List.getElem_range]
  refine ⟨rg_RgP n, fun hn => ?_, fun i j x h1 h2 => by have := g i x h1; have := g j x h2; omega, fun x hx => ⟨x, hx, by rw [List.getElem?_map, List.getElem?_range hx]; rfl⟩⟩
  rw [List.getElem?_map, List.getElem?_range hn]; rfl
def DrawR (H H' : Hp) (p a : Addr) (as : List Addr) (L : List (List Int)) : Prop := But p H H' ∧ PoolAt H' p ∧ (∀ b ∈ a :: as, H b = none) ∧ Rows H' a as L
section
variable {P : Program} {w : World} {K : PySem.W.Frag} {mg : Str → Option Value} {base : Heap}
def spRen : Sp := fun vs H Q _ => ∃ p a as L n, vs = [.ref p, .ref a] ∧ PoolAt H p ∧ Rows H a as L ∧ RwP n L ∧ 0 < n ∧ n < 32 ∧ (∀ b ∈ a :: as, b ≠ p) ∧ ∀ a' as' L' ns H', DrawR H H' p a' as' L' → RwP n L' → PmP n ns → (∀ i < n, ∀ j < n, gg L' (pm ns i) (pm ns j) = (pm ns (gg L i j).toNat : Nat)) → Q (.ref a') H'
theorem ok_ren (T : Top K mg "_law_renamed" s_renamed) (mLen : mg "len" = none) (mL : mg "list" = none) (mR : mg "range" = none) (FN : Fn P w K mg base 1 "_law_next" spNext) : Fn P w K mg base 2 "_law_renamed" spRen := by
  refine fn_ok T sc_renamed so_renamed (fun vs H Q E h => by obtain ⟨p, a, as, L, n, rfl, _⟩ := h; rfl) (fun _ _ _ _ _ _ us hl => match us, hl with | [_, _], _ => rfl) fun f cdv A outer s H vs Q E hr h nd => ?_
  obtain ⟨p, a, as, L, n, rfl, hpool, hr0, hRw, hn0, hn, hap, q⟩ := h
  obtain ⟨hLn, hRg⟩ := id hRw
  refine l_cons (s_set (e_callB (x := "len") (by assumption) b_len (a_cons (e_var (a_nil (c_lenL (by exact SqL.of hr0.hd) ?_))))))
  rw [List.length_map, hr0.rs.len, hLn]
  show wL _ _ _ [some (.ref p), some (.ref a), some (.int (n : Int)), none, none, none, none, none, none, none, none] _
  refine l_cons (s_set (e_listRg (by assumption) (by assumption) (e_var ⟨n, rfl, by omega, fun na nna => ?_⟩)))
  rw [rg_iV]
  have e1 : Same H (upd H na (.lst (iV ((List.range n).map fun (k : Nat) => (k : Int))))) := fun c u hc => by rw [upd_ne (ne_of_none hc nna)]; exact hc
  have h1 : upd H na (.lst (iV ((List.range n).map fun (k : Nat) => (k : Int)))) na = some (.lst (iV ((List.range n).map fun (k : Nat) => (k : Int)))) := upd_same
  generalize upd H na (.lst (iV ((List.range n).map fun (k : Nat) => (k : Int)))) = H1 at e1 h1
  obtain ⟨px, py, pz, hpx⟩ := id hpool
  have nap : na ≠ p := fun z => by subst z; rw [nna] at hpx; cases hpx
  have naA : ∀ b ∈ a :: as, b ≠ na := fun b hb z => by
    subst z
    rcases List.mem_cons.mp hb with rfl | hb
    · rw [hr0.hd] at nna; cases nna
    · obtain ⟨r, hr⟩ := hr0.rs.vl hb; rw [hr] at nna; cases nna
  have hp1 : PoolAt H1 p := ⟨_, _, _, e1 _ _ hpx⟩
  show wL _ _ _ [some (.ref p), some (.ref a), some (.int (n : Int)), some (.ref na), none, none, none, none, none, none, none] _
  -- the names are turned
  refine l_cons (s_forR12 (by assumption) (e_int (e_var ⟨1, n - 1, rfl, by rw [show 1 + (n - 1) = n by omega], by omega, fun k σ H' => ∃ x4 x5 x6 ns, σ = [some (.ref p), some (.ref a), some (.int (n : Int)), some (.ref na), x4, x5, x6, none, none, none, none] ∧ H' na = some (.lst (iV ns)) ∧ PmP n ns ∧ PoolAt H' p ∧ But2 p na H H', ?_, ?_, ?_⟩)))
  · exact ⟨none, none, none, _, rfl, h1, rg_PmP n, hp1, fun c o _ _ hc => e1 _ _ hc⟩
  · intro k σ H' hk pp
    obtain ⟨x4, x5, x6, ns, rfl, hna, hpm, hp', b'⟩ := pp
    have hns := hpm.1
    show wL _ _ _ [some (.ref p), some (.ref a), some (.int (n : Int)), some (.ref na), some (.int ((1 + k : Nat) : Int)), x5, x6, none, none, none, none] _
    refine l_cons (s_set (e_bin (e_int (e_call (by exact FN) (by exact hr) (by decide) ?_))))
    refine a_cons (e_var (a_cons (e_bin (e_var (e_int (o_sub (a_nil ?_)))))))
    refine ⟨p, (n : Int) - 1, rfl, by omega, by omega, hp', fun d H2 d0 d1 b2 p2 => o_add ?_⟩
    have hna2 := b2 _ _ nap hna
    show wL _ _ _ [some (.ref p), some (.ref a), some (.int (n : Int)), some (.ref na), some (.int ((1 + k : Nat) : Int)), some (.int (1 + d)), x6, none, none, none, none] _
    obtain ⟨v1, g1, r1⟩ := hns.get (i := 1 + k) (by omega)
    refine l_cons (s_set (e_ix (e_var (e_var (ix_l (by exact SqL.of hna2) (atI_nat (iv_get g1)) ?_)))))
    show wL _ _ _ [some (.ref p), some (.ref a), some (.int (n : Int)), some (.ref na), some (.int ((1 + k : Nat) : Int)), some (.int (1 + d)), some (.int v1), none, none, none, none] _
    obtain ⟨v2, g2, r2⟩ := hns.get (i := (1 + d).toNat) (by omega)
    refine l_cons (s_sub (e_ix (e_var (e_var (ix_l (by exact SqL.of hna2) (at_int (show (0 : Int) ≤ 1 + d by omega) (iv_get g2)) ?_)))))
    refine e_var (e_var (set_l hna2 (k := 1 + k) (show ixN (iV ns).length ((1 + k : Nat) : Int) = some (1 + k) by rw [List.length_map, hns.1]; exact ixN_in (by omega) (by omega)) ?_))
    rw [iv_set]
    have hna3 : upd H2 na (.lst (iV (ns.set (1 + k) v2))) na = some (.lst (iV (ns.set (1 + k) v2))) := upd_same
    have b3 : But na H2 (upd H2 na (.lst (iV (ns.set (1 + k) v2)))) := fun c o nc hc => by rw [upd_ne nc]; exact hc
    generalize upd H2 na (.lst (iV (ns.set (1 + k) v2))) = H3 at hna3 b3
    have hns3 := hns.set (1 + k) r2
    refine l_cons (s_sub (e_var (e_var (e_var (set_l hna3 (k := (1 + d).toNat) (show ixN (iV (ns.set (1 + k) v2)).length (1 + d) = some (1 + d).toNat by rw [List.length_map, hns3.1]; exact ixN_in (by omega) (by omega)) ?_)))))
    rw [iv_set]
    obtain ⟨qx, qy, qz, hqx⟩ := p2
    refine l_nil ⟨_, _, _, _, rfl, upd_same, hpm.swap (by omega) (by omega) g1 g2, ⟨qx, qy, qz, by rw [upd_ne (Ne.symm nap)]; exact b3 _ _ (Ne.symm nap) hqx⟩, fun c o c1 c2 hc => ?_⟩
    rw [upd_ne c2]
    exact b3 _ _ c2 (b2 _ _ c1 (b' c o c1 c2 hc))
  intro σ H2 pp
  obtain ⟨x4, x5, x6, ns, rfl, hna, hpm, hp2, b2⟩ := pp
  have hns := hpm.1
  -- the new rows
  refine l_cons (s_lcR (by exact bk_renamed0) (by assumption) (e_var ⟨n, rfl, by omega, fun D nD => ?_⟩))
  refine ⟨fun k H' => ∃ cs, H' D = some (.lst (cs.map V.ref)) ∧ RsV H' cs (List.replicate k (List.replicate n 0)) ∧ (D :: cs).Nodup ∧ (∀ b ∈ cs, H2 b = none) ∧ Same H2 H', ⟨[], upd_same, rfl, by simp, by simp, fun c u hc => by rw [upd_ne (ne_of_none hc nD)]; exact hc⟩, ?_, ?_⟩
  · intro k H' hk pp s0 H0 C0 cl fp IB
    obtain ⟨cs, p1, p2, p3, p4, p5⟩ := pp
    have lcs := p2.len
    rw [List.length_replicate] at lcs
    refine e_bin (e_lst (a_cons (e_int (a_nil ⟨by show 1 ≤ sizeLine; decide, fun l0 H3 e3 n3 h3 => b_var (o_rep1 h3 (show n ≤ 1000 by omega) fun c H4 e4 n4 h4 => ?_)⟩))))
    rw [rep_iV] at h4
    have e34 := e3.trans e4
    have hD4 := e34 _ _ p1
    have n34 := none_of e3 n4
    have ncD : c ≠ D := fun z => by subst z; rw [p1] at n34; cases n34
    have nm : c ∉ cs := fun m => by obtain ⟨r, hr⟩ := p2.vl m; rw [hr] at n34; cases n34
    refine ⟨cs.map V.ref, hD4, by rw [List.length_map]; show _ < 2 ^ 24; omega, cs ++ [c], by rw [List.map_append]; exact upd_same, ?_, nd_snoc (l := D :: cs) p3 (fun m => by
      rcases List.mem_cons.mp m with m | m
      · exact ncD m
      · exact nm m), ?_, fun x u hx => by rw [upd_ne (ne_of_none hx nD)]; exact e34 _ _ (p5 _ _ hx)⟩
    · rw [List.replicate_succ']
      refine RsV.snoc (by rw [upd_ne ncD]; exact h4) (p2.keep fun b hb o z => ?_)
      rw [upd_ne (fun z2 => by subst z2; exact (List.nodup_cons.mp p3).1 hb)]
      exact e34 _ _ z
    · intro x hx
      rcases List.mem_append.mp hx with hx | hx
      · exact p4 x hx
      · rw [List.mem_singleton.mp hx]
        exact none_of p5 n34
  intro H3 pp
  obtain ⟨cs, p1, p2, p3, p4, e3⟩ := pp
  have hD3 : Rows H3 D cs (List.replicate n (List.replicate n 0)) := ⟨p1, p2, p3⟩
  have fD : ∀ b ∈ D :: cs, H2 b = none := fun b hb => by rcases List.mem_cons.mp hb with rfl | hb; exact nD; exact p4 b hb
  have lcs : cs.length = n := by rw [p2.len, List.length_replicate]
  have hz0 : RwP n (List.replicate n (List.replicate n (0 : Int))) := ⟨by rw [List.length_replicate], fun r hr => by
    rw [List.eq_of_mem_replicate hr]
    exact ⟨by rw [List.length_replicate], fun x hx => by rw [List.eq_of_mem_replicate hx]; omega⟩⟩
  show wL _ _ _ [some (.ref p), some (.ref a), some (.int (n : Int)), some (.ref na), x4, x5, x6, none, some (.ref D), none, none] _
  have hna3 := e3 _ _ hna
  obtain ⟨rx, ry, rz, hrx⟩ := hp2
  have hp3 : PoolAt H3 p := ⟨_, _, _, e3 _ _ hrx⟩
  have ncs : ∀ b ∈ D :: cs, b ≠ p ∧ b ≠ na ∧ ∀ c ∈ a :: as, b ≠ c := fun b hb => by
    refine ⟨fun z => ?_, fun z => ?_, fun c hc z => ?_⟩
    · subst z; rw [fD _ hb] at hrx; cases hrx
    · subst z; rw [fD _ hb] at hna; cases hna
    · subst z
      have := fD _ hb
      rcases List.mem_cons.mp hc with rfl | hc2
      · rw [b2 _ _ (hap _ List.mem_cons_self) (naA _ List.mem_cons_self) hr0.hd] at this; cases this
      · obtain ⟨r, hr⟩ := hr0.rs.vl hc2
        rw [b2 _ _ (hap _ hc) (naA _ hc) hr] at this; cases this
  have fH : ∀ b ∈ D :: cs, H b = none := fun b hb => by
    cases hz : H b with
    | none => rfl
    | some u => have := b2 _ _ (ncs b hb).1 (ncs b hb).2.1 hz; rw [fD b hb] at this; cases this
  have hr3 : Rows H3 a as L := hr0.keep fun b hb o z => e3 _ _ (b2 _ _ (hap b hb) (naA b hb) z)
  -- filled
  refine l_cons (s_forR (by assumption) (e_var ⟨n, rfl, by omega, fun k σ H' => ∃ x7 x9 x10 M, σ = [some (.ref p), some (.ref a), some (.int (n : Int)), some (.ref na), x4, x5, x6, x7, some (.ref D), x9, x10] ∧ Rows H' D cs M ∧ RwP n M ∧ (∀ i < k, ∀ j < n, gg M (pm ns i) (pm ns j) = (pm ns (gg L i j).toNat : Nat)) ∧ ∀ c u, c ∉ cs → H3 c = some u → H' c = some u, ⟨none, none, none, _, rfl, hD3, hz0, fun _ h => absurd h (Nat.not_lt_zero _), fun _ _ _ h => h⟩, ?_, ?_⟩))
  · intro k σ H' hk pp
    obtain ⟨x7, x9, x10, M, rfl, hM, hMr, hG, keep⟩ := pp
    have kp : ∀ c, (∃ u, H2 c = some u) → c ∉ cs := fun c ⟨u, hu⟩ hc => by rw [p4 c hc] at hu; cases hu
    have hna' := keep na _ (kp na ⟨_, hna⟩) hna3
    show wL _ _ _ [some (.ref p), some (.ref a), some (.int (n : Int)), some (.ref na), x4, x5, x6, some (.int (k : Int)), some (.ref D), x9, x10] _
    obtain ⟨v, gv, v0, v1⟩ := hns.get hk
    have hvl : v.toNat < cs.length := by omega
    have ec : cs[v.toNat]? = some cs[v.toNat] := List.getElem?_eq_getElem hvl
    have ecr : (cs.map V.ref)[v.toNat]? = some (.ref cs[v.toNat]) := by rw [List.getElem?_map, ec]; rfl
    have hcm : cs[v.toNat] ∈ cs := List.getElem_mem hvl
    generalize cs[v.toNat] = c at ec ecr hcm
    refine l_cons (s_set (e_ix (e_var (e_ix (e_var (e_var (ix_l (by exact SqL.of hna') (atI_nat (iv_get gv)) (ix_l (by exact SqL.of hM.hd) (at_int v0 ecr) ?_))))))))
    show wL _ _ _ [some (.ref p), some (.ref a), some (.int (n : Int)), some (.ref na), x4, x5, x6, some (.int (k : Int)), some (.ref D), some (.ref c), x10] _
    refine l_cons (s_forR (by assumption) (e_var ⟨n, rfl, by omega, fun j σ H' => ∃ x10 M, σ = [some (.ref p), some (.ref a), some (.int (n : Int)), some (.ref na), x4, x5, x6, some (.int (k : Int)), some (.ref D), some (.ref c), x10] ∧ Rows H' D cs M ∧ RwP n M ∧ (∀ i < k, ∀ j < n, gg M (pm ns i) (pm ns j) = (pm ns (gg L i j).toNat : Nat)) ∧ (∀ j' < j, gg M (pm ns k) (pm ns j') = (pm ns (gg L k j').toNat : Nat)) ∧ ∀ c u, c ∉ cs → H3 c = some u → H' c = some u, ⟨x10, M, rfl, hM, hMr, hG, fun _ h => absurd h (Nat.not_lt_zero _), keep⟩, ?_, ?_⟩))
    · intro j σ H' hj pp
      obtain ⟨x10, M, rfl, hM, hMr, hG, hI, keep⟩ := pp
      have hna' := keep na _ (kp na ⟨_, hna⟩) hna3
      show wL _ _ _ [some (.ref p), some (.ref a), some (.int (n : Int)), some (.ref na), x4, x5, x6, some (.int (k : Int)), some (.ref D), some (.ref c), some (.int (j : Int))] _
      have kA : ∀ b ∈ a :: as, b ∉ cs := fun b hb hc => (ncs b (List.mem_cons_of_mem _ hc)).2.2 b hb rfl
      have hr' : Rows H' a as L := hr3.keep fun b hb o z => keep b o (kA b hb) z
      obtain ⟨bk, hbk, hbr⟩ := hr'.row (i := k) (by omega)
      have hrg := hRg _ (List.mem_of_getElem? (nr_get (L := L) (a := k) (by omega)))
      obtain ⟨y, gy, y0, y1⟩ := hrg.get hj
      obtain ⟨u, gu, u0, u1⟩ := hns.get (i := y.toNat) (by omega)
      obtain ⟨t, gt, t0, t1⟩ := hns.get hj
      obtain ⟨rw0, hrw, hcr⟩ := hM.rs.get ec
      have hrwg := hMr.2 _ (List.mem_of_getElem? hrw)
      refine l_cons (s_sub (e_ix (e_var (e_ix (e_ix (e_var (e_var (ix_l (by exact SqL.of hr'.hd) (atI_nat hbk) (e_var (ix_l (by exact SqL.of hbr) (atI_nat (iv_get gy)) (ix_l (by exact SqL.of hna') (at_int y0 (iv_get gu)) ?_)))))))))))
      refine e_var (e_ix (e_var (e_var (ix_l (by exact SqL.of hna') (atI_nat (iv_get gt)) (set_l hcr (k := t.toNat) (by rw [List.length_map, hrwg.1]; exact ixN_in t0 t1) ?_)))))
      rw [iv_set]
      have ev := pm_get hns gv
      have et := pm_get hns gt
      have eu := pm_get hns gu
      have ey : gg L k j = y := by
        have := gg_get (L := L) (a := k) (b := j) (by rw [hrg.1]; exact hj)
        rw [gy] at this; cases this; rfl
      have hgp : ∀ a b, gg (M.set v.toNat (rw0.set t.toNat u)) a b = if a = v.toNat ∧ b = t.toNat then u else gg M a b := fun a b => gg_put hrw (by rw [hrwg.1]; omega) u a b
      refine l_nil ⟨_, _, rfl, hM.put ec, hMr.set _ (hrwg.set _ ⟨u0, u1⟩), fun i hi j' hj' => ?_, fun j' hj' => ?_, fun x o hx hxo => by rw [upd_ne (fun z => by subst z; exact hx hcm)]; exact keep x o hx hxo⟩
      · rw [hgp, if_neg (fun z => by have := pm_inj hpm (show i < n by omega) hk (by omega); omega)]
        exact hG i hi j' hj'
      · rw [hgp]
        by_cases e : j' = j
        · subst e
          rw [if_pos ⟨by omega, by omega⟩, ey, eu]
        · rw [if_neg (fun z => e (pm_inj hpm (show j' < n by omega) hj (by omega)))]
          exact hI j' (by omega)
    · intro σ H' pp
      obtain ⟨x10, M, rfl, hM, hMr, hG, hI, keep⟩ := pp
      refine l_nil ⟨_, _, _, M, rfl, hM, hMr, fun i hi j hj => ?_, keep⟩
      by_cases e : i = k
      · subst e; exact hI j hj
      · exact hG i (by omega) j hj
  intro σ H4 pp
  obtain ⟨x7, x9, x10, M, rfl, hM, hMr, hG, keep⟩ := pp
  refine l_cons (s_ret (e_var (q D cs M ns H4 ⟨fun c o nc hc => ?_, ?_, fH, hM⟩ hMr hpm hG)))
  · have nn : c ≠ na := fun z => by subst z; rw [nna] at hc; cases hc
    exact keep c o (fun hcs => by rw [fH c (List.mem_cons_of_mem _ hcs)] at hc; cases hc) (e3 _ _ (b2 _ _ nc nn hc))
  · obtain ⟨sx, sy, sz, hs⟩ := hp3
    exact ⟨sx, sy, sz, keep p _ (fun hcs => (ncs p (List.mem_cons_of_mem _ hcs)).1 rfl) hs⟩
end



section
theorem gg_rw {n : Nat} {L : List (List Int)} (h : RwP n L) {a b : Nat} (ha : a < n) (hb : b < n) : (nr L a)[b]? = some (gg L a b) ∧ 0 ≤ gg L a b ∧ gg L a b < n := by
  have hr := h.2 _ (List.mem_of_getElem? (nr_get (L := L) (a := a) (by rw [h.1]; exact ha)))
  have e := gg_get (L := L) (a := a) (b := b) (by rw [hr.1]; exact hb)
  exact ⟨e, hr.2 _ (List.mem_of_getElem? e)⟩
/-- a turned table of the drawn product is a world's table -/
theorem table_ok {pk n : Nat} {L L' : List (List Int)} {ns : List Int} (hn : 0 < n) (hL : ∀ i < n, ∀ j < n, gg L i j = (prd pk n i j : Nat)) (hR : RwP n L') (hp : PmP n ns) (hG : ∀ i < n, ∀ j < n, gg L' (pm ns i) (pm ns j) = (pm ns (gg L i j).toNat : Nat)) : ShpP L' ∧ UntP L' ∧ OrdP L' ∧ GrpP L' := by
  have g : ∀ i < n, ∀ j < n, gg L' (pm ns i) (pm ns j) = (pm ns (prd pk n i j) : Nat) := fun i hi j hj => by rw [hG i hi j hj, hL i hi j hj, Int.toNat_natCast]
  have hl : ∀ a < n, (nr L' a).length = n := fun a ha => (hR.2 _ (List.mem_of_getElem? (nr_get (L := L') (a := a) (by rw [hR.1]; exact ha)))).1
  refine ⟨⟨fun z => ?_, ?_⟩, ?_, fun a b ha hba => ?_, fun a b ha hb => ?_⟩
  · have := hR.1; rw [z] at this; simp at this; omega
  · rw [List.all_eq_true]
    intro r hr
    obtain ⟨h1, h2⟩ := hR.2 r hr
    rw [hR.1]
    unfold shB
    rw [Bool.and_eq_true, List.all_eq_true]
    refine ⟨decide_eq_true (by omega), fun x hx => ?_⟩
    have := h2 x hx
    unfold inR
    simp only [Bool.and_eq_true, decide_eq_true_eq]
    omega
  · refine List.ext_getElem? fun b => ?_
    rw [hR.1]
    by_cases hb : b < n
    · obtain ⟨j, hj, rfl⟩ := pm_sur hp hb
      rw [(gg_rw hR hn hb).1, List.getElem?_map, List.getElem?_range hb]
      have := g 0 hn j hj
      rw [pm_zero hp hn, prd_unit hj] at this
      rw [this]; rfl
    · rw [List.getElem?_eq_none (by rw [hl 0 hn]; omega), List.getElem?_eq_none (by rw [List.length_map, List.length_range]; omega)]
  · rw [hR.1] at ha
    obtain ⟨i, hi, rfl⟩ := pm_sur hp ha
    obtain ⟨j, hj, rfl⟩ := pm_sur hp (show b < n by omega)
    rw [g i hi j hj, g j hj i hi, prd_comm]
  · rw [hR.1] at ha hb
    obtain ⟨i, hi, rfl⟩ := pm_sur hp ha
    obtain ⟨j, hj, rfl⟩ := pm_sur hp hb
    have hij := prd_lt (pk := pk) hi hj
    have hpij := pm_lt hp.1 hij
    rw [g i hi j hj, Int.toNat_natCast]
    refine List.ext_getElem? fun c => ?_
    rw [List.getElem?_map]
    by_cases hc : c < n
    · obtain ⟨k, hk, rfl⟩ := pm_sur hp hc
      have hjk := prd_lt (pk := pk) hj hk
      rw [(gg_rw hR hpij hc).1, (gg_rw hR hb hc).1, Option.map_some, g j hj k hk, Int.toNat_natCast, g _ hij k hk, g i hi _ hjk, prd_assoc hi hj hk]
    · rw [List.getElem?_eq_none (by rw [hl _ hpij]; omega), List.getElem?_eq_none (by rw [hl _ hb]; omega)]; rfl
end



section
variable {P : Program} {w : World} {K : PySem.W.Frag} {mg : Str → Option Value} {base : Heap}
theorem DrawR.lift {H H1 H' : Hp} {p a : Addr} {as : List Addr} {L : List (List Int)} (h : DrawR H1 H' p a as L) (b : But p H H1) (hp : ∃ u, H1 p = some u) : DrawR H H' p a as L := by
  obtain ⟨h1, h2, h3, h4⟩ := h
  refine ⟨b.trans h1, h2, fun x hx => ?_, h4⟩
  cases hz : H x with
  | none => rfl
  | some u =>
    have n1 := h3 x hx
    by_cases e : x = p
    · subst e
      obtain ⟨u, hu⟩ := hp
      rw [n1] at hu; cases hu
    · rw [b x _ e hz] at n1; cases n1
theorem PoolAt.ex {H : Hp} {p : Addr} (h : PoolAt H p) : ∃ u, H p = some u := let ⟨_, _, _, e⟩ := h; ⟨_, e⟩
def spTable : Sp := fun vs H Q _ => ∃ p, vs = [.ref p, .int 6] ∧ PoolAt H p ∧ ∀ a as L n H', DrawR H H' p a as L → RwP n L → 0 < n → n < 32 → ShpP L → UntP L → OrdP L → GrpP L → Q (.ref a) H'
theorem ok_table (T : Top K mg "_law_table" s_table) (mR : mg "range" = none) (mMax : mg "max" = none) (FN : Fn P w K mg base 1 "_law_next" spNext) (FP : Fn P w K mg base 1 "_law_product" spPr) (FR : Fn P w K mg base 2 "_law_renamed" spRen) : Fn P w K mg base 3 "_law_table" spTable := by
  refine fn_okC T sc_table so_table (fun vs H Q E h => by obtain ⟨p, rfl, _⟩ := h; rfl) (fun _ _ _ _ _ _ us hl => match us, hl with | [_, _], _ => rfl) fun f cdv A outer s H vs Q E hr h nd => ?_
  obtain ⟨p, rfl, hp, q⟩ := h
  refine l_cons (s_set (e_bin (e_int (e_call (by exact FN) (by exact hr) (by decide) ?_))))
  refine a_cons (e_var (a_cons (e_int (a_nil ⟨p, 9, rfl, by decide, by decide, hp, fun d H1 d0 d1 b1 p1 => o_add ?_⟩))))
  obtain ⟨k1, rfl⟩ := Int.eq_ofNat_of_zero_le d0
  rw [show (1 : Int) + (k1 : Int) = ((1 + k1 : Nat) : Int) by omega]
  show wL _ _ _ [some (.ref p), some (.int 6), some (.int ((1 + k1 : Nat) : Int)), none, none, none, none] _
  refine l_join (fun σ H' => ∃ n : Nat, σ = [some (.ref p), some (.int 6), some (.int (n : Int)), none, none, none, none] ∧ 1 ≤ n ∧ n ≤ 17 ∧ But p H H' ∧ PoolAt H' p) ?_ fun go => ?_
  · intro σ H2 ⟨n, hσ, n1, n2, b2, p2⟩
    subst hσ
    refine l_cons (s_set (e_call (by exact FN) (by exact hr) (by decide) ?_))
    refine a_cons (e_var (a_cons (e_var (a_nil ⟨p, 6, rfl, by decide, by decide, p2, fun pk H3 k0 k1' b3 p3 => ?_⟩))))
    obtain ⟨pk, rfl⟩ := Int.eq_ofNat_of_zero_le k0
    show wL _ _ _ [some (.ref p), some (.int 6), some (.int (n : Int)), some (.int (pk : Int)), none, none, none] _
    refine l_join (fun σ H' => ∃ m : Nat, σ = [some (.ref p), some (.int 6), some (.int (m : Int)), some (.int (pk : Int)), none, none, none] ∧ 1 ≤ m ∧ m ≤ 17 ∧ H' = H3) ?_ fun go => ?_
    · intro σ H4 ⟨m, hσ, m1, m2, hH⟩
      subst hσ
      subst hH
      have b3' := b2.trans b3
      refine l_cons (s_set (e_lst (a_nil ⟨by show 0 ≤ sizeLine; decide, fun ra H5 e5 n5 h5 => ?_⟩)))
      show wL _ _ _ [some (.ref p), some (.int 6), some (.int (m : Int)), some (.int (pk : Int)), some (.ref ra), none, none] _
      obtain ⟨qx, qy, qz, hq⟩ := p3
      have nrp : ra ≠ p := fun z => by subst z; rw [hq] at n5; cases n5
      refine l_cons (s_forR (by assumption) (e_var ⟨m, rfl, by omega, fun k σ H' => ∃ x5 cs M, σ = [some (.ref p), some (.int 6), some (.int (m : Int)), some (.int (pk : Int)), some (.ref ra), x5, none] ∧ Rows H' ra cs M ∧ M.length = k ∧ (∀ r ∈ M, RgP m r) ∧ (∀ i < k, ∀ j < m, gg M i j = (prd pk m i j : Nat)) ∧ (∀ b ∈ cs, H5 b = none) ∧ ∀ c u, c ≠ ra → H5 c = some u → H' c = some u, ?_, ?_, ?_⟩))
      · exact ⟨none, [], [], rfl, ⟨h5, rfl, by simp⟩, rfl, by simp, fun _ h => absurd h (Nat.not_lt_zero _), by simp, fun _ _ _ h => h⟩
      · intro k σ H' hk pp
        obtain ⟨x5, cs, M, rfl, hM, hl, hg, hG, hf, keep⟩ := pp
        show wL _ _ _ [some (.ref p), some (.int 6), some (.int (m : Int)), some (.int (pk : Int)), some (.ref ra), some (.int (k : Int)), none] _
        have lcs := hM.rs.len
        refine l_cons (s_expr (e_app (e_var ⟨ra, _, rfl, SqL.of hM.hd, e_lcR (by exact bk_table0) (by assumption) (e_var ⟨m, rfl, by omega, fun D nD => ?_⟩)⟩)))
        refine ⟨fun j H2 => ∃ r, H2 D = some (.lst (iV r)) ∧ r.length = j ∧ (∀ x ∈ r, 0 ≤ x ∧ x < (m : Int)) ∧ (∀ i < j, r[i]? = some ((prd pk m k i : Nat) : Int)) ∧ Same H' H2, ⟨[], upd_same, rfl, by simp, fun _ h => absurd h (Nat.not_lt_zero _), fun c u hc => by rw [upd_ne (ne_of_none hc nD)]; exact hc⟩, ?_, ?_⟩
        · intro j H2 hj p s0 H0 C0 cl fp IB
          obtain ⟨r, r1, r2, r3, r5, r4⟩ := p
          refine b_call (by exact FP) (by exact hr) (by decide) (a_cons (b_var (a_cons (b_var (a_cons (b_var (a_cons (b_var (a_nil ?_)))))))))
          have hx := prd_lt (pk := pk) hk hj
          refine ⟨pk, m, k, j, rfl, by omega, by omega, hk, hj, ⟨_, r1, by rw [List.length_map]; show _ < 2 ^ 24; omega, r ++ [((prd pk m k j : Nat) : Int)], ?_, by rw [List.length_append, r2]; rfl, fun y hy => ?_, fun i hi => ?_, fun c u hc => by rw [upd_ne (ne_of_none hc nD)]; exact r4 _ _ hc⟩⟩
          · rw [upd_same, show iV (r ++ [((prd pk m k j : Nat) : Int)]) = iV r ++ iV [((prd pk m k j : Nat) : Int)] from List.map_append]; rfl
          · rcases List.mem_append.mp hy with hy | hy
            · exact r3 y hy
            · rw [List.mem_singleton.mp hy]; omega
          · by_cases e : i = j
            · subst e
              rw [List.getElem?_append_right (by omega), r2, Nat.sub_self]; rfl
            · rw [List.getElem?_append_left (by omega)]; exact r5 i (by omega)
        · intro H2 p
          obtain ⟨r, r1, r2, r3, r5, r4⟩ := p
          have hM2 := hM.same r4
          have nDr : D ≠ ra := fun z => by subst z; rw [hM.hd] at nD; cases nD
          have nDc : D ∉ cs := fun hc => by obtain ⟨r', h'⟩ := hM.rs.vl hc; rw [h'] at nD; cases nD
          have nD5 : H5 D = none := by
            cases hz : H5 D with
            | none => rfl
            | some u => rw [keep D _ nDr hz] at nD; cases nD
          have nd := List.nodup_cons.mp hM.nd
          refine ⟨_, hM2.hd, by rw [List.length_map]; show _ < 2 ^ 24; omega, l_nil ⟨_, cs ++ [D], M ++ [r], rfl, ⟨by rw [upd_same, List.map_append]; rfl, ?_, ?_⟩, by rw [List.length_append, hl]; rfl, fun x hx => ?_, fun i hi j hj => ?_, fun x hx => ?_, fun c u nc hc => by rw [upd_ne nc]; exact r4 _ _ (keep c u nc hc)⟩⟩
          · refine RsV.snoc (by rw [upd_ne nDr]; exact r1) (hM2.rs.keep fun b hb o z => ?_)
            rw [upd_ne (fun z2 => by subst z2; exact nd.1 hb)]
            exact z
          · exact nd_snoc (l := ra :: cs) hM.nd (fun mm => by
              rcases List.mem_cons.mp mm with mm | mm
              · exact nDr mm
              · exact nDc mm)
          · rcases List.mem_append.mp hx with hx | hx
            · exact hg x hx
            · rw [List.mem_singleton.mp hx]; exact ⟨r2, r3⟩
          · unfold gg nr
            rw [List.getD_eq_getElem?_getD, List.getD_eq_getElem?_getD]
            by_cases e : i = k
            · subst e
              rw [List.getElem?_append_right (by omega), hl, Nat.sub_self]
              show (r[j]?).getD 0 = _
              rw [r5 j hj]; rfl
            · rw [List.getElem?_append_left (by omega)]
              have := hG i (by omega) j hj
              unfold gg nr at this
              rw [List.getD_eq_getElem?_getD, List.getD_eq_getElem?_getD] at this
              exact this
          · rcases List.mem_append.mp hx with hx | hx
            · exact hf x hx
            · rw [List.mem_singleton.mp hx]; exact nD5
      · intro σ H6 pp
        obtain ⟨x5, cs, M, rfl, hM, hl, hg, hG, hf, keep⟩ := pp
        have hp6 : PoolAt H6 p := ⟨qx, qy, qz, keep p _ (Ne.symm nrp) (e5 _ _ hq)⟩
        have b6 : But p H H6 := fun c u nc hc => by
          have h4 := b3' c u nc hc
          exact keep c u (fun z => by subst z; rw [h4] at n5; cases n5) (e5 _ _ h4)
        refine l_cons (s_ret (e_call (by exact FR) (by exact hr) (by decide) ?_))
        refine a_cons (e_var (a_cons (e_var (a_nil ⟨p, ra, cs, M, m, rfl, hp6, hM, ⟨hl, hg⟩, by omega, by omega, fun b hb => ?_, fun a' as' L' ns H' hd hw hpm hgg => ?_⟩))))
        · rcases List.mem_cons.mp hb with rfl | hb
          · exact nrp
          · intro z
            subst z
            have := hf _ hb
            rw [e5 _ _ hq] at this; cases this
        · obtain ⟨t1, t2, t3, t4⟩ := table_ok (by omega) hG hw hpm hgg
          exact q a' as' L' m H' (hd.lift b6 hp6.ex) hw (by omega) (by omega) t1 t2 t3 t4
    · refine l_cons (s_if (t_cmp (e_var (e_int (o_eqI ⟨_, rfl, ?_⟩)))))
      exact ifF (by omega) (l_nil (go _ H3 ⟨n, rfl, n1, n2, rfl⟩))
  · refine l_cons (s_if (t_cmp (e_call (by exact FN) (by exact hr) (by decide) ?_)))
    refine a_cons (e_var (a_cons (e_int (a_nil ⟨p, 8, rfl, by decide, by decide, p1, fun d2 H2 d20 d21 b2 p2 => e_int (o_eqI ⟨_, rfl, ?_⟩)⟩))))
    refine if2 (fun h6 => ?_) (fun h6 => l_nil (go _ H2 ⟨1 + k1, rfl, by omega, by omega, b1.trans b2, p2⟩))
    refine l_cons (s_set (e_bin (e_var (e_int (o_add (l_nil ?_))))))
    exact go _ H2 ⟨1 + k1 + 8, rfl, by omega, by omega, b1.trans b2, p2⟩
end



/-- a kind as a value: once, or a pair -/
def ModeV (H : Hp) (m : V) : Option (Int × Int) → Prop
  | none => m = .str "once"
  | some (u, v) => ∃ t, m = .ref t ∧ H t = some (.tup [.int u, .int v])
inductive Sn where
  | word (z : Str)
  | menu (l r : Sn)
  | trade (k : Option (Int × Int)) (p g : Sn)
  deriving DecidableEq
theorem ModeV.ts {H H' : Hp} {m : V} {k : Option (Int × Int)} (e : TS H H') (h : ModeV H m k) : ModeV H' m k := by
  cases k with
  | none => exact h
  | some uv =>
    obtain ⟨t, h1, h2⟩ := h
    exact ⟨t, h1, e _ _ h2⟩
def SnV (H : Hp) : V → Sn → Prop
  | v, .word z => ∃ t, v = .ref t ∧ H t = some (.tup [.str "word", .str z])
  | v, .menu l r => ∃ t a b, v = .ref t ∧ H t = some (.tup [.str "menu", a, b]) ∧ SnV H a l ∧ SnV H b r
  | v, .trade k p g => ∃ t m a b, v = .ref t ∧ H t = some (.tup [.str "trade", m, a, b]) ∧ ModeV H m k ∧ SnV H a p ∧ SnV H b g
theorem SnV.ts {H H' : Hp} (e : TS H H') : ∀ {s : Sn} {v : V}, SnV H v s → SnV H' v s
  | .word z, v, ⟨t, h1, h2⟩ => ⟨t, h1, e _ _ h2⟩
  | .menu l r, v, ⟨t, a, b, h1, h2, h3, h4⟩ => ⟨t, a, b, h1, e _ _ h2, h3.ts e, h4.ts e⟩
  | .trade k p g, v, ⟨t, m, a, b, h1, h2, h5, h3, h4⟩ => ⟨t, m, a, b, h1, e _ _ h2, h5.ts e, h3.ts e, h4.ts e⟩
/-- rows -/
def rws : Sn → Nat
  | .word _ => 1
  | .menu l r => rws l + rws r + 1
  | .trade _ p g => rws p + rws g + 1
/-- a stack of sentences, the top at the end -/
def StV (H : Hp) : List V → List Sn → Prop
  | [], [] => True
  | v :: vs, s :: ss => SnV H v s ∧ StV H vs ss
  | _, _ => False
theorem StV.ts {H H' : Hp} (e : TS H H') : ∀ {xs : List V} {ss : List Sn}, StV H xs ss → StV H' xs ss
  | [], [], _ => trivial
  | _ :: _, _ :: _, ⟨a, r⟩ => ⟨a.ts e, r.ts e⟩
theorem StV.len {H : Hp} : ∀ {xs : List V} {ss : List Sn}, StV H xs ss → xs.length = ss.length
  | [], [], _ => rfl
  | _ :: _, _ :: _, ⟨_, r⟩ => by simp [r.len]
theorem StV.app {H : Hp} {v : V} {s : Sn} (h : SnV H v s) : ∀ {xs : List V} {ss : List Sn}, StV H xs ss → StV H (xs ++ [v]) (ss ++ [s])
  | [], [], _ => ⟨h, trivial⟩
  | _ :: _, _ :: _, ⟨a, r⟩ => ⟨a, r.app h⟩
theorem StV.last {H : Hp} : ∀ {xs : List V} {ss : List Sn} {s : Sn}, StV H xs (ss ++ [s]) → ∃ ys v, xs = ys ++ [v] ∧ StV H ys ss ∧ SnV H v s
  | [], [], s, h => h.elim
  | [], _ :: _, s, h => h.elim
  | [v], [], s, ⟨a, _⟩ => ⟨[], v, rfl, trivial, a⟩
  | v :: w :: vs, [], s, ⟨_, h⟩ => h.elim
  | v :: vs, t :: ss, s, ⟨a, r⟩ => by
    obtain ⟨ys, u, e, h1, h2⟩ := StV.last (ss := ss) r
    exact ⟨v :: ys, u, by rw [e]; rfl, ⟨a, h1⟩, h2⟩
def stR (ss : List Sn) : Nat := (ss.map rws).sum
theorem stR_app (ss : List Sn) (s : Sn) : stR (ss ++ [s]) = stR ss + rws s := by simp [stR]
theorem rws_pos : ∀ s, 0 < rws s
  | .word _ => Nat.one_pos
  | .menu _ _ => Nat.succ_pos _
  | .trade _ _ _ => Nat.succ_pos _
theorem len_stR : ∀ ss : List Sn, ss.length ≤ stR ss
  | [] => Nat.le_refl _
  | s :: ss => by have := len_stR ss; have := rws_pos s; simp only [stR, List.map_cons, List.sum_cons, List.length_cons] at *; omega
theorem snoc_or {α : Type} : ∀ l : List α, l = [] ∨ ∃ a b, l = a ++ [b]
  | [] => .inl rfl
  | x :: xs => by
    rcases snoc_or xs with rfl | ⟨a, b, rfl⟩
    · exact .inr ⟨[], x, rfl⟩
    · exact .inr ⟨x :: a, b, rfl⟩
theorem updS {H H1 : Hp} {f : Addr} {o : HO} (s : Same H H1) (n : H f = none) : Same H (upd H1 f o) := fun x u h => by
  rw [upd_ne (ne_of_none h n)]
  exact s x u h
theorem ix_neg {X : Cx} {H : Hp} {Q : VK} {a : Addr} {xs : List V} {v : V} {j : Int} (h : H a = some (.tup xs)) (e : atI xs j = some v) (q : Q v H) : wIx X (.ref a) (.int j) H Q := ix_t (SqT.of h) e q
abbrev Pk := Option (Int × Int)
def dep : Sn → Nat
  | .word _ => 0
  | .menu l r => max (dep l) (dep r) + 1
  | .trade _ p g => max (dep p) (dep g) + 1
/-! ### the different words -/
/-- once all through -/
def onc : Sn → Bool
  | .word _ => true
  | .menu l r => onc l && onc r
  | .trade k p g => k.isNone && onc p && onc g
/-- true at an element -/
def trb (L : List (List Int)) (F : FcT) : Sn → Nat → Bool
  | .word z, k => inF F z k
  | .menu l r, k => trb L F l k && trb L F r k
  | .trade _ p g, k => (List.range L.length).all fun v => !(trb L F p v) || trb L F g (gg L k v).toNat



section
variable {P : Program} {w : World} {K : PySem.W.Frag} {mg : Str → Option Value} {base : Heap}
theorem once_sh : SeqAt.shaped (.str "once") = true := by decide +kernel
theorem o_nePS {X : Cx} {H : Hp} {Q : VK} {n : Nat} {a : Addr} {u v : Int} (hr : Room n X.A) (h : H a = some (.tup [.int u, .int v])) (q : Q (.bl true) H) : wK X .NotEq (.ref a) (.str "once") H Q :=
  o_neD hr (.tup (SqT.of h) (.cons (.int u) (.cons (.int v) .nil))) (.str "once") rfl once_sh q
/-- m != 'once' -/
theorem o_neOnce {X : Cx} {H : Hp} {Q : VK} {n : Nat} {m : V} {k : Pk} (hr : Room n X.A) (h : ModeV H m k) (q : Q (.bl (!k.isNone)) H) : wK X .NotEq m (.str "once") H Q := by
  cases k with
  | none =>
    cases (show m = .str "once" from h)
    exact o_neS q
  | some uv =>
    obtain ⟨t, rfl, ht⟩ := h
    exact o_nePS hr ht q
def spOnce : Sp := fun vs H Q _ => ∃ v s, vs = [v] ∧ SnV H v s ∧ rws s ≤ 100000 ∧ ∀ H', Same H H' → Q (.bl (onc s)) H'
theorem ok_once (T : Top K mg "is_all_once" s_is_all_once) : Fn P w K mg base 1 "is_all_once" spOnce := by
  refine fn_ok T sc_is_all_once so_is_all_once (fun vs H Q E h => by obtain ⟨v, s, rfl, _⟩ := h; rfl) (fun _ _ _ _ _ _ us hl => match us, hl with | [_], _ => rfl) fun f cdv A outer s H vs Q E hr h nd => ?_
  obtain ⟨v, s, rfl, hv, hz, q⟩ := h
  refine l_cons (s_set (e_lst (a_cons (e_var (a_nil ⟨by show 1 ≤ sizeLine; decide, fun g H2 e2 ng hg => ?_⟩)))))
  show wL _ _ _ [some v, some (.ref g), none] _
  refine l_cons (s_whileN (fun n σ H' => ∃ y xs ss, σ = [some v, some (.ref g), y] ∧ Same H H' ∧ H' g = some (.lst xs) ∧ StV H' xs ss ∧ ss.all onc = onc s ∧ n = stR ss ∧ stR ss ≤ rws s)
    (rws s) ⟨_, [v], [s], rfl, e2, hg, ⟨hv.ts (Same.ts e2), trivial⟩, by simp, by simp [stR], by simp [stR]⟩ fun n σ H3 hW => ?_)
  obtain ⟨y, xs, ss, rfl, e3, hg3, hst, hn, rfl, hle⟩ := hW
  refine t_tru (e_var ⟨_, tru_l hg3, ?_⟩)
  rcases snoc_or ss with rfl | ⟨ss, s1, rfl⟩
  · have hx : xs = [] := by
      match xs, hst with
      | [], _ => rfl
    subst hx
    rw [show onc s = true from hn.symm] at q
    exact iteF (l_cons (s_ret (e_bl (q H3 e3))))
  · obtain ⟨xs, v1, rfl, hs2, hv1⟩ := hst.last
    clear hst
    rw [List.all_append] at hn
    rw [stR_app] at hle
    rw [stR_app]
    refine ite_t (by simp) ?_
    refine l_cons (s_set (e_pop (e_var ⟨g, xs, v1, rfl, hg3, ?_⟩)))
    have ts4 := TS.upd (o := .lst xs) hg3
    replace hv1 := hv1.ts ts4
    replace hs2 := hs2.ts ts4
    have e4 : Same H (upd H3 g (.lst xs)) := updS e3 ng
    have hg4 : (upd H3 g (.lst xs)) g = some (.lst xs) := upd_same
    generalize upd H3 g (.lst xs) = H4 at *
    have hll := len_stR ss
    have hlx := hs2.len
    show wL _ _ _ [some v, some (.ref g), some v1] _
    cases s1 with
    | word z =>
      obtain ⟨t, rfl, ht⟩ := hv1
      refine l_cons (s_if (t_cmp (e_ix (e_var (e_int (ix_t (by exact SqT.of ht) at0 (e_str (o_neS ⟨_, rfl, ?_⟩))))))))
      refine ite_f (by simp) (l_nil ?_)
      refine l_cons (s_if (t_w (w_and (t_cmp (e_ix (e_var (e_int (ix_t (by exact SqT.of ht) at0 (e_str (o_eqS ⟨_, rfl, ?_⟩))))))))))
      refine ite_f (by decide +kernel) (ite_f rfl (l_nil (l_nil ⟨stR ss, by simp [rws], _, xs, ss, rfl, e4, hg4, hs2, by simpa [onc] using hn, rfl, by omega⟩)))
    | menu l r =>
      obtain ⟨t, a, b, rfl, ht, ha, hb⟩ := hv1
      simp only [rws] at hle ⊢
      refine l_cons (s_if (t_cmp (e_ix (e_var (e_int (ix_t (by exact SqT.of ht) at0 (e_str (o_neS ⟨_, rfl, ?_⟩))))))))
      refine ite_t (by decide +kernel) ?_
      refine l_cons (s_expr (e_app ?_))
      walk_at "sts"
      refine ⟨g, _, rfl, SqL.of hg4, ?_⟩
      walk_at "sts"
      refine ix_neg (by exact ht) rfl ?_
      refine ⟨_, hg4, by rw [hlx]; show ss.length < 2 ^ 24; omega, ?_⟩
      have ts5 := TS.upd (o := .lst (xs ++ [b])) hg4
      refine l_cons (s_expr (e_app ?_))
      walk_at "sts"
      refine ⟨g, _, rfl, SqL.of upd_same, ?_⟩
      walk_at "sts"
      refine ix_neg (by exact ts5 _ _ ht) rfl ?_
      refine ⟨_, upd_same, by rw [List.length_append, hlx]; show ss.length + 1 < 2 ^ 24; omega, ?_⟩
      have ts6 := ts5.trans (TS.upd (o := .lst (xs ++ [b] ++ [a])) upd_same)
      refine l_nil ?_
      refine l_cons (s_if (t_w (w_and (t_cmp (e_ix (e_var (e_int (ix_t (by exact SqT.of (ts6 _ _ ht)) at0 (e_str (o_eqS ⟨_, rfl, ?_⟩))))))))))
      refine ite_f (by decide +kernel) (ite_f rfl (l_nil (l_nil ⟨stR ss + rws r + rws l, by omega, _, xs ++ [b] ++ [a], ss ++ [r] ++ [l], rfl, updS (updS e4 ng) ng, upd_same, ((hs2.ts ts6).app (hb.ts ts6)).app (ha.ts ts6), ?_, by rw [stR_app, stR_app], by rw [stR_app, stR_app]; omega⟩)))
      rw [← hn]
      simp only [List.all_append, List.all_cons, List.all_nil, Bool.and_true, onc]
      cases ss.all onc <;> cases onc l <;> cases onc r <;> rfl
    | trade k l r =>
      obtain ⟨t, m, a, b, rfl, ht, hm, ha, hb⟩ := hv1
      simp only [rws] at hle ⊢
      refine l_cons (s_if (t_cmp (e_ix (e_var (e_int (ix_t (by exact SqT.of ht) at0 (e_str (o_neS ⟨_, rfl, ?_⟩))))))))
      refine ite_t (by decide +kernel) ?_
      refine l_cons (s_expr (e_app ?_))
      walk_at "sts"
      refine ⟨g, _, rfl, SqL.of hg4, ?_⟩
      walk_at "sts"
      refine ix_neg (by exact ht) rfl ?_
      refine ⟨_, hg4, by rw [hlx]; show ss.length < 2 ^ 24; omega, ?_⟩
      have ts5 := TS.upd (o := .lst (xs ++ [b])) hg4
      refine l_cons (s_expr (e_app ?_))
      walk_at "sts"
      refine ⟨g, _, rfl, SqL.of upd_same, ?_⟩
      walk_at "sts"
      refine ix_neg (by exact ts5 _ _ ht) rfl ?_
      refine ⟨_, upd_same, by rw [List.length_append, hlx]; show ss.length + 1 < 2 ^ 24; omega, ?_⟩
      have ts6 := ts5.trans (TS.upd (o := .lst (xs ++ [b] ++ [a])) upd_same)
      refine l_nil ?_
      refine l_cons (s_if (t_w (w_and (t_cmp (e_ix (e_var (e_int (ix_t (by exact SqT.of (ts6 _ _ ht)) at0 (e_str (o_eqS ⟨_, rfl, ?_⟩))))))))))
      refine ite_t (by decide +kernel) (w_and1 (t_cmp (e_ix (e_var (e_int (ix_t (by exact SqT.of (ts6 _ _ ht)) at1 (e_str (o_neOnce (by exact hr) (hm.ts ts6) ⟨_, rfl, ?_⟩))))))))
      cases k with
      | some uv =>
        refine ite_t rfl (l_cons (s_ret (e_bl ?_)))
        rw [show onc s = false from by rw [← hn]; simp [onc]] at q
        exact q _ (updS (updS e4 ng) ng)
      | none =>
        refine ite_f rfl (l_nil (l_nil ⟨stR ss + rws r + rws l, by omega, _, xs ++ [b] ++ [a], ss ++ [r] ++ [l], rfl, updS (updS e4 ng) ng, upd_same, ((hs2.ts ts6).app (hb.ts ts6)).app (ha.ts ts6), ?_, by rw [stR_app, stR_app], by rw [stR_app, stR_app]; omega⟩))
        rw [← hn]
        simp only [List.all_append, List.all_cons, List.all_nil, Bool.and_true, onc, Option.isNone_none, Bool.true_and]
        cases ss.all onc <;> cases onc l <;> cases onc r <;> rfl
end



def sVs (l : List Str) : List V := l.map V.str
theorem sVs_get {l : List Str} {k : Nat} {v : V} (h : (sVs l)[k]? = some v) : ∃ z, l[k]? = some z ∧ v = .str z := by
  simp only [sVs, List.getElem?_map] at h
  cases hz : l[k]? with
  | none => rw [hz] at h; cases h
  | some z => rw [hz] at h; cases h; exact ⟨z, rfl, rfl⟩
/-- all but two stay -/
def Bu (p t : Addr) (H H' : Hp) : Prop := ∀ b o, b ≠ p → b ≠ t → H b = some o → H' b = some o
theorem PoolAt.up {H H' : Hp} {a : Addr} (e : Same H H') (h : PoolAt H a) : PoolAt H' a := let ⟨x, y, z, p⟩ := h; ⟨x, y, z, e _ _ p⟩
theorem PoolAt.ne {H : Hp} {a b : Addr} (h : PoolAt H a) (n : H b = none) : b ≠ a := fun e => by subst e; obtain ⟨_, _, _, q⟩ := h; rw [q] at n; cases n
theorem sVs_at {ns : List Str} {d : Int} (h0 : 0 ≤ d) (h1 : d < ns.length) : ∃ z, z ∈ ns ∧ atI (sVs ns) d = some (.str z) := by
  obtain ⟨j, rfl⟩ := Int.eq_ofNat_of_zero_le h0
  have hj : j < ns.length := by omega
  refine ⟨ns[j], List.getElem_mem hj, atI_nat ?_⟩
  simp [sVs, hj]
theorem Bu.of {p t : Addr} {H H' : Hp} (b : But p H H') : Bu p t H H' := fun x o n _ h => b x o n h
theorem Bu.s {p t : Addr} {H H' : Hp} (b : Same H H') : Bu p t H H' := fun x o _ _ h => b x o h
theorem Bu.trans {p t : Addr} {H H1 H2 : Hp} (a : Bu p t H H1) (b : Bu p t H1 H2) : Bu p t H H2 := fun x o n m h => b x o n m (a x o n m h)
abbrev hstems : List Str := ["h", "note", "q", "own", "left", "once", "b2", "zz", "from", "cut", "k7x", "pay"]
theorem sVs_flat (l : List Str) : (sVs l).all flatV = true := by
  rw [List.all_eq_true]
  intro v hv
  simp only [sVs, List.mem_map] at hv
  obtain ⟨z, _, rfl⟩ := hv
  rfl
theorem hst_len : ∀ z ∈ hstems, z.length ≤ 4 := by decide +kernel
theorem small_str {d : Int} (h0 : 0 ≤ d) (h1 : d < 100) : (toString d : Str).length ≤ 2 := by
  obtain ⟨j, rfl⟩ := Int.eq_ofNat_of_zero_le h0
  have hj : j < 100 := by omega
  have all : ((List.range 100).all fun j => decide ((toString ((j : Nat) : Int) : Str).length ≤ 2)) = true := by decide +kernel
  rw [List.all_eq_true] at all
  exact of_decide_eq_true (all j (List.mem_range.mpr hj))
theorem log_small {d : Int} (h0 : 0 ≤ d) (h1 : d < 100) : d.natAbs.log2 < 1920 := by
  have h : d.natAbs < 2 ^ 7 := by omega
  rcases Nat.eq_zero_or_pos d.natAbs with z | z
  · rw [z]; decide
  · have := (Nat.log2_lt (by omega)).mpr h
    omega
theorem o_addS {X : Cx} {H : Hp} {Q : VK} {x y : Str} (hz : x.length + y.length ≤ 1000) (q : Q (.str (x ++ y)) H) : wB X .Add (.str x) (.str y) H Q := b_of op_add_str ⟨x, y, rfl, rfl, by show _ ≤ 2 ^ 24; omega, q⟩
theorem app_cps (x y : Str) : (x ++ y).cps.toList = x.cps.toList ++ y.cps.toList := by
  show ((x.cps ++ y.cps)).toList = _
  rw [Array.toList_append]
/-- a name that does not begin as a spare one does -/
def hdB (z : Str) : Bool := match z.cps.toList with | a :: _ => decide (a ≠ 115) | [] => false
def HdOk (z : Str) : Prop := hdB z = true
theorem hst_hd : ∀ z ∈ hstems, HdOk z := by unfold HdOk; decide +kernel
theorem HdOk.app {z : Str} (y : Str) (h : HdOk z) : HdOk (z ++ y) := by
  unfold HdOk hdB at h ⊢
  rw [app_cps]
  cases e : z.cps.toList with
  | nil => rw [e] at h; cases h
  | cons a l => rw [e] at h; exact h
def Spn (k : Nat) : Str := Str.ofString "spare" ++ (toString ((k : Nat) : Int) : Str)
theorem spn_cps (k : Nat) : (Spn k).cps.toList = (Str.ofString "spare").cps.toList ++ (toString ((k : Nat) : Int) : Str).cps.toList := app_cps _ _
theorem spn_inj {j k : Nat} (hj : j < 60) (hk : k < 60) (h : Spn j = Spn k) : j = k := by
  have h1 := congrArg (fun z : Str => z.cps.toList) h
  simp only [spn_cps] at h1
  have h2 := List.append_cancel_left h1
  have all : ((List.range 60).all fun j => (List.range 60).all fun k => decide ((toString ((j : Nat) : Int) : Str).cps.toList = (toString ((k : Nat) : Int) : Str).cps.toList → j = k)) = true := by decide +kernel
  rw [List.all_eq_true] at all
  have a1 := all j (List.mem_range.mpr hj)
  rw [List.all_eq_true] at a1
  exact of_decide_eq_true (a1 k (List.mem_range.mpr hk)) h2
theorem spn_hd (k : Nat) : ¬ HdOk (Spn k) := by
  unfold HdOk hdB
  rw [spn_cps]
  intro h
  have e : (Str.ofString "spare").cps.toList = 115 :: [112, 97, 114, 101] := by decide +kernel
  rw [e, List.cons_append] at h
  simp at h
/-- names that differ -/
structure NmOk (ts : List Str) : Prop where
  nd : ts.Nodup
  sp : ∀ z ∈ ts, HdOk z ∨ ∃ k : Nat, k < ts.length ∧ z = Spn k
def NewNm (ts : List Str) (z : Str) : Prop := (z ∉ ts ∧ HdOk z) ∨ z = Spn ts.length
theorem NmOk.add {ts : List Str} {z : Str} (o : NmOk ts) (hl : ts.length < 59) (h : NewNm ts z) : NmOk (ts ++ [z]) := by
  have hz : z ∉ ts := by
    as_aux_lemma =>
      rcases h with h | h
      · exact h.1
      · intro hm
        rcases o.sp z hm with g | ⟨k, hk, e⟩
        · rw [h] at g; exact spn_hd _ g
        · rw [h] at e
          have := spn_inj (by omega) (by omega) e
          omega
  refine ⟨List.nodup_append.mpr ⟨o.nd, by simp, fun a ha b hb e => ?_⟩, fun y hy => ?_⟩
  · rw [List.mem_singleton] at hb
    subst hb e
    exact hz ha
  · rcases List.mem_append.mp hy with hy | hy
    · rcases o.sp y hy with g | ⟨k, hk, e⟩
      · exact .inl g
      · exact .inr ⟨k, by rw [List.length_append]; omega, e⟩
    · rw [List.mem_singleton] at hy
      subst hy
      rcases h with h | h
      · exact .inl h.2
      · exact .inr ⟨ts.length, by simp, h⟩
theorem NmOk.nil : NmOk [] := ⟨List.nodup_nil, fun z h => (nomatch h)⟩
theorem inV_mem {z : Str} {ns : List Str} (h : z ∈ ns) : inV (V.str z) (sVs ns) = true := by
  unfold inV
  rw [List.any_eq_true]
  exact ⟨.str z, List.mem_map.mpr ⟨z, h, rfl⟩, by show (z == z) = true; exact beq_self_eq_true z⟩
section
variable {P : Program} {w : World} {K : PySem.W.Frag} {mg : Str → Option Value} {base : Heap}
def spName : Sp := fun vs H Q _ => ∃ p t ts, vs = [.ref p, .ref t] ∧ PoolAt H p ∧ t ≠ p ∧ H t = some (.lst (sVs ts)) ∧ ts.length ≤ 50 ∧ ∀ z H', NewNm ts z → Bu p t H H' → PoolAt H' p → H' t = some (.lst (sVs (ts ++ [z]))) → Q (.str z) H'
theorem ok_name (T : Top K mg "_law_name" s_name) (mLen : mg "len" = none) (mStr : mg "str" = none) (mR : mg "range" = none) (F : Fn P w K mg base 1 "_law_next" spNext) : Fn P w K mg base 2 "_law_name" spName := by
  refine fn_ok T sc_name so_name (fun vs H Q E h => by obtain ⟨p, t, ts, rfl, _⟩ := h; rfl) (fun _ _ _ _ _ _ us hl => match us, hl with | [_, _], _ => rfl) fun f cdv A outer s H vs Q E hr h nd => ?_
  obtain ⟨p, t, ts, rfl, hp, htp, ht, hl, q⟩ := h
  walk_at "sts"
  refine ⟨by show 12 ≤ sizeLine; decide, fun l H1 e1 nl hl1 => ?_⟩
  have hlp := hp.ne nl
  have hlt : l ≠ t := fun e => by subst e; rw [ht] at nl; cases nl
  walk_at "sts"
  refine e_call (by exact F) (by exact hr) (by decide) ?_
  walk_at "sts"
  refine ⟨p, 12, rfl, by decide, by decide, hp.up e1, fun d H2 d0 d1 b2 p2 => ?_⟩
  obtain ⟨z0, hz0, hat0⟩ := sVs_at (ns := hstems) d0 d1
  refine ix_l (by exact SqL.of (b2 l _ hlp hl1)) hat0 ?_
  have ht2 := b2 t _ htp (e1 t _ ht)
  have hl2 := b2 l _ hlp hl1
  -- behind the test
  have fin2 : ∀ z y H', NewNm ts z → Bu p t H H' → PoolAt H' p → H' t = some (.lst (sVs ts)) → wL (cxOf CX0 P w K mg base N_name (Str.ofString "_law_name") (defScope s_name) f cdv A outer s H E).nox ((defBody s_name).drop 4) { nx := fun _ H' => Q .non H', rt := Q } [some (V.ref p), some (.ref t), some (.ref l), some (.str z), y] H' := by
    as_aux_lemma =>
      intro z y H' zo b' p' t'
      show wL _ (_ :: _) _ _ _
      walk_at "sts"
      refine e_app ?_
      walk_at "sts"
      refine ⟨t, _, rfl, SqL.of t', ?_⟩
      walk_at "sts"
      refine ⟨_, t', by simp only [sVs, List.length_map]; show ts.length < 2 ^ 24; omega, ?_⟩
      walk_at "sts"
      refine q z _ zo (fun x o n m h => ?_) ?_ ?_
      · rw [upd_ne m]
        exact b' x o n m h
      · obtain ⟨a1, a2, a3, h⟩ := p'
        exact ⟨a1, a2, a3, by rw [upd_ne htp.symm]; exact h⟩
      · rw [upd_same]
        simp [sVs]
  have fin1 : ∀ z y H', HdOk z → Bu p t H H' → PoolAt H' p → H' t = some (.lst (sVs ts)) → wL (cxOf CX0 P w K mg base N_name (Str.ofString "_law_name") (defScope s_name) f cdv A outer s H E).nox ((defBody s_name).drop 3) { nx := fun _ H' => Q .non H', rt := Q } [some (V.ref p), some (.ref t), some (.ref l), some (.str z), y] H' := by
    as_aux_lemma =>
      intro z y H' zo b' p' t'
      show wL _ (_ :: _) _ _ _
      walk_at "sts"
      refine o_in (by exact SqL.of t') rfl (sVs_flat ts) ?_
      refine ⟨_, rfl, ?_⟩
      cases hin : inV (.str z) (sVs ts) with
      | true =>
        refine iteT ?_
        refine l_cons (s_set (e_bin (e_str ?_)))
        refine e_callTy (x := "str") (by assumption) b_str ?_
        walk_at "sts"
        refine c_lenL (by exact SqL.of t') ?_
        rw [show (sVs ts).length = ts.length by simp [sVs]]
        walk_at "sts"
        refine c_strI (log_small (by omega) (by omega)) ?_
        have h2 := small_str (d := (ts.length : Int)) (by omega) (by omega)
        refine o_addS (Nat.le_trans (Nat.add_le_add (show Str.length (Str.ofString "spare") ≤ 5 by decide +kernel) h2) (by decide)) ?_
        refine l_nil ?_
        exact fin2 _ _ H' (.inr rfl) b' p' t'
      | false =>
        refine iteF (l_nil ?_)
        exact fin2 _ _ H' (.inl ⟨fun hm => (by rw [inV_mem hm] at hin; cases hin), zo⟩) b' p' t'
  walk_at "sts"
  refine s_forR (by assumption) ?_
  walk_at "sts"
  refine ⟨by decide, fun k σ H' => ∃ z y, σ = [some (V.ref p), some (.ref t), some (.ref l), some (.str z), y] ∧ HdOk z ∧ But p H2 H' ∧ PoolAt H' p, ⟨z0, none, rfl, hst_hd z0 hz0, .refl, p2⟩, fun k σ H3 hk hW => ?_, fun σ H3 hW => ?_⟩
  · obtain ⟨z, y, rfl, zo, b3, p3⟩ := hW
    have ht3 := b3 t _ htp ht2
    have hl3 := b3 l _ hlp hl2
    have b03 : Bu p t H H3 := (Bu.s e1).trans ((Bu.of b2).trans (Bu.of b3))
    walk_at "sts"
    refine o_nin (by exact SqL.of ht3) rfl (sVs_flat ts) ?_
    refine ⟨_, rfl, ?_⟩
    cases inV (.str z) (sVs ts) with
    | false =>
      refine ite_t rfl (l_cons (s_brk ?_))
      exact fin1 _ _ H3 zo b03 p3 ht3
    | true =>
      refine ite_f rfl (l_nil ?_)
      refine l_cons (s_set (e_bin ?_))
      walk_at "sts"
      refine e_call (by exact F) (by exact hr) (by decide) ?_
      walk_at "sts"
      refine ⟨p, 12, rfl, by decide, by decide, p3, fun d4 H4 f0 f1 b4 p4 => ?_⟩
      obtain ⟨z4, hz4, hat4⟩ := sVs_at (ns := hstems) f0 f1
      refine ix_l (by exact SqL.of (b4 l _ hlp hl3)) hat4 ?_
      refine e_callTy (x := "str") (by assumption) b_str ?_
      walk_at "sts"
      refine e_call (by exact F) (by exact hr) (by decide) ?_
      walk_at "sts"
      refine ⟨p, 100, rfl, by decide, by decide, p4, fun d5 H5 g0 g1 b5 p5 => ?_⟩
      refine a_nil ?_
      refine c_strI (log_small g0 g1) ?_
      have h2 := small_str g0 g1
      have h3 := hst_len z4 hz4
      refine o_addS (by omega) ?_
      refine l_nil ⟨_, _, rfl, (hst_hd z4 hz4).app _, (b3.trans b4).trans b5, p5⟩
  · obtain ⟨z, y, rfl, zo, b3, p3⟩ := hW
    exact fin1 _ _ H3 zo ((Bu.s e1).trans ((Bu.of b2).trans (Bu.of b3))) p3 (b3 t _ htp ht2)
end

abbrev stems : List Str := ["a", "b", "c", "door", "key2", "x", "menu", "long12345678"]
theorem putK_len (kvs : List (Key × V)) (k : Key) (v : V) : (putK kvs k v).length ≤ kvs.length + 1 := by
  unfold putK
  split
  · rw [List.length_map]; omega
  · rw [List.length_append]; exact Nat.le_refl _
theorem mergeK_len : ∀ (l kvs : List (Key × V)), (mergeK kvs l).length ≤ kvs.length + l.length
  | [], kvs => Nat.le_refl _
  | x :: l, kvs => by
    have := mergeK_len l (putK kvs x.1 x.2)
    have h2 := putK_len kvs x.1 x.2
    show (mergeK (putK kvs x.1 x.2) l).length ≤ kvs.length + (l.length + 1)
    omega



instance memK (r : Key) (l : List Key) : Decidable (r ∈ l) := decidable_of_iff (l.any (fun x => decide (x = r)) = true) (by rw [List.any_eq_true]; exact ⟨fun ⟨x, h1, h2⟩ => by rw [of_decide_eq_true h2] at h1; exact h1, fun h => ⟨r, h, decide_eq_true rfl⟩⟩)
theorem o_cat2 {X : Cx} {H : Hp} {Q : VK} {l b : Addr} {xs zs : List V} (h1 : H l = some (.lst xs)) (h2 : H b = some (.lst zs)) (hz : xs.length + zs.length ≤ 200000) (q : ∀ p H2, Same H H2 → H p = none → H2 p = some (.lst (xs ++ zs)) → Q (.ref p) H2) : wB X .Add (.ref l) (.ref b) H Q :=
  b_of op_cat ⟨l, b, xs, zs, rfl, rfl, h1, h2, by show _ ≤ 2 ^ 24; omega, fun p np => q p _ (fun c u eo => by rw [upd_ne (ne_of_none eo np)]; exact eo) np upd_same⟩
abbrev kdS : List V := [.str "own", .str "take", .str "offer", .str "pick", .str "pay", .str "make", .str "open", .str "cut", .str "cite"]
/-! ### sentences whose trades are once -/
def SnOk : Sn → Prop
  | .word _ => True | .menu l r => SnOk l ∧ SnOk r | .trade k p g => k = none ∧ SnOk p ∧ SnOk g
/-- words and once trades alone -/
def SnT : Sn → Prop
  | .word _ => True | .menu _ _ => False | .trade k p g => k = none ∧ SnT p ∧ SnT g
theorem SnT.ok : ∀ {s : Sn}, SnT s → SnOk s
  | .word _, _ => trivial
  | .trade _ p g, ⟨h, h1, h2⟩ => ⟨h, SnT.ok (s := p) h1, SnT.ok (s := g) h2⟩
theorem SnV.menuV {H : Hp} {v : V} {l r : Sn} (h : SnV H v (.menu l r)) : ∃ t a b, v = .ref t ∧ H t = some (.tup [.str "menu", a, b]) ∧ SnV H a l ∧ SnV H b r := h
/-- kinds that are drawn -/
def KOk : Option (Int × Int) → Prop
  | none => True
  | some (u, d) => 1 ≤ u ∧ u ≤ 3 ∧ 0 ≤ d
/-! ### derivations with cuts, once kinds alone -/
inductive D where
  | own (r : Key) | take (a : D) | ofr (a b : D) | pk (r : Key) (d : Bool) (a : D) | py (r : Key) (p b : D) | ct (s : Sn) (p b : D)
def sideS : Bool → Str
  | true => "right" | false => "left"
def DV (H : Hp) : D → V → Prop
  | .own r, v => ∃ p, v = .ref p ∧ H p = some (.tup [.str "own", kV r])
  | .take a, v => ∃ p x, v = .ref p ∧ H p = some (.tup [.str "take", x]) ∧ DV H a x
  | .ofr a b, v => ∃ p x y, v = .ref p ∧ H p = some (.tup [.str "offer", x, y]) ∧ DV H a x ∧ DV H b y
  | .pk r d a, v => ∃ p x, v = .ref p ∧ H p = some (.tup [.str "pick", kV r, .str (sideS d), x]) ∧ DV H a x
  | .py r a b, v => ∃ p x y, v = .ref p ∧ H p = some (.tup [.str "pay", kV r, .str "once", x, y]) ∧ DV H a x ∧ DV H b y
  | .ct s a b, v => ∃ p sv x y, v = .ref p ∧ H p = some (.tup [.str "cut", .str "once", sv, x, y]) ∧ SnV H sv s ∧ DV H a x ∧ DV H b y
theorem DV.ts {H H' : Hp} (e : TS H H') : ∀ {t : D} {v : V}, DV H t v → DV H' t v
  | .own _, _, ⟨p, h1, h2⟩ => ⟨p, h1, e _ _ h2⟩
  | .take a, _, ⟨p, x, h1, h2, h3⟩ => ⟨p, x, h1, e _ _ h2, DV.ts e (t := a) h3⟩
  | .ofr a b, _, ⟨p, x, y, h1, h2, h3, h4⟩ => ⟨p, x, y, h1, e _ _ h2, DV.ts e (t := a) h3, DV.ts e (t := b) h4⟩
  | .pk _ _ a, _, ⟨p, x, h1, h2, h3⟩ => ⟨p, x, h1, e _ _ h2, DV.ts e (t := a) h3⟩
  | .py _ a b, _, ⟨p, x, y, h1, h2, h3, h4⟩ => ⟨p, x, y, h1, e _ _ h2, DV.ts e (t := a) h3, DV.ts e (t := b) h4⟩
  | .ct s a b, _, ⟨p, sv, x, y, h1, h2, h5, h3, h4⟩ => ⟨p, sv, x, y, h1, e _ _ h2, h5.ts e, DV.ts e (t := a) h3, DV.ts e (t := b) h4⟩
def sz : D → Nat
  | .own _ => 1 | .take a => sz a + 1 | .ofr a b => sz a + sz b + 1 | .pk _ _ a => sz a + 1 | .py _ p b => sz p + sz b + 1 | .ct _ p b => sz p + sz b + 1
def dp : D → Nat
  | .own _ => 0 | .take a => dp a + 1 | .ofr a b => max (dp a) (dp b) + 1 | .pk _ _ a => dp a + 1 | .py _ p b => max (dp p) (dp b) + 1 | .ct _ p b => max (dp p) (dp b) + 1
/-- sentences of cuts -/
def DOk : D → Prop
  | .own _ => True | .take a => DOk a | .ofr a b => DOk a ∧ DOk b | .pk _ _ a => DOk a | .py _ p b => DOk p ∧ DOk b | .ct s p b => SnT s ∧ dep s ≤ 2 ∧ DOk p ∧ DOk b
/-! ### counts -/
abbrev C3 := Int × Int × Int
def z3 : C3 := (0, 0, 0)
def o3 : C3 := (1, 1, 0)
def ad (x y : C3) : C3 := (x.1 + y.1, x.2.1 + y.2.1, max x.2.2 y.2.2)
def ei (x y : C3) : C3 := (min x.1 y.1, max x.2.1 y.2.1, max x.2.2 y.2.2)
def bx (m : Option (Int × Int)) (x : C3) : C3 := match m with
  | none => x
  | some (u, d) => if x.2.1 = 0 then z3 else (0, u * x.2.1, d + x.2.2)
def dl (r k : Key) : C3 := if r = k then o3 else z3
def DS (H H' : Hp) : Prop := TS H H' ∧ ∀ d kvs, H d = some (.dK kvs) → H' d = some (.dK kvs)
theorem DS.of {H H' : Hp} (e : Same H H') : DS H H' := ⟨Same.ts e, fun _ _ h => e _ _ h⟩
theorem nd_put {kvs : List (Key × V)} (k : Key) (v : V) (h : (kvs.map (·.1)).Nodup) : ((putK kvs k v).map (·.1)).Nodup := by
  unfold putK
  split
  · rw [List.map_map]
    have e : ((fun x : Key × V => x.1) ∘ fun kv : Key × V => if kv.1 = k then (kv.1, v) else kv) = fun x => x.1 := by
      funext x
      show (if x.1 = k then (x.1, v) else x).1 = x.1
      split <;> rfl
    rw [e]
    exact h
  · rename_i hn
    rw [List.map_append]
    refine List.nodup_append.mpr ⟨h, by simp, fun a ha b hb => ?_⟩
    have eb : b = k := by simpa using hb
    subst eb
    intro e
    subst e
    apply hn
    obtain ⟨p, hp, e2⟩ := List.mem_map.mp ha
    exact List.any_eq_true.mpr ⟨p, hp, decide_eq_true e2⟩
theorem last_at {l : List V} {x : V} : atI (l ++ [x]) (-1) = some x := by
  unfold atI ixN
  have h1 : ((-1 : Int) + ((l.length : Int) + 1)).toNat = l.length := by omega
  have h2 : (1 : Int) ≤ (l.length : Int) + 1 := by omega
  simp [h1, h2]
theorem find_at {α : Type} {p : α → Bool} : ∀ {l : List α} {j : Nat} {x : α}, (∀ i < j, ∀ z, l[i]? = some z → p z = false) → l[j]? = some x → p x = true → l.find? p = some x
  | [], _, _, _, h, _ => by simp at h
  | a :: l, 0, x, _, h, hp => by
    have h : a = x := by simpa using h
    subst h
    exact List.find?_cons_of_pos hp
  | a :: l, j + 1, x, hn, h, hp => by
    rw [List.find?_cons_of_neg (by rw [hn 0 (by omega) a rfl]; decide)]
    exact find_at (j := j) (fun i hi z hz => hn (i + 1) (by omega) z (by simpa using hz)) (by simpa using h) hp
theorem valV_at {kvs : List (Key × V)} (nd : (kvs.map (·.1)).Nodup) {i : Nat} {y : Key} {v : V} (e : kvs[i]? = some (y, v)) : valV kvs y = some v := by
  unfold valV
  have hi := (List.getElem?_eq_some_iff.mp e).1
  have ei := (List.getElem?_eq_some_iff.mp e).2
  have : kvs.find? (fun p => decide (p.1 = y)) = some (y, v) := by
    refine find_at (j := i) (fun j hj z hz => ?_) e (decide_eq_true rfl)
    refine decide_eq_false fun hzy => ?_
    have ej := (List.getElem?_eq_some_iff.mp hz).2
    have h1 : (kvs.map (·.1))[j]'(by rw [List.length_map]; omega) = (kvs.map (·.1))[i]'(by rw [List.length_map]; omega) := by
      rw [List.getElem_map, List.getElem_map, ej, ei, hzy]
    have := (List.getElem_inj nd).mp h1
    omega
  rw [this]
  rfl

theorem bx_z (m : Option (Int × Int)) : bx m z3 = z3 := by
  match m with
  | none => rfl
  | some (u, d) => rfl



/-! ### counts in a dict -/
def cT (x : C3) : List V := [.int x.1, .int x.2.1, .int x.2.2]
def DcK (H : Hp) (kvs : List (Key × V)) (k : Key) (x : C3) : Prop := (∃ t, valV kvs k = some (.ref t) ∧ H t = some (.tup (cT x)) ∧ 1 ≤ x.2.1) ∨ (valV kvs k = none ∧ x = z3)
theorem DcK.ts {H H' : Hp} (e : TS H H') {kvs : List (Key × V)} {k : Key} {x : C3} : DcK H kvs k x → DcK H' kvs k x := fun h => h.imp (fun ⟨t, h1, h2, h3⟩ => ⟨t, h1, e _ _ h2, h3⟩) id
theorem DcK.pos {H : Hp} {kvs : List (Key × V)} {k : Key} {x : C3} (h : DcK H kvs k x) : 0 ≤ x.2.1 := by
  rcases h with ⟨t, _, _, h⟩ | ⟨_, rfl⟩
  · omega
  · exact Int.le_refl 0
theorem DcK.put {H H' : Hp} {kvs : List (Key × V)} {G : Key → C3} {y : Key} {t : Addr} {x : C3} (h : ∀ k, DcK H kvs k (G k)) (e : TS H H') (ht : H' t = some (.tup (cT x))) (hx : 1 ≤ x.2.1) (k : Key) : DcK H' (putK kvs y (.ref t)) k (if k = y then x else G k) := by
  by_cases hk : k = y
  · rw [if_pos hk]
    exact .inl ⟨t, by rw [valV_put, if_pos hk], ht, hx⟩
  · rw [if_neg hk]
    unfold DcK
    rw [valV_put, if_neg hk]
    exact (h k).ts e
structure DcF (H : Hp) (d : Addr) (F : Key → C3) (n : Nat) : Prop where
  ex : ∃ kvs, H d = some (.dK kvs) ∧ (kvs.map (·.1)).Nodup ∧ kvs.length ≤ n ∧ ∀ k, DcK H kvs k (F k)
theorem DcF.ds {H H' : Hp} (e : DS H H') {d : Addr} {F : Key → C3} {n : Nat} (h : DcF H d F n) : DcF H' d F n := let ⟨kvs, h1, h2, h3, h4⟩ := h.ex; ⟨kvs, e.2 _ _ h1, h2, h3, fun k => (h4 k).ts e.1⟩
theorem valV_mem {kvs : List (Key × V)} {k : Key} {v : V} (h : valV kvs k = some v) : k ∈ kvs.map (·.1) := by
  unfold valV at h
  obtain ⟨p, hp, _⟩ := Option.map_eq_some_iff.mp h
  have := List.find?_some hp
  exact List.mem_map.mpr ⟨p, List.mem_of_find?_eq_some hp, of_decide_eq_true this⟩
theorem valV_none {kvs : List (Key × V)} {k : Key} (h : valV kvs k = none) : k ∉ kvs.map (·.1) := fun hm => by
  obtain ⟨p, hp, rfl⟩ := List.mem_map.mp hm
  unfold valV at h
  rw [Option.map_eq_none_iff, List.find?_eq_none] at h
  exact h p hp (decide_eq_true rfl)
def gV : Option Int → V
  | none => .non
  | some i => .int i
def gone (g : Option Int) (k : Key) : Bool := decide (kV k = gV g)
def bxG (g : Option Int) (m : Option (Int × Int)) (F : Key → C3) (k : Key) : C3 := if gone g k = true then z3 else bx m (F k)
theorem scal_g (k : Key) (g : Option Int) : scal (kV k) (gV g) = true := by cases k <;> cases g <;> rfl
theorem o_neG {X : Cx} {H : Hp} {Q : VK} {k : Key} {g : Option Int} (q : Q (.bl (!gone g k)) H) : wK X .NotEq (kV k) (gV g) H Q := k_of op_ne ⟨scal_g k g, q⟩
theorem o_onceM {X : Cx} {H : Hp} {Q : VK} {n : Nat} {m : Option (Int × Int)} {v : V} (hr : Room n X.A) (h : ModeV H v m) (q : Q (.bl (decide (m = none))) H) : wK X .Eq v (.str "once") H Q := by
  cases m with
  | none => rw [show v = .str "once" from h]; exact o_eqS (by rw [decide_eq_true rfl]; exact q)
  | some p =>
    obtain ⟨a, b⟩ := p
    obtain ⟨t, rfl, ht⟩ := h
    exact o_eqPS hr ht (by decide +kernel) q
theorem take_key {kvs : List (Key × V)} {j : Nat} {y : Key} {v : V} (h : kvs[j]? = some (y, v)) : (kvs.map (·.1)).take (j + 1) = (kvs.map (·.1)).take j ++ [y] := take_snoc' (by rw [List.getElem?_map, h]; rfl)
theorem key_new {kvs : List (Key × V)} (hn : (kvs.map (·.1)).Nodup) {j : Nat} {y : Key} {v : V} (h : kvs[j]? = some (y, v)) : y ∉ (kvs.map (·.1)).take j := fun hm => by
  have h1 := take_key h
  have h2 : ((kvs.map (·.1)).take (j + 1)).Nodup := hn.sublist (List.take_sublist _ _)
  rw [h1] at h2
  exact (List.nodup_append.mp h2).2.2 y hm y (List.mem_singleton.mpr rfl) rfl
section
variable {P : Program} {w : World} {K : PySem.W.Frag} {mg : Str → Option Value} {base : Heap}
def spBox : Sp := fun vs H Q _ => ∃ fd mv g m F n, vs = [.ref fd, mv, gV g] ∧ DcF H fd F n ∧ n ≤ 100000 ∧ ModeV H mv m ∧ KOk m ∧ ∀ d H', Same H H' → H d = none → DcF H' d (bxG g m F) n → Q (.ref d) H'
theorem ok_box (T : Top K mg "_law_box" s_box) : Fn P w K mg base 1 "_law_box" spBox := by
  refine fn_ok T sc_box so_box (fun vs H Q E h => by obtain ⟨fd, mv, g, m, F, n, rfl, _⟩ := h; rfl) (fun _ _ _ _ _ _ us hl => match us, hl with | [_, _, _], _ => rfl) fun f cdv A outer s H vs Q E hr h nd => ?_
  obtain ⟨fd, mv, g, m, F, n, rfl, hF, hn, hmv, hm, q⟩ := h
  obtain ⟨kvs, hfd, hnd, hkl, hk⟩ := hF.ex
  refine l_cons (s_set (e_dict fun T H1 e1 n1 h1 => ?_))
  have hfd1 := e1 _ _ hfd
  have nTf : T ≠ fd := fun z => by subst z; rw [hfd] at n1; cases n1
  show wL _ _ _ [some (.ref fd), some mv, some (gV g), some (.ref T), none, none] _
  refine l_cons (s_forD hfd1 fun o => e_var ⟨rfl, upd_same, ?_⟩)
  refine ⟨fun j σ H' => ∃ kvT x4 x5, σ = [some (.ref fd), some mv, some (gV g), some (.ref T), x4, x5] ∧ H' fd = some (.frz o (.dK kvs)) ∧ H' T = some (.dK kvT) ∧ (kvT.map (·.1)).Nodup ∧ kvT.length ≤ j ∧ (∀ k, DcK H' kvT k (if k ∈ (kvs.map (·.1)).take j then bxG g m F k else z3)) ∧ ∀ c u, c ≠ fd → c ≠ T → H1 c = some u → H' c = some u, ⟨[], none, none, rfl, upd_same, by rw [upd_ne nTf]; exact h1, List.nodup_nil, Nat.le_refl _, fun k => .inr ⟨rfl, by simp⟩, fun c u nc _ hc => by rw [upd_ne nc]; exact hc⟩, ?_, ?_, ?_⟩
  · rintro j σ H' _ ⟨_, _, _, _, h, _⟩; exact h
  · rintro j y v σ H' hy ⟨kvT, x4, x5, rfl, hf, hT, hTn, hTl, hTk, keep⟩
    have hyv := valV_at hnd hy
    have ny := key_new hnd hy
    have hjl := (List.getElem?_eq_some_iff.mp hy).1
    have ts1 : TS H1 H' := fun c u hc => keep _ _ (fun z => by subst z; rw [hfd1] at hc; cases hc) (fun z => by subst z; rw [h1] at hc; cases hc) hc
    obtain ⟨t, rfl, ht, hp⟩ : ∃ t, v = .ref t ∧ H t = some (.tup (cT (F y))) ∧ 1 ≤ (F y).2.1 := by
      rcases hk y with ⟨t, h1, h2, h3⟩ | ⟨h1, _⟩
      · rw [h1] at hyv; cases hyv; exact ⟨t, rfl, h2, h3⟩
      · rw [h1] at hyv; cases hyv
    have ht' := ts1 _ _ (e1 _ _ ht)
    have htk := take_key hy
    have memIff : ∀ k, (k ∈ (kvs.map (·.1)).take (j + 1)) ↔ (k ∈ (kvs.map (·.1)).take j ∨ k = y) := fun k => by rw [htk, List.mem_append, List.mem_singleton]
    have fin : ∀ (H2 : Hp) (kvT2 : List (Key × V)) (x5 : Option V), H2 fd = some (.frz o (.dK kvs)) → H2 T = some (.dK kvT2) → (kvT2.map (·.1)).Nodup → kvT2.length ≤ kvT.length + 1 → (∀ k, DcK H2 kvT2 k (if k = y then bxG g m F y else if k ∈ (kvs.map (·.1)).take j then bxG g m F k else z3)) → (∀ c u, c ≠ fd → c ≠ T → H' c = some u → H2 c = some u) → ∃ kvT x4 x5', [some (V.ref fd), some mv, some (gV g), some (.ref T), some (kV y), x5] = [some (.ref fd), some mv, some (gV g), some (.ref T), x4, x5'] ∧ H2 fd = some (.frz o (.dK kvs)) ∧ H2 T = some (.dK kvT) ∧ (kvT.map (·.1)).Nodup ∧ kvT.length ≤ j + 1 ∧ (∀ k, DcK H2 kvT k (if k ∈ (kvs.map (·.1)).take (j + 1) then bxG g m F k else z3)) ∧ ∀ c u, c ≠ fd → c ≠ T → H1 c = some u → H2 c = some u := by
      as_aux_lemma =>
        intro H2 kvT2 x5 g1 g2 g3 g4 g5 g6
        refine ⟨kvT2, _, _, rfl, g1, g2, g3, by omega, fun k => ?_, fun c u nc nc2 hc => g6 c u nc nc2 (keep c u nc nc2 hc)⟩
        have := g5 k
        by_cases hky : k = y
        · rw [if_pos hky] at this
          rw [if_pos ((memIff k).mpr (.inr hky)), hky]
          rw [hky] at this
          exact this
        · rw [if_neg hky] at this
          by_cases hm2 : k ∈ (kvs.map (·.1)).take j
          · rw [if_pos hm2] at this
            rw [if_pos ((memIff k).mpr (.inl hm2))]
            exact this
          · rw [if_neg hm2] at this
            rw [if_neg (fun z => ((memIff k).mp z).elim hm2 hky)]
            exact this
    refine l_cons (s_set (e_dg (by exact hr) (e_var (e_var ⟨fd, .ref t, rfl, ?_, ?_⟩))))
    · rw [← hyv]; exact dg_F hf
    show wL _ _ _ [some (.ref fd), some mv, some (gV g), some (.ref T), some (kV y), some (.ref t)] _
    have lkT : kvT.length < 2 ^ 24 := by omega
    cases hg : gone g y with
    | true =>
      have hz : bxG g m F y = z3 := by unfold bxG; rw [hg]; rfl
      have same : ∀ k, DcK H' kvT k (if k = y then bxG g m F y else if k ∈ (kvs.map (·.1)).take j then bxG g m F k else z3) := fun k => by
        have := hTk k
        by_cases hky : k = y
        · rw [if_pos hky, hz]
          rw [hky, if_neg ny] at this
          rw [hky]
          exact this
        · rw [if_neg hky]; exact this
      refine l_cons (s_if (t_w (w_and (t_cmp (e_var (e_var (o_neG ⟨_, rfl, ?_⟩)))))))
      rw [hg]
      refine iteF (iteF ?_)
      refine l_cons (s_if (t_cmp (e_var (e_var (o_neG ⟨_, rfl, ?_⟩)))))
      rw [hg]
      exact iteF (l_nil (l_nil (l_nil (fin H' kvT _ hf hT hTn (by omega) same fun c u _ _ hc => hc))))
    | false =>
      have hbx : bxG g m F y = bx m (F y) := by unfold bxG; rw [hg]; rfl
      refine l_cons (s_if (t_w (w_and (t_cmp (e_var (e_var (o_neG ⟨_, rfl, ?_⟩)))))))
      rw [hg]
      refine iteT (w_and1 (t_cmp (e_var (e_str (o_onceM (by exact hr) (hmv.ts ((Same.ts e1).trans ts1)) ⟨_, rfl, ?_⟩)))))
      cases m with
      | none =>
        refine iteT (l_cons (s_dput (hu_of hr) (e_var (e_var (e_var ⟨T, _, rfl, DPut.k hT lkT, ?_⟩)))))
        have t2 : TS H' (upd H' T (.dK (putK kvT y (.ref t)))) := fun c u hc => by rw [upd_ne (fun z => by subst z; rw [hT] at hc; cases hc)]; exact hc
        refine l_nil (l_nil (fin _ _ _ (by rw [upd_ne nTf.symm]; exact hf) upd_same (nd_put _ _ hTn) (length_putK ..) ?_ fun c u _ nc hc => by rw [upd_ne nc]; exact hc))
        rw [hbx]
        exact DcK.put hTk t2 (t2 _ _ ht') hp
      | some ud =>
        obtain ⟨u, d⟩ := ud
        obtain ⟨hm1, hm2, hm3⟩ := hm
        obtain ⟨mt, rfl, hmt⟩ := (hmv.ts ((Same.ts e1).trans ts1) : ModeV H' mv (some (u, d)))
        refine iteF (l_cons (s_if (t_cmp (e_var (e_var (o_neG ⟨_, rfl, ?_⟩))))))
        rw [hg]
        refine iteT (l_cons (s_dput (hu_of hr) (e_tup (a_cons (e_int (a_cons (e_bin (e_ix (e_var (e_int (ix_t (by exact SqT.of hmt) at0 (e_ix (e_var (e_int (ix_t (by exact SqT.of ht') at1 (o_mul (.inl ⟨by omega, by omega⟩) ?_))))))))))))))))
        refine a_cons (e_bin (e_ix (e_var (e_int (ix_t (by exact SqT.of hmt) at1 (e_ix (e_var (e_int (ix_t (by exact SqT.of ht') (atI_nat (j := 2) rfl) (o_add (a_nil ?_)))))))))))
        refine ⟨by show 3 ≤ sizeLine; decide, fun t2 H2 e2 n2 h2 => e_var (e_var ⟨T, _, rfl, DPut.k (e2 _ _ hT) lkT, ?_⟩)⟩
        have t3 : TS H2 (upd H2 T (.dK (putK kvT y (.ref t2)))) := fun c u hc => by rw [upd_ne (fun z => by subst z; rw [e2 _ _ hT] at hc; cases hc)]; exact hc
        have hmul : 0 < u * (F y).2.1 := Int.mul_pos (by omega) (by omega)
        refine l_nil (l_nil (l_nil (fin _ _ _ (by rw [upd_ne nTf.symm]; exact e2 _ _ hf) upd_same (nd_put _ _ hTn) (length_putK ..) ?_ fun c u _ nc hc => by rw [upd_ne nc]; exact e2 _ _ hc)))
        rw [hbx]
        refine DcK.put hTk ((Same.ts e2).trans t3) (t3 _ _ ?_) ?_
        · rw [h2]
          simp only [cT, bx]
          rw [if_neg (by omega)]
        · simp only [bx]
          rw [if_neg (by omega)]
          show 1 ≤ u * _
          omega
  · rintro σ H' ⟨kvT, x4, x5, rfl, hf, hT, hTn, hTl, hTk, keep⟩
    have e3 : Same H (upd H' fd (.dK kvs)) := fun c u hc => by
      by_cases hcf : c = fd
      · subst hcf; rw [upd_same]; rw [hfd] at hc; exact hc
      · rw [upd_ne hcf]
        exact keep _ _ hcf (fun z => by subst z; rw [n1] at hc; cases hc) (e1 _ _ hc)
    refine l_cons (s_ret (e_var (q T _ e3 n1 ⟨kvT, by rw [upd_ne nTf]; exact hT, hTn, by omega, fun k => ?_⟩)))
    have := hTk k
    rw [List.take_of_length_le (by rw [List.length_map]; exact Nat.le_refl _)] at this
    have t4 : TS H' (upd H' fd (.dK kvs)) := fun c u hc => by rw [upd_ne (fun z => by subst z; rw [hf] at hc; cases hc)]; exact hc
    by_cases hkm : k ∈ kvs.map (·.1)
    · rw [if_pos hkm] at this
      exact this.ts t4
    · rw [if_neg hkm] at this
      have hz : bxG g m F k = z3 := by
        as_aux_lemma =>
          unfold bxG
          split
          · rfl
          · rcases hk k with ⟨t, h1, _⟩ | ⟨_, h2⟩
            · exact absurd (valV_mem h1) hkm
            · rw [h2, bx_z]
      rw [hz]
      exact this.ts t4
end



theorem imax (i j : Int) : (if j > i then j else i) = max i j := by
  rw [Int.max_def]
  split <;> split <;> omega
theorem imin (i j : Int) : (if j < i then j else i) = min i j := by
  rw [Int.min_def]
  split <;> split <;> omega
theorem putK_in {kvs : List (Key × V)} {y : Key} {v : V} (h : y ∈ kvs.map (·.1)) : (putK kvs y v).length = kvs.length := by
  obtain ⟨p, hp, e⟩ := List.mem_map.mp h
  unfold putK
  rw [if_pos (List.any_eq_true.mpr ⟨p, hp, decide_eq_true e⟩), List.length_map]
section
variable {P : Program} {w : World} {K : PySem.W.Frag} {mg : Str → Option Value} {base : Heap}
def mgF (b : Bool) (x y : C3) : C3 := if b = true then ei x y else ad x y
def spMerge : Sp := fun vs H Q _ => ∃ d1 d2 b F1 F2 n1 n2, vs = [.ref d1, .ref d2, .bl b] ∧ DcF H d1 F1 n1 ∧ DcF H d2 F2 n2 ∧ n1 + n2 ≤ 100000 ∧ ∀ d H', Same H H' → H d = none → DcF H' d (fun k => mgF b (F1 k) (F2 k)) (n1 + n2) → Q (.ref d) H'
/-- a dict's tuple at a key, or the zeros -/
theorem get_c3 {H : Hp} {d z0 : Addr} {kvs : List (Key × V)} {k : Key} {x : C3} (hd : H d = some (.dK kvs)) (hz : H z0 = some (.tup [.int 0, .int 0, .int 0])) (h : DcK H kvs k x) : DGet H d (kV k) (valV kvs k) ∧ ∃ t, (valV kvs k).getD (.ref z0) = .ref t ∧ H t = some (.tup (cT x)) := by
  refine ⟨dg_K hd, ?_⟩
  rcases h with ⟨t, h1, h2, _⟩ | ⟨h1, rfl⟩
  · exact ⟨t, by rw [h1]; rfl, h2⟩
  · exact ⟨z0, by rw [h1]; rfl, hz⟩
theorem ok_merge (T : Top K mg "_law_merge" s_merge) (mL : mg "list" = none) (mMx : mg "max" = none) (mMn : mg "min" = none) : Fn P w K mg base 1 "_law_merge" spMerge := by
  refine fn_ok T sc_merge so_merge (fun vs H Q E h => by obtain ⟨d1, d2, b, F1, F2, n1, n2, rfl, _⟩ := h; rfl) (fun _ _ _ _ _ _ us hl => match us, hl with | [_, _, _], _ => rfl) fun f cdv A outer s H vs Q E hr h nd => ?_
  obtain ⟨d1, d2, b, F1, F2, n1, n2, rfl, h1, h2, hn, q⟩ := h
  obtain ⟨k1, hd1, hn1, hl1, hk1⟩ := h1.ex
  obtain ⟨k2, hd2, hn2, hl2, hk2⟩ := h2.ex
  refine l_cons (s_set (e_dict fun T H1 e1 nT h1 => ?_))
  show wL _ _ _ [some (.ref d1), some (.ref d2), some (.bl b), some (.ref T), none, none, none] _
  refine l_cons (s_forL (e_bin (e_callTy (x := "list") (by assumption) b_list (a_cons (e_var (a_nil (c_listDn rfl (e1 _ _ hd1) fun l2 H2 e2 nl2 hl2' => ?_)))))))
  refine e_callTy (x := "list") (by assumption) b_list (a_cons (e_var (a_nil (c_listDn rfl (e2 _ _ (e1 _ _ hd2)) fun l3 H3 e3 nl3 hl3' => ?_))))
  refine o_cat2 (e3 _ _ hl2') hl3' (by rw [List.length_map, List.length_map]; omega) fun l4 H4 e4 nl4 hl4 => ?_
  have e14 := (e2.trans e3).trans e4
  have e04 := e1.trans e14
  have hT4 := e14 _ _ h1
  rw [← List.map_append] at hl4
  have hm4 : H4 l4 = some (.lst (((k1 ++ k2).map (·.1)).map kV)) := by rw [hl4, List.map_map]; rfl
  have nTd1 : T ≠ d1 := fun z => by subst z; rw [hd1] at nT; cases nT
  have nTd2 : T ≠ d2 := fun z => by subst z; rw [hd2] at nT; cases nT
  have nTl : T ≠ l4 := fun z => by have h := e3 _ _ (e2 _ _ h1); rw [z, nl4] at h; cases h
  have hpos : ∀ k, k ∈ (k1 ++ k2).map (·.1) → 1 ≤ (mgF b (F1 k) (F2 k)).2.1 := fun k hk => by
    have p1 := (hk1 k).pos
    have p2 := (hk2 k).pos
    have : 1 ≤ (F1 k).2.1 ∨ 1 ≤ (F2 k).2.1 := by
      rw [List.map_append, List.mem_append] at hk
      rcases hk with hk | hk
      · rcases hk1 k with ⟨t, _, _, h⟩ | ⟨h, _⟩
        · exact .inl h
        · exact absurd hk (valV_none h)
      · rcases hk2 k with ⟨t, _, _, h⟩ | ⟨h, _⟩
        · exact .inr h
        · exact absurd hk (valV_none h)
    unfold mgF
    cases b <;> simp only [ad, ei, if_true] <;> simp <;> omega
  refine ⟨l4, _, rfl, SqL.of hm4, fun j σ H' => ∃ kvT x4 x5 x6, σ = [some (.ref d1), some (.ref d2), some (.bl b), some (.ref T), x4, x5, x6] ∧ H' T = some (.dK kvT) ∧ (kvT.map (·.1)).Nodup ∧ kvT.length ≤ j ∧ (∀ k, DcK H' kvT k (if k ∈ ((k1 ++ k2).map (·.1)).take j then mgF b (F1 k) (F2 k) else z3)) ∧ ∀ c u, c ≠ T → H4 c = some u → H' c = some u, ⟨[], none, none, none, rfl, hT4, List.nodup_nil, Nat.le_refl _, fun k => .inr ⟨rfl, by simp⟩, fun c u _ hc => hc⟩, ?_, ?_, ?_⟩
  · rintro j σ H' _ ⟨_, _, _, _, _, _, _, _, _, keep⟩
    exact SqL.of (keep _ _ nTl.symm hm4)
  · rintro j yv σ H' hy ⟨kvT, x4, x5, x6, rfl, hT, hTn, hTl, hTk, keep⟩
    rw [List.getElem?_map] at hy
    obtain ⟨y, hy', rfl⟩ := Option.map_eq_some_iff.mp hy
    have hym := List.mem_of_getElem? hy'
    have hjl := (List.getElem?_eq_some_iff.mp hy').1
    rw [List.length_map, List.length_append] at hjl
    have lkT : kvT.length < 2 ^ 24 := by omega
    have ts4 : TS H4 H' := fun c u hc => keep _ _ (fun z => by subst z; rw [hT4] at hc; cases hc) hc
    have ts0 : TS H H' := (Same.ts e04).trans ts4
    have hd1' := keep _ _ nTd1.symm (e04 _ _ hd1)
    have hd2' := keep _ _ nTd2.symm (e04 _ _ hd2)
    show wL _ _ _ [some (.ref d1), some (.ref d2), some (.bl b), some (.ref T), some (kV y), x5, x6] _
    refine l_cons (s_set (e_dget2 (by exact hr) (e_var ⟨d1, rfl, .inl ⟨_, .inl hd1'⟩, e_var (e_tup (a_cons (e_int (a_cons (e_int (a_cons (e_int (a_nil ?_))))))))⟩)))
    refine ⟨by show 3 ≤ sizeLine; decide, fun z5 H5 e5 n5 h5 => ?_⟩
    obtain ⟨g1, t1, g2, g3⟩ := get_c3 (e5 _ _ hd1') h5 (((hk1 y).ts ts0).ts (Same.ts e5))
    refine ⟨_, g1, ?_⟩
    rw [g2]
    show wL _ _ _ [some (.ref d1), some (.ref d2), some (.bl b), some (.ref T), some (kV y), some (.ref t1), x6] _
    refine l_cons (s_set (e_dget2 (by exact hr) (e_var ⟨d2, rfl, .inl ⟨_, .inl (e5 _ _ hd2')⟩, e_var (e_tup (a_cons (e_int (a_cons (e_int (a_cons (e_int (a_nil ?_))))))))⟩)))
    refine ⟨by show 3 ≤ sizeLine; decide, fun z6 H6 e6 n6 h6 => ?_⟩
    have e56 := e5.trans e6
    obtain ⟨g4, t2, g5, g6⟩ := get_c3 (e56 _ _ hd2') h6 (((hk2 y).ts ts0).ts (Same.ts e56))
    refine ⟨_, g4, ?_⟩
    rw [g5]
    have g3 := e6 _ _ g3
    show wL _ _ _ [some (.ref d1), some (.ref d2), some (.bl b), some (.ref T), some (kV y), some (.ref t1), some (.ref t2)] _
    refine l_cons (s_dput (hu_of hr) (e_tup (a_cons (e_bin (e_ix (e_var (e_int (ix_t (by exact SqT.of g3) at0 (e_ix (e_var (e_int (ix_t (by exact SqT.of g6) at0 (o_add ?_)))))))))))))
    refine a_cons (e_bin (e_ix (e_var (e_int (ix_t (by exact SqT.of g3) at1 (e_ix (e_var (e_int (ix_t (by exact SqT.of g6) at1 (o_add ?_))))))))))
    refine a_cons (e_callB (x := "max") (by assumption) b_max (a_cons (e_ix (e_var (e_int (ix_t (by exact SqT.of g3) (atI_nat (j := 2) rfl) ?_))))))
    refine a_cons (e_ix (e_var (e_int (ix_t (by exact SqT.of g6) (atI_nat (j := 2) rfl) (a_nil (c_max rfl (a_nil ?_)))))))
    refine ⟨by show 3 ≤ sizeLine; decide, fun t7 H7 e7 n7 h7 => e_var (e_var ⟨T, _, rfl, DPut.k (e7 _ _ (e56 _ _ hT)) lkT, ?_⟩)⟩
    rw [imax] at h7
    have hT7 := e7 _ _ (e56 _ _ hT)
    have keepT : ∀ (H8 : Hp) (o : HO), (∀ c u, c ≠ T → H7 c = some u → H8 c = some u) → ∀ c u, c ≠ T → H4 c = some u → H8 c = some u := fun H8 _ hh c u nc hc => hh c u nc (e7 _ _ (e56 _ _ (keep c u nc hc)))
    have fin : ∀ (H8 : Hp) (kvT2 : List (Key × V)), H8 T = some (.dK kvT2) → (kvT2.map (·.1)).Nodup → kvT2.length ≤ kvT.length + 1 → (∀ k, DcK H8 kvT2 k (if k = y then mgF b (F1 y) (F2 y) else if k ∈ ((k1 ++ k2).map (·.1)).take j then mgF b (F1 k) (F2 k) else z3)) → (∀ c u, c ≠ T → H7 c = some u → H8 c = some u) → ∃ kvT' x4 x5 x6, [some (V.ref d1), some (.ref d2), some (.bl b), some (.ref T), some (kV y), some (.ref t1), some (.ref t2)] = [some (.ref d1), some (.ref d2), some (.bl b), some (.ref T), x4, x5, x6] ∧ H8 T = some (.dK kvT') ∧ (kvT'.map (·.1)).Nodup ∧ kvT'.length ≤ j + 1 ∧ (∀ k, DcK H8 kvT' k (if k ∈ ((k1 ++ k2).map (·.1)).take (j + 1) then mgF b (F1 k) (F2 k) else z3)) ∧ ∀ c u, c ≠ T → H4 c = some u → H8 c = some u := by
      as_aux_lemma =>
        intro H8 kvT2 g1 g2 g3 g4 g5
        refine ⟨kvT2, _, _, _, rfl, g1, g2, by omega, fun k => ?_, keepT H8 (.dK []) g5⟩
        have := g4 k
        have memIff : k ∈ ((k1 ++ k2).map (·.1)).take (j + 1) ↔ (k ∈ ((k1 ++ k2).map (·.1)).take j ∨ k = y) := by rw [take_snoc' hy', List.mem_append, List.mem_singleton]
        by_cases hky : k = y
        · rw [if_pos hky] at this
          rw [if_pos (memIff.mpr (.inr hky)), hky]
          rw [hky] at this
          exact this
        · rw [if_neg hky] at this
          by_cases hm2 : k ∈ ((k1 ++ k2).map (·.1)).take j
          · rw [if_pos hm2] at this
            rw [if_pos (memIff.mpr (.inl hm2))]
            exact this
          · rw [if_neg hm2] at this
            rw [if_neg (fun z => (memIff.mp z).elim hm2 hky)]
            exact this
    have hTk7 : ∀ k, DcK H7 kvT k (if k ∈ ((k1 ++ k2).map (·.1)).take j then mgF b (F1 k) (F2 k) else z3) := fun k => (hTk k).ts (Same.ts (e56.trans e7))
    have t8 : TS H7 (upd H7 T (.dK (putK kvT y (.ref t7)))) := fun c u hc => by rw [upd_ne (fun z => by subst z; rw [hT7] at hc; cases hc)]; exact hc
    have h78 := t8 _ _ h7
    have g38 := t8 _ _ (e7 _ _ g3)
    have g68 := t8 _ _ (e7 _ _ g6)
    have hT8 : upd H7 T (.dK (putK kvT y (.ref t7))) T = some (.dK (putK kvT y (.ref t7))) := upd_same
    have k8 : ∀ c u, c ≠ T → H7 c = some u → upd H7 T (.dK (putK kvT y (.ref t7))) c = some u := fun c u nc hc => by rw [upd_ne nc]; exact hc
    have hpy := hpos y hym
    refine l_cons (s_if (t_val (e_var ⟨b, rfl, ?_⟩)))
    have lp := length_putK kvT y (.ref t7)
    cases b with
    | false =>
      refine iteF (l_nil (l_nil (fin _ _ hT8 (nd_put _ _ hTn) lp (DcK.put hTk7 t8 ?_ hpy) k8)))
      rw [h78]; rfl
    | true =>
      generalize upd H7 T (.dK (putK kvT y (.ref t7))) = H8 at t8 h78 g38 g68 hT8 k8 ⊢
      refine iteT (l_cons (s_dput (hu_of hr) (e_tup (a_cons (e_callB (x := "min") (by assumption) b_min (a_cons (e_ix (e_var (e_int (ix_t (by exact SqT.of g38) at0 ?_))))))))))
      refine a_cons (e_ix (e_var (e_int (ix_t (by exact SqT.of g68) at0 (a_nil (c_min rfl ?_))))))
      refine a_cons (e_callB (x := "max") (by assumption) b_max (a_cons (e_ix (e_var (e_int (ix_t (by exact SqT.of g38) at1 ?_))))))
      refine a_cons (e_ix (e_var (e_int (ix_t (by exact SqT.of g68) at1 (a_nil (c_max rfl ?_))))))
      refine a_cons (e_callB (x := "max") (by assumption) b_max (a_cons (e_ix (e_var (e_int (ix_t (by exact SqT.of g38) (atI_nat (j := 2) rfl) ?_))))))
      refine a_cons (e_ix (e_var (e_int (ix_t (by exact SqT.of g68) (atI_nat (j := 2) rfl) (a_nil (c_max rfl (a_nil ?_)))))))
      refine ⟨by show 3 ≤ sizeLine; decide, fun t9 H9 e9 n9 h9 => e_var (e_var ⟨T, _, rfl, DPut.k (e9 _ _ hT8) (by show _ < 2 ^ 24; omega), ?_⟩)⟩
      rw [imax, imax, imin] at h9
      have t10 : TS H9 (upd H9 T (.dK (putK (putK kvT y (.ref t7)) y (.ref t9)))) := fun c u hc => by rw [upd_ne (fun z => by subst z; rw [e9 _ _ hT8] at hc; cases hc)]; exact hc
      have hin : y ∈ (putK kvT y (.ref t7)).map (·.1) := valV_mem (v := .ref t7) (by rw [valV_put, if_pos rfl])
      refine l_nil (l_nil (fin _ _ upd_same (nd_put _ _ (nd_put _ _ hTn)) (by rw [putK_in hin]; exact lp) (fun k => ?_) fun c u nc hc => by rw [upd_ne nc]; exact e9 _ _ (k8 c u nc hc)))
      have d1 := DcK.put hTk7 t8 (y := y) (x := mgF false (F1 y) (F2 y)) (by rw [h78]; rfl) (by have p1 := (hk1 y).pos; have p2 := (hk2 y).pos; have hpy : 1 ≤ max (F1 y).2.1 (F2 y).2.1 := hpy; show 1 ≤ (F1 y).2.1 + (F2 y).2.1; omega)
      have d2 := DcK.put d1 ((Same.ts e9).trans t10) (y := y) (x := mgF true (F1 y) (F2 y)) (by rw [t10 _ _ h9]; rfl) hpy k
      by_cases hky : k = y
      · rw [if_pos hky] at d2 ⊢; exact d2
      · rw [if_neg hky, if_neg hky] at d2; rw [if_neg hky]; exact d2
  · rintro σ H' ⟨kvT, x4, x5, x6, rfl, hT, hTn, hTl, hTk, keep⟩
    rw [List.length_map] at hTk
    rw [List.length_map, List.length_map, List.length_append] at hTl
    refine l_cons (s_ret (e_var (q T H' (fun c u hc => keep c u (fun z => by subst z; rw [nT] at hc; cases hc) (e04 _ _ hc)) nT ⟨kvT, hT, hTn, by omega, fun k => ?_⟩)))
    have := hTk k
    rw [List.take_length] at this
    by_cases hkm : k ∈ (k1 ++ k2).map (·.1)
    · rw [if_pos hkm] at this; exact this
    · rw [if_neg hkm] at this
      have hz : mgF b (F1 k) (F2 k) = z3 := by
        as_aux_lemma =>
          rw [List.map_append, List.mem_append] at hkm
          have a1 : F1 k = z3 := by
            rcases hk1 k with ⟨t, h1, _⟩ | ⟨_, h2⟩
            · exact absurd (.inl (valV_mem h1)) hkm
            · exact h2
          have a2 : F2 k = z3 := by
            rcases hk2 k with ⟨t, h1, _⟩ | ⟨_, h2⟩
            · exact absurd (.inr (valV_mem h1)) hkm
            · exact h2
          rw [a1, a2]
          cases b <;> rfl
      show DcK H' kvT k (mgF b (F1 k) (F2 k))
      rw [hz]
      exact this
end



/-! ### the law's counts -/
def cL : D → Int → Key → C3
  | .own r, _, k => dl r k
  | .take a, l, k => bxG (some l) none (cL a (l + 1)) k
  | .ofr a b, l, k => ei (cL a l k) (cL b l k)
  | .pk r _ a, l, k => ad (bxG (some l) none (cL a (l + 1)) k) (dl r k)
  | .py r p b, l, k => ad (ad (bxG (some l) none (cL b (l + 1)) k) (bxG none none (cL p l) k)) (dl r k)
  | .ct _ p b, l, k => ad (bxG (some l) none (cL b (l + 1)) k) (bxG none none (cL p l) k)
theorem gone_no (k : Key) : gone none k = false := by cases k <;> rfl
theorem one_dl {H : Hp} {d t : Addr} {r : Key} (hd : H d = some (.dK [(r, .ref t)])) (ht : H t = some (.tup [.int 1, .int 1, .int 0])) : DcF H d (dl r) 1 := ⟨_, hd, by simp, Nat.le_refl _, fun k => by
  unfold dl
  by_cases h : r = k
  · rw [if_pos h]
    exact .inl ⟨t, valV_pos h, ht, by decide⟩
  · rw [if_neg h]
    exact .inr ⟨by rw [valV_neg h]; rfl, rfl⟩⟩
section
variable {P : Program} {w : World} {K : PySem.W.Frag} {mg : Str → Option Value} {base : Heap}
def spCnt (n : Nat) : Sp := fun vs H Q _ => ∃ v t, ∃ l : Int, vs = [v, .int l] ∧ DV H t v ∧ dp t ≤ n ∧ sz t ≤ 1000 ∧ ∀ d H', Same H H' → H d = none → DcF H' d (cL t l) (sz t) → Q (.ref d) H'
theorem ok_cntS (n : Nat) (T : Top K mg "_law_counts" s_counts) (FB : Fn P w K mg base 1 "_law_box" spBox) (FM : Fn P w K mg base 1 "_law_merge" spMerge) (F : ∀ m, n = m + 1 → Fn P w K mg base (m + 2) "_law_counts" (spCnt m)) : Fn P w K mg base (n + 2) "_law_counts" (spCnt n) := by
  refine fn_ok T sc_counts so_counts (fun vs H Q E h => by obtain ⟨v, t, l, rfl, _⟩ := h; rfl) (fun _ _ _ _ _ _ us hl => match us, hl with | [_, _], _ => rfl) fun f cdv A outer s H vs Q E hr h nd => ?_
  obtain ⟨v, t, l, rfl, hv, hn, hz, q⟩ := h
  -- one reference
  have last : ∀ (p fd : Addr) (nm : Str) (r : Key) (rest : List V) (H1 : Hp) (G : Key → C3) (m : Nat) (NX BK CT : L2.St → Hp → Prop), Same H H1 → H1 p = some (.tup (.str nm :: kV r :: rest)) → nm ≠ Str.ofString "take" → DcF H1 fd G m → m ≤ 1000 → (∀ d H', Same H1 H' → H1 d = none → DcF H' d (fun k => ad (G k) (dl r k)) (m + 1) → Q (.ref d) H') → wL (cxOf CX0 P w K mg base N_counts (Str.ofString "_law_counts") (defScope s_counts) f cdv A outer s H E).nox ((defBody s_counts).drop 8) { nx := NX, rt := Q, bk := BK, ct := CT } [some (.ref p), some (.int l), some (.str nm), some (.ref fd)] H1 := by
    as_aux_lemma =>
      intro p fd nm r rest H1 G m NX BK CT e1 hp hnm hG hm qq
      refine l_cons (s_if (t_cmp (e_var (e_str (o_eqS ⟨_, rfl, ?_⟩)))))
      rw [decide_eq_false hnm]
      refine iteF (l_nil (l_cons (s_ret (e_call (by exact FM) (by exact hr) (by omega) (a_cons (e_var (a_cons (e_dk1 fun d nd0 => ?_))))))))
      have ed : Same H1 (upd H1 d (.dK [])) := fun c o hc => by rw [upd_ne (ne_of_none hc nd0)]; exact hc
      refine e_ix (e_var (e_int (ix_t (by exact SqT.of (ed _ _ hp)) at1 ?_)))
      refine e_tup (a_cons (e_int (a_cons (e_int (a_cons (e_int (a_nil ⟨by show 3 ≤ sizeLine; decide, fun t2 H2 e2 n2 h2 => ?_⟩)))))))
      refine ⟨e2 _ _ upd_same, r, rfl, a_cons (e_bl (a_nil ?_))⟩
      have e3 : Same H1 (upd H2 d (.dK [(r, .ref t2)])) := fun c o hc => by rw [upd_ne (ne_of_none hc nd0)]; exact e2 _ _ (ed _ _ hc)
      have h3 : upd H2 d (.dK [(r, .ref t2)]) t2 = some (.tup [.int 1, .int 1, .int 0]) := by rw [upd_ne (fun z => by subst z; rw [upd_same] at n2; cases n2)]; exact h2
      refine ⟨fd, d, false, G, dl r, m, 1, rfl, hG.ds (DS.of e3), one_dl upd_same h3, by omega, fun d' H' e' n' hd' => qq d' H' (e3.trans e') (none_of e3 n') hd'⟩
  cases t with
  | own r =>
    obtain ⟨p, rfl, hp⟩ := hv
    refine l_cons (s_set (e_ix (e_var (e_int (ix_t (by exact SqT.of hp) at0 ?_)))))
    show wL _ _ _ [some (.ref p), some (.int l), some (.str "own"), none] _
    refine l_cons (s_if (t_cmp (e_var (e_str (o_eqS ⟨_, rfl, ?_⟩)))))
    rw [decide_eq_true rfl]
    refine iteT ?_
    refine l_cons (s_ret (e_dk1 fun d nd0 => ?_))
    have ed : Same H (upd H d (.dK [])) := fun c o hc => by rw [upd_ne (ne_of_none hc nd0)]; exact hc
    refine e_ix (e_var (e_int (ix_t (by exact SqT.of (ed _ _ hp)) at1 ?_)))
    refine e_tup (a_cons (e_int (a_cons (e_int (a_cons (e_int (a_nil ⟨by show 3 ≤ sizeLine; decide, fun t2 H2 e2 n2 h2 => ?_⟩)))))))
    refine ⟨e2 _ _ upd_same, r, rfl, ?_⟩
    have e3 : Same H (upd H2 d (.dK [(r, .ref t2)])) := fun c o hc => by rw [upd_ne (ne_of_none hc nd0)]; exact e2 _ _ (ed _ _ hc)
    have h3 : upd H2 d (.dK [(r, .ref t2)]) t2 = some (.tup [.int 1, .int 1, .int 0]) := by rw [upd_ne (fun z => by subst z; rw [upd_same] at n2; cases n2)]; exact h2
    exact q d _ e3 nd0 (one_dl upd_same h3)
  | ofr a b =>
    obtain ⟨p, x, y, rfl, hp, hx, hy⟩ := hv
    have hn' : max (dp a) (dp b) + 1 ≤ n := hn
    have hz' : sz a + sz b + 1 ≤ 1000 := hz
    obtain ⟨m, rfl⟩ : ∃ m, n = m + 1 := ⟨n - 1, by omega⟩
    refine l_cons (s_set (e_ix (e_var (e_int (ix_t (by exact SqT.of hp) at0 ?_)))))
    show wL _ _ _ [some (.ref p), some (.int l), some (.str "offer"), none] _
    refine l_cons (s_if (t_cmp (e_var (e_str (o_eqS ⟨_, rfl, ?_⟩)))))
    rw [decide_eq_false (by decide +kernel)]
    refine iteF (l_nil ?_)
    refine l_cons (s_if (t_cmp (e_var (e_str (o_eqS ⟨_, rfl, ?_⟩)))))
    rw [decide_eq_false (by decide +kernel)]
    refine iteF (l_nil ?_)
    refine l_cons (s_if (t_cmp (e_var (e_str (o_eqS ⟨_, rfl, ?_⟩)))))
    rw [decide_eq_false (by decide +kernel)]
    refine iteF (l_nil ?_)
    refine l_cons (s_if (t_cmp (e_var (e_str (o_eqS ⟨_, rfl, ?_⟩)))))
    rw [decide_eq_true rfl]
    refine iteT ?_
    refine l_cons (s_ret (e_call (by exact FM) (by exact hr) (by omega) ?_))
    refine a_cons (e_call (by exact F m rfl) (by exact hr) (by omega) (a_cons (e_ix (e_var (e_int (ix_t (by exact SqT.of hp) at1 (a_cons (e_var (a_nil ?_)))))))))
    refine ⟨x, a, l, rfl, hx, by omega, by omega, fun d1 H1 e1 nd1 hd1 => ?_⟩
    refine a_cons (e_call (by exact F m rfl) (by exact hr) (by omega) (a_cons (e_ix (e_var (e_int (ix_t (by exact SqT.of (e1 _ _ hp)) (atI_nat (j := 2) rfl) (a_cons (e_var (a_nil ?_)))))))))
    refine ⟨y, b, l, rfl, hy.ts (Same.ts e1), by omega, by omega, fun d2 H2 e2 nd2 hd2 => a_cons (e_bl (a_nil ?_))⟩
    exact ⟨d1, d2, true, _, _, _, _, rfl, hd1.ds (DS.of e2), hd2, by omega, fun d H' e nd0 hd => q d H' ((e1.trans e2).trans e) (none_of (e1.trans e2) nd0) (let ⟨kvs, h1, h2, h3, h4⟩ := hd.ex; ⟨kvs, h1, h2, Nat.le_succ_of_le h3, h4⟩)⟩
  | take a =>
    obtain ⟨p, x, rfl, hp, hx⟩ := hv
    have hp : H p = some (.tup ([.str "take"] ++ [x])) := hp
    have hn' : dp a + 1 ≤ n := hn
    have hz' : sz a + 1 ≤ 1000 := hz
    obtain ⟨m, rfl⟩ : ∃ m, n = m + 1 := ⟨n - 1, by omega⟩
    refine l_cons (s_set (e_ix (e_var (e_int (ix_t (by exact SqT.of hp) at0 ?_)))))
    show wL _ _ _ [some (.ref p), some (.int l), some (.str "take"), none] _
    refine l_cons (s_if (t_cmp (e_var (e_str (o_eqS ⟨_, rfl, ?_⟩)))))
    rw [decide_eq_false (by decide +kernel)]
    refine iteF (l_nil ?_)
    refine l_cons (s_if (t_cmp (e_var (e_str (o_eqS ⟨_, rfl, ?_⟩)))))
    rw [decide_eq_false (by decide +kernel)]
    refine iteF (l_nil ?_)
    refine l_cons (s_if (t_cmp (e_var (e_str (o_eqS ⟨_, rfl, ?_⟩)))))
    rw [decide_eq_false (by decide +kernel)]
    refine iteF (l_nil ?_)
    refine l_cons (s_if (t_cmp (e_var (e_str (o_eqS ⟨_, rfl, ?_⟩)))))
    rw [decide_eq_false (by decide +kernel)]
    refine iteF (l_nil ?_)
    refine l_cons (s_set (e_call (by exact FB) (by exact hr) (by omega) (a_cons (e_call (by exact F m rfl) (by exact hr) (by omega) ?_))))
    refine a_cons (e_ix (e_var (e_neg (e_int ⟨1, rfl, ix_t (by exact SqT.of hp) last_at (a_cons (e_bin (e_var (e_int (o_add (a_nil ?_))))))⟩))))
    refine ⟨x, a, l + 1, rfl, hx, by omega, by omega, fun d1 H1 e1 nd1 hd1 => a_cons (e_str (a_cons (e_var (a_nil ?_))))⟩
    refine ⟨d1, .str "once", some l, none, _, _, rfl, hd1, by omega, rfl, trivial, fun d2 H2 e2 nd2 hd2 => ?_⟩
    show wL _ _ _ [some (.ref p), some (.int l), some (.str "take"), some (.ref d2)] _
    refine l_cons (s_if (t_cmp (e_var (e_str (o_eqS ⟨_, rfl, ?_⟩)))))
    rw [decide_eq_false (by decide +kernel)]
    refine iteF (l_nil ?_)
    refine l_cons (s_if (t_cmp (e_var (e_str (o_eqS ⟨_, rfl, ?_⟩)))))
    rw [decide_eq_false (by decide +kernel)]
    refine iteF (l_nil ?_)
    refine l_cons (s_if (t_cmp (e_var (e_str (o_eqS ⟨_, rfl, ?_⟩)))))
    rw [decide_eq_true rfl]
    refine iteT ?_
    exact l_cons (s_ret (e_var (q d2 H2 (e1.trans e2) (none_of e1 nd2) (let ⟨kvs, h1, h2, h3, h4⟩ := hd2.ex; ⟨kvs, h1, h2, Nat.le_succ_of_le h3, h4⟩))))
  | pk r d a =>
    obtain ⟨p, x, rfl, hp, hx⟩ := hv
    have hp : H p = some (.tup ([.str "pick", kV r, .str (sideS d)] ++ [x])) := hp
    have hn' : dp a + 1 ≤ n := hn
    have hz' : sz a + 1 ≤ 1000 := hz
    obtain ⟨m, rfl⟩ : ∃ m, n = m + 1 := ⟨n - 1, by omega⟩
    refine l_cons (s_set (e_ix (e_var (e_int (ix_t (by exact SqT.of hp) at0 ?_)))))
    show wL _ _ _ [some (.ref p), some (.int l), some (.str "pick"), none] _
    refine l_cons (s_if (t_cmp (e_var (e_str (o_eqS ⟨_, rfl, ?_⟩)))))
    rw [decide_eq_false (by decide +kernel)]
    refine iteF (l_nil ?_)
    refine l_cons (s_if (t_cmp (e_var (e_str (o_eqS ⟨_, rfl, ?_⟩)))))
    rw [decide_eq_false (by decide +kernel)]
    refine iteF (l_nil ?_)
    refine l_cons (s_if (t_cmp (e_var (e_str (o_eqS ⟨_, rfl, ?_⟩)))))
    rw [decide_eq_false (by decide +kernel)]
    refine iteF (l_nil ?_)
    refine l_cons (s_if (t_cmp (e_var (e_str (o_eqS ⟨_, rfl, ?_⟩)))))
    rw [decide_eq_false (by decide +kernel)]
    refine iteF (l_nil ?_)
    refine l_cons (s_set (e_call (by exact FB) (by exact hr) (by omega) (a_cons (e_call (by exact F m rfl) (by exact hr) (by omega) ?_))))
    refine a_cons (e_ix (e_var (e_neg (e_int ⟨1, rfl, ix_t (by exact SqT.of hp) last_at (a_cons (e_bin (e_var (e_int (o_add (a_nil ?_))))))⟩))))
    refine ⟨x, a, l + 1, rfl, hx, by omega, by omega, fun d1 H1 e1 nd1 hd1 => a_cons (e_str (a_cons (e_var (a_nil ?_))))⟩
    refine ⟨d1, .str "once", some l, none, _, _, rfl, hd1, by omega, rfl, trivial, fun d2 H2 e2 nd2 hd2 => ?_⟩
    show wL _ _ _ [some (.ref p), some (.int l), some (.str "pick"), some (.ref d2)] _
    refine l_cons (s_if (t_cmp (e_var (e_str (o_eqS ⟨_, rfl, ?_⟩)))))
    rw [decide_eq_false (by decide +kernel)]
    refine iteF (l_nil ?_)
    refine l_cons (s_if (t_cmp (e_var (e_str (o_eqS ⟨_, rfl, ?_⟩)))))
    rw [decide_eq_false (by decide +kernel)]
    refine iteF (l_nil ?_)
    exact last p d2 "pick" r _ H2 _ _ _ _ _ (e1.trans e2) ((e1.trans e2) _ _ hp) (by decide +kernel) hd2 (by omega) fun d3 H3 e3 nd3 hd3 => q d3 H3 ((e1.trans e2).trans e3) (none_of (e1.trans e2) nd3) hd3
  | py r p0 b =>
    obtain ⟨p, y, x, rfl, hp, hy, hx⟩ := hv
    have hp : H p = some (.tup ([.str "pay", kV r, .str "once", y] ++ [x])) := hp
    have hn' : max (dp p0) (dp b) + 1 ≤ n := hn
    have hz' : sz p0 + sz b + 1 ≤ 1000 := hz
    obtain ⟨m, rfl⟩ : ∃ m, n = m + 1 := ⟨n - 1, by omega⟩
    refine l_cons (s_set (e_ix (e_var (e_int (ix_t (by exact SqT.of hp) at0 ?_)))))
    show wL _ _ _ [some (.ref p), some (.int l), some (.str "pay"), none] _
    refine l_cons (s_if (t_cmp (e_var (e_str (o_eqS ⟨_, rfl, ?_⟩)))))
    rw [decide_eq_false (by decide +kernel)]
    refine iteF (l_nil ?_)
    refine l_cons (s_if (t_cmp (e_var (e_str (o_eqS ⟨_, rfl, ?_⟩)))))
    rw [decide_eq_false (by decide +kernel)]
    refine iteF (l_nil ?_)
    refine l_cons (s_if (t_cmp (e_var (e_str (o_eqS ⟨_, rfl, ?_⟩)))))
    rw [decide_eq_false (by decide +kernel)]
    refine iteF (l_nil ?_)
    refine l_cons (s_if (t_cmp (e_var (e_str (o_eqS ⟨_, rfl, ?_⟩)))))
    rw [decide_eq_false (by decide +kernel)]
    refine iteF (l_nil ?_)
    refine l_cons (s_set (e_call (by exact FB) (by exact hr) (by omega) (a_cons (e_call (by exact F m rfl) (by exact hr) (by omega) ?_))))
    refine a_cons (e_ix (e_var (e_neg (e_int ⟨1, rfl, ix_t (by exact SqT.of hp) last_at (a_cons (e_bin (e_var (e_int (o_add (a_nil ?_))))))⟩))))
    refine ⟨x, b, l + 1, rfl, hx, by omega, by omega, fun d1 H1 e1 nd1 hd1 => a_cons (e_str (a_cons (e_var (a_nil ?_))))⟩
    refine ⟨d1, .str "once", some l, none, _, _, rfl, hd1, by omega, rfl, trivial, fun d2 H2 e2 nd2 hd2 => ?_⟩
    have e02 := e1.trans e2
    show wL _ _ _ [some (.ref p), some (.int l), some (.str "pay"), some (.ref d2)] _
    refine l_cons (s_if (t_cmp (e_var (e_str (o_eqS ⟨_, rfl, ?_⟩)))))
    rw [decide_eq_false (by decide +kernel)]
    refine iteF (l_nil ?_)
    refine l_cons (s_if (t_cmp (e_var (e_str (o_eqS ⟨_, rfl, ?_⟩)))))
    rw [decide_eq_true rfl]
    refine iteT ?_
    refine l_cons (s_set (e_call (by exact FM) (by exact hr) (by omega) (a_cons (e_var (a_cons (e_call (by exact FB) (by exact hr) (by omega) (a_cons (e_call (by exact F m rfl) (by exact hr) (by omega) ?_))))))))
    refine a_cons (e_ix (e_var (e_int (ix_t (by exact SqT.of (e02 _ _ hp)) (atI_nat (j := 3) rfl) (a_cons (e_var (a_nil ?_)))))))
    refine ⟨y, p0, l, rfl, hy.ts (Same.ts e02), by omega, by omega, fun d3 H3 e3 nd3 hd3 => ?_⟩
    refine a_cons (e_ix (e_var (e_int (ix_t (by exact SqT.of (e3 _ _ (e02 _ _ hp))) (atI_nat (j := 2) rfl) (a_cons (e_non (a_nil ?_)))))))
    refine ⟨d3, .str "once", none, none, _, _, rfl, hd3, by omega, rfl, trivial, fun d4 H4 e4 nd4 hd4 => a_cons (e_bl (a_nil ?_))⟩
    refine ⟨d2, d4, false, _, _, _, _, rfl, hd2.ds (DS.of (e3.trans e4)), hd4, by omega, fun d5 H5 e5 nd5 hd5 => l_nil ?_⟩
    have e25 := (e3.trans e4).trans e5
    have e05 := e02.trans e25
    exact last p d5 "pay" r _ H5 _ _ _ _ _ e05 (e05 _ _ hp) (by decide +kernel) hd5 (by omega) fun d6 H6 e6 nd6 hd6 => q d6 H6 (e05.trans e6) (none_of e05 nd6) (let ⟨kvs, h1, h2, h3, h4⟩ := hd6.ex; ⟨kvs, h1, h2, by simp only [sz]; omega, h4⟩)
  | ct s p0 b =>
    obtain ⟨p, sv, y, x, rfl, hp, _, hy, hx⟩ := hv
    have hp : H p = some (.tup ([.str "cut", .str "once", sv, y] ++ [x])) := hp
    have hn' : max (dp p0) (dp b) + 1 ≤ n := hn
    have hz' : sz p0 + sz b + 1 ≤ 1000 := hz
    obtain ⟨m, rfl⟩ : ∃ m, n = m + 1 := ⟨n - 1, by omega⟩
    refine l_cons (s_set (e_ix (e_var (e_int (ix_t (by exact SqT.of hp) at0 ?_)))))
    show wL _ _ _ [some (.ref p), some (.int l), some (.str "cut"), none] _
    refine l_cons (s_if (t_cmp (e_var (e_str (o_eqS ⟨_, rfl, ?_⟩)))))
    rw [decide_eq_false (by decide +kernel)]
    refine iteF (l_nil ?_)
    refine l_cons (s_if (t_cmp (e_var (e_str (o_eqS ⟨_, rfl, ?_⟩)))))
    rw [decide_eq_false (by decide +kernel)]
    refine iteF (l_nil ?_)
    refine l_cons (s_if (t_cmp (e_var (e_str (o_eqS ⟨_, rfl, ?_⟩)))))
    rw [decide_eq_false (by decide +kernel)]
    refine iteF (l_nil ?_)
    refine l_cons (s_if (t_cmp (e_var (e_str (o_eqS ⟨_, rfl, ?_⟩)))))
    rw [decide_eq_false (by decide +kernel)]
    refine iteF (l_nil ?_)
    refine l_cons (s_set (e_call (by exact FB) (by exact hr) (by omega) (a_cons (e_call (by exact F m rfl) (by exact hr) (by omega) ?_))))
    refine a_cons (e_ix (e_var (e_neg (e_int ⟨1, rfl, ix_t (by exact SqT.of hp) last_at (a_cons (e_bin (e_var (e_int (o_add (a_nil ?_))))))⟩))))
    refine ⟨x, b, l + 1, rfl, hx, by omega, by omega, fun d1 H1 e1 nd1 hd1 => a_cons (e_str (a_cons (e_var (a_nil ?_))))⟩
    refine ⟨d1, .str "once", some l, none, _, _, rfl, hd1, by omega, rfl, trivial, fun d2 H2 e2 nd2 hd2 => ?_⟩
    have e02 := e1.trans e2
    show wL _ _ _ [some (.ref p), some (.int l), some (.str "cut"), some (.ref d2)] _
    refine l_cons (s_if (t_cmp (e_var (e_str (o_eqS ⟨_, rfl, ?_⟩)))))
    rw [decide_eq_true rfl]
    refine iteT ?_
    refine l_cons (s_ret (e_call (by exact FM) (by exact hr) (by omega) (a_cons (e_var (a_cons (e_call (by exact FB) (by exact hr) (by omega) (a_cons (e_call (by exact F m rfl) (by exact hr) (by omega) ?_))))))))
    refine a_cons (e_ix (e_var (e_int (ix_t (by exact SqT.of (e02 _ _ hp)) (atI_nat (j := 3) rfl) (a_cons (e_var (a_nil ?_)))))))
    refine ⟨y, p0, l, rfl, hy.ts (Same.ts e02), by omega, by omega, fun d3 H3 e3 nd3 hd3 => ?_⟩
    refine a_cons (e_ix (e_var (e_int (ix_t (by exact SqT.of (e3 _ _ (e02 _ _ hp))) at1 (a_cons (e_non (a_nil ?_)))))))
    refine ⟨d3, .str "once", none, none, _, _, rfl, hd3, by omega, rfl, trivial, fun d4 H4 e4 nd4 hd4 => a_cons (e_bl (a_nil ?_))⟩
    have e24 := e3.trans e4
    exact ⟨d2, d4, false, _, _, _, _, rfl, hd2.ds (DS.of e24), hd4, by omega, fun d5 H5 e5 nd5 hd5 => q d5 H5 ((e02.trans e24).trans e5) (none_of (e02.trans e24) nd5) (let ⟨kvs, h1, h2, h3, h4⟩ := hd5.ex; ⟨kvs, h1, h2, by simp only [sz]; omega, h4⟩)⟩
theorem ok_cnt (T : Top K mg "_law_counts" s_counts) (FB : Fn P w K mg base 1 "_law_box" spBox) (FM : Fn P w K mg base 1 "_law_merge" spMerge) : ∀ n, Fn P w K mg base (n + 2) "_law_counts" (spCnt n)
  | 0 => ok_cntS 0 T FB FM fun _ h => by omega
  | n + 1 => ok_cntS (n + 1) T FB FM fun m h => by cases h; exact ok_cnt T FB FM n
end



/-! ### lists told by lists -/
def Al {α : Type} (F : α → V → Prop) : List α → List V → Prop
  | [], vs => vs = []
  | a :: as, vs => ∃ v us, vs = v :: us ∧ F a v ∧ Al F as us
theorem Al.mono {α : Type} {F G : α → V → Prop} (e : ∀ a v, F a v → G a v) : ∀ {l : List α} {v : List V}, Al F l v → Al G l v
  | [], _, h => h
  | _ :: _, _, ⟨v, us, h1, h2, h3⟩ => ⟨v, us, h1, e _ _ h2, h3.mono e⟩
theorem Al.len {α : Type} {F : α → V → Prop} : ∀ {l : List α} {v : List V}, Al F l v → v.length = l.length
  | [], _, h => by rw [show _ = _ from h]; rfl
  | _ :: _, _, ⟨v, us, h1, _, h3⟩ => by rw [h1, List.length_cons, List.length_cons, h3.len]
theorem Al.app {α : Type} {F : α → V → Prop} : ∀ {l m : List α} {v u : List V}, Al F l v → Al F m u → Al F (l ++ m) (v ++ u)
  | [], _, _, _, h, h' => by rw [show _ = _ from h]; exact h'
  | _ :: _, _, _, _, ⟨v, us, h1, h2, h3⟩, h' => ⟨v, _, by rw [h1]; rfl, h2, h3.app h'⟩
theorem Al.get {α : Type} {F : α → V → Prop} : ∀ {l : List α} {v : List V} {i : Nat} {x : V}, Al F l v → v[i]? = some x → ∃ a, l[i]? = some a ∧ F a x
  | [], _, i, x, h, e => by rw [show _ = _ from h] at e; cases e
  | a :: _, _, 0, x, ⟨v, us, h1, h2, h3⟩, e => by subst h1; cases e; exact ⟨a, rfl, h2⟩
  | _ :: l, _, i + 1, x, ⟨v, us, h1, h2, h3⟩, e => by
    subst h1
    exact h3.get (i := i) (by simpa using e)
theorem Al.take {α : Type} {F : α → V → Prop} : ∀ {l : List α} {v : List V} (n : Nat), Al F l v → Al F (l.take n) (v.take n)
  | [], _, n, h => by rw [show _ = _ from h]; simp only [List.take_nil]; rfl
  | _ :: _, _, 0, ⟨v, us, h1, h2, h3⟩ => by subst h1; simp only [List.take_zero]; rfl
  | _ :: _, _, n + 1, ⟨v, us, h1, h2, h3⟩ => by subst h1; exact ⟨v, us.take n, rfl, h2, h3.take n⟩
theorem Al.drop {α : Type} {F : α → V → Prop} : ∀ {l : List α} {v : List V} (n : Nat), Al F l v → Al F (l.drop n) (v.drop n)
  | [], _, n, h => by rw [show _ = _ from h]; simp only [List.drop_nil]; rfl
  | _ :: _, _, 0, h => h
  | _ :: _, _, n + 1, ⟨v, us, h1, h2, h3⟩ => by subst h1; exact h3.drop n
theorem SnV.ref {H : Hp} : ∀ {s : Sn} {v : V}, SnV H v s → ∃ t nm rest, v = .ref t ∧ H t = some (.tup (.str nm :: rest))
  | .word _, _, ⟨t, h1, h2⟩ => ⟨t, _, _, h1, h2⟩
  | .menu _ _, _, ⟨t, _, _, h1, h2, _⟩ => ⟨t, _, _, h1, h2⟩
  | .trade _ _ _, _, ⟨t, _, _, _, h1, h2, _⟩ => ⟨t, _, _, h1, h2⟩
/-! ### what is drawn from -/
structure Cf where
  p : Addr
  a : Addr
  wd : Addr
  rl : Addr
  en : Addr
  hd : Addr
  tk : Addr
  ws : List Str
/-- none of the places that change -/
structure Fz (c : Cf) (x : Addr) : Prop where
  p : x ≠ c.p
  a : x ≠ c.a
  h : x ≠ c.hd
  t : x ≠ c.tk
/-- all stays but the places that change -/
def Gf (c : Cf) (H H' : Hp) : Prop := ∀ x o, H x = some o → Fz c x → H' x = some o
theorem Gf.trans {c : Cf} {H H1 H2 : Hp} (a : Gf c H H1) (b : Gf c H1 H2) : Gf c H H2 := fun x o h z => b x o (a x o h z) z
theorem Gf.same {c : Cf} {H H' : Hp} (e : Same H H') : Gf c H H' := fun x o h _ => e _ _ h
abbrev Hol := Str × Sn
def HoV (H : Hp) (h : Hol) (v : V) : Prop := ∃ a sv, v = .ref a ∧ H a = some (.lst [.str h.1, .str "once", .ref sv]) ∧ SnV H (.ref sv) h.2 ∧ SnT h.2 ∧ dep h.2 ≤ 44 ∧ rws h.2 ≤ 400
structure StG (H : Hp) (c : Cf) (b : Int) (hs : List Hol) : Prop where
  d : ∃ kvs, H c.a = some (.dK kvs) ∧ valV kvs (.inr "pool") = some (.ref c.p) ∧ valV kvs (.inr "forms") = some (.str "c") ∧ valV kvs (.inr "words") = some (.ref c.wd) ∧ valV kvs (.inr "rules") = some (.ref c.rl) ∧ valV kvs (.inr "entries") = some (.ref c.en) ∧ valV kvs (.inr "holds") = some (.ref c.hd) ∧ valV kvs (.inr "taken") = some (.ref c.tk) ∧ valV kvs (.inr "budget") = some (.int b) ∧ kvs.length ≤ 20
  pl : PoolAt H c.p
  wl : H c.wd = some (.lst (sVs c.ws))
  rl : H c.rl = some (.dK [])
  en : H c.en = some (.dK [])
  hl : ∃ hv, H c.hd = some (.lst hv) ∧ Al (HoV H) hs hv
  tl : H c.tk = some (.lst (sVs (hs.map (·.1))))
  nm : NmOk (hs.map (·.1))
  nd : [c.p, c.a, c.wd, c.rl, c.en, c.hd, c.tk].Nodup
  w0 : 0 < c.ws.length
  w4 : c.ws.length ≤ 4
theorem StG.ne {H : Hp} {c : Cf} {b : Int} {hs : List Hol} (s : StG H c b hs) : c.p ≠ c.a ∧ c.p ≠ c.wd ∧ c.p ≠ c.rl ∧ c.p ≠ c.en ∧ c.p ≠ c.hd ∧ c.p ≠ c.tk ∧ c.a ≠ c.wd ∧ c.a ≠ c.rl ∧ c.a ≠ c.en ∧ c.a ≠ c.hd ∧ c.a ≠ c.tk ∧ c.wd ≠ c.rl ∧ c.wd ≠ c.en ∧ c.wd ≠ c.hd ∧ c.wd ≠ c.tk ∧ c.rl ≠ c.en ∧ c.rl ≠ c.hd ∧ c.rl ≠ c.tk ∧ c.en ≠ c.hd ∧ c.en ≠ c.tk ∧ c.hd ≠ c.tk := by
  have := s.nd
  simp only [List.nodup_cons, List.mem_cons, not_or, List.not_mem_nil, not_false_eq_true, and_true] at this
  grind
theorem ne_fresh {H : Hp} {x y : Addr} {o : HO} (n : H x = none) (h : H y = some o) : x ≠ y := fun z => by rw [z, h] at n; cases n
theorem hov_refs {H : Hp} {hs : List Hol} {hv : List V} (h : Al (HoV H) hs hv) : ∀ v ∈ hv, ∃ a, v = .ref a := fun v hm => by
  obtain ⟨i, hi, e⟩ := List.getElem_of_mem hm
  obtain ⟨x, _, a, sv, e2, _⟩ := h.get (i := i) (x := v) (by rw [List.getElem?_eq_getElem hi, e])
  exact ⟨a, e2⟩
theorem svs_strs {ts : List Str} : ∀ v ∈ sVs ts, ∃ z, v = .str z := fun v hm => by
  obtain ⟨z, _, e⟩ := List.mem_map.mp hm
  exact ⟨z, e.symm⟩
section
variable {H H' : Hp} {c : Cf} {b : Int} {hs : List Hol}
theorem StG.fz (s : StG H c b hs) {x : Addr} {o : HO} (h : H x = some o) (n1 : ∀ i j k : Int, o ≠ .lst [.int i, .int j, .int k]) (n2 : ∀ kvs, o ≠ .dK kvs) (n3 : ∀ hv, Al (HoV H) hs hv → o ≠ .lst hv) (n4 : o ≠ .lst (sVs (hs.map (·.1)))) : Fz c x := by
  refine ⟨fun z => ?_, fun z => ?_, fun z => ?_, fun z => ?_⟩
  · obtain ⟨i, j, k, e⟩ := s.pl
    rw [z, e] at h; cases h; exact n1 _ _ _ rfl
  · obtain ⟨kvs, e, _⟩ := s.d
    rw [z, e] at h; cases h; exact n2 _ rfl
  · obtain ⟨hv, e, g⟩ := s.hl
    rw [z, e] at h; cases h; exact n3 _ g rfl
  · rw [z, s.tl] at h; cases h; exact n4 rfl
theorem StG.tup (s : StG H c b hs) {x : Addr} {xs : List V} (h : H x = some (.tup xs)) : Fz c x := s.fz h (fun _ _ _ z => by cases z) (fun _ z => by cases z) (fun _ _ z => by cases z) (fun z => by cases z)
theorem StG.tss (s : StG H c b hs) (g : Gf c H H') : TS H H' := fun x xs h => g x _ h (s.tup h)
theorem StG.ho (s : StG H c b hs) {x sv : Addr} {z y : Str} (h : H x = some (.lst [.str z, .str y, .ref sv])) : Fz c x := s.fz h (fun _ _ _ z => by cases z) (fun _ z => by cases z) (fun hv g e => by
    cases e
    obtain ⟨a, e⟩ := hov_refs g (.str z) (by simp)
    cases e) (fun e => by
    have e := HO.lst.inj e
    obtain ⟨w, e2⟩ := svs_strs (ts := hs.map (·.1)) (.ref sv) (by rw [← e]; simp)
    cases e2)
theorem HoV.gf (s : StG H c b hs) (g : Gf c H H') {h : Hol} {v : V} : HoV H h v → HoV H' h v := fun ⟨a, sv, h1, h2, h3, h4⟩ => ⟨a, sv, h1, g _ _ h2 (s.ho h2), h3.ts (s.tss g), h4⟩
theorem StG.fw (s : StG H c b hs) : Fz c c.wd := by have := s.ne; exact ⟨by grind, by grind, by grind, by grind⟩
theorem StG.fr (s : StG H c b hs) : Fz c c.rl := by have := s.ne; exact ⟨by grind, by grind, by grind, by grind⟩
theorem StG.fe (s : StG H c b hs) : Fz c c.en := by have := s.ne; exact ⟨by grind, by grind, by grind, by grind⟩
theorem StG.new (s : StG H c b hs) {x : Addr} (n : H x = none) : Fz c x := ⟨s.pl.ne n, let ⟨_, e, _⟩ := s.d; ne_fresh n e, let ⟨_, e, _⟩ := s.hl; ne_fresh n e, ne_fresh n s.tl⟩
/-- the state after a change, by what changes -/
theorem StG.mk' (s : StG H c b hs) (g : Gf c H H') {b' : Int} {hs' : List Hol} (hd : ∃ kvs, H' c.a = some (.dK kvs) ∧ valV kvs (.inr "pool") = some (.ref c.p) ∧ valV kvs (.inr "forms") = some (.str "c") ∧ valV kvs (.inr "words") = some (.ref c.wd) ∧ valV kvs (.inr "rules") = some (.ref c.rl) ∧ valV kvs (.inr "entries") = some (.ref c.en) ∧ valV kvs (.inr "holds") = some (.ref c.hd) ∧ valV kvs (.inr "taken") = some (.ref c.tk) ∧ valV kvs (.inr "budget") = some (.int b') ∧ kvs.length ≤ 20)
    (hp : PoolAt H' c.p) (hh : ∃ hv, H' c.hd = some (.lst hv) ∧ Al (HoV H') hs' hv) (ht : H' c.tk = some (.lst (sVs (hs'.map (·.1))))) (hn : NmOk (hs'.map (·.1))) : StG H' c b' hs' :=
  ⟨hd, hp, g _ _ s.wl s.fw, g _ _ s.rl s.fr, g _ _ s.en s.fe, hh, ht, hn, s.nd, s.w0, s.w4⟩
theorem StG.hv' (s : StG H c b hs) (g : Gf c H H') (hk : ∀ o, H c.hd = some o → H' c.hd = some o) : ∃ hv, H' c.hd = some (.lst hv) ∧ Al (HoV H') hs hv := let ⟨hv, h1, h2⟩ := s.hl; ⟨hv, hk _ h1, h2.mono fun _ _ => HoV.gf s g⟩
theorem StG.same (s : StG H c b hs) (e : Same H H') : StG H' c b hs := s.mk' (.same e) (let ⟨kvs, h1, h2⟩ := s.d; ⟨kvs, e _ _ h1, h2⟩) (s.pl.up e) (s.hv' (.same e) fun _ h => e _ _ h) (e _ _ s.tl) s.nm
theorem Gf.pool (e : But c.p H H') : Gf c H H' := fun x o h z => e x o z.p h
theorem StG.pool (s : StG H c b hs) (e : But c.p H H') (q : PoolAt H' c.p) : StG H' c b hs := by
  have n := s.ne
  exact s.mk' (.pool e) (let ⟨kvs, h1, h2⟩ := s.d; ⟨kvs, e _ _ n.1.symm h1, h2⟩) q (s.hv' (.pool e) fun _ h => e _ _ (by grind) h) (e _ _ (by grind) s.tl) s.nm
theorem Gf.one {x : Addr} {o : HO} (hx : x = c.a ∨ x = c.hd) : Gf c H (upd H x o) := fun y u h z => by
  rw [upd_ne (fun e => by rcases hx with g | g <;> rw [g] at e; exact z.a e; exact z.h e)]; exact h
theorem StG.bud (s : StG H c b hs) (b' : Int) {kvs : List (Key × V)} (hk : H c.a = some (.dK kvs)) : StG (upd H c.a (.dK (putK kvs (.inr "budget") (.int b')))) c b' hs := by
  have n := s.ne
  obtain ⟨kvs', h1, h2, h3, h4, h5, h6, h7, h8, h9, h10⟩ := s.d
  rw [hk] at h1
  cases h1
  have hp : PoolAt (upd H c.a (.dK (putK kvs (.inr "budget") (.int b')))) c.p := let ⟨x, y, z, e⟩ := s.pl; ⟨x, y, z, by rw [upd_ne n.1]; exact e⟩
  refine s.mk' (.one (.inl rfl)) ⟨_, upd_same, ?_, ?_, ?_, ?_, ?_, ?_, ?_, by rw [valV_put, if_pos rfl], ?_⟩ hp (s.hv' (.one (.inl rfl)) fun o h => by rw [upd_ne (by grind)]; exact h) (by rw [upd_ne (by grind)]; exact s.tl) s.nm
  · rw [valV_put, if_neg (by decide +kernel)]; exact h2
  · rw [valV_put, if_neg (by decide +kernel)]; exact h3
  · rw [valV_put, if_neg (by decide +kernel)]; exact h4
  · rw [valV_put, if_neg (by decide +kernel)]; exact h5
  · rw [valV_put, if_neg (by decide +kernel)]; exact h6
  · rw [valV_put, if_neg (by decide +kernel)]; exact h7
  · rw [valV_put, if_neg (by decide +kernel)]; exact h8
  · rw [putK_in (valV_mem h9)]; exact h10
/-- a name is taken and a hold put -/
theorem StG.hold {H1 H2 : Hp} (s : StG H c b hs) (e : Bu c.p c.tk H H1) (q : PoolAt H1 c.p) {z : Str} (ht : H1 c.tk = some (.lst (sVs (hs.map (·.1) ++ [z])))) (hn : NewNm (hs.map (·.1)) z) (hl : hs.length < 59) (e2 : Same H1 H2) {hv : List V} (hh : H2 c.hd = some (.lst hv)) {sn : Sn} {v : V} (hv' : HoV H2 (z, sn) v) : Gf c H (upd H2 c.hd (.lst (hv ++ [v]))) ∧ StG (upd H2 c.hd (.lst (hv ++ [v]))) c b (hs ++ [(z, sn)]) := by
  have n := s.ne
  have g1 : Gf c H H1 := fun x o h z => e x o z.p z.t h
  have g2 : Gf c H H2 := g1.trans (.same e2)
  have g3 : Gf c H (upd H2 c.hd (.lst (hv ++ [v]))) := g2.trans (.one (.inr rfl))
  refine ⟨g3, s.mk' g3 ?_ ?_ ?_ ?_ ?_⟩
  · obtain ⟨kvs, h1, h2⟩ := s.d
    exact ⟨kvs, by rw [upd_ne (by grind)]; exact e2 _ _ (e _ _ n.1.symm (by grind) h1), h2⟩
  · obtain ⟨x, y, w, h⟩ := q
    exact ⟨x, y, w, by rw [upd_ne (by grind)]; exact e2 _ _ h⟩
  · obtain ⟨hv0, h1, h2⟩ := s.hl
    have h1' := e2 _ _ (e _ _ (by grind) (by grind) h1)
    rw [hh] at h1'
    cases h1'
    refine ⟨_, upd_same, ?_⟩
    have up : ∀ {x : Hol} {v : V}, HoV H2 x v → HoV (upd H2 c.hd (.lst (hv ++ [v]))) x v → True := fun _ _ => trivial
    have mv : ∀ (x : Hol) (u : V), HoV H2 x u → HoV (upd H2 c.hd (.lst (hv ++ [v]))) x u := fun x u ⟨a, sv, g1, g2', g3', g4⟩ => ⟨a, sv, g1, by
      rw [upd_ne (fun zz => by
        rw [zz, hh] at g2'
        have e := HO.lst.inj (Option.some.inj g2')
        obtain ⟨a', ea⟩ := hov_refs h2 (.str x.1) (by rw [e]; simp)
        cases ea)]
      exact g2', g3'.ts (TS.upd hh), g4⟩
    exact (h2.mono fun x u hx => mv x u (hx.gf s g2)).app ⟨_, [], rfl, mv _ _ hv', rfl⟩
  · rw [upd_ne (by grind), List.map_append]; exact e2 _ _ ht
  · rw [List.map_append]; exact s.nm.add (by rw [List.length_map]; exact hl) hn
end



section
variable {P : Program} {w : World} {K : PySem.W.Frag} {mg : Str → Option Value} {base : Heap}
def spState : Sp := fun vs H Q _ => ∃ p m, vs = [.ref p, .str "c", .int m] ∧ PoolAt H p ∧ 0 < m ∧ m < 1000000 ∧ ∀ c b H', c.p = p → But p H H' → StG H' c b [] → 2 ≤ b → b < 2 + m → H c.a = none → H c.hd = none → H c.tk = none → Q (.ref c.a) H'
theorem ok_state (T : Top K mg "_law_state" s_state) (mInt : mg "int" = none) (mR : mg "range" = none) (F : Fn P w K mg base 1 "_law_next" spNext) : Fn P w K mg base 2 "_law_state" spState := by
  refine fn_okC T sc_state so_state (fun vs H Q E h => by obtain ⟨p, m, rfl, _⟩ := h; rfl) (fun _ _ _ _ _ _ us hl => match us, hl with | [_, _, _], _ => rfl) fun f cdv A outer s H vs Q E hr h nd => ?_
  obtain ⟨p, m, rfl, hp, hm0, hm1, q⟩ := h
  walk_at "sts"
  refine ⟨by show 8 ≤ sizeLine; decide, fun l H1 e1 nl hl => ?_⟩
  have hlp := hp.ne nl
  walk_at "sts"
  refine e_call (by exact F) (by exact hr) (by decide) ?_
  walk_at "sts"
  refine ⟨p, 8, rfl, by decide, by decide, hp.up e1, fun d H2 d0 d1 b2 p2 => ?_⟩
  have hl2 := b2 l _ hlp hl
  refine l_cons (s_lcR (by exact bk_state0) (by assumption) ?_)
  walk_at "sts"
  refine e_call (by exact F) (by exact hr) (by decide) ?_
  walk_at "sts"
  refine ⟨p, 4, rfl, by decide, by decide, p2, fun d3 H3 e0 e1' b3 p3 => ?_⟩
  obtain ⟨n, rfl⟩ := Int.eq_ofNat_of_zero_le e0
  have hl3 := b3 l _ hlp hl2
  walk_at "sts"
  refine ⟨Nat.lt_of_lt_of_le (show 1 + n < 5 by omega) (by decide), fun D nD => ?_⟩
  have hDp := p3.ne nD
  have hDl : D ≠ l := fun e => by subst e; rw [hl3] at nD; cases nD
  refine ⟨fun k H' => ∃ ws : List Str, ws.length = k ∧ (∀ z ∈ ws, z ∈ stems) ∧ H' D = some (.lst (sVs ws)) ∧ ∀ b o, b ≠ D → H3 b = some o → H' b = some o, ⟨[], rfl, fun z hz => by simp at hz, upd_same, fun b o nb e => by rw [upd_ne nb]; exact e⟩, fun k H' hk hW s0 H0 C cl fp IB => ?_, fun H' hW => ?_⟩
  · obtain ⟨ws, rfl, hws, hD, hk'⟩ := hW
    have hk5 : ws.length < 5 := by have h1 : ws.length < 1 + n := hk; omega
    refine e_ix (b_var (e_bin (b_callTy (x := "int") (by assumption) b_int (a_cons (e_bin (b_var (e_bin (e_int (b_var ?_)))))))))
    refine o_mul (.inl (by decide)) (o_add (a_nil (c_int (e_int (o_mod (by decide) ?_)))))
    obtain ⟨z, hz, hat⟩ := sVs_at (ns := stems) (Int.emod_nonneg (d + 3 * (ws.length : Int)) (show (8 : Int) ≠ 0 by decide)) (Int.emod_lt_of_pos (d + 3 * (ws.length : Int)) (by decide))
    refine ix_l (by exact SqL.of (hk' l _ hDl.symm hl3)) hat ⟨_, hD, by simp only [sVs, List.length_map]; exact Nat.lt_of_lt_of_le hk5 (by decide), ws ++ [z], by simp, fun y hy => ?_, by rw [upd_same]; simp [sVs], fun b o nb e => by rw [upd_ne nb]; exact hk' b o nb e⟩
    rcases List.mem_append.mp hy with hy | hy
    · exact hws y hy
    · rw [List.mem_singleton] at hy
      subst hy
      exact hz
  · obtain ⟨ws, hlen, hws, hD, hk'⟩ := hW
    have p4 : PoolAt H' p := let ⟨x, y, z, e⟩ := p3; ⟨x, y, z, hk' p _ hDp.symm e⟩
    have b4 : But p H H' := fun b o nb e => hk' b o (fun z => by subst z; rw [b3 b o nb (b2 b o nb (e1 b o e))] at nD; cases nD) (b3 b o nb (b2 b o nb (e1 b o e)))
    refine l_cons (s_ret (e_of (pe_disp (pps_cons pe pe (pps_cons pe pe (pps_cons pe pe (pps_cons pe pe (pps_cons pe pe (pps_cons pe pe (pps_cons pe pe (pps_cons pe pe (pps_cons pe pe pps_nil))))))))) (by rfl) (by rfl) (fun z => by cases z) (by decide)) ?_))
    simp only [tDisp, tPairs]
    intro a na
    have haD : a ≠ D := fun e => by subst e; rw [hD] at na; cases na
    have hap := p4.ne na
    have nHa : H a = none := by
      cases hz : H a with
      | none => rfl
      | some u => rw [b4 a u hap hz] at na; cases na
    have b5 : But p H (upd H' a (.dK [])) := fun b o nb e => by rw [upd_ne (ne_of_none (b4 b o nb e) na)]; exact b4 b o nb e
    have p5 : PoolAt (upd H' a (.dK [])) p := let ⟨x, y, z, e⟩ := p4; ⟨x, y, z, by rw [upd_ne hap.symm]; exact e⟩
    have hD5 : (upd H' a (.dK [])) D = some (.lst (sVs ws)) := by rw [upd_ne haD.symm]; exact hD
    have ha5 : (upd H' a (.dK [])) a = some (.dK []) := upd_same
    generalize upd H' a (.dK []) = H5 at *
    refine e_str (e_var (e_str (e_var (e_str (e_var (e_str (e_dnew fun r1 n1 => ?_)))))))
    have s1 : Same H5 (upd H5 r1 (.dK [])) := updS (Same.refl H5) n1
    have d1p := p5.ne n1
    have d1D := ne_fresh n1 hD5
    have d1a := ne_fresh n1 ha5
    have g1 : upd H5 r1 (.dK []) r1 = some (.dK []) := upd_same
    generalize upd H5 r1 (.dK []) = H6 at *
    refine e_str (e_dnew fun r2 n2 => ?_)
    have s12 : Same H6 (upd H6 r2 (.dK [])) := updS (Same.refl H6) n2
    have s2 : Same H5 (upd H6 r2 (.dK [])) := s1.trans s12
    have d2p := (p5.up s1).ne n2
    have d2D := ne_fresh n2 (s1 _ _ hD5)
    have d2a := ne_fresh n2 (s1 _ _ ha5)
    have d21 := ne_fresh n2 g1
    have g2 : upd H6 r2 (.dK []) r2 = some (.dK []) := upd_same
    have g1 := s12 _ _ g1
    generalize upd H6 r2 (.dK []) = H7 at *
    refine e_str (e_dnew fun r3 n3 => ?_)
    have s23 : Same H7 (upd H7 r3 (.dK [])) := updS (Same.refl H7) n3
    have s3 : Same H5 (upd H7 r3 (.dK [])) := s2.trans s23
    have g1 := s23 _ _ g1
    have g2 := s23 _ _ g2
    generalize upd H7 r3 (.dK []) = H8 at *
    refine e_str (e_lst (a_nil ⟨by show 0 ≤ sizeLine; decide, fun r4 H9 e9 n4 h4 => ?_⟩))
    have d4p := (p5.up s3).ne n4
    have d4D := ne_fresh n4 (s3 _ _ hD5)
    have d4a := ne_fresh n4 (s3 _ _ ha5)
    have d41 := ne_fresh n4 g1
    have d42 := ne_fresh n4 g2
    have g1 := e9 _ _ g1
    have g2 := e9 _ _ g2
    refine e_str (e_lst (a_nil ⟨by show 0 ≤ sizeLine; decide, fun tk H10 e10 n5 h5 => ?_⟩))
    have s9 : Same H5 H9 := s3.trans e9
    have d5p := (p5.up s9).ne n5
    have d5D := ne_fresh n5 (s9 _ _ hD5)
    have d5a := ne_fresh n5 (s9 _ _ ha5)
    have d51 := ne_fresh n5 g1
    have d52 := ne_fresh n5 g2
    have d54 := ne_fresh n5 h4
    have g1 := e10 _ _ g1
    have g2 := e10 _ _ g2
    have h4 := e10 _ _ h4
    have s10 : Same H5 H10 := s9.trans e10
    refine e_str (e_bin (e_int ?_))
    refine e_call (by exact F) (by exact hr) (by decide) ?_
    walk_at "sts"
    refine ⟨p, m, rfl, hm0, by omega, p5.up s10, fun d6 H11 g0 g01 b11 p11 => ?_⟩
    refine o_add ⟨b11 a _ hap (s10 a _ ha5), [(Sum.inr "pool", .ref p), (Sum.inr "forms", .str "c"), (Sum.inr "words", .ref D), (Sum.inr "rules", .ref r1), (Sum.inr "entries", .ref r2), (Sum.inr "meets", .ref r3), (Sum.inr "holds", .ref r4), (Sum.inr "taken", .ref tk), (Sum.inr "budget", .int (2 + d6))], rfl, by show 9 ≤ 15; decide, ?_⟩
    have nH4 : H r4 = none := by
      cases hz : H r4 with
      | none => rfl
      | some u => exact absurd (s3 _ _ (b5 r4 u d4p hz)) (by rw [n4]; simp)
    have nH5 : H tk = none := by
      cases hz : H tk with
      | none => rfl
      | some u => exact absurd (s9 _ _ (b5 tk u d5p hz)) (by rw [n5]; simp)
    have b12 : ∀ b o, b ≠ p → b ≠ a → H10 b = some o → (upd H11 a (.dK (mergeK [] [(Sum.inr "pool", .ref p), (Sum.inr "forms", .str "c"), (Sum.inr "words", .ref D), (Sum.inr "rules", .ref r1), (Sum.inr "entries", .ref r2), (Sum.inr "meets", .ref r3), (Sum.inr "holds", .ref r4), (Sum.inr "taken", .ref tk), (Sum.inr "budget", .int (2 + d6))]))) b = some o := fun b o nb nb2 e => by
      rw [upd_ne nb2]
      exact b11 b o nb e
    have hl : ws.length = 1 + n := hlen
    refine q ⟨p, a, D, r1, r2, r4, tk, ws⟩ (2 + d6) _ rfl (fun b o nb e => ?_) ⟨⟨_, upd_same, ?_, ?_, ?_, ?_, ?_, ?_, ?_, ?_, Nat.le_trans (mergeK_len _ _) (by show 0 + 9 ≤ 20; decide)⟩, ?_, b12 D _ hDp haD.symm (s10 _ _ hD5), b12 r1 _ d1p d1a g1, b12 r2 _ d2p d2a g2, ⟨[], b12 r4 _ d4p d4a h4, rfl⟩, b12 tk _ d5p d5a h5, NmOk.nil, ?_, ?_, ?_⟩ (by omega) (by omega) nHa nH4 nH5
    · have nba : b ≠ a := fun z => by subst z; exact absurd (b4 b o nb e) (by rw [na]; intro z; cases z)
      exact b12 b o nb nba (s10 _ _ (b5 b o nb e))
    all_goals first
      | (simp only [mergeK, List.foldl_cons, List.foldl_nil, valV_put]; (repeat (first | rw [if_pos trivial] | rw [if_neg (by decide +kernel)])); done)
      | skip
    · obtain ⟨x, y, z, e⟩ := p11
      exact ⟨x, y, z, by show upd H11 a _ p = _; rw [upd_ne hap.symm]; exact e⟩
    · simp only [List.nodup_cons, List.mem_cons, not_or, List.not_mem_nil, not_false_eq_true, and_true]
      have hDa := haD.symm
      grind
    · show 0 < ws.length; omega
    · show ws.length ≤ 4; omega
end
theorem sg_m : (Str.ofString "m") = Wk.sg 109 := by decide +kernel
theorem sg_s : (Str.ofString "s") = Wk.sg 115 := by decide +kernel
theorem c_m : decide (109 ∈ (Str.ofString "c").cps.toList) = false := by decide +kernel
theorem c_s : decide (115 ∈ (Str.ofString "c").cps.toList) = false := by decide +kernel
/-- the suite of a test -/
def ifA (b : List Stmt) (i : Nat) : List Stmt := match b.getD i (.Pass ⟨0, 0, 0, 0⟩) with
  | .If _ a _ _ => a
  | _ => []
section
variable {P : Program} {w : World} {K : PySem.W.Frag} {mg : Str → Option Value} {base : Heap}
def spSent (n : Nat) : Sp := fun vs H Q _ => ∃ c b hs, ∃ d : Nat, vs = [.ref c.a, .int d] ∧ StG H c b hs ∧ d ≤ n ∧ ∀ v s H', But c.p H H' → PoolAt H' c.p → SnV H' v s → dep s ≤ d → SnT s → Q v H'
theorem ok_sentS (n : Nat) (T : Top K mg "_law_sentence" s_sentence) (mLen : mg "len" = none) (FX : Fn P w K mg base 1 "_law_next" spNext) (F : ∀ m, n = m + 1 → Fn P w K mg base (m + 2) "_law_sentence" (spSent m)) : Fn P w K mg base (n + 2) "_law_sentence" (spSent n) := by
  refine fn_ok T sc_sentence so_sentence (fun vs H Q E h => by obtain ⟨c, b, hs, d, rfl, _⟩ := h; rfl) (fun _ _ _ _ _ _ us hl => match us, hl with | [_, _], _ => rfl) fun f cdv A outer s H vs Q E hr h nd => ?_
  obtain ⟨c, b, hs, d, rfl, hst, hdn, q⟩ := h
  obtain ⟨kvs, k1, k2, k3, k4, _⟩ := hst.d
  have hne := hst.ne
  have hap : c.a ≠ c.p := hne.1.symm
  walk_at "sts"
  refine ix_d (by exact hr) ⟨c.a, .ref c.p, rfl, dg_k k1 k2, ?_⟩
  walk_at "sts"
  refine e_call (by exact FX) (by exact hr) (by omega) ?_
  walk_at "sts"
  refine ⟨c.p, 8, rfl, by decide, by decide, hst.pl, fun d1 H1 d10 d11 b1 p1 => ?_⟩
  have hs1 := hst.pool b1 p1
  have k11 := b1 c.a _ hap k1
  have leaf : ∀ σ, σ = [some (V.ref c.a), some (.int d), some (.ref c.p), some (.int d1), none, none] → wL (cxOf CX0 P w K mg base N_sentence (Str.ofString "_law_sentence") (defScope s_sentence) f cdv A outer s H E).nox (ifA (defBody s_sentence) 2) { nx := fun σ' H' => wL (cxOf CX0 P w K mg base N_sentence (Str.ofString "_law_sentence") (defScope s_sentence) f cdv A outer s H E).nox ((defBody s_sentence).drop 3) { nx := fun _ H' => Q .non H', rt := Q } σ' H', rt := Q } σ H1 := by
    as_aux_lemma =>
      rintro σ rfl
      show wL _ (_ :: _) _ _ _
      refine l_cons (s_ret (e_tup ?_))
      walk_at "sts"
      refine ix_d (by exact hr) ⟨c.a, .ref c.wd, rfl, dg_k k11 k4, ?_⟩
      refine e_call (by exact FX) (by exact hr) (by omega) ?_
      walk_at "sts"
      refine ix_d (by exact hr) ⟨c.a, .ref c.wd, rfl, dg_k k11 k4, ?_⟩
      walk_at "sts"
      refine c_lenL (by exact SqL.of hs1.wl) ?_
      rw [show (sVs c.ws).length = c.ws.length by simp [sVs]]
      have h1 := hs1.w0
      have h2 := hs1.w4
      walk_at "sts"
      refine ⟨c.p, _, rfl, by omega, by omega, p1, fun d2 H2 e0 e1 b2 p2 => ?_⟩
      obtain ⟨z, hz, hat⟩ := sVs_at e0 e1
      refine ix_l (by exact SqL.of (b2 c.wd _ hne.2.1.symm hs1.wl)) hat ?_
      walk_at "sts"
      refine ⟨by show 2 ≤ sizeLine; decide, fun t H3 e3 _ ht => ?_⟩
      exact q _ (.word z) H3 ((b1.trans b2).trans (But.of e3)) (p2.up e3) ⟨t, rfl, ht⟩ (Nat.zero_le _) trivial
  walk_at "sts"
  refine if2 (fun h0 => leaf _ rfl) (fun h0 => ?_)
  refine w_or1 (t_cmp ?_)
  walk_at "sts"
  refine if2 (fun h1 => leaf _ rfl) (fun h1 => l_nil ?_)
  obtain ⟨m, rfl⟩ : ∃ m, n = m + 1 := ⟨n - 1, by omega⟩
  obtain ⟨i, rfl⟩ : ∃ i, d = i + 1 := ⟨d - 1, by omega⟩
  have F0 := F m rfl
  have ei : ((i + 1 : Nat) : Int) - 1 = (i : Int) := by omega
  walk_at "sts"
  refine e_call (by exact F0) (by exact hr) (by omega) ?_
  walk_at "sts"
  rw [ei]
  refine ⟨c, b, hs, i, rfl, hs1, by omega, fun v1 s1 H2 b2 p2 g1 dd1 r1 => ?_⟩
  have hs2 := hs1.pool b2 p2
  walk_at "sts"
  refine e_call (by exact F0) (by exact hr) (by omega) ?_
  walk_at "sts"
  rw [ei]
  refine ⟨c, b, hs, i, rfl, hs2, by omega, fun v2 s2 H3 b3 p3 g2 dd2 r2 => ?_⟩
  replace g1 := g1.ts (p2.ts b3)
  have b13 := (b1.trans b2).trans b3
  have k13 := b13 c.a _ hap k1
  have once : ∀ σ, σ = [some (V.ref c.a), some (.int ((i + 1 : Nat) : Int)), some (.ref c.p), some (.int d1), some v1, some v2] → wL (cxOf CX0 P w K mg base N_sentence (Str.ofString "_law_sentence") (defScope s_sentence) f cdv A outer s H E).nox ((defBody s_sentence).drop 7) { nx := fun _ H' => Q .non H', rt := Q } σ H3 := by
    as_aux_lemma =>
      rintro σ rfl
      show wL _ (_ :: _) _ _ _
      walk_at "sts"
      refine ⟨by show 4 ≤ sizeLine; decide, fun t H5 e5 _ ht => ?_⟩
      exact q _ (.trade none s1 s2) H5 (b13.trans (But.of e5)) (p3.up e5) ⟨t, _, v1, v2, rfl, ht, rfl, g1.ts (Same.ts e5), g2.ts (Same.ts e5)⟩ (by show max (dep s1) (dep s2) + 1 ≤ _; omega) ⟨rfl, r1, r2⟩
  have many : ∀ σ, σ = [some (V.ref c.a), some (.int ((i + 1 : Nat) : Int)), some (.ref c.p), some (.int d1), some v1, some v2] → wL (cxOf CX0 P w K mg base N_sentence (Str.ofString "_law_sentence") (defScope s_sentence) f cdv A outer s H E).nox ((defBody s_sentence).drop 6) { nx := fun _ H' => Q .non H', rt := Q } σ H3 := by
    as_aux_lemma =>
      rintro σ rfl
      show wL _ (_ :: _) _ _ _
      refine l_cons (s_if (t_w (w_and (t_cmp ?_))))
      walk_at "sts"
      refine if2 (fun h4 => ?_) (fun h4 => l_nil (once _ rfl))
      refine w_and1 (t_cmp ?_)
      walk_at "sts"
      refine ix_d (by exact hr) ⟨c.a, _, rfl, dg_k k13 k3, ?_⟩
      rw [sg_s]
      refine o_inS ?_
      rw [c_s]
      exact ⟨_, rfl, iteF (l_nil (once _ rfl))⟩
  refine l_cons (s_if (t_w (w_and (t_cmp ?_))))
  walk_at "sts"
  refine if2 (fun h4 => ?_) (fun h4 => l_nil (many _ rfl))
  refine w_and1 (t_cmp ?_)
  walk_at "sts"
  refine ix_d (by exact hr) ⟨c.a, _, rfl, dg_k k13 k3, ?_⟩
  rw [sg_m]
  refine o_inS ?_
  rw [c_m]
  exact ⟨_, rfl, iteF (l_nil (many _ rfl))⟩
theorem ok_sent (T : Top K mg "_law_sentence" s_sentence) (mLen : mg "len" = none) (FX : Fn P w K mg base 1 "_law_next" spNext) : ∀ n, Fn P w K mg base (n + 2) "_law_sentence" (spSent n)
  | 0 => ok_sentS 0 T mLen FX fun m h => by cases h
  | n + 1 => ok_sentS (n + 1) T mLen FX fun m h => by cases h; exact ok_sent T mLen FX n
end



/-! ### what is handed about while growing -/
def MuV (H : Hp) (x : Key × Sn) (v : V) : Prop := ∃ a sv, v = .ref a ∧ H a = some (.lst [kV x.1, .ref sv]) ∧ SnV H (.ref sv) x.2 ∧ SnT x.2 ∧ dep x.2 ≤ 2
def MsV (H : Hp) (c : Cf) (must : List (Key × Sn)) (l : Addr) : Prop := ∃ vs, H l = some (.lst vs) ∧ Al (MuV H) must vs ∧ Fz c l
def ScV (H : Hp) (c : Cf) (l : Addr) : Prop := H l = some (.lst []) ∧ Fz c l
def BxV (H : Hp) (x : Addr) : Prop := H x = some (.tup [.int 1, .int 0, .bl false])
theorem kV_notref {k : Key} {a : Addr} : kV k ≠ .ref a := by cases k <;> (intro h; cases h)
section
variable {H H' : Hp} {c : Cf} {b : Int} {hs : List Hol}
theorem StG.mu (s : StG H c b hs) {x sv : Addr} {k : Key} (h : H x = some (.lst [kV k, .ref sv])) : Fz c x := s.fz h (fun _ _ _ z => by cases k <;> cases z) (fun _ z => by cases z) (fun hv g e => by
    have e := HO.lst.inj e
    obtain ⟨a, e2⟩ := hov_refs g (kV k) (by rw [← e]; simp)
    exact kV_notref e2) (fun e => by
    have e := HO.lst.inj e
    obtain ⟨w, e2⟩ := svs_strs (ts := hs.map (·.1)) (.ref sv) (by rw [← e]; simp)
    cases e2)
theorem MuV.gf (s : StG H c b hs) (g : Gf c H H') {x : Key × Sn} {v : V} : MuV H x v → MuV H' x v := fun ⟨a, sv, h1, h2, h3, h4⟩ => ⟨a, sv, h1, g _ _ h2 (s.mu h2), h3.ts (s.tss g), h4⟩
theorem mus_refs {must : List (Key × Sn)} {vs : List V} (h : Al (MuV H) must vs) : ∀ v ∈ vs, ∃ a, v = .ref a := fun v hm => by
  obtain ⟨i, hi, e⟩ := List.getElem_of_mem hm
  obtain ⟨x, _, a, sv, e2, _⟩ := h.get (i := i) (x := v) (by rw [List.getElem?_eq_getElem hi, e])
  exact ⟨a, e2⟩
theorem MsV.gf (s : StG H c b hs) (g : Gf c H H') {must : List (Key × Sn)} {l : Addr} : MsV H c must l → MsV H' c must l := fun ⟨vs, h1, h2, h3⟩ => ⟨vs, g _ _ h1 h3, h2.mono fun _ _ => MuV.gf s g, h3⟩
theorem ScV.gf (g : Gf c H H') {l : Addr} : ScV H c l → ScV H' c l := fun ⟨h1, h2⟩ => ⟨g _ _ h1 h2, h2⟩
theorem BxV.gf (s : StG H c b hs) (g : Gf c H H') {x : Addr} : BxV H x → BxV H' x := fun h => s.tss g _ _ h
end
def usb : Sn → Bool
  | .word _ => false | _ => true
theorem op_eqP {X : Cx} (hu : X.A.units + 64 < cLine) : OpR X (compareOp .Eq) (fun x y H Q => ∃ d e, Dp X.K H x d ∧ Dp X.K H y e ∧ d.plain = true ∧ e.plain = true ∧ d.depth ≤ 64 ∧ Q (.bl (PyData.eqv d e)) H) := by
  intro pins s σ H x y v u Q I rx ry h
  obtain ⟨d, e, hd, he, sd, se, hz, q⟩ := h
  obtain ⟨as, r1⟩ := Dp.reads I d x v hd rx
  obtain ⟨bs, r2⟩ := Dp.reads I e y u he ry
  exact PySem.SeqAt.eq_plain r1 r2 sd se (by have := Nat.min_le_left d.depth e.depth; omega) ⟨.bl _, H, I, rfl, q⟩
theorem o_eqP {X : Cx} {H : Hp} {Q : VK} {n : Nat} {x y : V} {d e : PyData} (hr : Room n X.A) (h1 : Dp X.K H x d) (h2 : Dp X.K H y e) (s1 : d.plain = true) (s2 : e.plain = true) (hz : d.depth ≤ 64) (q : Q (.bl (PyData.eqv d e)) H) : wK X .Eq x y H Q := k_of (op_eqP hr.units) ⟨d, e, h1, h2, s1, s2, hz, q⟩
theorem eqv_tup (xs ys : List PyData) : PyData.eqv (.tuple xs) (.tuple ys) = PyData.eqvAll xs ys := by rw [PyData.eqv]
theorem eqv_cons (x y : PyData) (xs ys : List PyData) : PyData.eqvAll (x :: xs) (y :: ys) = (PyData.eqv x y && PyData.eqvAll xs ys) := by rw [PyData.eqvAll]
theorem eqv_str (x y : Str) : PyData.eqv (.str x) (.str y) = (x == y) := by rw [PyData.eqv]
def mP : Option (Int × Int) → PyData
  | none => .str "once"
  | some (a, b) => .tuple [.int a, .int b]
theorem mP_dp {K : PySem.W.Frag} {H : Hp} {m : Option (Int × Int)} {v : V} (h : ModeV H v m) : Dp K H v (mP m) := by
  cases m with
  | none => rw [show v = .str "once" from h]; exact .str _
  | some p =>
    obtain ⟨a, b⟩ := p
    obtain ⟨t, rfl, ht⟩ := h
    exact .tup (SqT.of ht) (.cons (.int a) (.cons (.int b) .nil))
theorem mP_plain (m : Option (Int × Int)) : (mP m).plain = true ∧ (mP m).depth ≤ 1 := by
  cases m with
  | none => exact ⟨rfl, Nat.zero_le _⟩
  | some p => exact ⟨rfl, Nat.le_refl _⟩
theorem mP_inj {a b : Option (Int × Int)} (h : PyData.eqv (mP a) (mP b) = true) : a = b := by
  cases a with
  | none => cases b with
    | none => rfl
    | some p => obtain ⟨x, y⟩ := p; cases h
  | some p =>
    obtain ⟨x, y⟩ := p
    cases b with
    | none => cases h
    | some q =>
      obtain ⟨z, t⟩ := q
      simp [mP, PyData.eqv, PyData.eqvAll] at h
      simp [h]
/-! ### equality of sentences -/
def snP : Sn → PyData
  | .word z => .tuple [.str "word", .str z]
  | .menu l r => .tuple [.str "menu", snP l, snP r]
  | .trade k p g => .tuple [.str "trade", mP k, snP p, snP g]
theorem snP_dp {K : PySem.W.Frag} {H : Hp} : ∀ {s : Sn} {v : V}, SnV H v s → Dp K H v (snP s)
  | .word z, _, ⟨t, h1, h2⟩ => by rw [h1]; exact .tup (SqT.of h2) (.cons (.str _) (.cons (.str _) .nil))
  | .menu l r, _, ⟨t, a, b, h1, h2, h3, h4⟩ => by rw [h1]; exact .tup (SqT.of h2) (.cons (.str _) (.cons (snP_dp h3) (.cons (snP_dp h4) .nil)))
  | .trade k p g, _, ⟨t, m, a, b, h1, h2, h5, h3, h4⟩ => by rw [h1]; exact .tup (SqT.of h2) (.cons (.str _) (.cons (mP_dp h5) (.cons (snP_dp h3) (.cons (snP_dp h4) .nil))))
theorem snP_plain : ∀ s : Sn, (snP s).plain = true ∧ (snP s).depth ≤ dep s + 2
  | .word z => ⟨rfl, by show PyData.depthAll _ + 1 ≤ _; simp [PyData.depthAll, PyData.depth]⟩
  | .menu l r => by
    obtain ⟨a1, a2⟩ := snP_plain l
    obtain ⟨b1, b2⟩ := snP_plain r
    refine ⟨by simp [snP, PyData.plain, PyData.plainAll, a1, b1], ?_⟩
    simp only [snP, PyData.depth, PyData.depthAll, dep]
    omega
  | .trade k p g => by
    obtain ⟨a1, a2⟩ := snP_plain p
    obtain ⟨b1, b2⟩ := snP_plain g
    obtain ⟨c1, c2⟩ := mP_plain k
    refine ⟨by simp [snP, PyData.plain, PyData.plainAll, a1, b1, c1], ?_⟩
    simp only [snP, PyData.depth, PyData.depthAll, dep]
    omega
theorem snP_inj : ∀ {s u : Sn}, PyData.eqv (snP s) (snP u) = true → s = u
  | .word x, .word y, h => by
    simp only [snP, eqv_tup, eqv_cons, eqv_str, Bool.and_eq_true, beq_iff_eq] at h
    rw [h.2.1]
  | .menu a b, .menu c d, h => by
    simp only [snP, eqv_tup, eqv_cons, eqv_str, Bool.and_eq_true, beq_iff_eq] at h
    rw [snP_inj h.2.1, snP_inj h.2.2.1]
  | .trade k a b, .trade m c d, h => by
    simp only [snP, eqv_tup, eqv_cons, eqv_str, Bool.and_eq_true, beq_iff_eq] at h
    rw [mP_inj h.2.1, snP_inj h.2.2.1, snP_inj h.2.2.2.1]
  | .word _, .menu _ _, h => by
    simp only [snP, eqv_tup, eqv_cons, eqv_str, Bool.and_eq_true, beq_iff_eq] at h
    exact absurd h.1 (by decide +kernel)
  | .word _, .trade _ _ _, h => by
    simp only [snP, eqv_tup, eqv_cons, eqv_str, Bool.and_eq_true, beq_iff_eq] at h
    exact absurd h.1 (by decide +kernel)
  | .menu _ _, .word _, h => by
    simp only [snP, eqv_tup, eqv_cons, eqv_str, Bool.and_eq_true, beq_iff_eq] at h
    exact absurd h.1 (by decide +kernel)
  | .menu _ _, .trade _ _ _, h => by
    simp only [snP, eqv_tup, eqv_cons, eqv_str, Bool.and_eq_true, beq_iff_eq] at h
    exact absurd h.1 (by decide +kernel)
  | .trade _ _ _, .word _, h => by
    simp only [snP, eqv_tup, eqv_cons, eqv_str, Bool.and_eq_true, beq_iff_eq] at h
    exact absurd h.1 (by decide +kernel)
  | .trade _ _ _, .menu _ _, h => by
    simp only [snP, eqv_tup, eqv_cons, eqv_str, Bool.and_eq_true, beq_iff_eq] at h
    exact absurd h.1 (by decide +kernel)
theorem o_eqSn {X : Cx} {H : Hp} {Q : VK} {n : Nat} {x y : V} {s u : Sn} (hr : Room n X.A) (h1 : SnV H x s) (h2 : SnV H y u) (hd : dep s ≤ 60) (q : Q (.bl (decide (s = u))) H) : wK X .Eq x y H Q := by
  refine o_eqP hr (snP_dp h1) (snP_dp h2) (snP_plain s).1 (snP_plain u).1 (by have := (snP_plain s).2; omega) ?_
  have e : PyData.eqv (snP s) (snP u) = decide (s = u) := by
    as_aux_lemma =>
      by_cases h : s = u
      · rw [decide_eq_true h, h]; exact PySem.SeqAt.eqv_refl_plain _ (snP_plain u).1
      · rw [decide_eq_false h]
        cases hb : PyData.eqv (snP s) (snP u) with
        | false => rfl
        | true => exact absurd (snP_inj hb) h
  rw [e]
  exact q



section
variable {P : Program} {w : World} {K : PySem.W.Frag} {mg : Str → Option Value} {base : Heap}
def spUsable : Sp := fun vs H Q _ => ∃ c b hs sv sn bx, vs = [.ref c.a, .ref sv, .ref bx] ∧ StG H c b hs ∧ SnV H (.ref sv) sn ∧ SnT sn ∧ ∀ H', Same H H' → Q (.bl (usb sn)) H'
theorem ok_usable (T : Top K mg "_law_usable" s_usable) (mL : mg "len" = none) : Fn P w K mg base 1 "_law_usable" spUsable := by
  refine fn_ok T sc_usable so_usable (fun vs H Q E h => by obtain ⟨c, b, hs, sv, sn, bx, rfl, _⟩ := h; rfl) (fun _ _ _ _ _ _ us hl => match us, hl with | [_, _, _], _ => rfl) fun f cdv A outer s H vs Q E hr h nd => ?_
  obtain ⟨c, b, hs, sv, sn, bx, rfl, hst, hsn, hso, q⟩ := h
  obtain ⟨kvs, k1, _, _, _, k5, _⟩ := hst.d
  cases sn with
  | word z =>
    obtain ⟨t, e, ht⟩ := hsn
    cases e
    refine l_cons (s_if (t_cmp (e_ix (e_var (e_int (ix_t (by exact SqT.of ht) at0 (e_str (o_eqS ⟨_, rfl, ?_⟩))))))))
    rw [decide_eq_true rfl]
    refine iteT (l_cons (s_ret (e_cmp (e_callB (x := "len") (by assumption) b_len (a_cons (e_ix (e_dget2 (by exact hr) (e_dg (by exact hr) (e_var (e_str ⟨c.a, .ref c.rl, rfl, dg_k k1 k5, ?_⟩))))))))))
    refine ⟨c.rl, rfl, .inl ⟨_, .inl hst.rl⟩, e_ix (e_var (e_int (ix_t (by exact SqT.of ht) at1 ?_)))⟩
    refine e_tup (a_cons (e_lst (a_nil ⟨by show 0 ≤ sizeLine; decide, fun l1 H1 e1 n1 h1 => a_cons (e_lst (a_nil ⟨by show 0 ≤ sizeLine; decide, fun l2 H2 e2 n2 h2 => a_nil ⟨by show 2 ≤ sizeLine; decide, fun t3 H3 e3 n3 h3 => ?_⟩⟩))⟩)))
    have e03 := (e1.trans e2).trans e3
    refine ⟨_, dg_K (k := .inr z) (e03 _ _ hst.rl), ?_⟩
    rw [show valV ([] : List (Key × V)) (.inr z) = none from rfl]
    refine e_int (ix_t (by exact SqT.of h3) at1 (a_nil (c_lenL (by exact SqL.of (e3 _ _ h2)) (e_int (o_gt ?_)))))
    exact q H3 e03
  | menu a b' => exact hso.elim
  | trade kd p g =>
    obtain ⟨t, mv, x, y, e, ht, hmv, hx, hy⟩ := hsn
    cases e
    obtain ⟨rfl, _, _⟩ := hso
    refine l_cons (s_if (t_cmp (e_ix (e_var (e_int (ix_t (by exact SqT.of ht) at0 (e_str (o_eqS ⟨_, rfl, ?_⟩))))))))
    rw [decide_eq_false (by decide +kernel)]
    refine iteF (l_nil (l_cons (s_ret (e_or (e_cmp (e_ix (e_var (e_int (ix_t (by exact SqT.of ht) at0 (e_str (o_eqS ⟨_, rfl, ?_⟩)))))))))))
    rw [decide_eq_false (by decide +kernel)]
    refine iteF (e_or (e_cmp (e_ix (e_var (e_int (ix_t (by exact SqT.of ht) at1 (e_str (o_onceM (m := none) (by exact hr) hmv ⟨_, rfl, ?_⟩))))))))
    exact iteT (q H (Same.refl H))
theorem rws_dep : ∀ s : Sn, rws s < 2 ^ (dep s + 1)
  | .word _ => by show 1 < 2; decide
  | .menu l r => by
    have h1 := rws_dep l
    have h2 := rws_dep r
    have e1 : 2 ^ (dep l + 1) ≤ 2 ^ (max (dep l) (dep r) + 1) := Nat.pow_le_pow_right (by decide) (by omega)
    have e2 : 2 ^ (dep r + 1) ≤ 2 ^ (max (dep l) (dep r) + 1) := Nat.pow_le_pow_right (by decide) (by omega)
    have e3 : 2 ^ (max (dep l) (dep r) + 1 + 1) = 2 * 2 ^ (max (dep l) (dep r) + 1) := by rw [Nat.pow_succ, Nat.mul_comm]
    show rws l + rws r + 1 < 2 ^ (max (dep l) (dep r) + 1 + 1)
    omega
  | .trade _ l r => by
    have h1 := rws_dep l
    have h2 := rws_dep r
    have e1 : 2 ^ (dep l + 1) ≤ 2 ^ (max (dep l) (dep r) + 1) := Nat.pow_le_pow_right (by decide) (by omega)
    have e2 : 2 ^ (dep r + 1) ≤ 2 ^ (max (dep l) (dep r) + 1) := Nat.pow_le_pow_right (by decide) (by omega)
    have e3 : 2 ^ (max (dep l) (dep r) + 1 + 1) = 2 * 2 ^ (max (dep l) (dep r) + 1) := by rw [Nat.pow_succ, Nat.mul_comm]
    show rws l + rws r + 1 < 2 ^ (max (dep l) (dep r) + 1 + 1)
    omega
theorem rws2 {s : Sn} (h : dep s ≤ 2) : rws s ≤ 7 := by
  have h1 := rws_dep s
  have e1 : 2 ^ (dep s + 1) ≤ 2 ^ 3 := Nat.pow_le_pow_right (by decide) (by omega)
  omega
theorem c_s' : decide (115 ∈ (Str.ofString "c").cps.toList) = false := by decide +kernel
def spHold : Sp := fun vs H Q _ => ∃ c b hs sv sn bx, vs = [.ref c.a, .ref sv, .ref bx] ∧ StG H c b hs ∧ SnV H (.ref sv) sn ∧ SnT sn ∧ dep sn ≤ 44 ∧ rws sn ≤ 400 ∧ BxV H bx ∧ hs.length ≤ 50 ∧ ∀ z H', Gf c H H' → StG H' c b (hs ++ [(z, sn)]) → Q (.str z) H'
theorem ok_hold (T : Top K mg "_law_hold" s_hold) (mL : mg "len" = none) (FN : Fn P w K mg base 1 "_law_next" spNext) (FM : Fn P w K mg base 2 "_law_name" spName) : Fn P w K mg base 3 "_law_hold" spHold := by
  refine fn_okC T sc_hold so_hold (fun vs H Q E h => by obtain ⟨c, b, hs, sv, sn, bx, rfl, _⟩ := h; rfl) (fun _ _ _ _ _ _ us hl => match us, hl with | [_, _, _], _ => rfl) fun f cdv A outer s H vs Q E hr h nd => ?_
  obtain ⟨c, b, hs, sv, sn, bx, rfl, hst, hsn, hso, hsd, hrw, hb, hhl, q⟩ := h
  obtain ⟨kvs, k1, kp, kf, kw, kr, ke, kh, kt, _⟩ := hst.d
  have hne := hst.ne
  refine l_cons (s_set (e_dg (by exact hr) (e_var (e_str ⟨c.a, .ref c.p, rfl, dg_k k1 kp, ?_⟩))))
  show wL _ _ _ [some (.ref c.a), some (.ref sv), some (.ref bx), some (.ref c.p), none, none, none, none, none] _
  obtain ⟨hv, hh1, hh2⟩ := hst.hl
  refine l_cons (s_lcLf (by exact bk_hold0) (e_dg (by exact hr) (e_var (e_str ⟨c.a, .ref c.hd, rfl, dg_k k1 kh, ?_⟩))))
  refine ⟨c.hd, hv, rfl, SqL.of hh1, fun D nD => ⟨fun j H' => H' D = some (.lst []) ∧ ∀ y o, y ≠ D → H y = some o → H' y = some o, ⟨upd_same, fun y o n hy => by rw [upd_ne n]; exact hy⟩, ?_, ?_, ?_⟩⟩
  · rintro j H' _ ⟨_, keep⟩
    exact SqL.of (keep _ _ (ne_fresh nD hh1).symm hh1)
  · rintro j x H' hx ⟨hD, keep⟩ s0 H0 C cl fp IB
    obtain ⟨hol, hho, a, sv', rfl, hxa, hxs, _, hxd⟩ := hh2.get hx
    have hxa' := keep a _ (ne_fresh nD hxa).symm hxa
    refine t_w (w_and (t_cmp (e_ix (b_var (e_int (ix_l (by exact SqL.of hxa') at1 (e_str (o_eqS ⟨_, rfl, ?_⟩))))))))
    rw [decide_eq_false (by decide +kernel)]
    exact iteF (iteF ⟨hD, keep⟩)
  rintro H1 ⟨hD, keep⟩
  have e1 : Same H H1 := fun y o hy => keep y o (ne_fresh nD hy).symm hy
  have hs1 := hst.same e1
  have ka1 := e1 _ _ k1
  show wL _ _ _ [some (.ref c.a), some (.ref sv), some (.ref bx), some (.ref c.p), some (.ref D), none, none, none, none] _
  refine l_cons (s_if (t_w (w_and (t_tru (e_var ⟨_, tru_l hD, ?_⟩)))))
  refine iteF (iteF (l_nil ?_))
  refine l_cons (s_set (e_str ?_))
  refine l_cons (s_if (t_w (w_and (t_not (t_val (e_ix (e_var (e_int (ix_t (by exact SqT.of (e1 _ _ hb)) (atI_nat (j := 2) rfl) ⟨_, rfl, ?_⟩)))))))))
  refine iteT (w_and1 (t_w (w_or (t_cmp (e_str (e_dg (by exact hr) (e_var (e_str ⟨c.a, .str "c", rfl, dg_k ka1 kf, ?_⟩))))))))
  rw [sg_s]
  refine k_of op_notIn_sign ⟨115, _, rfl, rfl, ⟨_, rfl, ?_⟩⟩
  rw [c_s']
  refine iteT (l_cons (s_set (e_str (l_nil ?_))))
  show wL _ _ _ [some (.ref c.a), some (.ref sv), some (.ref bx), some (.ref c.p), some (.ref D), some (.str "once"), none, none, none] _
  refine l_cons (s_set (e_call (by exact FM) (by exact hr) (by decide) (a_cons (e_var (a_cons (e_dg (by exact hr) (e_var (e_str ⟨c.a, .ref c.tk, rfl, dg_k ka1 kt, a_nil ?_⟩))))))))
  refine ⟨c.p, c.tk, hs.map (·.1), rfl, hs1.pl, hne.2.2.2.2.2.1.symm, hs1.tl, by rw [List.length_map]; omega, fun z H3 hzo b3 p3 h3 => ?_⟩
  have ka3 := b3 c.a _ hne.1.symm (by grind) ka1
  obtain ⟨hv1, hh3, hho3⟩ := hs1.hl
  have hh3' := b3 c.hd _ (by grind) (by grind) hh3
  refine l_cons (s_set (e_dg (by exact hr) (e_var (e_str ⟨c.a, .ref c.hd, rfl, dg_k ka3 kh, ?_⟩))))
  refine l_cons (s_expr (e_app (e_var ⟨c.hd, _, rfl, SqL.of hh3', e_lst (a_cons (e_var (a_cons (e_var (a_cons (e_var (a_nil ?_)))))))⟩)))
  refine ⟨by show 3 ≤ sizeLine; decide, fun r4 H4 e4 n4 h4 => ?_⟩
  have lh3 := hho3.len
  refine ⟨hv1, e4 _ _ hh3', by show _ < 2 ^ 24; omega, ?_⟩
  have g1 : Gf c H1 H4 := Gf.trans (fun x o h z => b3 x o z.p z.t h) (Gf.same e4)
  have hsn4 := (hsn.ts (Same.ts e1)).ts (hs1.tss g1)
  obtain ⟨g5, s5⟩ := hs1.hold b3 p3 (z := z) h3 hzo (by omega) e4 (e4 _ _ hh3') (sn := sn) (v := .ref r4) ⟨r4, sv, rfl, h4, hsn4, hso, hsd, hrw⟩
  exact l_cons (s_ret (e_var (q z _ ((Gf.same e1).trans g5) s5)))
end



section
variable {X : Cx} {elt c a : Expr} {σ : L2.St} {H : Hp} {pos : Pos} {N G G' : List Str} {Vn : List (Nat × Str)} {sc scope : Scope}
theorem s_lcDf {nx : L2.St → Hp → Prop} {rt : VK} {bk ct : L2.St → Hp → Prop} {i j : Nat} {x y : Str} {px py spos : Pos} {ad : Addr} {kvs : List (Key × V)} (B : BkOk X.N Vn G' i x sc scope) (hd : H ad = some (.dK kvs))
    (q : ∀ o, wE X a σ (upd H ad (.frz o (.dK kvs))) fun v H1 => v = .ref ad ∧ H1 ad = some (.frz o (.dK kvs)) ∧ ∀ D, H1 D = none → LcDf X Vn G' elt c scope i ad o kvs D σ H1 fun H2 => H2 ad = some (.frz o (.dK kvs)) ∧ nx (σ.set j (some (.ref D))) (upd H2 ad (.dK kvs)))
    (I : In X N G sc := by assumption) (hc : X.calm = true := by rfl) (hA : At N j y := by repeat (first | with_reducible apply At.z | with_reducible apply At.s))
    (hk : X.env.scope.kind = .function := by rfl) (hy : X.env.scope.names.lookup y = some .local := by rfl) (hl : (py.line == pos.line) = true := by rfl) (ha : (scope.names.any fun (n, k) => n == y && (k == .local || k == .cell)) = false := by decide +kernel) (hs2 : ∀ z, foldedSetIterable a X.env z = pure z := by intro _; rfl) :
    wS X (.Assign [.Name y py] (.ListComp elt [⟨.Name x px, a, [c], 0⟩] scope pos) spos) ⟨nx, rt, bk, ct⟩ σ H := by
  refine s_of (ps_lock (ps_setLc (own := [(x, i)]) (g := gName i) (tt := wBkT X Vn G' c scope) (te := wBk X Vn G' elt scope) hc I.nd (I.hi hA) hy (sw_true hk hy hl ha) (pi_keys pe) (B.ok I) (fun s H C cl fp => B.pg I s H C cl fp) (fun s H C cl fp => pts_bk (B.inB I s H C cl fp)) (fun s H C cl fp => pe_bk (B.inB I s H C cl fp)) hs2)) ?_
  refine ⟨ad, .dK kvs, hd, trivial, fun o => e_mono (q o) fun v H1 q1 => ?_⟩
  obtain ⟨rfl, h1, q2⟩ := q1
  exact ⟨ad, o, rfl, .inl ⟨kvs, h1, fun D hD => lcDf_of (q2 D hD)⟩⟩
end
/-! ### how large what grows may be -/
structure GrP (t : D) (n : Nat) (b b' : Int) (q w : Nat) (hs hs' : List Hol) : Prop where
  s : sz t + 12 * b'.toNat ≤ 12 * b.toNat + 1 + 2 * q + 4 * w
  d : dp t ≤ 2 * n + q
  h : hs'.length + 3 * b'.toNat ≤ hs.length + 3 * b.toNat + 1 + w
  l : b'.toNat ≤ b.toNat
  o : DOk t
/-- what a call that grows is given -/
structure GIn (H : Hp) (c : Cf) (b : Int) (hs : List Hol) (gs : Addr) (g : Sn) (must : List (Key × Sn)) (ml sl bx : Addr) (w : Nat) : Prop where
  st : StG H c b hs
  gv : SnV H (.ref gs) g
  go : SnT g
  gd : dep g ≤ 2
  ms : MsV H c must ml
  sc : ScV H c sl
  bx : BxV H bx
  h : hs.length + 3 * b.toNat + w ≤ 50
theorem GIn.to {H H' : Hp} {c : Cf} {b b' : Int} {hs hs' : List Hol} {gs : Addr} {g : Sn} {must : List (Key × Sn)} {ml sl bx : Addr} {w w' : Nat} (x : GIn H c b hs gs g must ml sl bx w) (e : Gf c H H') (s : StG H' c b' hs') (h : hs'.length + 3 * b'.toNat + w' ≤ 50) : GIn H' c b' hs' gs g must ml sl bx w' :=
  ⟨s, x.gv.ts (x.st.tss e), x.go, x.gd, x.ms.gf x.st e, x.sc.gf e, x.bx.gf x.st e, h⟩
/-- the chain of a closing -/
def chS (g : Sn) : List (Key × Sn) → Sn
  | [] => g
  | x :: l => .trade none x.2 (chS g l)
theorem chS_dep (g : Sn) : ∀ l : List (Key × Sn), (∀ x ∈ l, dep x.2 ≤ 2) → dep g ≤ 2 → dep (chS g l) ≤ 2 + l.length
  | [], _, h => h
  | x :: l, h, hg => by
    have h1 := chS_dep g l (fun y hy => h y (List.mem_cons_of_mem _ hy)) hg
    have h2 := h x (List.mem_cons_self ..)
    simp only [chS, dep, List.length_cons]
    omega
theorem chS_ok (g : Sn) : ∀ l : List (Key × Sn), (∀ x ∈ l, SnT x.2) → SnT g → SnT (chS g l)
  | [], _, h => h
  | x :: l, h, hg => ⟨rfl, h x (List.mem_cons_self ..), chS_ok g l (fun y hy => h y (List.mem_cons_of_mem _ hy)) hg⟩
theorem chS_rws (g : Sn) : ∀ l : List (Key × Sn), (∀ x ∈ l, dep x.2 ≤ 2) → dep g ≤ 2 → rws (chS g l) ≤ 7 + 8 * l.length
  | [], _, h => by have := rws2 h; show rws g ≤ _; omega
  | x :: l, h, hg => by
    have h1 := chS_rws g l (fun y hy => h y (List.mem_cons_of_mem _ hy)) hg
    have h2 := rws2 (h x (List.mem_cons_self ..))
    simp only [chS, rws, List.length_cons]
    omega
/-- the rows of a closing: what is paid, and with what -/
def clD (r : Key) : List (Key × Key) → D
  | [] => .own r
  | x :: l => .py x.1 (.own x.2) (clD r l)
theorem clD_sz (r : Key) : ∀ l, sz (clD r l) = 2 * l.length + 1 ∧ dp (clD r l) = l.length ∧ DOk (clD r l)
  | [] => ⟨rfl, rfl, trivial⟩
  | x :: l => by
    obtain ⟨h1, h2, h4⟩ := clD_sz r l
    refine ⟨?_, ?_, trivial, h4⟩ <;> simp only [clD, sz, dp, List.length_cons] <;> omega
section
variable {P : Program} {w : World} {K : PySem.W.Frag} {mg : Str → Option Value} {base : Heap}
def spClose : Sp := fun vs H Q _ => ∃ c b hs gs g must ml sl, ∃ l : Int, ∃ bx, vs = [.ref c.a, .ref gs, .ref ml, .ref sl, .int l, .ref bx] ∧ GIn H c b hs gs g must ml sl bx 0 ∧ must.length ≤ 40 ∧ ∀ v t hs' H', Gf c H H' → StG H' c b hs' → DV H' t v → sz t ≤ 2 * must.length + 1 → dp t ≤ must.length → DOk t → hs'.length ≤ hs.length + 1 → Q v H'
theorem ok_close (T : Top K mg "_law_close" s_close) (mL : mg "len" = none) (mRv : mg "reversed" = none) (mR : mg "range" = none) (FN : Fn P w K mg base 1 "_law_next" spNext) (FH : Fn P w K mg base 3 "_law_hold" spHold) : Fn P w K mg base 4 "_law_close" spClose := by
  refine fn_okC T sc_close so_close (fun vs H Q E h => by obtain ⟨c, b, hs, gs, g, must, ml, sl, l, bx, rfl, _⟩ := h; rfl) (fun _ _ _ _ _ _ us hl => match us, hl with | [_, _, _, _, _, _], _ => rfl) fun f cdv A outer s H vs Q E hr h nd => ?_
  obtain ⟨c, b, hs, gs, g, must, ml, sl, l, bx, rfl, ⟨hst, hgv, hgo, hgd, hms, hsc, hbx, hhl⟩, hq, q⟩ := h
  obtain ⟨kvs, k1, kp, kf, kw, kr, ke, kh, kt, _⟩ := hst.d
  have hne := hst.ne
  obtain ⟨vm, hml, hmu, fml⟩ := id hms
  have lvm := hmu.len
  refine l_cons (s_set (e_dg (by exact hr) (e_var (e_str ⟨c.a, .ref c.p, rfl, dg_k k1 kp, ?_⟩))))
  show wL _ _ _ [some (.ref c.a), some (.ref gs), some (.ref ml), some (.ref sl), some (.int l), some (.ref bx), some (.ref c.p), none, none, none, none, none, none, none, none, none, none] _
  -- one row
  have own : ∀ (r : Key) (hs' : List Hol) (H1 : Hp) (tp : Addr), Gf c H H1 → StG H1 c b hs' → hs'.length ≤ hs.length + 1 → H1 tp = some (.tup [.str "own", kV r]) → Q (.ref tp) H1 := fun r hs' H1 tp g1 s1 h2 h3 =>
    q _ (.own r) hs' H1 g1 s1 ⟨tp, rfl, h3⟩ (by show 1 ≤ _; omega) (Nat.zero_le _) trivial h2
  have rest : ∀ (H0 : Hp), H0 = H → (must.length = 0 ∨ 0 < must.length) → wL (cxOf CX0 P w K mg base (N_close ++ C_close) (Str.ofString "_law_close") (defScope s_close) f cdv A outer s H E).nox ((defBody s_close).drop 2) { nx := fun _ H' => Q .non H', rt := Q } [some (.ref c.a), some (.ref gs), some (.ref ml), some (.ref sl), some (.int l), some (.ref bx), some (.ref c.p), none, none, none, none, none, none, none, none, none, none] H := by
    as_aux_lemma =>
      intro H0 _ hcase
      refine l_cons (s_if (t_not (t_tru (e_var ⟨_, tru_l hml, ?_⟩))))
      rcases hcase with h0 | h0
      · -- nothing must be used
        have hv0 : vm = [] := List.eq_nil_of_length_eq_zero (by omega)
        subst hv0
        refine iteT (l_cons (s_lcDf (by exact bk_close0) hst.en fun o => e_dg (by exact hr) (e_var (e_str ⟨c.a, .ref c.en, rfl, dg_k (by rw [upd_ne hne.2.2.2.2.2.2.2.2.1]; exact k1) ke, ?_⟩))))
        refine ⟨rfl, upd_same, fun D nD => ⟨fun k H' => k = 0 ∧ H' D = some (.lst []) ∧ H' c.en = some (.frz o (.dK [])) ∧ ∀ y u, y ≠ D → y ≠ c.en → H y = some u → H' y = some u, ?_, ?_, ?_, ?_⟩⟩
        · refine ⟨rfl, upd_same, ?_, fun y u n1 n2 hy => by rw [upd_ne n1, upd_ne n2]; exact hy⟩
          rw [upd_ne (fun z => by rw [← z, upd_same] at nD; cases nD)]; exact upd_same
        · rintro k H' _ ⟨_, _, h, _⟩; exact h
        · intro k y v H' hk; cases hk
        rintro H1 ⟨_, hD1, hen1, keep1⟩
        refine ⟨hen1, ?_⟩
        have nDe : D ≠ c.en := fun z => by rw [z, upd_same] at nD; cases nD
        have nDH : H D = none := by rw [upd_ne nDe] at nD; exact nD
        have e1 : Same H (upd H1 c.en (.dK [])) := fun y u hy => by
          by_cases hyc : y = c.en
          · rw [hyc, upd_same]; rw [hyc, hst.en] at hy; exact hy
          · rw [upd_ne hyc]; exact keep1 y u (ne_fresh nDH hy).symm hyc hy
        have hD2 : upd H1 c.en (.dK []) D = some (.lst []) := by rw [upd_ne nDe]; exact hD1
        generalize upd H1 c.en (.dK []) = H2 at e1 hD2
        have s2 := hst.same e1
        have g2 : Gf c H H2 := Gf.same e1
        have hsl := (hsc.gf g2).1
        refine l_cons (s_lcLf (by exact bk_close1) (e_var ⟨sl, [], rfl, SqL.of hsl, fun D2 nD2 => ⟨fun j H' => H' D2 = some (.lst []) ∧ ∀ y o, y ≠ D2 → H2 y = some o → H' y = some o, ⟨upd_same, fun y o n hy => by rw [upd_ne n]; exact hy⟩, ?_, ?_, ?_⟩⟩))
        · rintro j H' _ ⟨_, keep⟩
          exact SqL.of (keep _ _ (ne_fresh nD2 hsl).symm hsl)
        · rintro j x H' hx; cases hx
        rintro H3 ⟨hA, keep⟩
        have e23 : Same H2 H3 := fun y o hy => keep y o (ne_fresh nD2 hy).symm hy
        have s3 := s2.same e23
        have g3 := g2.trans (Gf.same (c := c) e23)
        refine l_cons (s_set (e_call (by exact FN) (by exact hr) (by decide) (a_cons (e_var (a_cons (e_int (a_nil ?_)))))))
        refine ⟨c.p, 4, rfl, by decide, by decide, s3.pl, fun d4 H4 f0 f1 b4 p4 => ?_⟩
        have s4 := s3.pool b4 p4
        have g4 := g3.trans (Gf.pool b4)
        have nDp : D ≠ c.p := (hst.new nDH).p
        have nD2p : D2 ≠ c.p := (s2.new nD2).p
        have hD4 := b4 D _ nDp (e23 _ _ hD2)
        have hA4 := b4 D2 _ nD2p hA
        show wL _ _ _ [some (.ref c.a), some (.ref gs), some (.ref ml), some (.ref sl), some (.int l), some (.ref bx), some (.ref c.p), some (.ref D), none, some (.ref D2), some (.int d4), none, none, none, none, none, none] _
        refine l_cons (s_if (t_w (w_and (t_tru (e_var ⟨_, tru_l hD4, ?_⟩)))))
        refine iteF (iteF (l_nil ?_))
        refine l_cons (s_if (t_w (w_and (t_tru (e_var ⟨_, tru_l hA4, ?_⟩)))))
        refine iteF (iteF (l_nil ?_))
        refine l_cons (s_ret (e_tup (a_cons (e_str (a_cons (e_call (by exact FH) (by exact hr) (by decide) (a_cons (e_var (a_cons (e_var (a_cons (e_var (a_nil ?_)))))))))))))
        refine ⟨c, b, hs, gs, g, bx, rfl, s4, hgv.ts (hst.tss g4), hgo, by omega, by have := rws2 hgd; omega, hbx.gf hst g4, by omega, fun z H6 g6 s6 => a_nil ?_⟩
        refine ⟨by show 2 ≤ sizeLine; decide, fun tp H7 e7 n7 h7 => ?_⟩
        exact own (.inr z) _ H7 tp ((g4.trans g6).trans (Gf.same e7)) (s6.same e7) (by simp) h7
      · -- the chain
        have hne0 : vm.isEmpty = false := by cases vm with
          | nil => simp at lvm; omega
          | cons a l => rfl
        rw [hne0]
        refine iteF (l_nil (l_cons (s_set (e_var ?_))))
        show wL _ _ _ [some (.ref c.a), some (.ref gs), some (.ref ml), some (.ref sl), some (.int l), some (.ref bx), some (.ref c.p), none, none, none, none, some (.ref gs), none, none, none, none, none] _
        have hmem : ∀ x ∈ must, SnT x.2 ∧ dep x.2 ≤ 2 := fun x hx => by
          obtain ⟨i, hi, ei⟩ := List.getElem_of_mem hx
          have hi2 : i < vm.length := by omega
          obtain ⟨x', hx', a, sv, _, _, _, h4, h5⟩ := hmu.get (i := i) (x := vm[i]) (List.getElem?_eq_getElem hi2)
          rw [List.getElem?_eq_getElem hi, ei] at hx'
          cases hx'
          exact ⟨h4, h5⟩
        have hdr : ∀ k, k ≤ vm.length → (must.drop (vm.length - k)).length = k := fun k hk => by rw [List.length_drop]; omega
        refine l_cons (s_forRv (by assumption) (e_var ⟨ml, vm, rfl, SqL.of hml, fun k σ H' => ∃ ch x12, σ = [some (.ref c.a), some (.ref gs), some (.ref ml), some (.ref sl), some (.int l), some (.ref bx), some (.ref c.p), none, none, none, none, some (.ref ch), x12, none, none, none, none] ∧ Same H H' ∧ SnV H' (.ref ch) (chS g (must.drop (vm.length - k))), ⟨gs, none, rfl, Same.refl _, by rw [Nat.sub_zero, List.drop_of_length_le (by omega)]; exact hgv⟩, ?_, ?_, ?_⟩))
        · rintro k σ H' _ ⟨ch, x12, rfl, e, _⟩
          exact SqL.of (e _ _ hml)
        · rintro k y σ H' hy ⟨ch, x12, rfl, e, hch⟩
          have hk : k < vm.length := by
            have := (List.getElem?_eq_some_iff.mp hy).1
            rwa [List.length_reverse] at this
          rw [List.getElem?_reverse hk] at hy
          obtain ⟨x, hx, a, sv, rfl, ha, hsv, _, _⟩ := hmu.get hy
          show wL _ _ _ [some (.ref c.a), some (.ref gs), some (.ref ml), some (.ref sl), some (.int l), some (.ref bx), some (.ref c.p), none, none, none, none, some (.ref ch), some (.ref a), none, none, none, none] _
          refine l_cons (s_set (e_tup (a_cons (e_str (a_cons (e_str (a_cons (e_ix (e_var (e_int (ix_l (by exact SqL.of (e _ _ ha)) at1 (a_cons (e_var (a_nil ?_))))))))))))))
          refine ⟨by show 4 ≤ sizeLine; decide, fun ch' H2 e2 n2 h2 => l_nil ⟨ch', _, rfl, e.trans e2, ?_⟩⟩
          have hd : must.drop (vm.length - (k + 1)) = x :: must.drop (vm.length - k) := by
            as_aux_lemma =>
              have hi := (List.getElem?_eq_some_iff.mp hx)
              obtain ⟨hi1, hi2⟩ := hi
              have e1 : vm.length - (k + 1) = vm.length - 1 - k := by omega
              rw [e1, List.drop_eq_getElem_cons hi1, hi2]
              congr 2
              omega
          rw [hd]
          exact ⟨ch', .str "once", _, _, rfl, h2, rfl, (hsv.ts (Same.ts e)).ts (Same.ts e2), hch.ts (Same.ts e2)⟩
        rintro σ H1 ⟨ch, x12, rfl, e1, hch⟩
        rw [Nat.sub_self, List.drop_zero] at hch
        have s1 := hst.same e1
        have g1 : Gf c H H1 := Gf.same e1
        have hdep := chS_dep g must (fun x hx => (hmem x hx).2) hgd
        -- the references
        refine l_cons (s_set (e_bin (e_lst (a_cons (e_call (by exact FH) (by exact hr) (by decide) (a_cons (e_var (a_cons (e_var (a_cons (e_var (a_nil ?_))))))))))))
        refine ⟨c, b, hs, ch, chS g must, bx, rfl, s1, hch, chS_ok g must (fun x hx => (hmem x hx).1) hgo, by omega, by have := chS_rws g must (fun x hx => (hmem x hx).2) hgd; omega, hbx.gf hst g1, by omega, fun z H2 g2 s2 => a_nil ?_⟩
        refine ⟨by show 1 ≤ sizeLine; decide, fun lr H3 e3 n3 h3 => ?_⟩
        have g3 := (g1.trans g2).trans (Gf.same e3)
        have s3 := s2.same e3
        obtain ⟨vm3, hml3, hmu3, _⟩ := hms.gf hst g3
        have lvm3 := hmu3.len
        refine e_lcR (by exact bk_close2) (by assumption) (e_callB (x := "len") (by assumption) b_len (a_cons (e_var (a_nil (c_lenL (by exact SqL.of hml3) ?_)))))
        refine ⟨vm3.length, rfl, by omega, fun D nD => ⟨fun k H' => H' D = some (.lst ((List.range k).map fun (j : Nat) => V.int (l + (j : Int)))) ∧ ∀ y o, y ≠ D → H3 y = some o → H' y = some o, ⟨upd_same, fun y o n hy => by rw [upd_ne n]; exact hy⟩, ?_, ?_⟩⟩
        · rintro k H' hk ⟨hD, keep⟩ s0 H0 C cl fp IB
          refine e_bin (b_var (b_var (o_add ⟨_, hD, by rw [List.length_map, List.length_range]; show _ < 2 ^ 24; omega, ?_, fun y o n hy => by rw [upd_ne n]; exact keep y o n hy⟩)))
          rw [upd_same, List.range_succ, List.map_append]
          rfl
        rintro H4 ⟨hD4, keep4⟩
        have e34 : Same H3 H4 := fun y o hy => keep4 y o (ne_fresh nD hy).symm hy
        refine o_cat2 (e34 _ _ h3) hD4 (by rw [List.length_map, List.length_range]; simp only [List.length_cons, List.length_nil]; omega) fun rl H5 e5 n5 h5 => ?_
        have e35 := Same.trans e34 e5
        have g5 := g3.trans (Gf.same (c := c) e35)
        have s5 := s3.same e35
        have hml5 := e35 _ _ hml3
        -- as keys
        obtain ⟨ks, hks, hkl⟩ : ∃ ks : List Key, [V.str z] ++ (List.range vm3.length).map (fun (j : Nat) => V.int (l + (j : Int))) = ks.map kV ∧ ks.length = must.length + 1 := ⟨.inr z :: (List.range vm3.length).map fun (j : Nat) => (.inl (l + (j : Int)) : Key), by rw [List.map_cons, List.map_map]; rfl, by simp; omega⟩
        rw [hks] at h5
        show wL _ _ _ [some (.ref c.a), some (.ref gs), some (.ref ml), some (.ref sl), some (.int l), some (.ref bx), some (.ref c.p), none, none, none, none, some (.ref ch), x12, none, some (.ref rl), none, none] _
        obtain ⟨kl, hkl2⟩ : ∃ kl, ks = ks.dropLast ++ [kl] := by
          rcases List.eq_nil_or_concat ks with h | ⟨a, b, h⟩
          · rw [h] at hkl; simp at hkl
          · exact ⟨b, by rw [h]; simp⟩
        refine l_cons (s_set (e_tup (a_cons (e_str (a_cons (e_ix (e_var (e_neg (e_int ⟨1, rfl, ix_l (by exact SqL.of h5) (by rw [hkl2, List.map_append]; exact last_at) (a_nil ?_)⟩)))))))))
        refine ⟨by show 2 ≤ sizeLine; decide, fun dn H6 e6 n6 h6 => ?_⟩
        have hdn : DV H6 (clD kl []) (.ref dn) := ⟨dn, rfl, h6⟩
        refine l_cons (s_forRR (by assumption) (by assumption) (e_callB (x := "len") (by assumption) b_len (a_cons (e_var (a_nil (c_lenL (by exact SqL.of (e6 _ _ hml5)) ?_))))))
        refine ⟨vm3.length, rfl, by omega, fun k σ H' => ∃ dn x13 ps, σ = [some (.ref c.a), some (.ref gs), some (.ref ml), some (.ref sl), some (.int l), some (.ref bx), some (.ref c.p), none, none, none, none, some (.ref ch), x12, x13, some (.ref rl), some (.ref dn), none] ∧ Same H6 H' ∧ DV H' (clD kl ps) (.ref dn) ∧ ps.length = k, ⟨dn, none, [], rfl, Same.refl _, hdn, rfl⟩, ?_, ?_⟩
        · rintro k σ H' hk ⟨dn, x13, ps, rfl, e, hdn, lps⟩
          have hki : vm3.length - 1 - k < vm3.length := by omega
          obtain ⟨x, hx, a, sv, ea, ha, _⟩ := hmu3.get (i := vm3.length - 1 - k) (x := vm3[vm3.length - 1 - k]) (List.getElem?_eq_getElem hki)
          have hkk : vm3.length - 1 - k < ks.length := by omega
          have e57 := Same.trans e6 e
          show wL _ _ _ [some (.ref c.a), some (.ref gs), some (.ref ml), some (.ref sl), some (.int l), some (.ref bx), some (.ref c.p), none, none, none, none, some (.ref ch), x12, some (.int ((vm3.length - 1 - k : Nat) : Int)), some (.ref rl), some (.ref dn), none] _
          refine l_cons (s_set (e_tup (a_cons (e_str (a_cons (e_ix (e_var (e_var (ix_l (by exact SqL.of (e57 _ _ h5)) (atI_nat (v := kV ks[vm3.length - 1 - k]) (by rw [List.getElem?_map, List.getElem?_eq_getElem hkk]; rfl)) ?_)))))))))
          refine a_cons (e_str (a_cons (e_tup (a_cons (e_str (a_cons (e_ix (e_ix (e_var (e_var (ix_l (by exact SqL.of (e57 _ _ hml5)) (atI_nat (v := .ref a) (by rw [List.getElem?_eq_getElem hki, ea])) (e_int ?_))))))))))))
          refine ix_l (by exact SqL.of (e57 _ _ (e35 _ _ ha))) at0 (a_nil ?_)
          refine ⟨by show 2 ≤ sizeLine; decide, fun t8 H8 e8 n8 h8 => a_cons (e_var (a_nil ?_))⟩
          refine ⟨by show 5 ≤ sizeLine; decide, fun t9 H9 e9 n9 h9 => l_nil ⟨t9, _, (ks[vm3.length - 1 - k], x.1) :: ps, rfl, (Same.trans e e8).trans e9, ?_, by simp [lps]⟩⟩
          exact ⟨t9, .ref t8, .ref dn, rfl, h9, ⟨t8, rfl, e9 _ _ h8⟩, hdn.ts (Same.ts (e8.trans e9))⟩
        · rintro σ H7 ⟨dn, x13, ps, rfl, e, hdn, lps⟩
          have g7 := g5.trans (Gf.same (c := c) (Same.trans e6 e))
          obtain ⟨z1, z2, z4⟩ := clD_sz kl ps
          exact l_cons (s_ret (e_var (q _ _ _ H7 g7 (s5.same (Same.trans e6 e)) hdn (by omega) (by omega) z4 (by simp))))
  refine l_cons (s_if (t_w (w_and (t_cmp (e_callB (x := "len") (by assumption) b_len (a_cons (e_var (a_nil (c_lenL (by exact SqL.of hml) (e_int (o_eqI ⟨_, rfl, ?_⟩)))))))))))
  by_cases h1 : (vm.length : Int) = 1
  rotate_left
  · rw [decide_eq_false h1]
    exact iteF (iteF (l_nil (rest H rfl (by omega))))
  rw [decide_eq_true h1]
  have hi0 : 0 < vm.length := by omega
  obtain ⟨x, hx, a, sv, ea, ha, hsv, _, hxd⟩ := hmu.get (i := 0) (x := vm[0]) (List.getElem?_eq_getElem hi0)
  have hat : atI vm 0 = some (.ref a) := atI_nat (j := 0) (by rw [List.getElem?_eq_getElem hi0, ea])
  refine iteT (w_and1 (t_cmp (e_ix (e_ix (e_var (e_int (ix_l (by exact SqL.of hml) hat (e_int (ix_l (by exact SqL.of ha) at1 (e_var (o_eqSn (by exact hr) hsv hgv (by omega) ⟨_, rfl, ?_⟩)))))))))))
  generalize decide (x.2 = g) = kk
  cases kk with
  | false => exact iteF (l_nil (rest H rfl (by omega)))
  | true =>
    refine iteT (l_cons (s_ret (e_tup (a_cons (e_str (a_cons (e_ix (e_ix (e_var (e_int (ix_l (by exact SqL.of hml) hat (e_int (ix_l (by exact SqL.of ha) at0 (a_nil ?_))))))))))))))
    exact ⟨by show 2 ≤ sizeLine; decide, fun tp H7 e7 n7 h7 => own x.1 hs H7 tp (Gf.same e7) (hst.same e7) (by omega) h7⟩
end



section
variable {P : Program} {w : World} {K : PySem.W.Frag} {mg : Str → Option Value} {base : Heap}
def spSplit : Sp := fun vs H Q _ => ∃ c b hs must ml, vs = [.ref c.p, .ref ml] ∧ StG H c b hs ∧ MsV H c must ml ∧ must.length ≤ 1000 ∧ ∀ t l1 l2 m1 m2 H', Gf c H H' → StG H' c b hs → H' t = some (.tup [.ref l1, .ref l2]) → MsV H' c m1 l1 → MsV H' c m2 l2 → m1.length + m2.length = must.length → Q (.ref t) H'
theorem ok_split (T : Top K mg "_law_split" s_split) (FN : Fn P w K mg base 1 "_law_next" spNext) : Fn P w K mg base 2 "_law_split" spSplit := by
  refine fn_ok T sc_split so_split (fun vs H Q E h => by obtain ⟨c, b, hs, must, ml, rfl, _⟩ := h; rfl) (fun _ _ _ _ _ _ us hl => match us, hl with | [_, _], _ => rfl) fun f cdv A outer s H vs Q E hr h nd => ?_
  obtain ⟨c, b, hs, must, ml, rfl, hst, hms, hml, q⟩ := h
  obtain ⟨vm, hm, hmu, fml⟩ := id hms
  have lvm := hmu.len
  refine l_cons (s_set (e_lst (a_nil ⟨by show 0 ≤ sizeLine; decide, fun l1 H1 e1 n1 h1 => ?_⟩)))
  refine l_cons (s_set (e_lst (a_nil ⟨by show 0 ≤ sizeLine; decide, fun l2 H2 e2 n2 h2 => ?_⟩)))
  have e12 := e1.trans e2
  have n2H : H l2 = none := none_of e1 n2
  have f1 := hst.new n1
  have f2 := hst.new n2H
  have n12 : l1 ≠ l2 := fun z => by rw [z, n2] at h1; cases h1
  have k1 : ml ≠ l1 := (ne_fresh n1 hm).symm
  have k2 : ml ≠ l2 := (ne_fresh n2H hm).symm
  show wL _ _ _ [some (.ref c.p), some (.ref ml), some (.ref l1), some (.ref l2), none] _
  refine l_cons (s_forL (e_var ⟨ml, vm, rfl, SqL.of (e12 _ _ hm), fun j σ H' => ∃ v1 v2 m1 m2 x, σ = [some (.ref c.p), some (.ref ml), some (.ref l1), some (.ref l2), x] ∧ H' l1 = some (.lst v1) ∧ H' l2 = some (.lst v2) ∧ Al (MuV H') m1 v1 ∧ Al (MuV H') m2 v2 ∧ m1.length + m2.length = j ∧ But c.p H H' ∧ PoolAt H' c.p, ⟨[], [], [], [], none, rfl, e2 _ _ h1, h2, rfl, rfl, rfl, But.of e12, hst.pl.up e12⟩, ?_, ?_, ?_⟩))
  · rintro j σ H' _ ⟨v1, v2, m1, m2, x, rfl, _, _, _, _, _, bk, _⟩
    exact SqL.of (bk _ _ fml.p hm)
  · rintro j y σ H' hy ⟨v1, v2, m1, m2, x, rfl, h1', h2', a1, a2, hl, bk, pk⟩
    have hs' := hst.pool bk pk
    obtain ⟨x0, hx0, hxy⟩ := hmu.get hy
    have hjl := (List.getElem?_eq_some_iff.mp hy).1
    show wL _ _ _ [some (.ref c.p), some (.ref ml), some (.ref l1), some (.ref l2), some y] _
    refine l_cons (s_if (t_cmp (e_call (by exact FN) (by exact hr) (by decide) (a_cons (e_var (a_cons (e_int (a_nil ?_))))))))
    refine ⟨c.p, 2, rfl, by decide, by decide, pk, fun d3 H3 f30 f31 b3 p3 => e_int (o_eqI ⟨_, rfl, ?_⟩)⟩
    have g3 := Gf.pool b3
    have b03 : But c.p H H3 := bk.trans b3
    have hy3 : MuV H3 x0 y := (hxy.gf hst (Gf.pool b03))
    have l13 := b3 l1 _ f1.p h1'
    have l23 := b3 l2 _ f2.p h2'
    have a13 := a1.mono fun _ _ => MuV.gf hs' g3
    have a23 := a2.mono fun _ _ => MuV.gf hs' g3
    have s3 := hs'.pool b3 p3
    have la1 := a1.len
    have la2 := a2.len
    -- one list grows
    have grow : ∀ (l : Addr) (vv : List V) (mm : List (Key × Sn)), (l = l1 ∨ l = l2) → H3 l = some (.lst vv) → But c.p H (upd H3 l (.lst (vv ++ [y]))) ∧ PoolAt (upd H3 l (.lst (vv ++ [y]))) c.p ∧ ∀ x v, MuV H3 x v → MuV (upd H3 l (.lst (vv ++ [y]))) x v := by
      as_aux_lemma =>
        intro l vv mm hl hv
        have nH : H l = none := by rcases hl with rfl | rfl; exact n1; exact n2H
        have bN : But c.p H (upd H3 l (.lst (vv ++ [y]))) := fun z o nz hz => by rw [upd_ne (ne_fresh nH hz).symm]; exact b03 z o nz hz
        refine ⟨bN, ?_, fun x v ⟨a, sv, g1, g2, g3', g4⟩ => ⟨a, sv, g1, ?_, g3'.ts (TS.upd hv), g4⟩⟩
        · obtain ⟨x1, x2, x3, ex⟩ := p3
          have : l ≠ c.p := by rcases hl with rfl | rfl; exact f1.p; exact f2.p
          exact ⟨x1, x2, x3, by rw [upd_ne this.symm]; exact ex⟩
        · rw [upd_ne (fun z => by
            rw [z, hv] at g2
            have e := HO.lst.inj (Option.some.inj g2)
            have hrefs : ∀ v ∈ vv, ∃ a, v = .ref a := by
              rcases hl with rfl | rfl
              · rw [l13] at hv; cases hv; exact mus_refs a1
              · rw [l23] at hv; cases hv; exact mus_refs a2
            obtain ⟨a', ea⟩ := hrefs (kV x.1) (by rw [e]; simp)
            exact kV_notref ea)]
          exact g2
    refine if2 (fun _ => ?_) (fun _ => ?_)
    · refine l_cons (s_expr (e_app (e_var ⟨l1, _, rfl, SqL.of l13, e_var ⟨_, l13, by show _ < 2 ^ 24; omega, ?_⟩⟩)))
      obtain ⟨q1, q2, q3⟩ := grow l1 v1 m1 (.inl rfl) l13
      refine l_nil (l_nil ⟨v1 ++ [y], v2, m1 ++ [x0], m2, _, rfl, upd_same, by rw [upd_ne n12.symm]; exact l23, (a13.mono q3).app ⟨y, [], rfl, q3 _ _ hy3, rfl⟩, a23.mono q3, by simp; omega, q1, q2⟩)
    · refine l_cons (s_expr (e_app (e_var ⟨l2, _, rfl, SqL.of l23, e_var ⟨_, l23, by show _ < 2 ^ 24; omega, ?_⟩⟩)))
      obtain ⟨q1, q2, q3⟩ := grow l2 v2 m2 (.inr rfl) l23
      refine l_nil (l_nil ⟨v1, v2 ++ [y], m1, m2 ++ [x0], _, rfl, by rw [upd_ne n12]; exact l13, upd_same, a13.mono q3, (a23.mono q3).app ⟨y, [], rfl, q3 _ _ hy3, rfl⟩, by simp; omega, q1, q2⟩)
  · rintro σ H' ⟨v1, v2, m1, m2, x, rfl, h1', h2', a1, a2, hl, bk, pk⟩
    have hs' := hst.pool bk pk
    refine l_cons (s_ret (e_tup (a_cons (e_var (a_cons (e_var (a_nil ?_)))))))
    refine ⟨by show 2 ≤ sizeLine; decide, fun t H6 e6 n6 h6 => ?_⟩
    exact q t l1 l2 m1 m2 H6 ((Gf.pool bk).trans (Gf.same e6)) (hs'.same e6) h6 (MsV.gf hs' (Gf.same e6) ⟨v1, h1', a1, f1⟩) (MsV.gf hs' (Gf.same e6) ⟨v2, h2', a2, f2⟩) (by omega)
/-- a call that grows -/
def wz (k : Nat) : Nat := if k = 0 then 0 else 1
def spGrow (n : Nat) : Sp := fun vs H Q _ => ∃ c b hs gs g must ml sl, ∃ l : Int, ∃ bx, ∃ k : Nat, vs = [.ref c.a, .ref gs, .ref ml, .ref sl, .int l, .ref bx, .int (k : Int)] ∧ k ≤ 2 ∧ GIn H c b hs gs g must ml sl bx (wz k) ∧ 2 * b.toNat + wz k ≤ n ∧ must.length + n ≤ 40 ∧ ∀ v t b' hs' H', Gf c H H' → StG H' c b' hs' → DV H' t v → GrP t n b b' must.length (wz k) hs hs' → Q v H'
def spPaid (n : Nat) : Sp := fun vs H Q _ => ∃ c b hs ss s must ml sl, ∃ l : Int, ∃ bx, ∃ k : Nat, vs = [.ref c.a, .str "once", .ref ss, .ref ml, .ref sl, .int l, .ref bx, .int (k : Int)] ∧ k ≤ 2 ∧ GIn H c b hs ss s must ml sl bx (wz k) ∧ 2 * b.toNat + wz k ≤ n ∧ must.length + n ≤ 40 ∧
  ∀ t2 v t ml' q1 must' b' hs' H', Gf c H H' → StG H' c b' hs' → H' t2 = some (.tup [v, .ref ml']) → DV H' t v → MsV H' c must' ml' → q1 + must'.length = must.length → GrP t n b b' q1 (wz k) hs hs' → Q (.ref t2) H'
theorem ok_paid (n k0 : Nat) (T : Top K mg "_law_paid" s_paid) (hk : 2 ≤ k0) (FS : Fn P w K mg base 2 "_law_split" spSplit) (FG : Fn P w K mg base k0 "_law_grow" (spGrow n)) : Fn P w K mg base (k0 + 1) "_law_paid" (spPaid n) := by
  refine fn_ok T sc_paid so_paid (fun vs H Q E h => by obtain ⟨c, b, hs, ss, s0, must, ml, sl, l, bx, k, rfl, _⟩ := h; rfl) (fun _ _ _ _ _ _ us hl => match us, hl with | [_, _, _, _, _, _, _, _], _ => rfl) fun f cdv A outer s H vs Q E hr h nd => ?_
  obtain ⟨c, b, hs, ss, s0, must, ml, sl, l, bx, k, rfl, hk2, hG, hbn, hq, q⟩ := h
  have hst := hG.st
  refine l_cons (s_if (t_cmp (e_var (e_str (o_eqS ⟨_, rfl, ?_⟩)))))
  rw [decide_eq_true rfl]
  refine iteT ?_
  obtain ⟨kvs, k1, kp, _⟩ := hst.d
  refine l_cons (s_set (e_call (by exact FS) (by exact hr) (by omega) (a_cons (e_dg (by exact hr) (e_var (e_str ⟨c.a, .ref c.p, rfl, dg_k k1 kp, a_cons (e_var (a_nil ?_))⟩))))))
  refine ⟨c, b, hs, must, ml, rfl, hst, hG.ms, by omega, fun t l1 l2 m1 m2 H1 g1 s1 ht h1 h2 hl => ?_⟩
  show wL _ _ _ [some (.ref c.a), some (.str "once"), some (.ref ss), some (.ref ml), some (.ref sl), some (.int l), some (.ref bx), some (.int (k : Int)), some (.ref t), none] _
  refine l_cons (s_ret (e_tup (a_cons (e_call (by exact FG) (by exact hr) (by omega) ?_))))
  refine a_cons (e_var (a_cons (e_var (a_cons (e_ix (e_var (e_int (ix_t (by exact SqT.of ht) at0 (a_cons (e_var (a_cons (e_var (a_cons (e_var (a_cons (e_var (a_nil ?_)))))))))))))))))
  refine ⟨c, b, hs, ss, s0, m1, l1, sl, l, bx, k, rfl, hk2, ⟨s1, hG.gv.ts (hst.tss g1), hG.go, hG.gd, h1, hG.sc.gf g1, hG.bx.gf hst g1, hG.h⟩, hbn, by omega, fun v d b' hs' H2 g2 s2 hv hP => ?_⟩
  refine a_cons (e_ix (e_var (e_int (ix_t (by exact SqT.of (s1.tss g2 _ _ ht)) at1 (a_nil ?_)))))
  refine ⟨by show 2 ≤ sizeLine; decide, fun t3 H3 e3 n3 h3 => ?_⟩
  exact q t3 v d l2 m1.length m2 b' hs' H3 ((g1.trans g2).trans (Gf.same e3)) (s2.same e3) h3 (hv.ts (Same.ts e3)) ((h2.gf s1 g2).gf s2 (Gf.same e3)) hl hP
def spUnder (n : Nat) : Sp := fun vs H Q _ => ∃ c b hs ss s gs g must ml sl, ∃ l : Int, ∃ bx, ∃ k : Nat, vs = [.ref c.a, .ref gs, .str "once", .ref ss, .ref ml, .ref sl, .int l, .ref bx, .int (k : Int)] ∧ k ≤ 2 ∧ SnV H (.ref ss) s ∧ SnT s ∧ dep s ≤ 2 ∧ GIn H c b hs gs g must ml sl bx (wz k) ∧ 2 * b.toNat + wz k ≤ n ∧ must.length + 1 + n ≤ 40 ∧
  ∀ v t b' hs' H', Gf c H H' → StG H' c b' hs' → DV H' t v → GrP t n b b' (must.length + 1) (wz k) hs hs' → Q v H'
theorem ok_under (n k0 : Nat) (T : Top K mg "_law_under" s_under) (FG : Fn P w K mg base k0 "_law_grow" (spGrow n)) : Fn P w K mg base (k0 + 1) "_law_under" (spUnder n) := by
  refine fn_ok T sc_under so_under (fun vs H Q E h => by obtain ⟨c, b, hs, ss, s0, gs, g, must, ml, sl, l, bx, k, rfl, _⟩ := h; rfl) (fun _ _ _ _ _ _ us hl => match us, hl with | [_, _, _, _, _, _, _, _, _], _ => rfl) fun f cdv A outer s H vs Q E hr h nd => ?_
  obtain ⟨c, b, hs, ss, s0, gs, g, must, ml, sl, l, bx, k, rfl, hk2, hss, hso, hsd, hG, hbn, hq, q⟩ := h
  have hst := hG.st
  have hms := hG.ms
  refine l_cons (s_if (t_cmp (e_var (e_str (o_eqS ⟨_, rfl, ?_⟩)))))
  rw [decide_eq_true rfl]
  refine iteT ?_
  obtain ⟨vm, hml, hmu, fml⟩ := id hms
  have lvm := hmu.len
  refine l_cons (s_ret (e_call (by exact FG) (by exact hr) (by omega) ?_))
  refine a_cons (e_var (a_cons (e_var (a_cons (e_bin (e_var (e_lst (a_cons (e_lst (a_cons (e_var (a_cons (e_var (a_nil ?_))))))))))))))
  refine ⟨by show 2 ≤ sizeLine; decide, fun l1 H1 e1 n1 h1 => a_nil ⟨by show 1 ≤ sizeLine; decide, fun l2 H2 e2 n2 h2 => ?_⟩⟩
  have e12 := e1.trans e2
  refine o_cat2 (e12 _ _ hml) h2 (by simp only [List.length_cons, List.length_nil]; omega) fun l3 H3 e3 n3 h3 => ?_
  refine a_cons (e_var (a_cons (e_bin (e_var (e_int (o_add (a_cons (e_var (a_cons (e_var (a_nil ?_)))))))))))
  have e13 := e12.trans e3
  have g3 : Gf c H H3 := Gf.same e13
  have s3 := hst.same e13
  have hnew : MuV H3 (.inl l, s0) (.ref l1) := ⟨l1, ss, rfl, e3 _ _ (e2 _ _ h1), hss.ts (Same.ts e13), hso, hsd⟩
  refine ⟨c, b, hs, gs, g, must ++ [(.inl l, s0)], l3, sl, l + 1, bx, k, rfl, hk2, ⟨s3, hG.gv.ts (Same.ts e13), hG.go, hG.gd, ⟨_, h3, (hmu.mono fun _ _ => MuV.gf hst g3).app ⟨_, [], rfl, hnew, rfl⟩, (hst.same e12).new n3⟩, hG.sc.gf g3, hG.bx.gf hst g3, hG.h⟩, hbn, by simp; omega, fun v d b' hs' H4 g4 s4 hv hP => q v d b' hs' H4 (g3.trans g4) s4 hv ?_⟩
  simpa using hP
end



theorem cutV_hi (xs : List V) (j : Nat) : cutV xs none (some (j : Int)) = xs.take j := by
  unfold cutV
  rw [HT.sIx_nat, HT.sIx_none]
  show ((xs.drop 0).take (min j xs.length - 0)) = _
  rw [List.drop_zero, Nat.sub_zero]
  by_cases h : j ≤ xs.length
  · rw [Nat.min_eq_left h]
  · rw [Nat.min_eq_right (by omega), List.take_length, List.take_of_length_le (by omega)]
theorem cutV_lo (xs : List V) (j : Nat) : cutV xs (some (j : Int)) none = xs.drop j := by
  unfold cutV
  rw [HT.sIx_nat, HT.sIx_none]
  show ((xs.drop (min j xs.length)).take (xs.length - min j xs.length)) = _
  by_cases h : j ≤ xs.length
  · rw [Nat.min_eq_left h, List.take_of_length_le (by simp)]
  · rw [Nat.min_eq_right (by omega), Nat.sub_self, List.take_zero, List.drop_eq_nil_of_le (by omega)]
theorem e_slHi {X : Cx} {e b : Expr} {σ : L2.St} {H : Hp} {Q : VK} {pos p2 : Pos} (q : wE X e σ H fun x H1 => wE X b σ H1 fun y H2 => ∃ (j : Nat) (l : Addr) (xs : List V), y = .int j ∧ x = .ref l ∧ H2 l = some (.lst xs) ∧ ∀ p H3, Same H2 H3 → H2 p = none → H3 p = some (.lst (xs.take j)) → Q (.ref p) H3) : wE X (.Subscript e (.Slice none (some b) none p2) pos) σ H Q := by
  refine e_slL1 sl_list (e_mono q fun x H1 z => e_mono z fun y H2 z2 => ?_)
  obtain ⟨j, l, xs, rfl, rfl, hl, q3⟩ := z2
  refine ⟨_, rfl, l, xs, rfl, SqL.of hl, fun p np => ?_⟩
  rw [cutV_hi]
  exact q3 p _ (fun c u hc => by rw [upd_ne (ne_of_none hc np)]; exact hc) np upd_same
theorem e_slLo {X : Cx} {e b : Expr} {σ : L2.St} {H : Hp} {Q : VK} {pos p2 : Pos} (q : wE X e σ H fun x H1 => wE X b σ H1 fun y H2 => ∃ (j : Nat) (l : Addr) (xs : List V), y = .int j ∧ x = .ref l ∧ H2 l = some (.lst xs) ∧ ∀ p H3, Same H2 H3 → H2 p = none → H3 p = some (.lst (xs.drop j)) → Q (.ref p) H3) : wE X (.Subscript e (.Slice (some b) none none p2) pos) σ H Q := by
  refine e_slL0 sl_list (e_mono q fun x H1 z => e_mono z fun y H2 z2 => ?_)
  obtain ⟨j, l, xs, rfl, rfl, hl, q3⟩ := z2
  refine ⟨_, rfl, l, xs, rfl, SqL.of hl, fun p np => ?_⟩
  rw [cutV_lo]
  exact q3 p _ (fun c u hc => by rw [upd_ne (ne_of_none hc np)]; exact hc) np upd_same
section
variable {X : Cx} {elt c a : Expr} {σ : L2.St} {H : Hp} {pos : Pos} {N G G' : List Str} {Vn : List (Nat × Str)} {sc scope : Scope}
theorem s_lcD0 {nx : L2.St → Hp → Prop} {rt : VK} {bk ct : L2.St → Hp → Prop} {i j : Nat} {x y : Str} {px py spos : Pos} {ad : Addr} (B : BkOk X.N Vn G' i x sc scope) (hd : H ad = some (.dK []))
    (q : ∀ o, wE X a σ (upd H ad (.frz o (.dK []))) fun v H1 => v = .ref ad ∧ H1 = upd H ad (.frz o (.dK [])) ∧ ∀ D H2, H D = none → H2 D = some (.lst []) → Same H H2 → nx (σ.set j (some (.ref D))) H2)
    (I : Wk.In X N G sc := by assumption) (hc : X.calm = true := by rfl) (hA : At N j y := by repeat (first | with_reducible apply At.z | with_reducible apply At.s))
    (hk : X.env.scope.kind = .function := by rfl) (hy : X.env.scope.names.lookup y = some .local := by rfl) (hl : (py.line == pos.line) = true := by rfl) (ha : (scope.names.any fun (n, k) => n == y && (k == .local || k == .cell)) = false := by decide +kernel) (hs2 : ∀ z, foldedSetIterable a X.env z = pure z := by intro _; rfl) :
    wS X (.Assign [.Name y py] (.ListComp elt [⟨.Name x px, a, [], 0⟩] scope pos) spos) ⟨nx, rt, bk, ct⟩ σ H := by
  refine s_of (ps_lock (ps_setLc (own := [(x, i)]) (g := gName i) (tt := tYes) (te := wBk X Vn G' elt scope) hc I.nd (I.hi hA) hy (sw_true hk hy hl ha) (pi_keys pe) (B.ok I) (fun s H C cl fp => B.pg I s H C cl fp) (fun _ _ _ _ _ => pts_nil) (fun s H C cl fp => pe_bk (B.inB I s H C cl fp)) hs2)) ?_
  refine ⟨ad, .dK [], hd, trivial, fun o => e_mono (q o) fun v H1 q1 => ?_⟩
  obtain ⟨rfl, rfl, q2⟩ := q1
  refine ⟨ad, o, rfl, .inl ⟨[], upd_same, fun D nD => ?_⟩⟩
  refine ⟨fun k m H' => k = 0 ∧ H' = upd (upd H ad (.frz o (.dK []))) D (.lst []), ⟨0, rfl, rfl⟩, ?_⟩
  rintro k m H' ⟨rfl, rfl⟩
  have nDa : D ≠ ad := by rintro rfl; rw [upd_same] at nD; cases nD
  have hfz : upd (upd H ad (.frz o (.dK []))) D (.lst []) ad = some (.frz o (.dK [])) := by rw [upd_ne nDa.symm]; exact upd_same
  have nD' : H D = none := by rw [upd_ne nDa] at nD; exact nD
  refine .inl ⟨⟨hfz, Nat.le_refl _⟩, hfz, q2 D _ nD' (by rw [upd_ne nDa]; exact upd_same) fun y u hy => ?_⟩
  by_cases hya : y = ad
  · rw [hya, upd_same]; rw [hya, hd] at hy; exact hy
  · rw [upd_ne hya, upd_ne (ne_fresh nD' hy).symm, upd_ne hya]; exact hy
end
theorem wz0 : wz 0 = 0 := rfl
theorem wz1 : wz 1 = 1 := rfl
theorem wz2 : wz 2 = 1 := rfl
/-- what a row of use may cost -/
structure GrU (t : D) (n : Nat) (b b' : Int) (q : Nat) (hs hs' : List Hol) : Prop where
  s : sz t + 12 * b'.toNat ≤ 12 * b.toNat + 5 + 2 * q
  d : dp t ≤ 2 * n + q + 2
  h : hs'.length + 3 * b'.toNat ≤ hs.length + 3 * b.toNat + 2
  l : b'.toNat ≤ b.toNat
  o : DOk t
structure GrC (t : D) (n : Nat) (b b' : Int) (q : Nat) (hs hs' : List Hol) : Prop where
  s : sz t + 12 * b'.toNat ≤ 12 * b.toNat + 13 + 2 * q
  d : dp t ≤ 2 * n + q + 2
  h : hs'.length + 3 * b'.toNat ≤ hs.length + 3 * b.toNat + 4
  l : b'.toNat ≤ b.toNat
  o : DOk t
section
variable {P : Program} {w : World} {K : PySem.W.Frag} {mg : Str → Option Value} {base : Heap}
def spUse (n : Nat) : Sp := fun vs H Q _ => ∃ c b hs r ss s gs g must ml sl, ∃ l : Int, ∃ bx, vs = [.ref c.a, kV r, .ref ss, .ref gs, .ref ml, .ref sl, .int l, .ref bx] ∧ SnV H (.ref ss) s ∧ SnT s ∧ dep s ≤ 2 ∧ usb s = true ∧ GIn H c b hs gs g must ml sl bx 1 ∧ 2 * b.toNat ≤ n ∧ must.length + 1 + n ≤ 40 ∧
  ∀ v t b' hs' H', Gf c H H' → StG H' c b' hs' → DV H' t v → GrU t n b b' must.length hs hs' → Q v H'
theorem ok_use (n k : Nat) (T : Top K mg "_law_use" s_use) (FP : Fn P w K mg base k "_law_paid" (spPaid n)) (FU : Fn P w K mg base k "_law_under" (spUnder n)) : Fn P w K mg base (k + 1) "_law_use" (spUse n) := by
  refine fn_ok T sc_use so_use (fun vs H Q E h => by obtain ⟨c, b, hs, r, ss, s0, gs, g, must, ml, sl, l, bx, rfl, _⟩ := h; rfl) (fun _ _ _ _ _ _ us hl => match us, hl with | [_, _, _, _, _, _, _, _], _ => rfl) fun f cdv A outer s H vs Q E hr h nd => ?_
  obtain ⟨c, b, hs, r, ss, s0, gs, g, must, ml, sl, l, bx, rfl, hss, hso, hsd, hus, hG, hbn, hq, q⟩ := h
  have hst := hG.st
  have hh := hG.h
  obtain ⟨kvs, k1, kp, _, _, kr, _⟩ := hst.d
  refine l_cons (s_set (e_dg (by exact hr) (e_var (e_str ⟨c.a, .ref c.p, rfl, dg_k k1 kp, ?_⟩))))
  cases s0 with
  | menu x y => exact hso.elim
  | word z => cases hus
  | trade kd x y =>
    obtain ⟨rfl, ho1, ho2⟩ := hso
    obtain ⟨t, mv, xv, yv, e, ht, hmv, hx, hy⟩ := hss
    cases e
    cases (show mv = .str "once" from hmv)
    obtain ⟨xa, _, _, rfl, _⟩ := hx.ref
    obtain ⟨ya, _, _, rfl, _⟩ := hy.ref
    have hd : max (dep x) (dep y) + 1 ≤ 2 := hsd
    refine l_cons (s_if (t_cmp (e_ix (e_var (e_int (ix_t (by exact SqT.of ht) at0 (e_str (o_eqS ⟨_, rfl, ?_⟩))))))))
    rw [decide_eq_false (by decide +kernel)]
    refine iteF (l_nil (l_cons (s_if (t_cmp (e_ix (e_var (e_int (ix_t (by exact SqT.of ht) at0 (e_str (o_eqS ⟨_, rfl, ?_⟩))))))))))
    rw [decide_eq_false (by decide +kernel)]
    refine iteF (l_nil ?_)
    refine l_cons (s_set (e_call (by exact FP) (by exact hr) (by omega) (a_cons (e_var (a_cons (e_ix (e_var (e_int (ix_t (by exact SqT.of ht) at1 (a_cons (e_ix (e_var (e_int (ix_t (by exact SqT.of ht) (atI_nat (j := 2) rfl) ?_))))))))))))))
    refine a_cons (e_var (a_cons (e_var (a_cons (e_var (a_cons (e_var (a_cons (e_int (a_nil ?_))))))))))
    refine ⟨c, b, hs, xa, x, must, ml, sl, l, bx, 0, rfl, by decide, ⟨hst, hx, ho1, by omega, hG.ms, hG.sc, hG.bx, by rw [wz0]; omega⟩, by rw [wz0]; omega, by omega, fun t2 v1 d1 ml' q1 must' b1 hs1 H1 g1 s1 h2 hv1 hm' hql hP1 => ?_⟩
    have ht1 := hst.tss g1 _ _ ht
    obtain ⟨a1, a2, a3, a4, a5⟩ := hP1
    rw [wz0] at a1 a3
    show wL _ _ _ [some (.ref c.a), some (kV r), some (.ref ss), some (.ref gs), some (.ref ml), some (.ref sl), some (.int l), some (.ref bx), some (.ref c.p), none, none, none, some (.ref t2)] _
    refine l_cons (s_set (e_call (by exact FU) (by exact hr) (by omega) (a_cons (e_var (a_cons (e_var (a_cons (e_str (a_cons (e_ix (e_var (e_int (ix_t (by exact SqT.of ht1) (atI_nat (j := 3) rfl) ?_)))))))))))))
    refine a_cons (e_ix (e_var (e_int (ix_t (by exact SqT.of h2) at1 (a_cons (e_var (a_cons (e_var (a_cons (e_var (a_cons (e_int (a_nil ?_)))))))))))))
    refine ⟨c, b1, hs1, ya, y, gs, g, must', ml', sl, l, bx, 0, rfl, by decide, hy.ts (hst.tss g1), ho2, by omega, ⟨s1, hG.gv.ts (hst.tss g1), hG.go, hG.gd, hm', hG.sc.gf g1, hG.bx.gf hst g1, by rw [wz0]; omega⟩, by rw [wz0]; omega, by omega, fun v d b' hs' H2 g2 s2 hv hP => ?_⟩
    obtain ⟨c1, c2, c3, c4, c5⟩ := hP
    rw [wz0] at c1 c3
    show wL _ _ _ [some (.ref c.a), some (kV r), some (.ref ss), some (.ref gs), some (.ref ml), some (.ref sl), some (.int l), some (.ref bx), some (.ref c.p), none, some v, none, some (.ref t2)] _
    have t12 := s1.tss g2
    refine l_cons (s_ret (e_tup (a_cons (e_str (a_cons (e_var (a_cons (e_ix (e_var (e_int (ix_t (by exact SqT.of (t12 _ _ ht1)) at1 ?_)))))))))))
    refine a_cons (e_ix (e_var (e_int (ix_t (by exact SqT.of (t12 _ _ h2)) at0 (a_cons (e_var (a_nil ?_)))))))
    refine ⟨by show 5 ≤ sizeLine; decide, fun t4 H4 e4 n4 h4 => ?_⟩
    exact q (.ref t4) (.py r d1 d) b' hs' H4 ((g1.trans g2).trans (Gf.same e4)) (s2.same e4) ⟨t4, v1, v, rfl, h4, (hv1.ts t12).ts (Same.ts e4), hv.ts (Same.ts e4)⟩ ⟨by simp only [sz]; omega, by simp only [dp]; omega, by omega, by omega, a5, c5⟩
def spRow2 (n : Nat) : Sp := fun vs H Q _ => ∃ c b hs gs x y must ml sl, ∃ l : Int, ∃ bx, vs = [.ref c.a, .ref gs, .ref ml, .ref sl, .int l, .ref bx] ∧ GIn H c b hs gs (.trade none x y) must ml sl bx 1 ∧ 2 * b.toNat ≤ n ∧ must.length + 1 + n ≤ 40 ∧
  ∀ v t b' hs' H', Gf c H H' → StG H' c b' hs' → DV H' t v → GrU t n b b' must.length hs hs' → Q v H'
theorem ok_right_row (n k : Nat) (T : Top K mg "_law_right_row" s_right_row) (FU : Fn P w K mg base k "_law_under" (spUnder n)) : Fn P w K mg base (k + 1) "_law_right_row" (spRow2 n) := by
  refine fn_ok T sc_right_row so_right_row (fun vs H Q E h => by obtain ⟨c, b, hs, gs, x, y, must, ml, sl, l, bx, rfl, _⟩ := h; rfl) (fun _ _ _ _ _ _ us hl => match us, hl with | [_, _, _, _, _, _], _ => rfl) fun f cdv A outer s H vs Q E hr h nd => ?_
  obtain ⟨c, b, hs, gs, x, y, must, ml, sl, l, bx, rfl, hG, hbn, hq, q⟩ := h
  have hst := hG.st
  have hh := hG.h
  obtain ⟨t, mv, xv, yv, e, ht, hmv, hx, hy⟩ := hG.gv
  cases e
  cases (show mv = .str "once" from hmv)
  obtain ⟨xa, _, _, rfl, _⟩ := hx.ref
  obtain ⟨ya, _, _, rfl, _⟩ := hy.ref
  obtain ⟨_, ho1, ho2⟩ := hG.go
  have hd : max (dep x) (dep y) + 1 ≤ 2 := hG.gd
  refine l_cons (s_if (t_cmp (e_ix (e_var (e_int (ix_t (by exact SqT.of ht) at0 (e_str (o_eqS ⟨_, rfl, ?_⟩))))))))
  rw [decide_eq_true rfl]
  refine iteT (l_cons (s_ret (e_tup (a_cons (e_str (a_cons (e_call (by exact FU) (by exact hr) (by omega) ?_)))))))
  refine a_cons (e_var (a_cons (e_ix (e_var (e_int (ix_t (by exact SqT.of ht) (atI_nat (j := 3) rfl) (a_cons (e_ix (e_var (e_int (ix_t (by exact SqT.of ht) at1 (a_cons (e_ix (e_var (e_int (ix_t (by exact SqT.of ht) (atI_nat (j := 2) rfl) ?_))))))))))))))))
  refine a_cons (e_var (a_cons (e_var (a_cons (e_var (a_cons (e_var (a_cons (e_int (a_nil ?_))))))))))
  refine ⟨c, b, hs, xa, x, ya, y, must, ml, sl, l, bx, 0, rfl, by decide, hx, ho1, by omega, ⟨hst, hy, ho2, by omega, hG.ms, hG.sc, hG.bx, by rw [wz0]; omega⟩, by rw [wz0]; omega, hq, fun v d b' hs' H2 g2 s2 hv hP => a_nil ?_⟩
  obtain ⟨c1, c2, c3, c4, c5⟩ := hP
  rw [wz0] at c1 c3
  refine ⟨by show 2 ≤ sizeLine; decide, fun t4 H4 e4 n4 h4 => ?_⟩
  exact q (.ref t4) (.take d) b' hs' H4 (g2.trans (Gf.same e4)) (s2.same e4) ⟨t4, v, rfl, h4, hv.ts (Same.ts e4)⟩ ⟨by simp only [sz]; omega, by simp only [dp]; omega, by omega, by omega, c5⟩
def spCut (n : Nat) : Sp := fun vs H Q _ => ∃ c b hs gs g must ml sl, ∃ l : Int, ∃ bx, vs = [.ref c.a, .ref gs, .ref ml, .ref sl, .int l, .ref bx] ∧ GIn H c b hs gs g must ml sl bx 3 ∧ 2 * b.toNat + 1 ≤ n ∧ must.length + 1 + n ≤ 40 ∧
  ∀ v t b' hs' H', Gf c H H' → StG H' c b' hs' → DV H' t v → GrC t n b b' must.length hs hs' → Q v H'
theorem ok_cut (n k : Nat) (T : Top K mg "_law_cut" s_cut) (hk : 4 ≤ k) (FN : Fn P w K mg base 1 "_law_next" spNext) (FS : ∀ n, Fn P w K mg base (n + 2) "_law_sentence" (spSent n)) (FP : Fn P w K mg base k "_law_paid" (spPaid n)) (FU : Fn P w K mg base k "_law_under" (spUnder n)) : Fn P w K mg base (k + 1) "_law_cut" (spCut n) := by
  refine fn_ok T sc_cut so_cut (fun vs H Q E h => by obtain ⟨c, b, hs, gs, g, must, ml, sl, l, bx, rfl, _⟩ := h; rfl) (fun _ _ _ _ _ _ us hl => match us, hl with | [_, _, _, _, _, _], _ => rfl) fun f cdv A outer s H vs Q E hr h nd => ?_
  obtain ⟨c, b, hs, gs, g, must, ml, sl, l, bx, rfl, hG, hbn, hq, q⟩ := h
  have hst := hG.st
  have hh := hG.h
  have hne := hst.ne
  obtain ⟨kvs, k1, kp, kf, kw, kr, ke, _⟩ := hst.d
  refine l_cons (s_set (e_dg (by exact hr) (e_var (e_str ⟨c.a, .ref c.p, rfl, dg_k k1 kp, ?_⟩))))
  show wL _ _ _ [some (.ref c.a), some (.ref gs), some (.ref ml), some (.ref sl), some (.int l), some (.ref bx), some (.ref c.p), none, none, none, none, none] _
  refine l_cons (s_lcD0 (by exact bk_cut0) hst.en fun o => e_dg (by exact hr) (e_var (e_str ⟨c.a, .ref c.en, rfl, dg_k (by rw [upd_ne hne.2.2.2.2.2.2.2.2.1]; exact k1) ke, ?_⟩)))
  refine ⟨rfl, rfl, fun D H1 nD hD1 keep => ?_⟩
  have e1 : Same H H1 := keep
  have s1 := hst.same e1
  have g1 : Gf c H H1 := Gf.same e1
  show wL _ _ _ [some (.ref c.a), some (.ref gs), some (.ref ml), some (.ref sl), some (.int l), some (.ref bx), some (.ref c.p), none, some (.ref D), none, none, none] _
  refine l_cons (s_if (t_w (w_and (t_tru (e_var ⟨_, tru_l hD1, ?_⟩)))))
  refine iteF (iteF (l_nil ?_))
  -- from the sentence on
  have rest : ∀ (H3 : Hp) (sv : Addr) (sn : Sn) (NX BK CT : L2.St → Hp → Prop), Gf c H H3 → StG H3 c b hs → SnV H3 (.ref sv) sn → SnT sn → dep sn ≤ 2 → wL (cxOf CX0 P w K mg base N_cut (Str.ofString "_law_cut") (defScope s_cut) f cdv A outer s H E).nox ((defBody s_cut).drop 5) { nx := NX, rt := Q, bk := BK, ct := CT } [some (.ref c.a), some (.ref gs), some (.ref ml), some (.ref sl), some (.int l), some (.ref bx), some (.ref c.p), none, some (.ref D), some (.ref sv), none, none] H3 := by
    as_aux_lemma =>
      intro H3 sv sn NX BK CT g3 s3 hsn hso hsd
      refine l_cons (s_set (e_str ?_))
      obtain ⟨kv3, k13, kp3, kf3, _⟩ := s3.d
      refine l_cons (s_if (t_w (w_and (t_cmp (e_str (e_dg (by exact hr) (e_var (e_str ⟨c.a, .str "c", rfl, dg_k k13 kf3, ?_⟩))))))))
      rw [sg_s]
      refine o_inS ?_
      rw [c_s']
      refine ⟨_, rfl, iteF (iteF (l_nil ?_))⟩
      show wL _ _ _ [some (.ref c.a), some (.ref gs), some (.ref ml), some (.ref sl), some (.int l), some (.ref bx), some (.ref c.p), none, some (.ref D), some (.ref sv), some (.str "once"), none] _
      refine l_cons (s_set (e_call (by exact FP) (by exact hr) (by omega) ?_))
      walk_at "sts"
      refine ⟨c, b, hs, sv, sn, must, ml, sl, l, bx, 1, rfl, by decide, ⟨s3, hsn, hso, hsd, hG.ms.gf hst g3, hG.sc.gf g3, hG.bx.gf hst g3, by rw [wz1]; omega⟩, by rw [wz1]; omega, by omega, fun t2 v1 d1 ml' q1 must' b1 hs1 H4 g4 s4 h2 hv1 hm' hql hP1 => ?_⟩
      obtain ⟨a1, a2, a3, a4, a5⟩ := hP1
      rw [wz1] at a1 a3
      have g04 := g3.trans g4
      have t34 := s3.tss g4
      show wL _ _ _ [some (.ref c.a), some (.ref gs), some (.ref ml), some (.ref sl), some (.int l), some (.ref bx), some (.ref c.p), none, some (.ref D), some (.ref sv), some (.str "once"), some (.ref t2)] _
      refine l_cons (s_ret (e_tup (a_cons (e_str (a_cons (e_var (a_cons (e_var (a_cons (e_ix (e_var (e_int (ix_t (by exact SqT.of h2) at0 (a_cons (e_call (by exact FU) (by exact hr) (by omega) ?_)))))))))))))))
      refine a_cons (e_var (a_cons (e_var (a_cons (e_var (a_cons (e_var (a_cons (e_ix (e_var (e_int (ix_t (by exact SqT.of h2) at1 (a_cons (e_var (a_cons (e_var (a_cons (e_var (a_cons (e_int (a_nil ?_)))))))))))))))))))))
      refine ⟨c, b1, hs1, sv, sn, gs, g, must', ml', sl, l, bx, 2, rfl, by decide, hsn.ts t34, hso, hsd, ⟨s4, hG.gv.ts (hst.tss g04), hG.go, hG.gd, hm', hG.sc.gf g04, hG.bx.gf hst g04, by rw [wz2]; omega⟩, by rw [wz2]; omega, by omega, fun v d b' hs' H5 g5 s5 hv hP => a_nil ?_⟩
      obtain ⟨c1, c2, c3, c4, c5⟩ := hP
      rw [wz2] at c1 c3
      have t45 := s4.tss g5
      refine ⟨by show 5 ≤ sizeLine; decide, fun t4 H6 e6 n6 h6 => ?_⟩
      exact q (.ref t4) (.ct sn d1 d) b' hs' H6 ((g04.trans g5).trans (Gf.same e6)) (s5.same e6) ⟨t4, .ref sv, v1, v, rfl, h6, ((hsn.ts t34).ts t45).ts (Same.ts e6), (hv1.ts t45).ts (Same.ts e6), hv.ts (Same.ts e6)⟩ ⟨by simp only [sz]; omega, by simp only [dp]; omega, by omega, by omega, hso, hsd, a5, c5⟩
  refine l_cons (s_set (e_call (by exact FS 2) (by exact hr) (by omega) (a_cons (e_var (a_cons (e_int (a_nil ?_)))))))
  refine ⟨c, b, hs, 2, rfl, s1, Nat.le_refl _, fun v sn H2 b2 p2 hsn hsd hso => ?_⟩
  have s2 := s1.pool b2 p2
  have g2 := g1.trans (Gf.pool b2)
  obtain ⟨sv, _, _, rfl, _⟩ := hsn.ref
  show wL _ _ _ [some (.ref c.a), some (.ref gs), some (.ref ml), some (.ref sl), some (.int l), some (.ref bx), some (.ref c.p), none, some (.ref D), some (.ref sv), none, none] _
  cases sn with
  | menu x y => exact hso.elim
  | trade kd x y =>
    obtain ⟨t, mv, xv, yv, e, ht, hmv, hx, hy⟩ := id hsn
    cases e
    refine l_cons (s_if (t_w (w_and (t_cmp (e_ix (e_var (e_int (ix_t (by exact SqT.of ht) at0 (e_str (o_eqS ⟨_, rfl, ?_⟩))))))))))
    rw [decide_eq_false (by decide +kernel)]
    exact iteF (iteF (l_nil (rest H2 _ _ _ _ _ g2 s2 hsn hso hsd)))
  | word z =>
    obtain ⟨t, e, ht⟩ := id hsn
    cases e
    refine l_cons (s_if (t_w (w_and (t_cmp (e_ix (e_var (e_int (ix_t (by exact SqT.of ht) at0 (e_str (o_eqS ⟨_, rfl, ?_⟩))))))))))
    rw [decide_eq_true rfl]
    refine iteT (w_and1 (t_cmp (e_call (by exact FN) (by exact hr) (by omega) (a_cons (e_var (a_cons (e_int (a_nil ?_))))))))
    refine ⟨c.p, 3, rfl, by decide, by decide, s2.pl, fun d3 H3 f0 f1 b3 p3 => e_int (o_gt ⟨_, rfl, ?_⟩)⟩
    have s3 := s2.pool b3 p3
    have g3 := g2.trans (Gf.pool b3)
    have hsn3 := hsn.ts (s2.tss (Gf.pool b3))
    refine if2 (fun _ => ?_) (fun _ => l_nil (rest H3 _ _ _ _ _ g3 s3 hsn3 hso hsd))
    refine l_cons (s_set (e_tup (a_cons (e_str (a_cons (e_str (a_cons (e_var (a_cons (e_call (by exact FS 1) (by exact hr) (by omega) (a_cons (e_var (a_cons (e_int (a_nil ?_)))))))))))))))
    refine ⟨c, b, hs, 1, rfl, s3, Nat.le_refl _, fun v4 sn4 H4 b4 p4 hsn4 hsd4 hso4 => a_nil ?_⟩
    have s4 := s3.pool b4 p4
    have g4 := g3.trans (Gf.pool b4)
    refine ⟨by show 4 ≤ sizeLine; decide, fun t5 H5 e5 n5 h5 => ?_⟩
    have s5 := s4.same e5
    have g5 := g4.trans (Gf.same e5)
    have hnew : SnV H5 (.ref t5) (.trade none (.word z) sn4) := ⟨t5, .str "once", _, _, rfl, h5, rfl, (hsn3.ts (s3.tss (Gf.pool b4))).ts (Same.ts e5), hsn4.ts (Same.ts e5)⟩
    show wL _ _ _ [some (.ref c.a), some (.ref gs), some (.ref ml), some (.ref sl), some (.int l), some (.ref bx), some (.ref c.p), none, some (.ref D), some (.ref t5), none, none] _
    obtain ⟨kv5, k15, kp5, kf5, _⟩ := s5.d
    refine l_cons (s_if (t_w (w_and (t_cmp (e_str (e_dg (by exact hr) (e_var (e_str ⟨c.a, .str "c", rfl, dg_k k15 kf5, ?_⟩))))))))
    rw [sg_m]
    refine o_inS ?_
    rw [c_m]
    exact ⟨_, rfl, iteF (iteF (l_nil (l_nil (rest H5 _ _ _ _ _ g5 s5 hnew ⟨rfl, trivial, hso4⟩ (by show max 0 (dep sn4) + 1 ≤ 2; omega)))))⟩
end



theorem atI_in {xs : List V} {i : Int} (h0 : -(xs.length : Int) ≤ i) (h1 : i < xs.length) : ∃ x, x ∈ xs ∧ atI xs i = some x := by
  unfold atI ixN
  by_cases h : 0 ≤ i
  · obtain ⟨j, rfl⟩ := Int.eq_ofNat_of_zero_le h
    have hj : j < xs.length := by omega
    refine ⟨xs[j], List.getElem_mem hj, ?_⟩
    simp [hj]
  · obtain ⟨j, hj⟩ := Int.eq_ofNat_of_zero_le (show 0 ≤ i + xs.length by omega)
    have hjl : j < xs.length := by omega
    refine ⟨xs[j], List.getElem_mem hjl, ?_⟩
    rw [if_neg h, if_pos h0, hj]
    simp [hjl]
theorem ite2 {k : Bool} {A B : Prop} (a : A) (b : B) : if k = true then A else B := by cases k; exact b; exact a
theorem c_c : decide (99 ∈ (Wk.sg 99).cps.toList) = true := by decide +kernel
theorem sg_c : (Str.ofString "c") = Wk.sg 99 := by decide +kernel
theorem wz_or (k : Nat) : wz k = 0 ∧ k = 0 ∨ wz k = 1 ∧ 1 ≤ k := by
  unfold wz
  by_cases h : k = 0
  · exact .inl ⟨by rw [if_pos h], h⟩
  · exact .inr ⟨by rw [if_neg h], by omega⟩
theorem tn_le (b : Int) : (b - 1).toNat ≤ b.toNat := by omega
theorem GrP.ofU {t : D} {n m : Nat} {b b' : Int} {q q' w : Nat} {hs h2 hs' : List Hol} (hn : n = m + 1) (hl : 1 ≤ b ∧ h2.length ≤ hs.length + 1 ∨ w = 1 ∧ h2.length ≤ hs.length) (hq : q' ≤ q) (h : GrU t m (b - 1) b' q' h2 hs') : GrP t n b b' q w hs hs' := by
  obtain ⟨a1, a2, a3, a4, a5⟩ := h
  exact ⟨by omega, by omega, by omega, by omega, a5⟩
theorem GrP.ofC {t : D} {n m : Nat} {b b' : Int} {q w : Nat} {hs hs' : List Hol} (hn : n = m + 1) (hl : 1 ≤ b) (h : GrC t m (b - 1) b' q hs hs') : GrP t n b b' q w hs hs' := by
  obtain ⟨a1, a2, a3, a4, a5⟩ := h
  exact ⟨by omega, by omega, by omega, by omega, a5⟩
section
variable {P : Program} {w : World} {K : PySem.W.Frag} {mg : Str → Option Value} {base : Heap}
theorem ok_growS (n k0 : Nat) (T : Top K mg "_law_grow" s_grow) (mL : mg "len" = none) (mR : mg "range" = none) (hk : 4 ≤ k0) (FN : Fn P w K mg base 1 "_law_next" spNext) (FC : Fn P w K mg base 4 "_law_close" spClose) (FV : Fn P w K mg base 1 "_law_usable" spUsable) (FH : Fn P w K mg base 3 "_law_hold" spHold) (FS : Fn P w K mg base 4 "_law_sentence" (spSent 2)) (F : ∀ m, n = m + 1 → Fn P w K mg base k0 "_law_use" (spUse m) ∧ Fn P w K mg base k0 "_law_right_row" (spRow2 m) ∧ Fn P w K mg base k0 "_law_cut" (spCut m)) : Fn P w K mg base (k0 + 1) "_law_grow" (spGrow n) := by
  refine fn_okC T sc_grow so_grow (fun vs H Q E h => by obtain ⟨c, b, hs, gs, g, must, ml, sl, l, bx, k, rfl, _⟩ := h; rfl) (fun _ _ _ _ _ _ us hl => match us, hl with | [_, _, _, _, _, _, _], _ => rfl) fun f cdv A outer s H vs Q E hr h nd => ?_
  have hk1 : 1 ≤ k0 := Nat.le_trans (by decide) hk
  have hk3 : 3 ≤ k0 := Nat.le_trans (by decide) hk
  obtain ⟨c, b, hs, gs, g, must, ml, sl, l, bx, k, rfl, hkk, hG, hbn, hq, q⟩ := h
  have hst := hG.st
  have hh := hG.h
  obtain ⟨kvs, k1, kp, kf, kw, kr, ke, kh, kt, kb, kl⟩ := hst.d
  refine l_cons (s_set (e_dg (by exact hr) (e_var (e_str ⟨c.a, .ref c.p, rfl, dg_k k1 kp, ?_⟩))))
  refine l_cons (s_dput (hu_of hr) (e_bin (e_dg (by exact hr) (e_var (e_str ⟨c.a, .int b, rfl, dg_k k1 kb, e_int (o_sub (e_var (e_str ?_)))⟩)))))
  refine ⟨c.a, _, rfl, DPut.k (k := .inr "budget") k1 (by show _ < 2 ^ 24; omega), ?_⟩
  have g1 : Gf c H (upd H c.a (.dK (putK kvs (.inr "budget") (.int (b - 1))))) := Gf.one (.inl rfl)
  have s1 := hst.bud (b - 1) k1
  generalize upd H c.a (.dK (putK kvs (.inr "budget") (.int (b - 1)))) = H1 at g1 s1
  have tb := tn_le b
  show wL _ _ _ [some (.ref c.a), some (.ref gs), some (.ref ml), some (.ref sl), some (.int l), some (.ref bx), some (.int (k : Int)), some (.ref c.p), none, none, none, none, none, none, none, none] _
  refine l_cons (s_set (e_call (by exact FN) (by exact hr) hk1 (a_cons (e_var (a_cons (e_int (a_nil ?_)))))))
  refine ⟨c.p, 10, rfl, by decide, by decide, s1.pl, fun d1 H2 f0 f1 b2 p2 => ?_⟩
  have s2 := s1.pool b2 p2
  have g2 := g1.trans (Gf.pool b2)
  show wL _ _ _ [some (.ref c.a), some (.ref gs), some (.ref ml), some (.ref sl), some (.int l), some (.ref bx), some (.int (k : Int)), some (.ref c.p), some (.int d1), none, none, none, none, none, none, none] _
  -- a closing
  have close : ∀ (H5 : Hp) (NX BK CT : L2.St → Hp → Prop) (σ : L2.St), StG H5 c (b - 1) hs → Gf c H H5 → spClose [.ref c.a, .ref gs, .ref ml, .ref sl, .int l, .ref bx] H5 Q E := fun H5 NX BK CT σ s5 g5 =>
    ⟨c, b - 1, hs, gs, g, must, ml, sl, l, bx, rfl, hG.to g5 s5 (by omega), by omega, fun v t hs' H6 g6 s6 hv h1 h2 h3 h4 => q v t _ hs' H6 (g5.trans g6) s6 hv ⟨by omega, by omega, by omega, by omega, h3⟩⟩
  -- behind the pick
  have main : ∀ (pk : Int) (H3 : Hp), (0 ≤ pk ∧ pk < 10 ∨ 1 ≤ k ∧ pk = (k : Int) + 10) → StG H3 c (b - 1) hs → Gf c H H3 → wL (cxOf CX0 P w K mg base (N_grow ++ C_grow) (Str.ofString "_law_grow") (defScope s_grow) f cdv A outer s H E).nox ((defBody s_grow).drop 4) { nx := fun _ H' => Q .non H', rt := Q } [some (.ref c.a), some (.ref gs), some (.ref ml), some (.ref sl), some (.int l), some (.ref bx), some (.int (k : Int)), some (.ref c.p), some (.int pk), none, none, none, none, none, none, none] H3 := by
    as_aux_lemma =>
      intro pk H3 hpk s3 g3
      obtain ⟨kv2, k12, kp2, kf2, kw2, kr2, ke2, kh2, kt2, kb2, kl2⟩ := s3.d
      refine l_cons (s_if (t_w (w_or (t_cmp (e_var (e_int (o_eqI ⟨_, rfl, ?_⟩)))))))
      refine if2 (fun _ => iteT (l_cons (s_ret ?ca))) (fun hd0 => ?_)
      case ca =>
        refine e_call (by exact FC) (by exact hr) hk ?_
        walk_at "sts"
        exact close _ (fun _ _ => True) (fun _ _ => True) (fun _ _ => True) [] s3 g3
      refine w_or1 (t_w (w_and (t_cmp (e_dg (by exact hr) (e_var (e_str ⟨c.a, .int (b - 1), rfl, dg_k k12 kb2, e_int (o_lt ⟨_, rfl, ?_⟩)⟩))))))
      -- where it goes on
      have live : (1 ≤ b ∨ 1 ≤ k ∧ pk = (k : Int) + 10) → wL (cxOf CX0 P w K mg base (N_grow ++ C_grow) (Str.ofString "_law_grow") (defScope s_grow) f cdv A outer s H E).nox ((defBody s_grow).drop 5) { nx := fun _ H' => Q .non H', rt := Q } [some (.ref c.a), some (.ref gs), some (.ref ml), some (.ref sl), some (.int l), some (.ref bx), some (.int (k : Int)), some (.ref c.p), some (.int pk), none, none, none, none, none, none, none] H3 := by
        as_aux_lemma =>
          intro hlive
          obtain ⟨m, hm⟩ : ∃ m, n = m + 1 := ⟨n - 1, by rcases wz_or k with h | h <;> omega⟩
          obtain ⟨FU, FR, FCu⟩ := F m hm
          have hlw : 1 ≤ b ∨ wz k = 1 := hlive.imp id fun h => by rcases wz_or k with h' | h' <;> omega
          have hbm : 2 * (b - 1).toNat ≤ m := by omega
          have gin : ∀ H', StG H' c (b - 1) hs → Gf c H H' → GIn H' c (b - 1) hs gs g must ml sl bx 1 := fun H' s g => hG.to g s (by omega)
          -- a cut
          have cut : 1 ≤ b → ∀ (H5 : Hp), StG H5 c (b - 1) hs → Gf c H H5 → spCut m [.ref c.a, .ref gs, .ref ml, .ref sl, .int l, .ref bx] H5 Q E := fun hb1 H5 s5 g5 => ⟨c, b - 1, hs, gs, g, must, ml, sl, l, bx, rfl, hG.to g5 s5 (by omega), by omega, by omega, fun v t b' hs' H6 g6 s6 hv hP => q v t b' hs' H6 (g5.trans g6) s6 hv (GrP.ofC hm hb1 hP)⟩
          -- a new hold, or a closing
          have rest11 : ∀ (H5 : Hp) (NX BK CT : L2.St → Hp → Prop) o9 o10 o11 o12 o13, StG H5 c (b - 1) hs → Gf c H H5 → wL (cxOf CX0 P w K mg base (N_grow ++ C_grow) (Str.ofString "_law_grow") (defScope s_grow) f cdv A outer s H E).nox ((defBody s_grow).drop 11) { nx := NX, rt := Q, bk := BK, ct := CT } [some (.ref c.a), some (.ref gs), some (.ref ml), some (.ref sl), some (.int l), some (.ref bx), some (.int (k : Int)), some (.ref c.p), some (.int pk), o9, o10, o11, o12, o13, none, none] H5 := by
            as_aux_lemma =>
              intro H5 NX BK CT o9 o10 o11 o12 o13 s5 g5
              obtain ⟨kv5, k15, kp5, kf5, kw5, kr5, ke5, kh5, kt5, kb5, kl5⟩ := s5.d
              refine l_cons (s_if (t_cmp (e_dg (by exact hr) (e_var (e_str ⟨c.a, .int (b - 1), rfl, dg_k k15 kb5, e_int (o_lt ⟨_, rfl, ?_⟩)⟩)))))
              refine if2 (fun _ => l_cons (s_ret ?cb)) (fun hb0 => l_nil ?_)
              case cb =>
                refine e_call (by exact FC) (by exact hr) hk ?_
                walk_at "sts"
                exact close _ (fun _ _ => True) (fun _ _ => True) (fun _ _ => True) [] s5 g5
              have hb1 : 1 ≤ b := by omega
              refine l_cons (s_set (e_call (by exact FS) (by exact hr) hk (a_cons (e_var (a_cons (e_int (a_nil ?_)))))))
              refine ⟨c, b - 1, hs, 2, rfl, s5, Nat.le_refl _, fun v sn H6 b6 p6 hsn hsd hso => ?_⟩
              have s6 := s5.pool b6 p6
              have g6 := g5.trans (Gf.pool b6)
              obtain ⟨sv, _, _, rfl, _⟩ := hsn.ref
              show wL _ _ _ [some (.ref c.a), some (.ref gs), some (.ref ml), some (.ref sl), some (.int l), some (.ref bx), some (.int (k : Int)), some (.ref c.p), some (.int pk), o9, o10, o11, o12, o13, some (.ref sv), none] _
              refine l_cons (s_if (t_val (e_call (by exact FV) (by exact hr) hk1 ?_)))
              walk_at "sts"
              refine ⟨c, b - 1, hs, sv, sn, bx, rfl, s6, hsn, hso, fun H7 e7 => ⟨_, rfl, ?_⟩⟩
              have s7 := s6.same e7
              have g7 := g6.trans (Gf.same e7)
              cases hus : usb sn with
              | false =>
                refine iteF (l_nil ?_)
                obtain ⟨kv7, k17, kp7, kf7, kw7, kr7, ke7, kh7, kt7, kb7, kl7⟩ := s7.d
                refine l_cons (s_if (t_w (w_and (t_cmp (e_str (e_dg (by exact hr) (e_var (e_str ⟨c.a, _, rfl, dg_k k17 kf7, ?_⟩))))))))
                rw [sg_c]
                refine o_inS ?_
                rw [c_c]
                refine ⟨_, rfl, iteT (w_and1 (t_cmp (e_var (e_int (o_lt ⟨_, rfl, ?_⟩)))))⟩
                refine if2 (fun _ => l_cons (s_ret ?cc)) (fun _ => l_nil (l_cons (s_ret ?cd)))
                case cc =>
                  refine e_call (by exact FCu) (by exact hr) (Nat.le_refl _) ?_
                  walk_at "sts"
                  exact cut hb1 _ s7 g7
                case cd =>
                  refine e_call (by exact FC) (by exact hr) hk ?_
                  walk_at "sts"
                  exact close _ (fun _ _ => True) (fun _ _ => True) (fun _ _ => True) [] s7 g7
              | true =>
                refine iteT (l_cons (s_ret (e_call (by exact FU) (by exact hr) (Nat.le_refl _) (a_cons (e_var (a_cons (e_call (by exact FH) (by exact hr) hk3 ?_)))))))
                walk_at "sts"
                refine ⟨c, b - 1, hs, sv, sn, bx, rfl, s7, hsn.ts (Same.ts e7), hso, by omega, by have := rws2 hsd; omega, hG.bx.gf hst g7, by omega, fun z H8 g8 s8 => ?_⟩
                walk_at "sts"
                have g08 := g7.trans g8
                exact ⟨c, b - 1, hs ++ [(z, sn)], .inr z, sv, sn, gs, g, must, ml, sl, l, bx, rfl, (hsn.ts (Same.ts e7)).ts (s7.tss g8), hso, hsd, hus, hG.to g08 s8 (by rw [List.length_append]; simp only [List.length_cons, List.length_nil]; omega), hbm, by omega, fun v t b' hs' H9 g9 s9 hv hP => q v t b' hs' H9 (g08.trans g9) s9 hv (GrP.ofU hm (.inl ⟨hb1, by simp⟩) (Nat.le_refl _) hP)⟩
          -- no entry of the scope
          have rest9 : ∀ (H5 : Hp) (NX BK CT : L2.St → Hp → Prop) o9 o10 o11, StG H5 c (b - 1) hs → Gf c H H5 → wL (cxOf CX0 P w K mg base (N_grow ++ C_grow) (Str.ofString "_law_grow") (defScope s_grow) f cdv A outer s H E).nox ((defBody s_grow).drop 9) { nx := NX, rt := Q, bk := BK, ct := CT } [some (.ref c.a), some (.ref gs), some (.ref ml), some (.ref sl), some (.int l), some (.ref bx), some (.int (k : Int)), some (.ref c.p), some (.int pk), o9, o10, o11, none, none, none, none] H5 := by
            as_aux_lemma =>
              intro H5 NX BK CT o9 o10 o11 s5 g5
              have hsl := (hG.sc.gf g5).1
              refine l_cons (s_lcLf (by exact bk_grow1) (e_var ⟨sl, [], rfl, SqL.of hsl, fun D nD => ⟨fun j H' => H' D = some (.lst []) ∧ ∀ y o, y ≠ D → H5 y = some o → H' y = some o, ⟨upd_same, fun y o n hy => by rw [upd_ne n]; exact hy⟩, ?_, ?_, ?_⟩⟩))
              · rintro j H' _ ⟨_, keep⟩
                exact SqL.of (keep _ _ (ne_fresh nD hsl).symm hsl)
              · rintro j x H' hx; cases hx
              rintro H6 ⟨hA, keep⟩
              have e56 : Same H5 H6 := fun y o hy => keep y o (ne_fresh nD hy).symm hy
              have s6 := s5.same e56
              have g6 := g5.trans (Gf.same e56)
              show wL _ _ _ [some (.ref c.a), some (.ref gs), some (.ref ml), some (.ref sl), some (.int l), some (.ref bx), some (.int (k : Int)), some (.ref c.p), some (.int pk), o9, o10, o11, none, some (.ref D), none, none] _
              refine l_cons (s_if (t_w (w_and (t_cmp (e_var (e_tup ?_))))))
              walk_at "sts"
              refine ⟨by show 2 ≤ sizeLine; decide, fun tp H7 e7 n7 h7 => ?_⟩
              refine o_inT (by exact SqT.of h7) rfl rfl ⟨_, rfl, ?_⟩
              have s7 := s6.same e7
              have g7 := g6.trans (Gf.same e7)
              refine ite2 ?_ (iteF (l_nil (rest11 H7 _ _ _ _ _ _ _ _ s7 g7)))
              refine w_and1 (t_tru (e_var ⟨_, tru_l (e7 _ _ hA), ?_⟩))
              exact iteF (l_nil (rest11 H7 _ _ _ _ _ _ _ _ s7 g7))
          -- a thing that must be used
          have rest7 : ∀ (H5 : Hp) (NX BK CT : L2.St → Hp → Prop), StG H5 c (b - 1) hs → Gf c H H5 → wL (cxOf CX0 P w K mg base (N_grow ++ C_grow) (Str.ofString "_law_grow") (defScope s_grow) f cdv A outer s H E).nox ((defBody s_grow).drop 7) { nx := NX, rt := Q, bk := BK, ct := CT } [some (.ref c.a), some (.ref gs), some (.ref ml), some (.ref sl), some (.int l), some (.ref bx), some (.int (k : Int)), some (.ref c.p), some (.int pk), none, none, none, none, none, none, none] H5 := by
            as_aux_lemma =>
              intro H5 NX BK CT s5 g5
              obtain ⟨vm, hml, hmu, fml⟩ := hG.ms.gf hst g5
              have lvm := hmu.len
              refine l_cons (s_lcRf (by exact bk_grow0) (by assumption) (e_callB (x := "len") (by assumption) b_len (a_cons (e_var (a_nil (c_lenL (by exact SqL.of hml) ⟨vm.length, rfl, by omega, fun D nD => ?_⟩))))))
              refine ⟨fun j H' => ∃ acc : List Nat, H' D = some (.lst (acc.map fun (i : Nat) => V.int i)) ∧ (∀ i ∈ acc, ∃ x, must[i]? = some x ∧ usb x.2 = true) ∧ acc.length ≤ j ∧ (∀ y o, y ≠ D → H5 y = some o → H' y = some o), ⟨[], upd_same, fun v h => (nomatch h), Nat.le_refl _, fun y o n hy => by rw [upd_ne n]; exact hy⟩, ?_, ?_⟩
              · rintro j H' hj ⟨acc, hA, hacc, hal, keep⟩ s0 H0 C cl fp IB
                have e2' : Same H5 H' := fun y o hy => keep y o (ne_fresh nD hy).symm hy
                obtain ⟨x0, hx0, a, sv, ea, h1, h2, h3, h4⟩ := hmu.get (i := j) (List.getElem?_eq_getElem hj)
                refine t_val (b_call (by exact FV) (by exact hr) hk1 (a_cons (b_var (a_cons (e_ix (e_ix (b_var (b_var (ix_l (by exact SqL.of (e2' _ _ hml)) (atI_nat (v := .ref a) (by rw [List.getElem?_eq_getElem hj, ea])) ?_)))))))))
                refine e_int (ix_l (by exact SqL.of (e2' _ _ h1)) at1 (a_cons (b_var (a_nil ?_))))
                refine ⟨c, b - 1, hs, sv, x0.2, bx, rfl, s5.same e2', h2.ts (Same.ts e2'), h3, fun H7 e7 => ⟨_, rfl, ?_⟩⟩
                have e27 := e2'.trans e7
                have keep7 : ∀ y o, y ≠ D → H5 y = some o → H7 y = some o := fun y o _ hy => e27 y o hy
                have hA7 := e7 _ _ hA
                cases hus : usb x0.2 with
                | false => exact iteF ⟨acc, hA7, hacc, by omega, keep7⟩
                | true =>
                  refine iteT fun s1 H1 C1 cl1 fp1 IB1 => b_var ⟨_, hA7, by rw [List.length_map]; show _ < 2 ^ 24; omega, acc ++ [j], by rw [upd_same, List.map_append]; rfl, fun v hv' => ?_, by simp; omega, fun y o n hy => by rw [upd_ne n]; exact keep7 y o n hy⟩
                  rcases List.mem_append.mp hv' with h | h
                  · exact hacc v h
                  · rw [List.mem_singleton.mp h]; exact ⟨x0, hx0, hus⟩
              rintro H6 ⟨acc, hA, hacc, hal, keep⟩
              have e56 : Same H5 H6 := fun y o hy => keep y o (ne_fresh nD hy).symm hy
              have s6 := s5.same e56
              have g6 := g5.trans (Gf.same e56)
              show wL _ _ _ [some (.ref c.a), some (.ref gs), some (.ref ml), some (.ref sl), some (.int l), some (.ref bx), some (.int (k : Int)), some (.ref c.p), some (.int pk), some (.ref D), none, none, none, none, none, none] _
              refine l_cons (s_if (t_w (w_and (t_cmp (e_var (e_tup ?_))))))
              walk_at "sts"
              refine ⟨by show 3 ≤ sizeLine; decide, fun tp H7 e7 n7 h7 => ?_⟩
              refine o_inT (by exact SqT.of h7) rfl rfl ⟨_, rfl, ?_⟩
              have s7 := s6.same e7
              have g7 := g6.trans (Gf.same e7)
              have hA7 := e7 _ _ hA
              refine ite2 ?_ (iteF (l_nil (rest9 H7 _ _ _ _ _ _ s7 g7)))
              refine w_and1 (t_tru (e_var ⟨_, tru_l hA7, ?_⟩))
              cases acc with
              | nil => exact iteF (l_nil (rest9 H7 _ _ _ _ _ _ s7 g7))
              | cons a0 acc =>
                -- with the place chosen
                have fin8 : ∀ (H8 : Hp) (i : Nat) (NX BK CT : L2.St → Hp → Prop), i ∈ a0 :: acc → StG H8 c (b - 1) hs → Gf c H H8 → wL (cxOf CX0 P w K mg base (N_grow ++ C_grow) (Str.ofString "_law_grow") (defScope s_grow) f cdv A outer s H E).nox ((ifA (defBody s_grow) 8).drop 2) { nx := NX, rt := Q, bk := BK, ct := CT } [some (.ref c.a), some (.ref gs), some (.ref ml), some (.ref sl), some (.int l), some (.ref bx), some (.int (k : Int)), some (.ref c.p), some (.int pk), some (.ref D), some (.int (i : Nat)), none, none, none, none, none] H8 := by
                  as_aux_lemma =>
                    intro H8 i NX BK CT hi s8 g8
                    obtain ⟨x, hx, hux⟩ := hacc i hi
                    have hil : i < must.length := (List.getElem?_eq_some_iff.mp hx).1
                    obtain ⟨vm8, hml8, hmu8, fml8⟩ := hG.ms.gf hst g8
                    have lvm8 := hmu8.len
                    have hil8 : i < vm8.length := by omega
                    refine l_cons (s_set (e_bin (e_slHi (e_var (e_var ⟨i, ml, vm8, rfl, rfl, hml8, fun pa Ha ea _ ha => ?_⟩)))))
                    refine e_slLo (e_var (e_bin (e_var (e_int (o_add ⟨i + 1, ml, vm8, by show V.int ((i : Int) + 1) = V.int ((i + 1 : Nat) : Int); rw [show ((i : Int) + 1) = ((i + 1 : Nat) : Int) by omega], rfl, ea _ _ hml8, fun pb Hb eb _ hb => ?_⟩)))))
                    refine o_cat2 (eb _ _ ha) hb (by rw [List.length_take, List.length_drop]; omega) fun pc Hc ec nc hc => ?_
                    have e8c := (ea.trans eb).trans ec
                    have s9 := s8.same e8c
                    have g9 := g8.trans (Gf.same e8c)
                    have hmuc : Al (MuV Hc) must vm8 := hmu8.mono fun _ _ => MuV.gf s8 (Gf.same e8c)
                    have hmr : MsV Hc c (must.take i ++ must.drop (i + 1)) pc := ⟨_, hc, (hmuc.take i).app (hmuc.drop (i + 1)), (s8.same (ea.trans eb)).new nc⟩
                    have lr : (must.take i ++ must.drop (i + 1)).length + 1 = must.length := by rw [List.length_append, List.length_take, List.length_drop]; omega
                    obtain ⟨x0, hx0, a, sv, ea', h1, h2, h3, h4⟩ := hmuc.get (i := i) (List.getElem?_eq_getElem hil8)
                    have : x0 = x := by rw [hx] at hx0; exact (Option.some.inj hx0).symm
                    subst this
                    have hmlc := e8c _ _ hml8
                    show wL _ _ _ [some (.ref c.a), some (.ref gs), some (.ref ml), some (.ref sl), some (.int l), some (.ref bx), some (.int (k : Int)), some (.ref c.p), some (.int pk), some (.ref D), some (.int (i : Nat)), some (.ref pc), none, none, none, none] _
                    refine l_cons (s_ret (e_call (by exact FU) (by exact hr) (Nat.le_refl _) (a_cons (e_var (a_cons (e_ix (e_ix (e_var (e_var (ix_l (by exact SqL.of hmlc) (atI_nat (v := .ref a) (by rw [List.getElem?_eq_getElem hil8, ea'])) ?_))))))))))
                    refine e_int (ix_l (by exact SqL.of h1) at0 (a_cons (e_ix (e_ix (e_var (e_var (ix_l (by exact SqL.of hmlc) (atI_nat (v := .ref a) (by rw [List.getElem?_eq_getElem hil8, ea'])) ?_)))))))
                    refine e_int (ix_l (by exact SqL.of h1) at1 ?_)
                    walk_at "sts"
                    have gn := gin _ s9 g9
                    exact ⟨c, b - 1, hs, x0.1, sv, x0.2, gs, g, _, pc, sl, l, bx, rfl, h2, h3, h4, hux, ⟨gn.st, gn.gv, gn.go, gn.gd, hmr, gn.sc, gn.bx, gn.h⟩, hbm, by omega, fun v t b' hs' H10 g10 s10 hv hP => q v t b' hs' H10 (g9.trans g10) s10 hv (GrP.ofU hm (hlw.imp (fun h => ⟨h, by omega⟩) fun h => ⟨h, Nat.le_refl _⟩) (by omega) hP)⟩
                have la : (((a0 :: acc).map fun (i : Nat) => V.int i).length : Int) ≤ vm.length := by rw [List.length_map]; omega
                obtain ⟨x1, hx1m, hx1⟩ := atI_in (xs := (a0 :: acc).map fun (i : Nat) => V.int i) (i := -1) (by simp; omega) (by simp; omega)
                obtain ⟨i1, hi1, rfl⟩ := List.mem_map.mp hx1m
                refine iteT (l_cons (s_set (e_ix (e_var (e_neg (e_int ⟨1, rfl, ix_l (by exact SqL.of hA7) hx1 ?_⟩))))))
                show wL _ _ _ [some (.ref c.a), some (.ref gs), some (.ref ml), some (.ref sl), some (.int l), some (.ref bx), some (.int (k : Int)), some (.ref c.p), some (.int pk), some (.ref D), some (.int (i1 : Nat)), none, none, none, none, none] _
                refine l_cons (s_if (t_cmp (e_var (e_int (o_neI ⟨_, rfl, ?_⟩)))))
                refine ite2 ?_ (l_nil (fin8 H7 i1 _ _ _ hi1 s7 g7))
                refine l_cons (s_set (e_ix (e_var (e_call (by exact FN) (by exact hr) hk1 (a_cons (e_var (a_cons (e_callB (x := "len") (by assumption) b_len (a_cons (e_var (a_nil (c_lenL (by exact SqL.of hA7) (a_nil ?_)))))))))))))
                refine ⟨c.p, _, rfl, by simp, by omega, s7.pl, fun d8 H8 f80 f81 b8 p8 => ?_⟩
                have s8 := s7.pool b8 p8
                have g8 := g7.trans (Gf.pool b8)
                have nDp : D ≠ c.p := (s5.new nD).p
                have hA8 := b8 D _ nDp hA7
                obtain ⟨jj, rfl⟩ := Int.eq_ofNat_of_zero_le f80
                have hjj : jj < (a0 :: acc).length := by rw [List.length_map] at f81; omega
                obtain ⟨i, hi, ei⟩ : ∃ i, i ∈ a0 :: acc ∧ ((a0 :: acc).map fun (i : Nat) => V.int i)[jj]? = some (.int (i : Nat)) := ⟨(a0 :: acc)[jj], List.getElem_mem hjj, by rw [List.getElem?_map, List.getElem?_eq_getElem hjj]; rfl⟩
                refine ix_l (by exact SqL.of hA8) (atI_nat (v := .int (i : Nat)) ei) (l_nil ?_)
                exact fin8 H8 i _ _ _ hi s8 g8
          -- a cut by the pick
          have rest6 : ∀ (H5 : Hp) (NX BK CT : L2.St → Hp → Prop), StG H5 c (b - 1) hs → Gf c H H5 → wL (cxOf CX0 P w K mg base (N_grow ++ C_grow) (Str.ofString "_law_grow") (defScope s_grow) f cdv A outer s H E).nox ((defBody s_grow).drop 6) { nx := NX, rt := Q, bk := BK, ct := CT } [some (.ref c.a), some (.ref gs), some (.ref ml), some (.ref sl), some (.int l), some (.ref bx), some (.int (k : Int)), some (.ref c.p), some (.int pk), none, none, none, none, none, none, none] H5 := by
            as_aux_lemma =>
              intro H5 NX BK CT s5 g5
              refine l_cons (s_if (t_w (w_and (t_cmp (e_var (e_tup ?_))))))
              walk_at "sts"
              refine ⟨by show 2 ≤ sizeLine; decide, fun tp H7 e7 n7 h7 => ?_⟩
              refine o_inT (by exact SqT.of h7) rfl rfl ⟨_, rfl, ?_⟩
              have s7 := s5.same e7
              have g7 := g5.trans (Gf.same e7)
              obtain ⟨kv7, k17, kp7, kf7, kw7, kr7, ke7, kh7, kt7, kb7, kl7⟩ := s7.d
              cases hin : inV (V.int pk) [V.int 4, V.int 5] with
              | false => exact iteF (iteF (l_nil (rest7 H7 _ _ _ s7 g7)))
              | true =>
              refine iteT ?_
              have hb1 : 1 ≤ b := by
                as_aux_lemma =>
                  rcases hlive with h | ⟨_, h⟩
                  · exact h
                  · exfalso
                    have h12 : k = 1 ∨ k = 2 := by omega
                    rw [h] at hin
                    rcases h12 with h12 | h12 <;> rw [h12] at hin <;> exact absurd hin (by decide)
              refine w_and1 (t_cmp (e_str (e_dg (by exact hr) (e_var (e_str ⟨c.a, _, rfl, dg_k k17 kf7, ?_⟩)))))
              rw [sg_c]
              refine o_inS ?_
              rw [c_c]
              refine ⟨_, rfl, iteT (l_cons (s_ret ?_))⟩
              refine e_call (by exact FCu) (by exact hr) (Nat.le_refl _) ?_
              walk_at "sts"
              exact cut hb1 _ s7 g7
          -- a right row
          refine l_cons (s_if (t_w (w_and (t_cmp (e_var (e_tup ?_))))))
          walk_at "sts"
          refine ⟨by show 4 ≤ sizeLine; decide, fun tp H4 e4 n4 h4 => ?_⟩
          refine o_inT (by exact SqT.of h4) rfl rfl ⟨_, rfl, ?_⟩
          have s4 := s3.same e4
          have g4 := g3.trans (Gf.same e4)
          refine ite2 ?_ (iteF (l_nil (rest6 H4 _ _ _ s4 g4)))
          have hgv4 := hG.gv.ts (hst.tss g4)
          refine w_and1 (t_w (w_or (t_cmp ?_)))
          have hgo := hG.go
          cases g with
          | menu x y => exact hgo.elim
          | word z =>
            obtain ⟨t, e, ht⟩ := hgv4
            cases e
            obtain ⟨kv7, k17, kp7, kf7, kw7, kr7, ke7, kh7, kt7, kb7, kl7⟩ := s4.d
            refine e_ix (e_var (e_int (ix_t (by exact SqT.of ht) at0 (e_str (o_neS ⟨_, rfl, ?_⟩)))))
            rw [show (!decide (Str.ofString "word" = Str.ofString "word")) = false by rw [decide_eq_true rfl]; rfl]
            refine iteF (w_or1 (t_cmp (e_callB (x := "len") (by assumption) b_len (a_cons (e_ix (e_dget2 (by exact hr) (e_dg (by exact hr) (e_var (e_str ⟨c.a, .ref c.rl, rfl, dg_k k17 kr7, ?_⟩)))))))))
            refine ⟨c.rl, rfl, .inl ⟨_, .inl s4.rl⟩, e_ix (e_var (e_int (ix_t (by exact SqT.of ht) at1 ?_)))⟩
            refine e_tup (a_cons (e_lst (a_nil ⟨by show 0 ≤ sizeLine; decide, fun l1 H5 e5 n5 h5 => a_cons (e_lst (a_nil ⟨by show 0 ≤ sizeLine; decide, fun l2 H6 e6 n6 h6 => a_nil ⟨by show 2 ≤ sizeLine; decide, fun t6 H7 e7 n7 h7 => ?_⟩⟩))⟩)))
            have e47 := (e5.trans e6).trans e7
            refine ⟨_, dg_K (k := .inr z) (e47 _ _ s4.rl), ?_⟩
            rw [show valV ([] : List (Key × V)) (.inr z) = none from rfl]
            refine e_int (ix_t (by exact SqT.of h7) at0 (a_nil (c_lenL (by exact SqL.of (e7 _ _ (e6 _ _ h5))) (e_int (o_gt ⟨_, rfl, ?_⟩)))))
            rw [decide_eq_false (by simp)]
            exact iteF (l_nil (rest6 H7 _ _ _ (s4.same e47) (g4.trans (Gf.same e47))))
          | trade kd x y =>
            obtain ⟨rfl, _, _⟩ := id hgo
            obtain ⟨t, mv, xv, yv, e, ht, hmv, hx, hy⟩ := hgv4
            cases e
            refine e_ix (e_var (e_int (ix_t (by exact SqT.of ht) at0 (e_str (o_neS ⟨_, rfl, ?_⟩)))))
            rw [show (!decide (Str.ofString "trade" = Str.ofString "word")) = true by rw [decide_eq_false (by decide +kernel)]; rfl]
            refine iteT (iteT (l_cons (s_ret (e_call (by exact FR) (by exact hr) (Nat.le_refl _) ?_))))
            walk_at "sts"
            exact ⟨c, b - 1, hs, gs, x, y, must, ml, sl, l, bx, rfl, gin _ s4 g4, hbm, by omega, fun v t b' hs' H6 g6 s6 hv hP => q v t b' hs' H6 (g4.trans g6) s6 hv (GrP.ofU hm (hlw.imp (fun h => ⟨h, by omega⟩) fun h => ⟨h, Nat.le_refl _⟩) (Nat.le_refl _) hP)⟩
      refine if2 (fun hB => ?_) (fun hB => iteF (l_nil (live (.inl (by omega)))))
      refine w_and1 (t_cmp (e_var (e_int (o_lt ⟨_, rfl, ?_⟩))))
      refine if2 (fun _ => l_cons (s_ret ?ce)) (fun h10 => l_nil (live (.inr ?_)))
      case ce =>
        refine e_call (by exact FC) (by exact hr) hk ?_
        walk_at "sts"
        exact close _ (fun _ _ => True) (fun _ _ => True) (fun _ _ => True) [] s3 g3
      · rcases hpk with h | h
        · omega
        · exact h
  refine l_cons (s_if (t_w (w_and (t_cmp (e_var (e_int (o_gt ⟨_, rfl, ?_⟩)))))))
  refine if2 (fun hk0 => ?_) (fun _ => iteF (l_nil (main d1 H2 (.inl ⟨f0, f1⟩) s2 g2)))
  refine w_and1 (t_cmp (e_call (by exact FN) (by exact hr) hk1 (a_cons (e_var (a_cons (e_int (a_nil ?_)))))))
  refine ⟨c.p, 4, rfl, by decide, by decide, s2.pl, fun d3 H3 f30 f31 b3 p3 => e_var (o_ge ⟨_, rfl, ?_⟩)⟩
  have s3 := s2.pool b3 p3
  have g3 := g2.trans (Gf.pool b3)
  refine if2 (fun _ => ?_) (fun _ => l_nil (main d1 H3 (.inl ⟨f0, f1⟩) s3 g3))
  refine l_cons (s_set (e_bin (e_var (e_int (o_add (l_nil ?_))))))
  exact main ((k : Int) + 10) H3 (.inr ⟨by omega, rfl⟩) s3 g3
theorem ok_growU (n : Nat) (Tg : Top K mg "_law_grow" s_grow) (Tp : Top K mg "_law_paid" s_paid) (Tu : Top K mg "_law_under" s_under) (Ts : Top K mg "_law_use" s_use) (Tr : Top K mg "_law_right_row" s_right_row) (Tc : Top K mg "_law_cut" s_cut) (mL : mg "len" = none) (mR : mg "range" = none) (FN : Fn P w K mg base 1 "_law_next" spNext) (FX : Fn P w K mg base 2 "_law_split" spSplit) (FC : Fn P w K mg base 4 "_law_close" spClose) (FV : Fn P w K mg base 1 "_law_usable" spUsable) (FH : Fn P w K mg base 3 "_law_hold" spHold) (FS : ∀ n, Fn P w K mg base (n + 2) "_law_sentence" (spSent n)) : Fn P w K mg base (3 * n + 5) "_law_grow" (spGrow n) ∧ Fn P w K mg base (3 * n + 7) "_law_cut" (spCut n) := by
  have kids : ∀ m, Fn P w K mg base (3 * m + 5) "_law_grow" (spGrow m) → Fn P w K mg base (3 * m + 7) "_law_use" (spUse m) ∧ Fn P w K mg base (3 * m + 7) "_law_right_row" (spRow2 m) ∧ Fn P w K mg base (3 * m + 7) "_law_cut" (spCut m) := fun m ih => by
    have fu := ok_under m (3 * m + 5) Tu ih
    have fp := ok_paid m (3 * m + 5) Tp (by omega) FX ih
    exact ⟨ok_use m (3 * m + 6) Ts fp fu, ok_right_row m (3 * m + 6) Tr fu, ok_cut m (3 * m + 6) Tc (by omega) FN FS fp fu⟩
  have g : Fn P w K mg base (3 * n + 5) "_law_grow" (spGrow n) := by
    induction n with
    | zero => exact ok_growS 0 4 Tg mL mR (by decide) FN FC FV FH (FS 2) fun m h => by cases h
    | succ n ih => exact ok_growS (n + 1) (3 * n + 7) Tg mL mR (by omega) FN FC FV FH (FS 2) fun m h => by cases h; exact kids n ih
  exact ⟨g, (kids n g).2.2⟩
end



theorem l_seq {X : Cx} {st : Stmt} {rest : List Stmt} {C : _} {σ : L2.St} {H : Hp} (Pm : L2.St → Hp → Prop) (h2 : (∀ σ H, Pm σ H → wL X rest C σ H) → wL X (st :: rest) C σ H) (h1 : ∀ σ H, Pm σ H → wL X rest C σ H) : wL X (st :: rest) C σ H := h2 h1
section
variable {P : Program} {w : World} {K : PySem.W.Frag} {mg : Str → Option Value} {base : Heap}
/-- a list put under a name -/
def ptF (F : FcT) (k : Key) (l : List Int) : FcT := F.map fun p => if p.1 = k then (p.1, l) else p
def ptB (F : FcT) (bs : List Addr) (k : Key) (b : Addr) : List Addr := List.zipWith (fun p x => if p.1 = k then b else x) F bs
theorem ptF_keys (F : FcT) (k : Key) (l : List Int) : (ptF F k l).map (·.1) = F.map (·.1) := by
  unfold ptF
  rw [List.map_map]
  apply List.map_congr_left
  intro p _
  show (if p.1 = k then (p.1, l) else p).1 = p.1
  split <;> rfl
theorem pt_zk (k : Key) (l : List Int) (b : Addr) : ∀ (F : FcT) (bs : List Addr), bs.length = F.length → zk (ptF F k l) (ptB F bs k b) = (zk F bs).map fun kv => if kv.1 = k then (kv.1, V.ref b) else kv
  | [], [], _ => rfl
  | p :: F, x :: bs, h => by
    show ((if p.1 = k then (p.1, l) else p).1, V.ref (if p.1 = k then b else x)) :: zk (ptF F k l) (ptB F bs k b) = (if p.1 = k then (p.1, V.ref b) else (p.1, V.ref x)) :: _
    rw [pt_zk k l b F bs (by simpa using h)]
    congr 1
    split <;> rfl
theorem pt_rs {H : Hp} {k : Key} {l : List Int} {b : Addr} (hb : H b = some (.lst (iV l))) : ∀ (F : FcT) (bs : List Addr), RsV H bs (F.map (·.2)) → RsV H (ptB F bs k b) ((ptF F k l).map (·.2))
  | [], [], _ => rfl
  | [], x :: bs, ⟨_, _, h, _⟩ => by cases h
  | p :: F, [], h => by cases (show _ = _ from h)
  | p :: F, x :: bs, ⟨r, rs, h1, h2, h3⟩ => by
    cases h1
    refine ⟨(if p.1 = k then (p.1, l) else p).2, _, rfl, ?_, pt_rs hb F bs h3⟩
    show H (if p.1 = k then b else x) = _
    by_cases e : p.1 = k
    · rw [if_pos e, if_pos e]; exact hb
    · rw [if_neg e, if_neg e]; exact h2
theorem pt_no (k : Key) (b : Addr) : ∀ (F : FcT) (bs : List Addr), bs.length = F.length → k ∉ F.map (·.1) → ptB F bs k b = bs
  | [], [], _, _ => rfl
  | p :: F, x :: bs, h, n => by
    show (if p.1 = k then b else x) :: ptB F bs k b = _
    rw [if_neg (fun z => n (by rw [← z]; exact List.mem_map.mpr ⟨p, List.mem_cons_self, rfl⟩)), pt_no k b F bs (by simpa using h) (fun m => n (by rw [List.map_cons]; exact List.mem_cons_of_mem _ m))]
theorem pt_mem (k : Key) (b : Addr) : ∀ (F : FcT) (bs : List Addr), ∀ x ∈ ptB F bs k b, x ∈ bs ∨ x = b
  | [], bs, x, h => by cases bs <;> cases h
  | p :: F, [], x, h => by cases h
  | p :: F, y :: bs, x, h => by
    rcases List.mem_cons.mp (show x ∈ (if p.1 = k then b else y) :: ptB F bs k b from h) with h | h
    · split at h
      · exact .inr h
      · exact .inl (by rw [h]; exact List.mem_cons_self)
    · exact (pt_mem k b F bs x h).imp (List.mem_cons_of_mem _) id
theorem pt_nd (k : Key) (b : Addr) : ∀ (F : FcT) (bs : List Addr), bs.length = F.length → (F.map (·.1)).Nodup → bs.Nodup → b ∉ bs → (ptB F bs k b).Nodup
  | [], [], _, _, _, _ => by simp [ptB]
  | p :: F, x :: bs, h, kn, nd, nb => by
    rw [List.map_cons, List.nodup_cons] at kn
    rw [List.nodup_cons] at nd
    have hl : bs.length = F.length := by simpa using h
    have nb2 : b ∉ bs := fun m => nb (List.mem_cons_of_mem _ m)
    show ((if p.1 = k then b else x) :: ptB F bs k b).Nodup
    rw [List.nodup_cons]
    refine ⟨?_, pt_nd k b F bs hl kn.2 nd.2 nb2⟩
    by_cases e : p.1 = k
    · rw [if_pos e, pt_no k b F bs hl (by rw [← e]; exact kn.1)]
      exact nb2
    · rw [if_neg e]
      intro m
      rcases pt_mem k b F bs x m with m | m
      · exact nd.1 m
      · exact nb (by rw [← m]; exact List.mem_cons_self)
theorem Facts.put {H : Hp} {d b : Addr} {bs : List Addr} {F : FcT} {l : List Int} (h : Facts H d bs F) (k : Key) (hb : H b = some (.lst (iV l))) (nb : b ∉ d :: bs) :
    ∃ bs' F', Facts (upd H d (.dK (putK (zk F bs) k (.ref b)))) d bs' F' ∧ (∀ x ∈ bs', x ∈ bs ∨ x = b) ∧ F'.length ≤ F.length + 1 ∧ ∀ p ∈ F', p ∈ F ∨ p.2 = l := by
  have lF := h.len
  have nd := List.nodup_cons.mp h.nd
  have ndb : b ≠ d := fun z => nb (by rw [z]; exact List.mem_cons_self)
  have nbb : b ∉ bs := fun m => nb (List.mem_cons_of_mem _ m)
  have keep : ∀ x ∈ bs, ∀ o, H x = some o → upd H d (.dK (putK (zk F bs) k (.ref b))) x = some o := fun x hx o z => by rw [upd_ne (fun e => by subst e; exact nd.1 hx)]; exact z
  have hb2 : upd H d (.dK (putK (zk F bs) k (.ref b))) b = some (.lst (iV l)) := by rw [upd_ne ndb]; exact hb
  by_cases hk : k ∈ F.map (·.1)
  · refine ⟨ptB F bs k b, ptF F k l, ⟨?_, pt_rs hb2 F bs (h.rs.keep keep), by rw [ptF_keys]; exact h.kn, List.nodup_cons.mpr ⟨fun m => ?_, pt_nd k b F bs lF h.kn nd.2 nbb⟩⟩, pt_mem k b F bs, by unfold ptF; rw [List.length_map]; omega, fun p hp => ?_⟩
    · rw [upd_same, pt_zk k l b F bs lF]
      unfold putK
      rw [if_pos]
      rw [← zk_keys F bs lF] at hk
      obtain ⟨q, hq, e⟩ := List.mem_map.mp hk
      exact List.any_eq_true.mpr ⟨q, hq, decide_eq_true e⟩
    · rcases pt_mem k b F bs d m with m | m
      · exact nd.1 m
      · exact ndb m.symm
    · unfold ptF at hp
      obtain ⟨q, hq, rfl⟩ := List.mem_map.mp hp
      by_cases e : q.1 = k
      · rw [if_pos e]; exact .inr rfl
      · rw [if_neg e]; exact .inl hq
  · refine ⟨bs ++ [b], F ++ [(k, l)], ⟨?_, ?_, ?_, nd_snoc (l := d :: bs) h.nd nb⟩, fun x hx => ?_, by rw [List.length_append]; exact Nat.le_refl _, fun p hp => ?_⟩
    · rw [upd_same, put_new _ (by rw [zk_keys F bs lF]; exact hk), zk_snoc F bs lF]
    · rw [List.map_append]
      exact RsV.snoc hb2 (h.rs.keep keep)
    · rw [List.map_append]
      exact List.nodup_append.mpr ⟨h.kn, by simp, fun x hx y hy z => hk (by rw [show y = k by simpa using hy] at z; exact z ▸ hx)⟩
    · rcases List.mem_append.mp hx with hx | hx
      · exact .inl hx
      · exact .inr (List.mem_singleton.mp hx)
    · rcases List.mem_append.mp hp with hp | hp
      · exact .inl hp
      · rw [List.mem_singleton.mp hp]; exact .inr rfl
end
section
variable {X : Cx} {N G G' : List Str} {Vn : List (Nat × Str)} {sc scope : Scope} {c : Expr} {σ : L2.St} {H1 : Hp} {x : Str} {px : Pos}
/-- numbers below n, not many -/
def NmP (n : Nat) (r : List Int) : Prop := r.length ≤ 32 ∧ ∀ y ∈ r, 0 ≤ y ∧ y < (n : Int)
/-- [x for x in range(n) if c], where the test draws at most from the pool p -/
theorem lcRf_draw {i j n : Nat} {D p : Addr} {Qd : Hp → Prop} (hA : At Vn j (i, x)) (hi : i < σ.length) (nD : H1 D = none) (p1 : PoolAt H1 p) (hn : n ≤ 32)
    (ht : ∀ k H2, k < n → PoolAt H2 p → ∀ s0 H0 C cl fp, InB (Bk X s0 H0 scope C cl fp) Vn G' → ∀ QT : Bool → Hp → Prop, (∀ b H3, But p H2 H3 → PoolAt H3 p → QT b H3) → wT (Bk X s0 H0 scope C cl fp) c ((wipe σ [i]).set i (some (.int (k : Int)))) H2 QT)
    (hd : ∀ r H2, H2 D = some (.lst (iV r)) → NmP n r → PoolAt H2 p → But2 p D H1 H2 → Qd H2) : LcRf X Vn G' (.Name x px) c scope i n D σ H1 Qd := by
  obtain ⟨qx, qy, qz, hq⟩ := id p1
  have nDp : D ≠ p := fun e => by subst e; rw [hq] at nD; cases nD
  refine ⟨fun k H2 => ∃ r, H2 D = some (.lst (iV r)) ∧ r.length ≤ k ∧ (∀ y ∈ r, 0 ≤ y ∧ y < (n : Int)) ∧ PoolAt H2 p ∧ But2 p D H1 H2, ⟨[], upd_same, Nat.le_refl _, by simp, ⟨qx, qy, qz, by rw [upd_ne (Ne.symm nDp)]; exact hq⟩, fun u o _ u2 hu => by rw [upd_ne u2]; exact hu⟩, fun k H2 hk pp => ?_, fun H2 pp => ?_⟩
  · obtain ⟨r, r1, r2, r3, p2, b2⟩ := pp
    intro s0 H0 C cl fp IB
    refine ht k H2 hk p2 s0 H0 C cl fp IB _ fun b H3 b3 p3 => ?_
    have r1' := b3 _ _ nDp r1
    have b3' : But2 p D H1 H3 := fun u o u1 u2 hu => b3 _ _ u1 (b2 u o u1 u2 hu)
    cases b with
    | false => exact iteF ⟨r, r1', by omega, r3, p3, b3'⟩
    | true =>
      refine iteT fun s0 H0 C cl fp IB => b_var ⟨_, r1', by rw [List.length_map]; show _ < 2 ^ 24; omega, r ++ [(k : Int)], ?_, by rw [List.length_append]; exact Nat.succ_le_succ r2, fun y hy => ?_, ?_, fun u o u1 u2 hu => by rw [upd_ne u2]; exact b3' u o u1 u2 hu⟩ IB hA (by rw [List.getElem?_set_self (by rw [wipe_length]; exact hi)])
      · rw [upd_same, show iV (r ++ [(k : Int)]) = iV r ++ iV [(k : Int)] from List.map_append]; rfl
      · rcases List.mem_append.mp hy with hy | hy
        · exact r3 y hy
        · rw [List.mem_singleton.mp hy]; omega
      · obtain ⟨ux, uy, uz, hu⟩ := p3
        exact ⟨ux, uy, uz, by rw [upd_ne (Ne.symm nDp)]; exact hu⟩
  · obtain ⟨r, r1, r2, r3, p2, b2⟩ := pp
    exact hd r H2 r1 ⟨by omega, r3⟩ p2 b2
end
section
variable {P : Program} {w : World} {K : PySem.W.Frag} {mg : Str → Option Value} {base : Heap}
def spFcts : Sp := fun vs H Q _ => ∃ p wd ws n, vs = [.ref p, .ref wd, .int ((n : Nat) : Int), .int 6] ∧ PoolAt H p ∧ H wd = some (.lst (sVs ws)) ∧ wd ≠ p ∧ ws.length ≤ 4 ∧ 1 ≤ n ∧ n < 32 ∧ ∀ d bs F H', But p H H' → PoolAt H' p → (∀ b ∈ d :: bs, H b = none) → Facts H' d bs F → F.length ≤ 4 → (∀ q ∈ F, NmP n q.2) → Q (.ref d) H'
theorem ok_fcts (T : Top K mg "_law_facts" s_facts) (mR : mg "range" = none) (FN : Fn P w K mg base 1 "_law_next" spNext) : Fn P w K mg base 2 "_law_facts" spFcts := by
  refine fn_okC T sc_facts so_facts (fun vs H Q E h => by obtain ⟨p, wd, ws, n, rfl, _⟩ := h; rfl) (fun _ _ _ _ _ _ us hl => match us, hl with | [_, _, _, _], _ => rfl) fun f cdv A outer s H vs Q E hr h nd => ?_
  obtain ⟨p, wd, ws, n, rfl, hp, hwd, nwp, lws, n1, n2, q⟩ := h
  refine l_cons (s_set (e_dnew fun d nd0 => ?_))
  obtain ⟨qx, qy, qz, hq⟩ := id hp
  have ndp : d ≠ p := fun z => by subst z; rw [hq] at nd0; cases nd0
  have ndw : d ≠ wd := fun z => by subst z; rw [hwd] at nd0; cases nd0
  have e1 : Same H (upd H d (.dK [])) := fun c u hc => by rw [upd_ne (ne_of_none hc nd0)]; exact hc
  have hd1 : upd H d (.dK []) d = some (.dK []) := upd_same
  generalize upd H d (.dK []) = H1 at e1 hd1
  show wL _ _ _ [some (.ref p), some (.ref wd), some (.int (n : Int)), some (.int 6), some (.ref d), none, none, none, none, none] _
  refine l_cons (s_forL (e_var ⟨wd, sVs ws, rfl, SqL.of (e1 _ _ hwd), ?_⟩))
  refine ⟨fun k σ H' => ∃ x5 x6 x7 x8 bs F, σ = [some (.ref p), some (.ref wd), some (.int (n : Int)), some (.int 6), some (.ref d), x5, x6, x7, x8, none] ∧ PoolAt H' p ∧ Facts H' d bs F ∧ F.length ≤ k ∧ (∀ q ∈ F, NmP n q.2) ∧ (∀ b ∈ bs, H b = none) ∧ ∀ c u, c ≠ p → c ≠ d → H c = some u → H' c = some u, ⟨none, none, none, none, [], [], rfl, ⟨_, _, _, e1 _ _ hq⟩, ⟨hd1, rfl, by simp, by simp⟩, Nat.le_refl _, by simp, by simp, fun c u _ _ hc => e1 _ _ hc⟩, ?_, ?_, ?_⟩
  · intro k σ H' _ pp
    obtain ⟨_, _, _, _, _, _, _, _, _, _, _, _, keep⟩ := pp
    exact SqL.of (keep wd _ nwp (Ne.symm ndw) hwd)
  · intro k y σ H' hy pp
    obtain ⟨x5, x6, x7, x8, bs, F, rfl, p', hF, lF, zF, fr, keep⟩ := pp
    obtain ⟨z, hz, rfl⟩ := sVs_get hy
    have hk4 : k < 4 := Nat.lt_of_lt_of_le (List.getElem?_eq_some_iff.mp hz).1 lws
    show wL _ _ _ [some (.ref p), some (.ref wd), some (.int (n : Int)), some (.int 6), some (.ref d), some (.str z), x6, x7, x8, none] _
    refine l_cons (s_set (e_call (by exact FN) (by exact hr) (by decide) ?_))
    refine a_cons (e_var (a_cons (e_var (a_nil ⟨p, 6, rfl, by decide, by decide, p', fun pk H3 k0 k1 b3 p3 => ?_⟩))))
    show wL _ _ _ [some (.ref p), some (.ref wd), some (.int (n : Int)), some (.int 6), some (.ref d), some (.str z), some (.int pk), x7, x8, none] _
    refine l_cons (s_set (e_call (by exact FN) (by exact hr) (by decide) ?_))
    refine a_cons (e_var (a_cons (e_var (a_nil ⟨p, n, rfl, by omega, by omega, p3, fun at' H4 at0 at1 b4 p4 => ?_⟩))))
    have b34 := b3.trans b4
    show wL _ _ _ [some (.ref p), some (.ref wd), some (.int (n : Int)), some (.int 6), some (.ref d), some (.str z), some (.int pk), some (.int at'), x8, none] _
    let Md : L2.St → Hp → Prop := fun σ H5 => ∃ D r, σ = [some (.ref p), some (.ref wd), some (.int (n : Int)), some (.int 6), some (.ref d), some (.str z), some (.int pk), some (.int at'), some (.ref D), none] ∧ H5 D = some (.lst (iV r)) ∧ NmP n r ∧ H4 D = none ∧ PoolAt H5 p ∧ But p H4 H5
    have toMd : ∀ D r H5 H6, But p H4 H5 → PoolAt H5 p → H5 D = none → H6 D = some (.lst (iV r)) → NmP n r → PoolAt H6 p → But2 p D H5 H6 → Md [some (.ref p), some (.ref wd), some (.int (n : Int)), some (.int 6), some (.ref d), some (.str z), some (.int pk), some (.int at'), some (.ref D), none] H6 := fun D r H5 H6 b5 p5 nD h1 h2 h3 h4 => by
      have nDp : D ≠ p := p5.ne nD
      have nD4 : H4 D = none := by
        cases hz : H4 D with
        | none => rfl
        | some u => rw [b5 _ _ nDp hz] at nD; cases nD
      exact ⟨D, r, rfl, h1, h2, nD4, h3, fun c u c1 hc => h4 c u c1 (fun e => by subst e; rw [nD4] at hc; cases hc) (b5 _ _ c1 hc)⟩
    refine l_cons (s_lcRf (by exact bk_facts0) (by assumption) (e_var ⟨n, rfl, by omega, fun D nD => ?_⟩))
    refine lcRf_draw (p := p) At.z (by simp) nD p4 (by omega) (fun k H2 hk p2 s0 H0 C cl fp IB QT hQ => ?_) fun r H5 h1 h2 h3 h4 => ?_
    · exact t_cmp (b_var (b_var (o_neI ⟨_, rfl, hQ _ _ .refl p2⟩)))
    have m5 := toMd D r H4 H5 .refl p4 nD h1 h2 h3 h4
    clear h1 h2 h3 h4 nD
    show wL _ _ _ [some (.ref p), some (.ref wd), some (.int (n : Int)), some (.int 6), some (.ref d), some (.str z), some (.int pk), some (.int at'), some (.ref D), none] _
    generalize [some (V.ref p), some (.ref wd), some (.int (n : Int)), some (.int 6), some (.ref d), some (.str z), some (.int pk), some (.int at'), some (.ref D), none] = σ5 at m5
    -- pick 3
    refine l_seq Md (fun go => ?_) fun σ6 H6 m6 => ?_
    · obtain ⟨D, r, rfl, h1, h2, h3, h4, h5⟩ := id m5
      refine l_cons (s_if (t_cmp (e_var (e_int (o_eqI ⟨_, rfl, ?_⟩)))))
      refine if2 (fun _ => ?_) (fun _ => l_nil (go _ _ m5))
      refine l_cons (s_lcRf (by exact bk_facts1) (by assumption) (e_var ⟨n, rfl, by omega, fun D nD => ?_⟩))
      refine lcRf_draw (p := p) At.z (by simp) nD h4 (by omega) (fun k H2 hk p2 s0 H0 C cl fp IB QT hQ => ?_) fun r H5 g1 g2 g3 g4 => l_nil (go _ _ (toMd D r _ H5 h5 h4 nD g1 g2 g3 g4))
      exact t_cmp (b_var (b_var (o_ge ⟨_, rfl, hQ _ _ .refl p2⟩)))
    clear m5
    -- pick 4
    refine l_seq Md (fun go => ?_) fun σ7 H7 m7 => ?_
    · obtain ⟨D, r, rfl, h1, h2, h3, h4, h5⟩ := id m6
      refine l_cons (s_if (t_cmp (e_var (e_int (o_eqI ⟨_, rfl, ?_⟩)))))
      refine if2 (fun _ => ?_) (fun _ => l_nil (go _ _ m6))
      refine l_cons (s_lcRf (by exact bk_facts2) (by assumption) (e_var ⟨n, rfl, by omega, fun D nD => ?_⟩))
      refine lcRf_draw (p := p) At.z (by simp) nD h4 (by omega) (fun k H2 hk p2 s0 H0 C cl fp IB QT hQ => ?_) fun r H5 g1 g2 g3 g4 => l_nil (go _ _ (toMd D r _ H5 h5 h4 nD g1 g2 g3 g4))
      refine t_cmp (b_call (by exact FN) (by exact hr) (by decide) (a_cons (b_var (a_cons (e_int (a_nil ?_))))))
      exact ⟨p, 4, rfl, by decide, by decide, p2, fun d H3 _ _ b3 p3 => e_int (o_gt ⟨_, rfl, hQ _ _ b3 p3⟩)⟩
    clear m6
    -- pick 5
    refine l_seq Md (fun go => ?_) fun σ8 H8 m8 => ?_
    · obtain ⟨D, r, rfl, h1, h2, h3, h4, h5⟩ := id m7
      refine l_cons (s_if (t_cmp (e_var (e_int (o_eqI ⟨_, rfl, ?_⟩)))))
      refine if2 (fun _ => ?_) (fun _ => l_nil (go _ _ m7))
      refine l_cons (s_lcRf (by exact bk_facts3) (by assumption) (e_var ⟨n, rfl, by omega, fun D nD => ?_⟩))
      refine lcRf_draw (p := p) At.z (by simp) nD h4 (by omega) (fun k H2 hk p2 s0 H0 C cl fp IB QT hQ => ?_) fun r H5 g1 g2 g3 g4 => l_nil (go _ _ (toMd D r _ H5 h5 h4 nD g1 g2 g3 g4))
      refine t_cmp (b_call (by exact FN) (by exact hr) (by decide) (a_cons (b_var (a_cons (e_int (a_nil ?_))))))
      exact ⟨p, 2, rfl, by decide, by decide, p2, fun d H3 _ _ b3 p3 => e_int (o_eqI ⟨_, rfl, hQ _ _ b3 p3⟩)⟩
    clear m7
    -- pick 6
    refine l_seq Md (fun go => ?_) fun σ9 H9 m9 => ?_
    · obtain ⟨D, r, rfl, h1, h2, h3, h4, h5⟩ := id m8
      refine l_cons (s_if (t_cmp (e_var (e_int (o_eqI ⟨_, rfl, ?_⟩)))))
      refine if2 (fun _ => ?_) (fun _ => l_nil (go _ _ m8))
      refine l_cons (s_lcR (by exact bk_facts4) (by assumption) (e_call (by exact FN) (by exact hr) (by decide) ?_))
      refine a_cons (e_var (a_cons (e_int (a_nil ⟨p, 4, rfl, by decide, by decide, h4, fun m H10 m0 m1 b10 p10 => ?_⟩))))
      obtain ⟨m, rfl⟩ := Int.eq_ofNat_of_zero_le m0
      refine ⟨m, rfl, by omega, fun D nD => ?_⟩
      obtain ⟨tx, ty, tz, ht⟩ := id p10
      have nDp : D ≠ p := fun e => by subst e; rw [ht] at nD; cases nD
      refine ⟨fun j H6 => ∃ r, H6 D = some (.lst (iV r)) ∧ r.length = j ∧ (∀ y ∈ r, 0 ≤ y ∧ y < (n : Int)) ∧ PoolAt H6 p ∧ But2 p D H10 H6, ⟨[], upd_same, rfl, by simp, ⟨tx, ty, tz, by rw [upd_ne (Ne.symm nDp)]; exact ht⟩, fun c o _ c2 hc => by rw [upd_ne c2]; exact hc⟩, ?_, ?_⟩
      · intro j H6 hj pp s0 H0 C cl fp IB
        obtain ⟨r, r1, r2, rz, r3, r4⟩ := pp
        refine b_call (by exact FN) (by exact hr) (by decide) (a_cons (b_var (a_cons (b_var (a_nil ?_)))))
        refine ⟨p, (n : Int), rfl, by omega, by omega, r3, fun y H7 y0 y1 b7 p7 => ?_⟩
        obtain ⟨ux, uy, uz, hu⟩ := p7
        refine ⟨_, b7 _ _ nDp r1, by rw [List.length_map]; show _ < 2 ^ 24; omega, r ++ [y], by rw [upd_same, show iV (r ++ [y]) = iV r ++ iV [y] from List.map_append]; rfl, by rw [List.length_append, r2]; rfl, fun x hx => ?_, ⟨ux, uy, uz, by rw [upd_ne (Ne.symm nDp)]; exact hu⟩, fun c o c1 c2 hc => by rw [upd_ne c2]; exact b7 _ _ c1 (r4 c o c1 c2 hc)⟩
        rcases List.mem_append.mp hx with hx | hx
        · exact rz x hx
        · rw [List.mem_singleton.mp hx]; exact ⟨y0, y1⟩
      · intro H6 pp
        obtain ⟨r, r1, r2, rz, r3, r4⟩ := pp
        exact l_nil (go _ _ (toMd D r H10 H6 (h5.trans b10) p10 nD r1 ⟨by omega, rz⟩ r3 r4))
    clear m8
    obtain ⟨D, r, rfl, h1, h2, h3, h4, h5⟩ := m9
    have b9 := b34.trans h5
    have frp : ∀ b ∈ d :: bs, b ≠ p := fun b hb e => by
      subst e
      rcases List.mem_cons.mp hb with e | hb
      · exact ndp e.symm
      · have := fr _ hb; rw [hq] at this; cases this
    have hF9 : Facts H9 d bs F := hF.keep fun b hb o hc => b9 b o (frp b hb) hc
    have keep9 : ∀ c u, c ≠ p → c ≠ d → H c = some u → H9 c = some u := fun c u c1 c2 hc => b9 c u c1 (keep c u c1 c2 hc)
    have nDp : D ≠ p := p4.ne h3
    have nDm : D ∉ d :: bs := fun m => by
      have h5 : ∃ u, H4 D = some u := by
        as_aux_lemma =>
          rcases List.mem_cons.mp m with e | hb
          · exact ⟨_, b34 _ _ nDp (by rw [e]; exact hF.hd)⟩
          · obtain ⟨r', hr'⟩ := hF.rs.vl hb
            exact ⟨_, b34 _ _ nDp hr'⟩
      obtain ⟨u, hu⟩ := h5
      rw [hu] at h3; cases h3
    have nDH : H D = none := by
      as_aux_lemma =>
        cases hz2 : H D with
        | none => rfl
        | some u =>
          by_cases e : D = d
          · exact absurd (by rw [e]; exact List.mem_cons_self) nDm
          · rw [b34 _ _ nDp (keep D u nDp e hz2)] at h3; cases h3
    refine l_cons (s_if (t_cmp (e_var (e_int (o_lt ⟨_, rfl, ?_⟩)))))
    refine if2 (fun _ => ?_) (fun _ => l_nil (l_nil ⟨_, _, _, _, bs, F, rfl, h4, hF9, by omega, zF, fr, keep9⟩))
    obtain ⟨bs', F', hF', hm, hl, hz⟩ := hF9.put (k := Sum.inr z) h1 nDm
    refine l_cons (s_dput (hu_of hr) (e_var (e_var (e_var ⟨d, _, rfl, DPut.k (k := Sum.inr z) hF9.hd (by rw [zk_len _ _ hF9.len]; show _ < 2 ^ 24; omega), l_nil (l_nil ⟨_, _, _, _, bs', F', rfl, ?_, hF', by omega, fun y hy => ?_, fun b hb => ?_, fun c u c1 c2 hc => by rw [upd_ne c2]; exact keep9 c u c1 c2 hc⟩)⟩))))
    · obtain ⟨ux, uy, uz, hu⟩ := h4
      exact ⟨ux, uy, uz, by rw [upd_ne (Ne.symm ndp)]; exact hu⟩
    · rcases hz y hy with hy | hy
      · exact zF y hy
      · rw [hy]; exact h2
    · rcases hm b hb with hb | hb
      · exact fr b hb
      · rw [hb]; exact nDH
  · intro σ H' pp
    obtain ⟨x5, x6, x7, x8, bs, F, rfl, p', hF, lF, zF, fr, keep⟩ := pp
    rw [show (sVs ws).length = ws.length by simp [sVs]] at lF
    refine l_cons (s_ret (e_var (q d bs F H' (fun c u c1 hc => keep c u c1 (fun e => by subst e; rw [hc] at nd0; cases nd0) hc) p' (fun b hb => ?_) hF (by omega) zF)))
    rcases List.mem_cons.mp hb with rfl | hb
    · exact nd0
    · exact fr b hb
end



theorem bk_truths3 : BkOkC (N_truths ++ C_truths) [(6, "second"), (7, "priced"), (11, "row")] ["all"] 11 "row" (defScope s_truths) (xSc (stE ((defBody s_truths).getD 6 nS))) := ⟨by decide +kernel, by decide +kernel, by decide +kernel, by decide +kernel, by decide +kernel⟩
theorem bk_truths4 : BkOk (N_truths ++ C_truths) [(6, "second"), (11, "row"), (8, "element")] [] 8 "element" (relS (xSc (stE ((defBody s_truths).getD 6 nS))) (defScope s_truths)) (xSc (exA (exA (stE ((defBody s_truths).getD 6 nS)) 0) 1)) := ⟨by decide +kernel, by decide +kernel, by decide +kernel, by decide +kernel⟩
theorem bk_true3 : BkOkC (N_true ++ C_true) [(6, "_law_able"), (5, "_law_two"), (0, "_law_rows"), (7, "_law_k")] [] 7 "_law_k" (defScope s_true) (xSc (stE ((defBody s_true).getD 6 nS))) := ⟨by decide +kernel, by decide +kernel, by decide +kernel, by decide +kernel, by decide +kernel⟩
theorem bk_true4 : BkOk (N_true ++ C_true) [(8, "_law_v"), (5, "_law_two"), (0, "_law_rows"), (7, "_law_k")] [] 8 "_law_v" (relS (xSc (stE ((defBody s_true).getD 6 nS))) (defScope s_true)) (xSc (exA (exA (stE ((defBody s_true).getD 6 nS)) 0) 0)) := ⟨by decide +kernel, by decide +kernel, by decide +kernel, by decide +kernel⟩
/-- where a sentence is true, all elements in order -/
def tl (L : List (List Int)) (F : FcT) (s : Sn) : List Bool := (List.range L.length).map fun k => trb L F s k
abbrev bV (l : List Bool) : List V := l.map V.bl
theorem tl_at {L : List (List Int)} {F : FcT} {s : Sn} {k : Nat} (h : k < L.length) : (bV (tl L F s))[k]? = some (.bl (trb L F s k)) := by
  rw [show bV (tl L F s) = (List.range L.length).map (fun k => V.bl (trb L F s k)) from by simp [tl, bV, Function.comp_def], List.getElem?_map, List.getElem?_range h]; rfl
theorem tl_get {L : List (List Int)} {F : FcT} {s : Sn} {k : Nat} {u : V} (h : (bV (tl L F s))[k]? = some u) : k < L.length ∧ u = .bl (trb L F s k) := by
  have hl : k < L.length := by
    have := (List.getElem?_eq_some_iff.mp h).1
    simpa [tl] using this
  rw [tl_at hl] at h
  cases h
  exact ⟨hl, rfl⟩
theorem tl_len {L : List (List Int)} {F : FcT} {s : Sn} : (bV (tl L F s)).length = L.length := by simp [tl]
theorem bv_range (f : Nat → Bool) (k : Nat) : bV ((List.range (k + 1)).map f) = bV ((List.range k).map f) ++ [.bl (f k)] := by
  rw [List.range_succ, List.map_append]; simp [bV]
theorem bv_rlen (f : Nat → Bool) (k : Nat) : (bV ((List.range k).map f)).length = k := by simp
/-- the elements at which it is true -/
def prs (L : List (List Int)) (F : FcT) (s : Sn) (k : Nat) : List Nat := (List.range k).filter (trb L F s)
theorem prs_len (L : List (List Int)) (F : FcT) (s : Sn) (k : Nat) : (prs L F s k).length ≤ k := by
  unfold prs
  have := List.length_filter_le (trb L F s) (List.range k)
  rwa [List.length_range] at this
abbrev nV (l : List Nat) : List V := l.map fun (v : Nat) => V.int (v : Int)
theorem prs0 {L : List (List Int)} {F : FcT} {s : Sn} : nV (prs L F s 0) = [] := rfl
theorem prs_step {L : List (List Int)} {F : FcT} {s : Sn} {k : Nat} : prs L F s (k + 1) = if trb L F s k = true then prs L F s k ++ [k] else prs L F s k := by
  unfold prs
  rw [List.range_succ, List.filter_append]
  cases h : trb L F s k <;> simp [h]
theorem prs_lt {L : List (List Int)} {F : FcT} {s : Sn} {k v : Nat} (h : v ∈ prs L F s k) : v < k := by
  unfold prs at h
  exact List.mem_range.mp (List.mem_filter.mp h).1
theorem trb_trade {L : List (List Int)} {F : FcT} {k : Pk} {p g : Sn} {e : Nat} : (prs L F p L.length).all (fun v => trb L F g (gg L e v).toNat) = trb L F (.trade k p g) e := by
  unfold prs
  rw [List.all_filter]
  rfl
theorem emp_all {α : Type} (q : α → Bool) : ∀ l : List α, (l.filter fun x => !q x).isEmpty = l.all q
  | [] => rfl
  | x :: l => by
    rw [List.filter_cons, List.all_cons]
    cases h : q x with
    | true => simpa using emp_all q l
    | false => rfl
section
variable {P : Program} {w : World} {K : PySem.W.Frag} {mg : Str → Option Value} {base : Heap}
theorem lkF_at {H : Hp} {d nl : Addr} {bs : List Addr} {F : FcT} {z : Str} (h : Facts H d bs F) (h2 : H nl = some (.lst [])) : ∃ b, (valV (zk F bs) (Sum.inr z)).getD (V.ref nl) = .ref b ∧ H b = some (.lst (iV (lkF F (.inr z)))) := by
  rcases lkF_val (k := Sum.inr z) h.rs with ⟨v1, v2⟩ | ⟨b, v1, v2⟩
  · rw [v1, v2]; exact ⟨nl, rfl, h2⟩
  · rw [v1]; exact ⟨b, rfl, v2⟩
def spTruths (n : Nat) : Sp := fun vs H Q _ => ∃ a d v as bs L F s, vs = [.ref a, .ref d, v] ∧ Rows H a as L ∧ Facts H d bs F ∧ SqP L ∧ L.length ≤ 1000 ∧ SnV H v s ∧ dep s ≤ n ∧ ∀ l H', Same H H' → H l = none → H' l = some (.lst (bV (tl L F s))) → Q (.ref l) H'
theorem ok_truthsS (n : Nat) (T : Top K mg "truths" s_truths) (mLen : mg "len" = none) (mR : mg "range" = none) (mZ : mg "zip" = none) (mAll : mg "all" = none) (FT : ∀ m, n = m + 1 → Fn P w K mg base (m + 1) "truths" (spTruths m)) : Fn P w K mg base (n + 1) "truths" (spTruths n) := by
  refine fn_okC T sc_truths so_truths (fun vs H Q E h => by obtain ⟨a, d, v, as, bs, L, F, s, rfl, _⟩ := h; rfl) (fun _ _ _ _ _ _ us hl => match us, hl with | [_, _, _], _ => rfl) fun f cdv A outer s H vs Q E hr h nd => ?_
  obtain ⟨a, d, v, as, bs, L, F, s, rfl, hr0, hf0, hsq, hz, hv, hdn, q⟩ := h
  refine l_cons (s_set (e_callTy (x := "range") (by assumption) b_range (a_cons (e_callB (x := "len") (by assumption) b_len (a_cons (e_var (a_nil (c_lenL (by exact SqL.of hr0.hd) ?_))))))))
  rw [List.length_map, hr0.rs.len]
  refine a_nil (c_rng1 fun r nr => ?_)
  have e1 : Same H (upd H r (.rng 0 (L.length : Int))) := fun c o hc => by rw [upd_ne (ne_of_none hc nr)]; exact hc
  have hr1 : upd H r (.rng 0 (L.length : Int)) r = some (.rng 0 (L.length : Int)) := upd_same
  generalize upd H r (.rng 0 (L.length : Int)) = H1 at e1 hr1
  show wL _ _ _ [some (.ref a), some (.ref d), some v, some (.ref r), none, none, none, none, none, none, none, none] _
  cases s with
  | word z =>
    obtain ⟨t, rfl, ht⟩ := hv
    refine l_cons (s_if (t_cmp (e_ix (e_var (e_int (ix_t (by exact SqT.of (e1 _ _ ht)) at0 (e_str (o_eqS ⟨_, rfl, ?_⟩))))))))
    refine ite_t (by simp) ?_
    refine l_cons (s_set (e_dget2 (n := n) (by exact hr) (e_var ⟨d, rfl, .inl ⟨_, .inl (e1 _ _ hf0.hd)⟩, e_ix (e_var (e_int (ix_t (by exact SqT.of (e1 _ _ ht)) at1 (e_lst (a_nil ⟨by show 0 ≤ sizeLine; decide, fun nl H2 e2 n2 h2 => ?_⟩)))))⟩)))
    have e12 := e1.trans e2
    refine ⟨_, dg_K (k := Sum.inr z) (e12 _ _ hf0.hd), ?_⟩
    obtain ⟨b, hb, hbl⟩ := lkF_at (z := z) (hf0.same e12) h2
    rw [hb]
    show wL _ _ _ [some (.ref a), some (.ref d), some (.ref t), some (.ref r), some (.ref b), none, none, none, none, none, none, none] _
    refine l_cons (s_ret (e_lcRv (by exact bk_truths0) (e_var ⟨r, L.length, rfl, e2 _ _ hr1, by omega, fun D nD => ?_⟩)))
    refine ⟨fun k H3 => H3 D = some (.lst (bV ((List.range k).map fun k => trb L F (.word z) k))) ∧ Same H2 H3, ⟨upd_same, fun c u hc => by rw [upd_ne (ne_of_none hc nD)]; exact hc⟩, ?_, ?_⟩
    · intro k H3 hk p s0 H0 C0 cl fp IB
      obtain ⟨p1, p2⟩ := p
      refine e_cmp (b_var (b_var (o_in (SqL.of (p2 _ _ hbl)) rfl (iv_flat _) ?_)))
      refine ⟨_, p1, by rw [bv_rlen]; show _ < 2 ^ 24; omega, ?_, fun c u hc => by rw [upd_ne (ne_of_none hc nD)]; exact p2 _ _ hc⟩
      rw [bv_range]
      exact upd_same
    · intro H3 p
      obtain ⟨p1, p2⟩ := p
      exact q D H3 (e12.trans p2) (none_of e12 nD) p1
  | menu l g =>
    obtain ⟨t, va, vb, rfl, ht, ha, hb⟩ := hv
    have hd' : max (dep l) (dep g) + 1 ≤ n := hdn
    obtain ⟨m, rfl⟩ : ∃ m, n = m + 1 := ⟨n - 1, by omega⟩
    have FO := FT m rfl
    refine l_cons (s_if (t_cmp (e_ix (e_var (e_int (ix_t (by exact SqT.of (e1 _ _ ht)) at0 (e_str (o_eqS ⟨_, rfl, ?_⟩))))))))
    refine ite_f (by decide +kernel) (l_nil ?_)
    refine l_cons (s_set (e_call (by exact FO) (by exact hr) (by omega) ?_))
    walk_at "sts"
    refine ix_neg (by exact e1 _ _ ht) rfl ?_
    walk_at "sts"
    refine ⟨a, d, va, as, bs, L, F, l, rfl, hr0.same e1, hf0.same e1, hsq, hz, ha.ts (Same.ts e1), by omega, fun l1 H2 e2 nl1 hl1 => ?_⟩
    have e12 := e1.trans e2
    show wL _ _ _ [some (.ref a), some (.ref d), some (.ref t), some (.ref r), none, some (.ref l1), none, none, none, none, none, none] _
    refine l_cons (s_set (e_call (by exact FO) (by exact hr) (by omega) ?_))
    walk_at "sts"
    refine ix_neg (by exact e12 _ _ ht) rfl ?_
    walk_at "sts"
    refine ⟨a, d, vb, as, bs, L, F, g, rfl, hr0.same e12, hf0.same e12, hsq, hz, hb.ts (Same.ts e12), by omega, fun l2 H3 e3 nl2 hl2 => ?_⟩
    have e13 := e12.trans e3
    show wL _ _ _ [some (.ref a), some (.ref d), some (.ref t), some (.ref r), none, some (.ref l1), some (.ref l2), none, none, none, none, none] _
    refine l_cons (s_if (t_cmp (e_ix (e_var (e_int (ix_t (by exact SqT.of (e13 _ _ ht)) at0 (e_str (o_eqS ⟨_, rfl, ?_⟩))))))))
    refine ite_t (by decide +kernel) ?_
    refine l_cons (s_ret (e_lcZ .l .l (by exact bk_truths1) (by assumption) (e_var (e_var ⟨l1, l2, _, _, rfl, rfl, SqL.of (e3 _ _ hl1), SqL.of hl2, fun D nD => ?_⟩))))
    refine ⟨fun k H4 => H4 D = some (.lst (bV ((List.range k).map fun k => trb L F (.menu l g) k))) ∧ Same H3 H4, ⟨upd_same, fun c u hc => by rw [upd_ne (ne_of_none hc nD)]; exact hc⟩, fun k H4 _ p => ⟨SqL.of (p.2 _ _ (e3 _ _ hl1)), SqL.of (p.2 _ _ hl2)⟩, ?_, ?_⟩
    · intro k u1 u2 T H4 hu1 hu2 p nT s0 H0 C0 cl fp IB
      obtain ⟨p1, p2⟩ := p
      obtain ⟨hk, rfl⟩ := tl_get hu1
      obtain ⟨_, rfl⟩ := tl_get hu2
      have nTD : D ≠ T := fun z => by subst z; rw [p1] at nT; cases nT
      have fin : ∀ z : Bool, z = trb L F (.menu l g) k → ∃ acc, (upd H4 T (.tup [.bl (trb L F l k), .bl (trb L F g k)])) D = some (.lst acc) ∧ acc.length < sizeLine ∧ upd (upd H4 T (.tup [.bl (trb L F l k), .bl (trb L F g k)])) D (.lst (acc ++ [.bl z])) D = some (.lst (bV ((List.range (k + 1)).map fun k => trb L F (.menu l g) k))) ∧ Same H3 (upd (upd H4 T (.tup [.bl (trb L F l k), .bl (trb L F g k)])) D (.lst (acc ++ [.bl z]))) := by
        as_aux_lemma =>
          rintro z rfl
          refine ⟨_, by rw [upd_ne nTD]; exact p1, by rw [bv_rlen]; show _ < 2 ^ 24; omega, by rw [bv_range]; exact upd_same, fun c u hc => ?_⟩
          rw [upd_ne (ne_of_none hc nD), upd_ne (ne_of_none (p2 _ _ hc) nT)]
          exact p2 _ _ hc
      refine e_and (b_var ⟨_, rfl, ?_⟩)
      cases h1 : trb L F l k with
      | false => rw [h1] at fin; exact iteF (fin false (by show false = (trb L F l k && trb L F g k); rw [h1]; rfl))
      | true => rw [h1] at fin; exact iteT (e_one (b_var (fin _ (by show trb L F g k = (trb L F l k && trb L F g k); rw [h1]; rfl))))
    · intro H4 p
      obtain ⟨p1, p2⟩ := p
      rw [tl_len, tl_len, Nat.min_self] at p1
      exact q D H4 (e13.trans p2) (none_of e13 nD) p1
  | trade kk l g =>
    obtain ⟨t, md, va, vb, rfl, ht, hm, ha, hb⟩ := hv
    have hd' : max (dep l) (dep g) + 1 ≤ n := hdn
    obtain ⟨m, rfl⟩ : ∃ m, n = m + 1 := ⟨n - 1, by omega⟩
    have FO := FT m rfl
    refine l_cons (s_if (t_cmp (e_ix (e_var (e_int (ix_t (by exact SqT.of (e1 _ _ ht)) at0 (e_str (o_eqS ⟨_, rfl, ?_⟩))))))))
    refine ite_f (by decide +kernel) (l_nil ?_)
    refine l_cons (s_set (e_call (by exact FO) (by exact hr) (by omega) ?_))
    walk_at "sts"
    refine ix_neg (by exact e1 _ _ ht) rfl ?_
    walk_at "sts"
    refine ⟨a, d, va, as, bs, L, F, l, rfl, hr0.same e1, hf0.same e1, hsq, hz, ha.ts (Same.ts e1), by omega, fun l1 H2 e2 nl1 hl1 => ?_⟩
    have e12 := e1.trans e2
    show wL _ _ _ [some (.ref a), some (.ref d), some (.ref t), some (.ref r), none, some (.ref l1), none, none, none, none, none, none] _
    refine l_cons (s_set (e_call (by exact FO) (by exact hr) (by omega) ?_))
    walk_at "sts"
    refine ix_neg (by exact e12 _ _ ht) rfl ?_
    walk_at "sts"
    refine ⟨a, d, vb, as, bs, L, F, g, rfl, hr0.same e12, hf0.same e12, hsq, hz, hb.ts (Same.ts e12), by omega, fun l2 H3 e3 nl2 hl2 => ?_⟩
    have e13 := e12.trans e3
    show wL _ _ _ [some (.ref a), some (.ref d), some (.ref t), some (.ref r), none, some (.ref l1), some (.ref l2), none, none, none, none, none] _
    refine l_cons (s_if (t_cmp (e_ix (e_var (e_int (ix_t (by exact SqT.of (e13 _ _ ht)) at0 (e_str (o_eqS ⟨_, rfl, ?_⟩))))))))
    refine ite_f (by decide +kernel) (l_nil ?_)
    refine l_cons (s_set (e_lcRvf (by exact bk_truths2) (e_var ⟨r, L.length, rfl, (e2.trans e3) _ _ hr1, by omega, fun D nD => ?_⟩)))
    refine ⟨fun k H4 => H4 D = some (.lst (nV (prs L F l k))) ∧ Same H3 H4, ⟨by rw [prs0]; exact upd_same, fun c u hc => by rw [upd_ne (ne_of_none hc nD)]; exact hc⟩, ?_, ?_⟩
    · intro k H4 hk p s0 H0 C0 cl fp IB
      obtain ⟨p1, p2⟩ := p
      refine t_val (e_ix (b_var (b_var (ix_l (SqL.of (p2 _ _ (e3 _ _ hl1))) (atI_nat (tl_at hk)) ⟨_, rfl, ?_⟩))))
      have hps := prs_step (L := L) (F := F) (s := l) (k := k)
      cases h1 : trb L F l k with
      | false =>
        rw [h1] at hps
        exact iteF ⟨by rw [hps]; exact p1, p2⟩
      | true =>
        rw [h1] at hps
        refine iteT fun s0 H0 C0 cl fp IB => b_var ⟨_, p1, by have := prs_len L F l k; rw [List.length_map]; show _ < 2 ^ 24; omega, ?_, fun c u hc => by rw [upd_ne (ne_of_none hc nD)]; exact p2 _ _ hc⟩
        rw [hps]
        show _ = some (HO.lst (nV (prs L F l k ++ [k])))
        rw [show nV (prs L F l k ++ [k]) = nV (prs L F l k) ++ [.int (k : Int)] from by simp [nV]]
        exact upd_same
    · intro H4 p
      obtain ⟨hD4, e4⟩ := p
      have e34 := e3.trans e4
      have e14 := e13.trans e4
      show wL _ _ _ [some (.ref a), some (.ref d), some (.ref t), some (.ref r), none, some (.ref l1), some (.ref l2), some (.ref D), none, none, none, none] _
      refine l_cons (s_ret (e_lcLC (by exact bk_truths3) (e_var ⟨a, _, rfl, SqL.of (e14 _ _ hr0.hd), fun D2 nD2 => ?_⟩)))
      refine ⟨fun k H5 => H5 D2 = some (.lst (bV ((List.range k).map fun k => trb L F (.trade kk l g) k))) ∧ Same H4 H5, ⟨upd_same, fun c u hc => by rw [upd_ne (ne_of_none hc nD2)]; exact hc⟩, fun k H5 _ p => SqL.of (p.2 _ _ (e14 _ _ hr0.hd)), ?_, ?_⟩
      · intro k x H5 hx p s0 H0 C0 cl fp IB
        obtain ⟨p1, p2⟩ := p
        have hk : k < L.length := by
          have := (List.getElem?_eq_some_iff.mp hx).1
          rwa [List.length_map, hr0.rs.len] at this
        obtain ⟨b, hb1, hbr⟩ := (hr0.same (e14.trans p2)).row hk
        rw [hb1] at hx
        cases hx
        refine b_callB (x := "all") (by assumption) b_all (a_cons (n_lcL nd.s.bk (by exact bk_truths4) (b_var ⟨D, _, rfl, SqL.of (p2 _ _ hD4), fun D3 nD3 => ?_⟩)))
        refine ⟨fun j H6 => H6 D3 = some (.lst (bV (((prs L F l L.length).take j).map fun v => trb L F g (gg L k v).toNat))) ∧ Same H5 H6, ⟨by rw [List.take_zero]; exact upd_same, fun c u hc => by rw [upd_ne (ne_of_none hc nD3)]; exact hc⟩, fun j H6 _ p => SqL.of (p.2 _ _ (p2 _ _ hD4)), ?_, ?_⟩
        · intro j y H6 hy p s0 H0 C0 cl fp IB
          obtain ⟨r1, r2⟩ := p
          rw [List.getElem?_map] at hy
          obtain ⟨v, hv, rfl⟩ := Option.map_eq_some_iff.mp hy
          have hvl := prs_lt (List.mem_of_getElem? hv)
          have hg := sq_in hsq hk hvl
          refine e_ix (b_var (e_ix (b_var (b_var (ix_l (SqL.of (r2 _ _ hbr)) (atI_nat (iv_get (gg_get (by rw [sq_row hsq hk]; exact hvl)))) (ix_l (SqL.of (r2 _ _ (p2 _ _ (e4 _ _ hl2)))) (at_int hg.1 (tl_at (by omega))) ?_))))))
          have hjl := (List.getElem?_eq_some_iff.mp hv).1
          have hpl := prs_len L F l L.length
          refine ⟨_, r1, by rw [List.length_map, List.length_map, List.length_take]; show _ < 2 ^ 24; omega, ?_, fun c u hc => by rw [upd_ne (ne_of_none hc nD3)]; exact r2 _ _ hc⟩
          rw [take_snoc' hv, upd_same]
          simp [bV]
        · intro H6 p
          obtain ⟨r1, r2⟩ := p
          rw [List.length_map, List.take_length] at r1
          refine a_nil (c_allL rfl (SqL.of r1) ?_)
          rw [all_id, trb_trade (k := kk)]
          refine ⟨_, r2 _ _ p1, by rw [bv_rlen]; show _ < 2 ^ 24; omega, by rw [bv_range]; exact upd_same, fun c u hc => by rw [upd_ne (ne_of_none hc nD2)]; exact r2 _ _ (p2 _ _ hc)⟩
      · intro H5 p
        obtain ⟨p1, p2⟩ := p
        rw [List.length_map, hr0.rs.len] at p1
        exact q D2 H5 (e14.trans p2) (none_of e14 nD2) p1
theorem ok_truths (T : Top K mg "truths" s_truths) (mLen : mg "len" = none) (mR : mg "range" = none) (mZ : mg "zip" = none) (mAll : mg "all" = none) : ∀ n, Fn P w K mg base (n + 1) "truths" (spTruths n)
  | 0 => ok_truthsS 0 T mLen mR mZ mAll fun m h => by cases h
  | n + 1 => ok_truthsS (n + 1) T mLen mR mZ mAll fun m h => by cases h; exact ok_truths T mLen mR mZ mAll n
end



section
variable {P : Program} {w : World} {K : PySem.W.Frag} {mg : Str → Option Value} {base : Heap}
def spTrue (n : Nat) : Sp := fun vs H Q _ => ∃ a d v as bs L F s, vs = [.ref a, .ref d, v] ∧ Rows H a as L ∧ Facts H d bs F ∧ SqP L ∧ L.length ≤ 1000 ∧ SnV H v s ∧ dep s ≤ n ∧ ∀ l H', Same H H' → H l = none → H' l = some (.lst (bV (tl L F s))) → Q (.ref l) H'
theorem ok_trueS (n : Nat) (T : Top K mg "_law_true" s_true) (mLen : mg "len" = none) (mR : mg "range" = none) (FT : ∀ m, n = m + 1 → Fn P w K mg base (m + 1) "_law_true" (spTrue m)) : Fn P w K mg base (n + 1) "_law_true" (spTrue n) := by
  refine fn_okC T sc_true so_true (fun vs H Q E h => by obtain ⟨a, d, v, as, bs, L, F, s, rfl, _⟩ := h; rfl) (fun _ _ _ _ _ _ us hl => match us, hl with | [_, _, _], _ => rfl) fun f cdv A outer s H vs Q E hr h nd => ?_
  obtain ⟨a, d, v, as, bs, L, F, s, rfl, hr0, hf0, hsq, hz, hv, hdn, q⟩ := h
  refine l_cons (s_set (e_callB (x := "len") (by assumption) b_len (a_cons (e_var (a_nil (c_lenL (by exact SqL.of hr0.hd) ?_))))))
  rw [List.length_map, hr0.rs.len]
  show wL _ _ _ [some (.ref a), some (.ref d), some v, some (.int (L.length : Int)), none, none, none, none, none] _
  cases s with
  | word z =>
    obtain ⟨t, rfl, ht⟩ := hv
    refine l_cons (s_if (t_cmp (e_ix (e_var (e_int (ix_t (by exact SqT.of ht) at0 (e_str (o_eqS ⟨_, rfl, ?_⟩))))))))
    refine ite_t (by simp) ?_
    refine l_cons (s_ret (e_lcR (by exact bk_true0) (by assumption) (e_var ⟨L.length, rfl, by omega, fun D nD => ?_⟩)))
    refine ⟨fun k H3 => H3 D = some (.lst (bV ((List.range k).map fun k => trb L F (.word z) k))) ∧ Same H H3, ⟨upd_same, fun c u hc => by rw [upd_ne (ne_of_none hc nD)]; exact hc⟩, ?_, ?_⟩
    · intro k H3 hk p s0 H0 C0 cl fp IB
      obtain ⟨p1, p2⟩ := p
      refine e_cmp (b_var (e_dget2 (n := n) (by exact hr) (b_var ⟨d, rfl, .inl ⟨_, .inl (p2 _ _ hf0.hd)⟩, e_ix (b_var (e_int (ix_t (by exact SqT.of (p2 _ _ ht)) at1 (e_lst (a_nil ⟨by show 0 ≤ sizeLine; decide, fun nl H4 e4 n4 h4 => ?_⟩)))))⟩)))
      have e34 := p2.trans e4
      refine ⟨_, dg_K (k := Sum.inr z) (e34 _ _ hf0.hd), ?_⟩
      obtain ⟨b, hb, hbl⟩ := lkF_at (z := z) (hf0.same e34) h4
      rw [hb]
      refine o_in (SqL.of hbl) rfl (iv_flat _) ?_
      refine ⟨_, e4 _ _ p1, by rw [bv_rlen]; show _ < 2 ^ 24; omega, ?_, fun c u hc => by rw [upd_ne (ne_of_none hc nD)]; exact e34 _ _ hc⟩
      rw [bv_range]
      exact upd_same
    · intro H3 p
      obtain ⟨p1, p2⟩ := p
      exact q D H3 p2 nD p1
  | menu l g =>
    obtain ⟨t, va, vb, rfl, ht, ha, hb⟩ := hv
    have hd' : max (dep l) (dep g) + 1 ≤ n := hdn
    obtain ⟨m, rfl⟩ : ∃ m, n = m + 1 := ⟨n - 1, by omega⟩
    have FO := FT m rfl
    refine l_cons (s_if (t_cmp (e_ix (e_var (e_int (ix_t (by exact SqT.of ht) at0 (e_str (o_eqS ⟨_, rfl, ?_⟩))))))))
    refine ite_f (by decide +kernel) (l_nil ?_)
    refine l_cons (s_set (e_call (by exact FO) (by exact hr) (by omega) ?_))
    walk_at "sts"
    refine ix_neg (by exact ht) rfl ?_
    walk_at "sts"
    refine ⟨a, d, va, as, bs, L, F, l, rfl, hr0, hf0, hsq, hz, ha, by omega, fun l1 H2 e2 nl1 hl1 => ?_⟩
    show wL _ _ _ [some (.ref a), some (.ref d), some (.ref t), some (.int (L.length : Int)), some (.ref l1), none, none, none, none] _
    refine l_cons (s_set (e_call (by exact FO) (by exact hr) (by omega) ?_))
    walk_at "sts"
    refine ix_neg (by exact e2 _ _ ht) rfl ?_
    walk_at "sts"
    refine ⟨a, d, vb, as, bs, L, F, g, rfl, hr0.same e2, hf0.same e2, hsq, hz, hb.ts (Same.ts e2), by omega, fun l2 H3 e3 nl2 hl2 => ?_⟩
    have e13 := e2.trans e3
    show wL _ _ _ [some (.ref a), some (.ref d), some (.ref t), some (.int (L.length : Int)), some (.ref l1), some (.ref l2), none, none, none] _
    refine l_cons (s_if (t_cmp (e_ix (e_var (e_int (ix_t (by exact SqT.of (e13 _ _ ht)) at0 (e_str (o_eqS ⟨_, rfl, ?_⟩))))))))
    refine ite_t (by decide +kernel) ?_
    refine l_cons (s_ret (e_lcR (by exact bk_true1) (by assumption) (e_var ⟨L.length, rfl, by omega, fun D nD => ?_⟩)))
    refine ⟨fun k H4 => H4 D = some (.lst (bV ((List.range k).map fun k => trb L F (.menu l g) k))) ∧ Same H3 H4, ⟨upd_same, fun c u hc => by rw [upd_ne (ne_of_none hc nD)]; exact hc⟩, ?_, ?_⟩
    · intro k H4 hk p s0 H0 C0 cl fp IB
      obtain ⟨p1, p2⟩ := p
      have fin : ∀ z : Bool, z = trb L F (.menu l g) k → ∃ acc, H4 D = some (.lst acc) ∧ acc.length < sizeLine ∧ upd H4 D (.lst (acc ++ [.bl z])) D = some (.lst (bV ((List.range (k + 1)).map fun k => trb L F (.menu l g) k))) ∧ Same H3 (upd H4 D (.lst (acc ++ [.bl z]))) := by
        as_aux_lemma =>
          rintro z rfl
          refine ⟨_, p1, by rw [bv_rlen]; show _ < 2 ^ 24; omega, by rw [bv_range]; exact upd_same, fun c u hc => ?_⟩
          rw [upd_ne (ne_of_none hc nD)]
          exact p2 _ _ hc
      refine e_and (e_ix (b_var (b_var (ix_l (SqL.of (p2 _ _ (e3 _ _ hl1))) (atI_nat (tl_at hk)) ⟨_, rfl, ?_⟩))))
      cases h1 : trb L F l k with
      | false => exact iteF (fin false (by show false = (trb L F l k && trb L F g k); rw [h1]; rfl))
      | true => exact iteT (e_one (e_ix (b_var (b_var (ix_l (SqL.of (p2 _ _ hl2)) (atI_nat (tl_at hk)) (fin _ (by show trb L F g k = (trb L F l k && trb L F g k); rw [h1]; rfl)))))))
    · intro H4 p
      obtain ⟨p1, p2⟩ := p
      exact q D H4 (e13.trans p2) (none_of e13 nD) p1
  | trade kk l g =>
    obtain ⟨t, md, va, vb, rfl, ht, hm, ha, hb⟩ := hv
    have hd' : max (dep l) (dep g) + 1 ≤ n := hdn
    obtain ⟨m, rfl⟩ : ∃ m, n = m + 1 := ⟨n - 1, by omega⟩
    have FO := FT m rfl
    refine l_cons (s_if (t_cmp (e_ix (e_var (e_int (ix_t (by exact SqT.of ht) at0 (e_str (o_eqS ⟨_, rfl, ?_⟩))))))))
    refine ite_f (by decide +kernel) (l_nil ?_)
    refine l_cons (s_set (e_call (by exact FO) (by exact hr) (by omega) ?_))
    walk_at "sts"
    refine ix_neg (by exact ht) rfl ?_
    walk_at "sts"
    refine ⟨a, d, va, as, bs, L, F, l, rfl, hr0, hf0, hsq, hz, ha, by omega, fun l1 H2 e2 nl1 hl1 => ?_⟩
    show wL _ _ _ [some (.ref a), some (.ref d), some (.ref t), some (.int (L.length : Int)), some (.ref l1), none, none, none, none] _
    refine l_cons (s_set (e_call (by exact FO) (by exact hr) (by omega) ?_))
    walk_at "sts"
    refine ix_neg (by exact e2 _ _ ht) rfl ?_
    walk_at "sts"
    refine ⟨a, d, vb, as, bs, L, F, g, rfl, hr0.same e2, hf0.same e2, hsq, hz, hb.ts (Same.ts e2), by omega, fun l2 H3 e3 nl2 hl2 => ?_⟩
    have e13 := e2.trans e3
    show wL _ _ _ [some (.ref a), some (.ref d), some (.ref t), some (.int (L.length : Int)), some (.ref l1), some (.ref l2), none, none, none] _
    refine l_cons (s_if (t_cmp (e_ix (e_var (e_int (ix_t (by exact SqT.of (e13 _ _ ht)) at0 (e_str (o_eqS ⟨_, rfl, ?_⟩))))))))
    refine ite_f (by decide +kernel) (l_nil ?_)
    refine l_cons (s_set (e_lcRf (by exact bk_true2) (by assumption) (e_var ⟨L.length, rfl, by omega, fun D nD => ?_⟩)))
    refine ⟨fun k H4 => H4 D = some (.lst (nV (prs L F l k))) ∧ Same H3 H4, ⟨by rw [prs0]; exact upd_same, fun c u hc => by rw [upd_ne (ne_of_none hc nD)]; exact hc⟩, ?_, ?_⟩
    · intro k H4 hk p s0 H0 C0 cl fp IB
      obtain ⟨p1, p2⟩ := p
      refine t_val (e_ix (b_var (b_var (ix_l (SqL.of (p2 _ _ (e3 _ _ hl1))) (atI_nat (tl_at hk)) ⟨_, rfl, ?_⟩))))
      have hps := prs_step (L := L) (F := F) (s := l) (k := k)
      cases h1 : trb L F l k with
      | false =>
        rw [h1] at hps
        exact iteF ⟨by rw [hps]; exact p1, p2⟩
      | true =>
        rw [h1] at hps
        refine iteT fun s0 H0 C0 cl fp IB => b_var ⟨_, p1, by have := prs_len L F l k; rw [List.length_map]; show _ < 2 ^ 24; omega, ?_, fun c u hc => by rw [upd_ne (ne_of_none hc nD)]; exact p2 _ _ hc⟩
        rw [hps]
        show _ = some (HO.lst (nV (prs L F l k ++ [k])))
        rw [show nV (prs L F l k ++ [k]) = nV (prs L F l k) ++ [.int (k : Int)] from by simp [nV]]
        exact upd_same
    · intro H4 p
      obtain ⟨hD4, e4⟩ := p
      have e14 := e13.trans e4
      show wL _ _ _ [some (.ref a), some (.ref d), some (.ref t), some (.int (L.length : Int)), some (.ref l1), some (.ref l2), some (.ref D), none, none] _
      refine l_cons (s_ret (e_lcRC (by exact bk_true3) (by assumption) (e_var ⟨L.length, rfl, by omega, fun D2 nD2 => ?_⟩)))
      refine ⟨fun k H5 => H5 D2 = some (.lst (bV ((List.range k).map fun k => trb L F (.trade kk l g) k))) ∧ Same H4 H5, ⟨upd_same, fun c u hc => by rw [upd_ne (ne_of_none hc nD2)]; exact hc⟩, ?_, ?_⟩
      · intro k H5 hk p s0 H0 C0 cl fp IB
        obtain ⟨p1, p2⟩ := p
        have hr5 := hr0.same (e14.trans p2)
        obtain ⟨b, hb1, hbr⟩ := hr5.row hk
        refine e_notT (n_lcLf nd.s.bk (by exact bk_true4) (b_var ⟨D, _, rfl, SqL.of (p2 _ _ hD4), fun D3 nD3 => ?_⟩))
        refine ⟨fun j H6 => H6 D3 = some (.lst (nV (((prs L F l L.length).take j).filter fun v => !trb L F g (gg L k v).toNat))) ∧ Same H5 H6, ⟨by rw [List.take_zero]; exact upd_same, fun c u hc => by rw [upd_ne (ne_of_none hc nD3)]; exact hc⟩, fun j H6 _ p => SqL.of (p.2 _ _ (p2 _ _ hD4)), ?_, ?_⟩
        · intro j y H6 hy p s0 H0 C0 cl fp IB
          obtain ⟨r1, r2⟩ := p
          rw [List.getElem?_map] at hy
          obtain ⟨v, hv, rfl⟩ := Option.map_eq_some_iff.mp hy
          have hvl := prs_lt (List.mem_of_getElem? hv)
          have hg := sq_in hsq hk hvl
          have hpl := prs_len L F l L.length
          refine t_not (t_val (e_ix (b_var (e_ix (e_ix (b_var (b_var (ix_l (SqL.of (r2 _ _ hr5.hd)) (atI_nat hb1) (b_var (ix_l (SqL.of (r2 _ _ hbr)) (atI_nat (iv_get (gg_get (by rw [sq_row hsq hk]; exact hvl)))) (ix_l (SqL.of (r2 _ _ (p2 _ _ (e4 _ _ hl2)))) (at_int hg.1 (tl_at (by omega))) ⟨_, rfl, ?_⟩)))))))))))
          have hfl := List.length_filter_le (fun v => !trb L F g (gg L k v).toNat) ((prs L F l L.length).take j)
          rw [List.length_take] at hfl
          cases h1 : trb L F g (gg L k v).toNat with
          | true => exact iteF ⟨by rw [take_snoc' hv, List.filter_append]; simp [h1]; simpa using r1, r2⟩
          | false =>
            refine iteT fun s0 H0 C0 cl fp IB => b_var ⟨_, r1, by rw [List.length_map]; show _ < 2 ^ 24; omega, ?_, fun c u hc => by rw [upd_ne (ne_of_none hc nD3)]; exact r2 _ _ hc⟩
            rw [take_snoc' hv, List.filter_append, upd_same]
            simp [h1, nV]
        · intro H6 p
          obtain ⟨r1, r2⟩ := p
          rw [List.length_map, List.take_length] at r1
          refine ⟨_, tru_l r1, ?_⟩
          refine ⟨_, r2 _ _ p1, by rw [bv_rlen]; show _ < 2 ^ 24; omega, ?_, fun c u hc => by rw [upd_ne (ne_of_none hc nD2)]; exact r2 _ _ (p2 _ _ hc)⟩
          rw [bv_range, upd_same, ← trb_trade (k := kk)]
          have he := emp_all (fun v => trb L F g (gg L k v).toNat) (prs L F l L.length)
          rw [← he]
          simp
      · intro H5 p
        obtain ⟨p1, p2⟩ := p
        exact q D2 H5 (e14.trans p2) (none_of e14 nD2) p1
theorem ok_true (T : Top K mg "_law_true" s_true) (mLen : mg "len" = none) (mR : mg "range" = none) : ∀ n, Fn P w K mg base (n + 1) "_law_true" (spTrue n)
  | 0 => ok_trueS 0 T mLen mR fun m h => by cases h
  | n + 1 => ok_trueS (n + 1) T mLen mR fun m h => by cases h; exact ok_true T mLen mR n
end



/-! ### claims -/
abbrev Hd := Str × Pk × Sn
def HdV (H : Hp) (u : V) (h : Hd) : Prop := ∃ t m v, u = .ref t ∧ H t = some (.tup [.str h.1, m, v]) ∧ ModeV H m h.2.1 ∧ SnV H v h.2.2
def HsV (H : Hp) : List V → List Hd → Prop
  | [], [] => True
  | u :: us, h :: hs => HdV H u h ∧ HsV H us hs
  | _, _ => False
theorem HdV.ts {H H' : Hp} (e : TS H H') {u : V} {h : Hd} (x : HdV H u h) : HdV H' u h := let ⟨t, m, v, h1, h2, h3, h4⟩ := x; ⟨t, m, v, h1, e _ _ h2, h3.ts e, h4.ts e⟩
theorem HsV.ts {H H' : Hp} (e : TS H H') : ∀ {us : List V} {hs : List Hd}, HsV H us hs → HsV H' us hs
  | [], [], _ => trivial
  | _ :: _, _ :: _, ⟨a, r⟩ => ⟨a.ts e, r.ts e⟩
theorem HsV.len {H : Hp} : ∀ {us : List V} {hs : List Hd}, HsV H us hs → us.length = hs.length
  | [], [], _ => rfl
  | _ :: _, _ :: _, ⟨_, r⟩ => by simp [r.len]
theorem HsV.get {H : Hp} : ∀ {us : List V} {hs : List Hd} {i : Nat} {u : V}, HsV H us hs → us[i]? = some u → ∃ h, hs[i]? = some h ∧ HdV H u h
  | [], [], i, _, _, e => by cases i <;> cases e
  | u :: us, h :: hs, 0, _, ⟨a, _⟩, e => by cases e; exact ⟨h, rfl, a⟩
  | u :: us, h :: hs, i + 1, _, ⟨_, r⟩, e => r.get (i := i) (by simpa using e)
theorem HsV.app {H : Hp} {v : V} {s : Hd} (h : HdV H v s) : ∀ {xs : List V} {ss : List Hd}, HsV H xs ss → HsV H (xs ++ [v]) (ss ++ [s])
  | [], [], _ => ⟨h, trivial⟩
  | _ :: _, _ :: _, ⟨a, r⟩ => ⟨a, r.app h⟩
/-- a claim: its holds and its goal -/
def ClV (H : Hp) (v : V) (hs : List Hd) (g : Sn) : Prop := ∃ t th sg us, v = .ref t ∧ H t = some (.tup [.ref th, sg]) ∧ H th = some (.tup us) ∧ HsV H us hs ∧ SnV H sg g
theorem ClV.ts {H H' : Hp} (e : TS H H') {v : V} {hs : List Hd} {g : Sn} (x : ClV H v hs g) : ClV H' v hs g := let ⟨t, th, sg, us, h1, h2, h3, h4, h5⟩ := x; ⟨t, th, sg, us, h1, e _ _ h2, e _ _ h3, h4.ts e, h5.ts e⟩
def SzS (s : Sn) : Prop := dep s ≤ 48 ∧ rws s ≤ 1000
def SzC (hs : List Hd) (g : Sn) : Prop := (∀ h ∈ hs, SzS h.2.2) ∧ SzS g
def okH (h : Hd) : Bool := h.2.1.isNone && onc h.2.2
def oncC (hs : List Hd) (g : Sn) : Bool := hs.all okH && onc g
/-- the product of places -/
def whl (L : List (List Int)) (ps : List Int) : Int := ps.foldl (fun w p => gg L w.toNat p.toNat) 0
def fnB (L : List (List Int)) (F : FcT) (hs : List Hd) (ps : List Int) : Bool := (hs.zip ps).all fun x => trb L F x.1.2.2 x.2.toNat
def failB (L : List (List Int)) (F : FcT) (hs : List Hd) (g : Sn) (ps : List Int) : Bool := fnB L F hs ps && !trb L F g (whl L ps).toNat
theorem whl_step {L : List (List Int)} {ps : List Int} {k : Nat} {x : Int} (h : ps[k]? = some x) : whl L (ps.take (k + 1)) = gg L (whl L (ps.take k)).toNat x.toNat := by
  rw [take_snoc' h]
  unfold whl
  rw [List.foldl_append]
  rfl
theorem whl_rg {L : List (List Int)} (sq : SqP L) (h0 : 0 < L.length) : ∀ {ps : List Int}, (∀ x ∈ ps, 0 ≤ x ∧ x < L.length) → 0 ≤ whl L ps ∧ whl L ps < L.length := by
  have go : ∀ (ps : List Int) (w : Int), 0 ≤ w ∧ w < L.length → (∀ x ∈ ps, 0 ≤ x ∧ x < L.length) → 0 ≤ ps.foldl (fun w p => gg L w.toNat p.toNat) w ∧ ps.foldl (fun w p => gg L w.toNat p.toNat) w < L.length := by
    as_aux_lemma =>
      intro ps
      induction ps with
      | nil => intro w hw _; exact hw
      | cons p ps ih =>
        intro w hw hp
        have := hp p List.mem_cons_self
        exact ih _ (sq_in sq (by omega) (by omega)) fun x hx => hp x (List.mem_cons_of_mem _ hx)
  intro ps hp
  exact go ps 0 ⟨Int.le_refl _, by omega⟩ hp
theorem fnB_step {L : List (List Int)} {F : FcT} {hs : List Hd} {ps : List Int} {k : Nat} {h : Hd} {x : Int} (e1 : hs[k]? = some h) (e2 : ps[k]? = some x) : fnB L F (hs.take (k + 1)) (ps.take (k + 1)) = (fnB L F (hs.take k) (ps.take k) && trb L F h.2.2 x.toNat) := by
  rw [take_snoc' e1, take_snoc' e2]
  unfold fnB
  have l1 := (List.getElem?_eq_some_iff.mp e1).1
  have l2 := (List.getElem?_eq_some_iff.mp e2).1
  rw [List.zip_append (by rw [List.length_take, List.length_take]; omega), List.all_append]
  simp
section
variable {P : Program} {w : World} {K : PySem.W.Frag} {mg : Str → Option Value} {base : Heap} {C CO CH CB CP CS CG : Addr}
def spReq (CO : Addr) : Sp := fun vs H Q E => ∃ v hs g, vs = [v] ∧ ClV H v hs g ∧ SzC hs g ∧ (oncC hs g = true → ∀ H', Same H H' → Q .non H') ∧ (oncC hs g = false → ∀ H', Same H H' → E (.ref CO) none H')
theorem ok_req (T : Top K mg "require_once" s_require_once) (R : Ei K mg "NotOnce" CO) (FO : Fn P w K mg base 1 "is_all_once" spOnce) : FnN P w K mg base 2 "require_once" (spReq CO) := by
  refine fn_okN T sc_require_once so_require_once (fun vs H Q E h => by obtain ⟨v, hs, g, rfl, _⟩ := h; rfl) (fun _ _ _ _ _ _ us hl => match us, hl with | [_], _ => rfl) fun f cdv A outer s H vs Q E hr h nd tk => ?_
  obtain ⟨v, hs, g, rfl, ⟨t, th, sg, us, rfl, ht, hth, hus, hsg⟩, ⟨z1, z2⟩, q1, q2⟩ := h
  refine l_cons (s_tup2 (e_var ⟨t, _, _, rfl, SqT.of ht, ?_⟩))
  show wL _ _ _ [some (.ref t), some (.ref th), some sg, none, none, none] _
  refine l_cons (s_forT3 (e_var ⟨th, us, rfl, SqT.of hth, fun k σ H' => ∃ x3 x4 x5, σ = [some (.ref t), some (.ref th), some sg, x3, x4, x5] ∧ Same H H' ∧ (hs.take k).all okH = true, ⟨none, none, none, rfl, Same.refl _, by rw [List.take_zero]; rfl⟩, ?_, ?_, ?_⟩))
  · intro k σ H' _ pp
    obtain ⟨_, _, _, _, e, _⟩ := pp
    exact SqT.of (e _ _ hth)
  · intro k u σ H' hu pp
    obtain ⟨x3, x4, x5, rfl, e, ha⟩ := pp
    obtain ⟨h, hh, tu, m, sv, rfl, htu, hm, hsv⟩ := hus.get hu
    have zs := z1 h (List.mem_of_getElem? hh)
    refine ⟨tu, _, _, _, rfl, SqT.of (e _ _ htu), ?_⟩
    show wL _ _ _ [some (.ref t), some (.ref th), some sg, some (.str h.1), some m, some sv] _
    have bad : okH h = false → oncC hs g = false := fun hb => by
      unfold oncC
      rw [Bool.and_eq_false_iff]
      exact .inl (List.all_eq_false.mpr ⟨h, List.mem_of_getElem? hh, by rw [hb]; exact Bool.false_ne_true⟩)
    refine l_cons (s_if (t_w (w_or (t_cmp (e_var (e_str (o_neOnce (n := 1) (by exact hr) (hm.ts (Same.ts e)) ⟨_, rfl, ?_⟩)))))))
    cases hk : h.2.1 with
    | some uv =>
      refine ite_t rfl (ite_t rfl (l_cons (s_raise0 R tk ?_)))
      exact q2 (bad (by unfold okH; rw [hk]; rfl)) H' e
    | none =>
      refine ite_f rfl (w_or1 (t_not (t_val (e_call (by exact FO) (by exact hr) (by decide) ?_))))
      refine a_cons (e_var (a_nil ⟨sv, h.2.2, rfl, hsv.ts (Same.ts e), Nat.le_trans zs.2 (by decide), fun H2 e2 => ⟨_, rfl, ?_⟩⟩))
      cases ho : onc h.2.2 with
      | false =>
        refine iteT (l_cons (s_raise0 R tk ?_))
        exact q2 (bad (by unfold okH; rw [ho, Bool.and_false])) H2 (e.trans e2)
      | true =>
        refine iteF (l_nil (l_nil ⟨_, _, _, rfl, e.trans e2, ?_⟩))
        rw [take_snoc' hh, List.all_append, ha]
        simp [okH, hk, ho]
  · intro σ H' pp
    obtain ⟨x3, x4, x5, rfl, e, ha⟩ := pp
    rw [hus.len, List.take_length] at ha
    refine l_cons (s_if (t_not (t_val (e_call (by exact FO) (by exact hr) (by decide) ?_))))
    refine a_cons (e_var (a_nil ⟨sg, g, rfl, hsg.ts (Same.ts e), Nat.le_trans z2.2 (by decide), fun H2 e2 => ⟨_, rfl, ?_⟩⟩))
    cases ho : onc g with
    | false =>
      refine iteT (l_cons (s_raise0 R tk ?_))
      exact q2 (by unfold oncC; rw [ho, Bool.and_false]) H2 (e.trans e2)
    | true => exact iteF (l_nil (l_nil (q1 (by unfold oncC; rw [ho, ha]; rfl) H2 (e.trans e2))))
def spWHas (C CO : Addr) : Sp := fun vs H Q E => ∃ p a d as bs L F v s, ∃ e : Nat, vs = [.ref p, .int (e : Int), v] ∧ WorldAt C H p a d as bs L F ∧ SqP L ∧ L.length ≤ 1000 ∧ SnV H v s ∧ SzS s ∧ e < L.length ∧ (onc s = true → ∀ H', Same H H' → Q (.bl (trb L F s e)) H') ∧ (onc s = false → ∀ H', Same H H' → E (.ref CO) none H')
theorem ok_whas (T : TopM K C "has" "World.has" s_World_has) (O : WOk K mg C) (R : Ei K mg "NotOnce" CO) (FO : Fn P w K mg base 1 "is_all_once" spOnce) (FT : Fn P w K mg base 49 "truths" (spTruths 48)) : MtN P w K mg base 50 C "has" (spWHas C CO) := by
  obtain ⟨f, fd, G, hb, hf, hi, hk⟩ := me_okN (P := P) (w := w) (mg := mg) (base := base) (k := 49) (sp := spWHas C CO) (N := N_World_has) (D := []) (ps := P_World_has) T (by exact sc_World_has) so_World_has (fun vs H Q E h => by obtain ⟨p, a, d, as, bs, L, F, v, s, e, rfl, _⟩ := h; rfl) (fun _ _ _ _ _ _ us hl => match us, hl with | [_, _, _], _ => rfl) fun f cdv A outer s H vs Q E hr h nd tk => by
    obtain ⟨p, a, d, as, bs, L, F, v, s, e, rfl, hW, sq, zl, hv, zs, he, q1, q2⟩ := h
    show wL _ _ _ [some (.ref p), some (.int (e : Int)), some v] _
    refine l_cons (s_if (t_not (t_val (e_call (by exact FO) (by exact hr) (by decide) ?_))))
    refine a_cons (e_var (a_nil ⟨v, s, rfl, hv, Nat.le_trans zs.2 (by decide), fun H2 e2 => ⟨_, rfl, ?_⟩⟩))
    cases ho : onc s with
    | false => exact iteT (l_cons (s_raise0 R tk (q2 ho H2 e2)))
    | true =>
      refine iteF (l_nil ?_)
      obtain ⟨⟨dx, hp⟩, hr0, hf0⟩ := hW.same e2
      refine l_cons (s_ret (e_ix (e_call (by exact FT) (by exact hr) (by decide) ?_)))
      refine a_cons (e_fld (e_var ⟨p, C, dx, _, _, rfl, hp, O.cl, O.nP, wfl_p _ _, ?_⟩))
      refine a_cons (e_fld (e_var ⟨p, C, dx, _, _, rfl, hp, O.cl, O.nF, wfl_f _ _, ?_⟩))
      refine a_cons (e_var (a_nil ⟨a, d, v, as, bs, L, F, s, rfl, hr0, hf0, sq, zl, hv.ts (Same.ts e2), zs.1, fun l H3 e3 n3 h3 => ?_⟩))
      exact e_var (ix_l (by exact SqL.of h3) (atI_nat (tl_at he)) (q1 ho H3 (e2.trans e3)))
  exact ⟨f, fd, _, G, ⟨hf, hi, hk⟩, hb, O.cl⟩
def spWFails (C CO : Addr) : Sp := fun vs H Q E => ∃ p a d as bs L F v hs g lp ps, vs = [.ref p, v, .ref lp] ∧ WorldAt C H p a d as bs L F ∧ SqP L ∧ 0 < L.length ∧ L.length ≤ 1000 ∧ ClV H v hs g ∧ SzC hs g ∧ H lp = some (.lst (iV ps)) ∧ ps.length = hs.length ∧ (∀ x ∈ ps, 0 ≤ x ∧ x < (L.length : Int)) ∧
  (oncC hs g = true → ∀ H', Same H H' → Q (.bl (failB L F hs g ps)) H') ∧ (oncC hs g = false → ∀ H', Same H H' → E (.ref CO) none H')
theorem ok_wfails (T : TopM K C "fails" "World.fails" s_World_fails) (O : WOk K mg C) (mZ : mg "zip" = none) (FR : FnN P w K mg base 2 "require_once" (spReq CO)) (FT : Fn P w K mg base 49 "truths" (spTruths 48)) : MtN P w K mg base 50 C "fails" (spWFails C CO) := by
  obtain ⟨f, fd, G, hb, hf, hi, hk⟩ := me_okN (P := P) (w := w) (mg := mg) (base := base) (k := 49) (sp := spWFails C CO) (N := N_World_fails) (D := []) (ps := P_World_fails) T (by exact sc_World_fails) so_World_fails (fun vs H Q E h => by obtain ⟨p, a, d, as, bs, L, F, v, hs, g, lp, ps, rfl, _⟩ := h; rfl) (fun _ _ _ _ _ _ us hl => match us, hl with | [_, _, _], _ => rfl) fun f cdv A outer s H vs Q E hr h nd tk => by
    obtain ⟨p, a, d, as, bs, L, F, v, hs, g, lp, ps, rfl, hW, sq, zl0, zl, hC, hZ, hlp, lps, rps, q1, q2⟩ := h
    show wL _ _ _ [some (.ref p), some v, some (.ref lp), none, none, none, none, none, none] _
    refine l_cons (s_expr (e_callN (by exact FR) (by exact tk) (by exact hr) (by decide) ?_))
    refine a_cons (e_var (a_nil ⟨v, hs, g, rfl, hC, hZ, fun ho H1 e1 => ?_, fun ho H1 e1 => q2 ho H1 e1⟩))
    obtain ⟨t, th, sg, us, rfl, ht, hth, hus, hsg⟩ := hC
    refine l_cons (s_tup2 (e_var ⟨t, _, _, rfl, SqT.of (e1 _ _ ht), ?_⟩))
    show wL _ _ _ [some (.ref p), some (.ref t), some (.ref lp), some (.ref th), some sg, none, none, none, none] _
    refine l_cons (s_set (e_int ?_))
    show wL _ _ _ [some (.ref p), some (.ref t), some (.ref lp), some (.ref th), some sg, some (.int 0), none, none, none] _
    have lus := hus.len
    have lmin : min us.length (iV ps).length = ps.length := by rw [List.length_map, lus, lps, Nat.min_self]
    refine l_cons (s_forZ3 .t .l (by assumption) (e_var (e_var ⟨th, lp, us, iV ps, rfl, rfl, SqT.of (e1 _ _ hth), SqL.of (e1 _ _ hlp), fun k σ H' => ∃ x6 x7 x8, σ = [some (.ref p), some (.ref t), some (.ref lp), some (.ref th), some sg, some (.int (whl L (ps.take k))), x6, x7, x8] ∧ Same H H' ∧ fnB L F (hs.take k) (ps.take k) = true, ⟨none, none, none, by rw [List.take_zero]; rfl, e1, by rw [List.take_zero]; rfl⟩, ?_, ?_, ?_⟩)))
    · intro k σ H' _ pp
      obtain ⟨_, _, _, _, e, _⟩ := pp
      exact ⟨SqT.of (e _ _ hth), SqL.of (e _ _ hlp)⟩
    · intro k u1 u2 Tz σ H' hu1 hu2 pp nT
      obtain ⟨x6, x7, x8, rfl, e, hfn⟩ := pp
      obtain ⟨h, hh, tu, m, sv, rfl, htu, hm, hsv⟩ := hus.get hu1
      rw [List.getElem?_map] at hu2
      obtain ⟨x, hx, rfl⟩ := Option.map_eq_some_iff.mp hu2
      have hx2 := rps x (List.mem_of_getElem? hx)
      have zs := hZ.1 h (List.mem_of_getElem? hh)
      have e2 : Same H (upd H' Tz (.tup [.ref tu, .int x])) := e.trans (updS (Same.refl _) nT)
      generalize upd H' Tz (.tup [.ref tu, .int x]) = H2 at e2
      refine ⟨tu, _, _, _, rfl, SqT.of (e2 _ _ htu), ?_⟩
      show wL _ _ _ [some (.ref p), some (.ref t), some (.ref lp), some (.ref th), some sg, some (.int (whl L (ps.take k))), some m, some sv, some (.int x)] _
      obtain ⟨⟨dx, hp⟩, hr0, hf0⟩ := hW.same e2
      refine l_cons (s_if (t_not (t_val (e_ix (e_call (by exact FT) (by exact hr) (by decide) ?_)))))
      refine a_cons (e_fld (e_var ⟨p, C, dx, _, _, rfl, hp, O.cl, O.nP, wfl_p _ _, ?_⟩))
      refine a_cons (e_fld (e_var ⟨p, C, dx, _, _, rfl, hp, O.cl, O.nF, wfl_f _ _, ?_⟩))
      refine a_cons (e_var (a_nil ⟨a, d, sv, as, bs, L, F, h.2.2, rfl, hr0, hf0, sq, zl, hsv.ts (Same.ts e2), zs.1, fun l H3 e3 n3 h3 => ?_⟩))
      have hfs := fnB_step (L := L) (F := F) hh hx
      rw [hfn, Bool.true_and] at hfs
      refine e_var (ix_l (by exact SqL.of h3) (at_int hx2.1 (tl_at (by omega))) ⟨_, rfl, ?_⟩)
      have e23 := e2.trans e3
      cases hb : trb L F h.2.2 x.toNat with
      | false =>
        refine iteT (l_cons (s_ret (e_bl ?_)))
        have := q1 ho H3 e23
        rw [show failB L F hs g ps = false from ?_] at this
        · exact this
        · unfold failB
          rw [Bool.and_eq_false_iff]
          left
          unfold fnB
          refine List.all_eq_false.mpr ⟨(h, x), ?_, by rw [hb]; exact Bool.false_ne_true⟩
          refine List.mem_of_getElem? (i := k) ?_
          rw [List.getElem?_zip_eq_some]
          exact ⟨hh, hx⟩
      | true =>
        rw [hb] at hfs
        refine iteF (l_nil ?_)
        have hw := whl_rg sq zl0 (ps := ps.take k) fun y hy => rps y (List.mem_of_mem_take hy)
        obtain ⟨⟨dx3, hp3⟩, hr3, hf3⟩ := hW.same e23
        obtain ⟨b, hb1, hbr⟩ := hr3.row (i := (whl L (ps.take k)).toNat) (by omega)
        refine l_cons (s_set (e_ix (e_ix (e_fld (e_var ⟨p, C, dx3, _, _, rfl, hp3, O.cl, O.nP, wfl_p _ _, e_var (ix_l (by exact SqL.of hr3.hd) (at_int hw.1 hb1) (e_var (ix_l (by exact SqL.of hbr) (at_int hx2.1 (iv_get (gg_get (by rw [sq_row sq (by omega)]; omega)))) ?_)))⟩)))))
        refine l_nil ⟨_, _, _, by rw [whl_step hx]; rfl, e23, hfs⟩
    · intro σ H' pp
      obtain ⟨x6, x7, x8, rfl, e, hfn⟩ := pp
      rw [lmin] at hfn ⊢
      rw [lps, List.take_length, ← lps, List.take_length] at hfn
      rw [List.take_length]
      have hw := whl_rg sq zl0 rps
      obtain ⟨⟨dx, hp⟩, hr0, hf0⟩ := hW.same e
      refine l_cons (s_ret (e_not (e_ix (e_call (by exact FT) (by exact hr) (by decide) ?_))))
      refine a_cons (e_fld (e_var ⟨p, C, dx, _, _, rfl, hp, O.cl, O.nP, wfl_p _ _, ?_⟩))
      refine a_cons (e_fld (e_var ⟨p, C, dx, _, _, rfl, hp, O.cl, O.nF, wfl_f _ _, ?_⟩))
      refine a_cons (e_var (a_nil ⟨a, d, sg, as, bs, L, F, g, rfl, hr0, hf0, sq, zl, hsg.ts (Same.ts e), hZ.2.1, fun l H3 e3 n3 h3 => ?_⟩))
      refine e_var (ix_l (by exact SqL.of h3) (at_int hw.1 (tl_at (by omega))) ⟨_, rfl, ?_⟩)
      have := q1 ho H3 (e.trans e3)
      unfold failB at this
      rw [hfn, Bool.true_and] at this
      exact this
  exact ⟨f, fd, _, G, ⟨hf, hi, hk⟩, hb, O.cl⟩
end



/-- holds as a claim's rows -/
def clH (hs : List Hol) : List Hd := hs.map fun x => (x.1, none, x.2)
section
variable {P : Program} {w : World} {K : PySem.W.Frag} {mg : Str → Option Value} {base : Heap}
def spGrown : Sp := fun vs H Q _ => ∃ c b gs g, vs = [.ref c.a, .ref gs] ∧ StG H c b [] ∧ b ≤ 9 ∧ SnV H (.ref gs) g ∧ SnT g ∧ dep g ≤ 2 ∧
  ∀ a cv tv hs t b' H', Gf c H H' → StG H' c b' hs → H' a = some (.tup [cv, tv]) → ClV H' cv (clH hs) g → DV H' t tv → DOk t → sz t ≤ 125 → dp t ≤ 42 → hs.length ≤ 31 → Q (.ref a) H'
theorem ok_grown (T : Top K mg "_law_grown" s_grown) (mTu : mg "tuple" = none) (FN : Fn P w K mg base 1 "_law_next" spNext) (FG : Fn P w K mg base 62 "_law_grow" (spGrow 19)) (FCu : Fn P w K mg base 64 "_law_cut" (spCut 19)) (FC : Fn P w K mg base 44 "_law_counts" (spCnt 42)) : Fn P w K mg base 65 "_law_grown" spGrown := by
  refine fn_ok T sc_grown so_grown (fun vs H Q E h => by obtain ⟨c, b, gs, g, rfl, _⟩ := h; rfl) (fun _ _ _ _ _ _ us hl => match us, hl with | [_, _], _ => rfl) fun f cdv A outer s H vs Q E hr h nd => ?_
  obtain ⟨c, b, gs, g, rfl, hst, hb9, hgv, hgo, hgd, q⟩ := h
  obtain ⟨kvs, k1, kp, kf, kw, kr, ke, kh, kt, kb, kl⟩ := hst.d
  refine l_cons (s_set (e_dg (by exact hr) (e_var (e_str ⟨c.a, .ref c.p, rfl, dg_k k1 kp, ?_⟩))))
  show wL _ _ _ [some (.ref c.a), some (.ref gs), some (.ref c.p), none, none, none, none, none, none, none] _
  -- behind the growing
  have rest : ∀ (H4 : Hp) (tv : V) (t : D) (b4 : Int) (hs : List Hol), Gf c H H4 → StG H4 c b4 hs → DV H4 t tv → DOk t → sz t ≤ 125 → dp t ≤ 42 → hs.length ≤ 31 → wL (cxOf CX0 P w K mg base N_grown (Str.ofString "_law_grown") (defScope s_grown) f cdv A outer s H E).nox ((defBody s_grown).drop 2) { nx := fun _ H' => Q .non H', rt := Q } [some (.ref c.a), some (.ref gs), some (.ref c.p), some tv, none, none, none, none, none, none] H4 := by
    as_aux_lemma =>
      intro H4 tv t b4 hs g4 s4 htv hok hsz hdp hhl
      refine l_cons (s_set (e_call (by exact FC) (by exact hr) (by decide) (a_cons (e_var (a_cons (e_int (a_nil ?_)))))))
      refine ⟨tv, t, 0, rfl, htv, by omega, by omega, fun d H5 e5 n5 hd => ?_⟩
      show wL _ _ _ [some (.ref c.a), some (.ref gs), some (.ref c.p), some tv, some (.ref d), none, none, none, none, none] _
      refine l_cons (s_set (e_lst (a_nil ⟨by show 0 ≤ sizeLine; decide, fun D H6 e6 n6 h6 => ?_⟩)))
      show wL _ _ _ [some (.ref c.a), some (.ref gs), some (.ref c.p), some tv, some (.ref d), some (.ref D), none, none, none, none] _
      have s6 := (s4.same e5).same e6
      obtain ⟨kv6, k16, kp6, kf6, kw6, kr6, ke6, kh6, _⟩ := s6.d
      obtain ⟨hv, hhv, hva⟩ := s6.hl
      have lhv := hva.len
      have nDh : D ≠ c.hd := ((s4.same e5).new n6).h
      refine l_cons (s_forL (e_dg (by exact hr) (e_var (e_str ⟨c.a, .ref c.hd, rfl, dg_k k16 kh6, ?_⟩))))
      refine ⟨c.hd, hv, rfl, SqL.of hhv, fun j σ H' => ∃ x6 x7 us, σ = [some (.ref c.a), some (.ref gs), some (.ref c.p), some tv, some (.ref d), some (.ref D), x6, x7, none, none] ∧ H' D = some (.lst us) ∧ HsV H' us (clH (hs.take j)) ∧ ∀ y o, y ≠ D → H6 y = some o → H' y = some o, ⟨none, none, [], rfl, h6, trivial, fun y o _ h => h⟩, ?_, ?_, ?_⟩
      · rintro j σ H' _ ⟨x6, x7, us, rfl, hD, hus, keep⟩
        exact SqL.of (keep _ _ nDh.symm hhv)
      · rintro j y σ H' hy ⟨x6, x7, us, rfl, hD, hus, keep⟩
        obtain ⟨h0, hx0, a, sv, rfl, ha, hsv, hst0, hdp0⟩ := hva.get hy
        have hjl := (List.getElem?_eq_some_iff.mp hy).1
        have t6 : TS H6 H' := fun y xs h => keep y _ (fun z => by rw [z, h6] at h; cases h) h
        have ha' := keep a _ (fun z => by rw [z, h6] at ha; cases ha) ha
        have lus := hus.len
        rw [show (clH (hs.take j)).length = min j hs.length by unfold clH; rw [List.length_map, List.length_take]] at lus
        show wL _ _ _ [some (.ref c.a), some (.ref gs), some (.ref c.p), some tv, some (.ref d), some (.ref D), some (.ref a), x7, none, none] _
        refine l_cons (s_set (e_str ?_))
        show wL _ _ _ [some (.ref c.a), some (.ref gs), some (.ref c.p), some tv, some (.ref d), some (.ref D), some (.ref a), some (.str "once"), none, none] _
        refine l_cons (s_if (t_cmp (e_ix (e_var (e_int (ix_l (by exact SqL.of ha') at1 (e_str (o_eqS ⟨_, rfl, ?_⟩))))))))
        rw [decide_eq_false (by decide +kernel)]
        refine iteF (l_nil ?_)
        refine l_cons (s_expr (e_app (e_var ⟨D, _, rfl, SqL.of hD, e_tup (a_cons (e_ix (e_var (e_int (ix_l (by exact SqL.of ha') at0 ?_)))))⟩)))
        refine a_cons (e_var (a_cons (e_ix (e_var (e_int (ix_l (by exact SqL.of ha') (atI_nat (j := 2) rfl) (a_nil ?_)))))))
        refine ⟨by show 3 ≤ sizeLine; decide, fun tp H8 e8 n8 h8 => ⟨_, e8 _ _ hD, by show _ < 2 ^ 24; omega, l_nil ?_⟩⟩
        have t8 : TS H8 (upd H8 D (.lst (us ++ [.ref tp]))) := TS.upd (e8 _ _ hD)
        have t68 : TS H' (upd H8 D (.lst (us ++ [.ref tp]))) := (Same.ts e8).trans t8
        refine ⟨_, _, us ++ [.ref tp], rfl, upd_same, ?_, fun y o n hy => by rw [upd_ne n]; exact e8 _ _ (keep y o n hy)⟩
        have hsn : hs.take (j + 1) = hs.take j ++ [h0] := take_snoc' hx0
        rw [hsn]
        unfold clH
        rw [List.map_append]
        exact HsV.app (s := (h0.1, none, h0.2)) ⟨tp, .str "once", .ref sv, rfl, t8 _ _ h8, rfl, (hsv.ts t6).ts t68⟩ (hus.ts t68)
      rintro σ H7 ⟨x6, x7, us, rfl, hD, hus, keep⟩
      rw [List.take_of_length_le (by omega)] at hus
      have e67 : Same H5 H7 := fun y o hy => keep y o (ne_fresh n6 hy).symm (e6 _ _ hy)
      have s7 := (s4.same e5).same e67
      have g47 : Gf c H4 H7 := Gf.same (e5.trans e67)
      obtain ⟨kv7, k17, kp7, kf7, _⟩ := s7.d
      refine l_cons (s_if (t_w (w_and (t_cmp (e_str (e_dg (by exact hr) (e_var (e_str ⟨c.a, _, rfl, dg_k k17 kf7, ?_⟩))))))))
      rw [sg_s]
      refine o_inS ?_
      rw [c_s']
      refine ⟨_, rfl, iteF (iteF (l_nil ?_))⟩
      refine l_cons (s_ret (e_tup (a_cons (e_tup (a_cons (e_callTy (x := "tuple") (by assumption) b_tuple (a_cons (e_var (a_nil (c_tupL (by exact SqL.of hD) fun l9 H9 e9 n9 h9 => ?_))))))))))
      refine a_cons (e_var (a_nil ⟨by show 2 ≤ sizeLine; decide, fun t10 H10 e10 n10 h10 => a_cons (e_var (a_nil ⟨by show 2 ≤ sizeLine; decide, fun t11 H11 e11 n11 h11 => ?_⟩))⟩))
      have e711 := (e9.trans e10).trans e11
      have g411 := g47.trans (Gf.same e711)
      have g011 := g4.trans g411
      exact q t11 (.ref t10) tv hs t b4 H11 g011 (s7.same e711) h11 ⟨t10, l9, .ref gs, us, rfl, e11 _ _ h10, e11 _ _ (e10 _ _ h9), hus.ts (Same.ts e711), hgv.ts (hst.tss g011)⟩ (htv.ts (s4.tss g411)) hok hsz hdp hhl
  refine l_cons (s_if (t_w (w_and (t_cmp (e_str (e_dg (by exact hr) (e_var (e_str ⟨c.a, _, rfl, dg_k k1 kf, ?_⟩))))))))
  rw [sg_c]
  refine o_inS ?_
  rw [c_c]
  refine ⟨_, rfl, iteT (w_and1 (t_cmp (e_call (by exact FN) (by exact hr) (by decide) (a_cons (e_var (a_cons (e_int (a_nil ?_))))))))⟩
  refine ⟨c.p, 4, rfl, by decide, by decide, hst.pl, fun d1 H1 f0 f1 b1 p1 => e_int (o_gt ⟨_, rfl, ?_⟩)⟩
  have s1 := hst.pool b1 p1
  have g1 : Gf c H H1 := Gf.pool b1
  refine if2 (fun _ => ?_) (fun _ => ?_)
  · refine l_cons (s_set (e_call (by exact FCu) (by exact hr) (by decide) (a_cons (e_var (a_cons (e_var ?_))))))
    refine a_cons (e_lst (a_nil ⟨by show 0 ≤ sizeLine; decide, fun l1 H2 e2 n2 h2 => a_cons (e_lst (a_nil ⟨by show 0 ≤ sizeLine; decide, fun l2 H3 e3 n3 h3 => ?_⟩))⟩))
    refine a_cons (e_int (a_cons (e_tup (a_cons (e_int (a_cons (e_int (a_cons (e_bl (a_nil ⟨by show 3 ≤ sizeLine; decide, fun bx H4 e4 n4 h4 => a_nil ?_⟩))))))))))
    have s2 := s1.same e2
    have e14 := (e2.trans e3).trans e4
    have g4 := g1.trans (Gf.same (c := c) e14)
    refine ⟨c, b, [], gs, g, [], l1, l2, 0, bx, rfl, ⟨s1.same e14, hgv.ts (hst.tss g4), hgo, hgd, ⟨[], e4 _ _ (e3 _ _ h2), rfl, s1.new n2⟩, ⟨e4 _ _ h3, s2.new n3⟩, h4, by simp; omega⟩, by omega, by simp, fun v t b' hs' H5 g5 s5 hv hP => l_nil ?_⟩
    obtain ⟨a1, a2, a3, a4, a5⟩ := hP
    simp only [List.length_nil] at a1 a2 a3
    exact rest H5 v t b' hs' (g4.trans g5) s5 hv a5 (by omega) (by omega) (by omega)
  · refine l_cons (s_set (e_call (by exact FG) (by exact hr) (by decide) (a_cons (e_var (a_cons (e_var ?_))))))
    refine a_cons (e_lst (a_nil ⟨by show 0 ≤ sizeLine; decide, fun l1 H2 e2 n2 h2 => a_cons (e_lst (a_nil ⟨by show 0 ≤ sizeLine; decide, fun l2 H3 e3 n3 h3 => ?_⟩))⟩))
    refine a_cons (e_int (a_cons (e_tup (a_cons (e_int (a_cons (e_int (a_cons (e_bl (a_nil ⟨by show 3 ≤ sizeLine; decide, fun bx H4 e4 n4 h4 => a_cons (e_int (a_nil ?_))⟩))))))))))
    have s2 := s1.same e2
    have e14 := (e2.trans e3).trans e4
    have g4 := g1.trans (Gf.same (c := c) e14)
    refine ⟨c, b, [], gs, g, [], l1, l2, 0, bx, 0, rfl, by decide, ⟨s1.same e14, hgv.ts (hst.tss g4), hgo, hgd, ⟨[], e4 _ _ (e3 _ _ h2), rfl, s1.new n2⟩, ⟨e4 _ _ h3, s2.new n3⟩, h4, by rw [wz0]; simp; omega⟩, by rw [wz0]; omega, by simp, fun v t b' hs' H5 g5 s5 hv hP => l_nil ?_⟩
    obtain ⟨a1, a2, a3, a4, a5⟩ := hP
    rw [wz0] at a1 a3
    simp only [List.length_nil] at a1 a2 a3
    exact rest H5 v t b' hs' (g4.trans g5) s5 hv a5 (by omega) (by omega) (by omega)
end



theorem take_put {kvs : List (Key × V)} (nd : (kvs.map (·.1)).Nodup) {i : Nat} {y : Key} {v : V} (e : kvs[i]? = some (y, v)) : putK (kvs.take i) y v = kvs.take (i + 1) := by
  have hn : valV (kvs.take i) y = none := by
    as_aux_lemma =>
      unfold valV
      rw [Option.map_eq_none_iff, List.find?_eq_none]
      intro p hp hpy
      have hy : p.1 = y := of_decide_eq_true hpy
      obtain ⟨j, hj, ej⟩ := List.getElem_of_mem hp
      rw [List.length_take] at hj
      rw [List.getElem_take] at ej
      have hi := (List.getElem?_eq_some_iff.mp e).1
      have ei := (List.getElem?_eq_some_iff.mp e).2
      have h1 : (kvs.map (·.1))[j]'(by rw [List.length_map]; omega) = (kvs.map (·.1))[i]'(by rw [List.length_map]; omega) := by
        rw [List.getElem_map, List.getElem_map, ej, ei, hy]
      have := (List.getElem_inj nd).mp h1
      omega
  rw [putK_new v hn, List.take_add_one, e]
  rfl
/-! ### the law's checker -/
def upG (G : Key → Option Sn) (l : Int) (s : Sn) : Key → Option Sn := fun k => if k = .inl l then some s else G k
def rmO (x : C3) : Bool := decide (x.1 = 1) && decide (x.2.1 = 1)
def rt : D → (Key → Option Sn) → Sn → Int → Bool
  | .own r, G, g, _ => match G r with
    | some s => decide (s = g) | none => false
  | .take a, G, g, l => match g with
    | .trade _ x y => rt a (upG G l x) y (l + 1) && rmO (cL a (l + 1) (.inl l)) | _ => false
  | .ofr a b, G, g, l => match g with
    | .menu x y => rt a G x l && rt b G y l | _ => false
  | .pk r d a, G, g, l => match G r with
    | some (.menu x y) => rt a (upG G l (if d then y else x)) g (l + 1) && rmO (cL a (l + 1) (.inl l)) | _ => false
  | .py r p b, G, g, l => match G r with
    | some (.trade _ x y) => rt p G x l && (rt b (upG G l y) g (l + 1) && rmO (cL b (l + 1) (.inl l))) | _ => false
  | .ct s p b, G, g, l => rt p G s l && (rt b (upG G l s) g (l + 1) && rmO (cL b (l + 1) (.inl l)))
/-- a scope: what a ref stands for -/
def ScpV (H : Hp) (d : Addr) (G : Key → Option Sn) (n : Nat) : Prop := ∃ kvs, H d = some (.dK kvs) ∧ (kvs.map (·.1)).Nodup ∧ kvs.length ≤ n ∧ ∀ k, match G k with
  | some s => ∃ v, valV kvs k = some v ∧ SnV H v s ∧ SnOk s ∧ dep s ≤ 48
  | none => valV kvs k = none
theorem ScpV.same {H H' : Hp} (e : Same H H') {d : Addr} {G : Key → Option Sn} {n : Nat} : ScpV H d G n → ScpV H' d G n := fun ⟨kvs, h1, h2, h3, h4⟩ => ⟨kvs, e _ _ h1, h2, h3, fun k => by
  have := h4 k
  cases hG : G k with
  | none => rw [hG] at this; exact this
  | some s => rw [hG] at this; obtain ⟨v, g1, g2, g3⟩ := this; exact ⟨v, g1, g2.ts (Same.ts e), g3⟩⟩
theorem ScpV.get {H : Hp} {d : Addr} {G : Key → Option Sn} {n : Nat} {k : Key} {s : Sn} (h : ScpV H d G n) (e : G k = some s) : ∃ v, DGet H d (kV k) (some v) ∧ SnV H v s ∧ SnOk s ∧ dep s ≤ 48 := by
  obtain ⟨kvs, h1, h2, h3, h4⟩ := h
  have := h4 k
  rw [e] at this
  obtain ⟨v, g1, g2⟩ := this
  exact ⟨v, by rw [← g1]; exact dg_K h1, g2⟩
theorem ScpV.has {H : Hp} {d : Addr} {G : Key → Option Sn} {n : Nat} (h : ScpV H d G n) (k : Key) : ∃ ov, DGet H d (kV k) ov ∧ ov.isSome = (G k).isSome := by
  obtain ⟨kvs, h1, h2, h3, h4⟩ := h
  have := h4 k
  refine ⟨valV kvs k, dg_K h1, ?_⟩
  cases hG : G k with
  | none => rw [hG] at this; rw [show valV kvs k = none from this]; rfl
  | some s => rw [hG] at this; obtain ⟨v, g1, g2⟩ := this; rw [g1]; rfl
section
variable {P : Program} {w : World} {K : PySem.W.Frag} {mg : Str → Option Value} {base : Heap}
def spRoom : Sp := fun vs H Q _ => ∃ t x, vs = [.ref t, .str "once"] ∧ H t = some (.tup (cT x)) ∧ Q (.bl (rmO x)) H
theorem ok_room (T : Top K mg "_law_room" s_room) : Fn P w K mg base 1 "_law_room" spRoom := by
  refine fn_ok T sc_room so_room (fun vs H Q E h => by obtain ⟨t, x, rfl, _⟩ := h; rfl) (fun _ _ _ _ _ _ us hl => match us, hl with | [_, _], _ => rfl) fun f cdv A outer s H vs Q E hr h nd => ?_
  obtain ⟨t, x, rfl, ht, q⟩ := h
  refine l_cons (s_if (t_cmp (e_var (e_str (o_eqS ⟨_, rfl, ?_⟩)))))
  rw [decide_eq_true rfl]
  refine iteT (l_cons (s_ret (e_and (e_cmp (e_ix (e_var (e_int (ix_t (by exact SqT.of ht) at0 (e_int (o_eqI ⟨_, rfl, ?_⟩))))))))))
  unfold rmO at q
  generalize decide (x.1 = 1) = k1 at q
  cases k1 with
  | false => exact iteF q
  | true =>
    refine iteT (e_one (e_cmp (e_ix (e_var (e_int (ix_t (by exact SqT.of ht) at1 (e_int (o_eqI ?_))))))))
    rw [Bool.true_and] at q
    exact q
/-- what is right, at any level -/
def spRight (n : Nat) : Sp := fun vs H Q _ => ∃ st sc G N gv g tv t, ∃ l : Int, vs = [st, .ref sc, gv, tv, .int l] ∧ ScpV H sc G N ∧ N + dp t ≤ 1000 ∧ SnV H gv g ∧ SnOk g ∧ dep g ≤ 48 ∧ DV H t tv ∧ DOk t ∧ dp t ≤ n ∧ dp t ≤ 46 ∧ sz t ≤ 1000 ∧ ∀ H', Same H H' → Q (.bl (rt t G g l)) H'
def spBrought (n : Nat) : Sp := fun vs H Q _ => ∃ st sc G N gv g tv t, ∃ l : Int, ∃ sv s, vs = [st, .ref sc, gv, tv, .int l, .str "once", sv] ∧ ScpV H sc G N ∧ N + 1 + dp t ≤ 1000 ∧ SnV H gv g ∧ SnOk g ∧ dep g ≤ 48 ∧ DV H t tv ∧ DOk t ∧ dp t ≤ n ∧ dp t ≤ 46 ∧ sz t ≤ 1000 ∧ SnV H sv s ∧ SnOk s ∧ dep s ≤ 48 ∧ ∀ H', Same H H' → Q (.bl (rt t (upG G l s) g (l + 1) && rmO (cL t (l + 1) (.inl l)))) H'
theorem ok_brought (n k : Nat) (T : Top K mg "_law_brought" s_brought) (hk : 48 ≤ k) (FR : Fn P w K mg base k "_law_right" (spRight n)) (FC : Fn P w K mg base 48 "_law_counts" (spCnt 46)) (FM : Fn P w K mg base 1 "_law_room" spRoom) : Fn P w K mg base (k + 1) "_law_brought" (spBrought n) := by
  refine fn_ok T sc_brought so_brought (fun vs H Q E h => by obtain ⟨st, sc, G, N, gv, g, tv, t, l, sv, s, rfl, _⟩ := h; rfl) (fun _ _ _ _ _ _ us hl => match us, hl with | [_, _, _, _, _, _, _], _ => rfl) fun f cdv A outer s H vs Q E hr h nd => ?_
  obtain ⟨st, sc, G, N, gv, g, tv, t, l, sv, s, rfl, hsc, hN, hgv, hgo, hgd, htv, hdk, hdn, hd37, hsz, hsv, hso, hsd, q⟩ := h
  obtain ⟨kvs, hM, hnd, hl, hG⟩ := hsc
  refine l_cons (s_set (e_dict fun D H1 e1 nD h1 => ?_))
  have nDM : D ≠ sc := fun z => by subst z; rw [hM] at nD; cases nD
  show wL _ _ _ [some st, some (.ref sc), some gv, some tv, some (.int l), some (.str "once"), some sv, some (.ref D), none] _
  refine l_cons (s_forD (e1 _ _ hM) fun o => e_var ⟨rfl, upd_same, fun k σ H2 => ∃ x, σ = [some st, some (.ref sc), some gv, some tv, some (.int l), some (.str "once"), some sv, some (.ref D), x] ∧ H2 sc = some (.frz o (.dK kvs)) ∧ H2 D = some (.dK (kvs.take k)) ∧ ∀ c u, c ≠ sc → H c = some u → H2 c = some u, ?_, ?_, ?_, ?_⟩)
  · exact ⟨none, rfl, upd_same, by rw [upd_ne nDM, List.take_zero]; exact h1, fun c u nc hc => by rw [upd_ne nc]; exact e1 _ _ hc⟩
  · rintro k σ H2 _ ⟨x, rfl, p1, p2, p3⟩
    exact p1
  · rintro k y v' σ H2 hk ⟨x, rfl, p1, p2, p3⟩
    show wL _ _ _ [some st, some (.ref sc), some gv, some tv, some (.int l), some (.str "once"), some sv, some (.ref D), some (kV y)] _
    refine l_cons (s_dput (hu_of hr) (e_dg (by exact hr) (e_var (e_var ⟨sc, v', rfl, ?_, e_var (e_var ?_)⟩))))
    · rw [← valV_at hnd hk]; exact dg_F p1
    · refine ⟨D, _, rfl, DPut.k p2 (by rw [List.length_take]; show _ < 2 ^ 24; omega), l_nil ⟨_, rfl, by rw [upd_ne (Ne.symm nDM)]; exact p1, ?_, fun c u nc hc => ?_⟩⟩
      · rw [take_put hnd hk]; exact upd_same
      · rw [upd_ne (ne_of_none hc nD)]; exact p3 c u nc hc
  · rintro σ H2 ⟨x, rfl, p1, p2, p3⟩
    rw [List.take_length] at p2
    generalize hH3 : upd H2 sc (.dK kvs) = H3
    have e3 : Same H H3 := fun c u hc => by
      rw [← hH3]
      by_cases hca : c = sc
      · subst hca; rw [upd_same]; rw [hM] at hc; exact hc
      · rw [upd_ne hca]; exact p3 c u hca hc
    have hD : H3 D = some (.dK kvs) := by rw [← hH3, upd_ne nDM]; exact p2
    refine l_cons (s_dput (hu_of hr) (e_var (e_var (e_var ?_))))
    refine ⟨D, _, rfl, DPut.k (k := .inl l) hD (by show _ < 2 ^ 24; omega), ?_⟩
    have e4 : Same H (upd H3 D (.dK (putK kvs (.inl l) sv))) := fun c u hc => by
      rw [upd_ne (ne_of_none hc nD)]
      exact e3 c u hc
    have hD4 : upd H3 D (.dK (putK kvs (.inl l) sv)) D = some (.dK (putK kvs (.inl l) sv)) := upd_same
    generalize upd H3 D (.dK (putK kvs (.inl l) sv)) = H4 at e4 hD4
    have hsc4 : ScpV H4 D (upG G l s) (N + 1) := by
      as_aux_lemma =>
        refine ⟨_, hD4, nd_put _ _ hnd, by have := length_putK kvs (.inl l) sv; omega, fun k => ?_⟩
        rw [valV_put]
        unfold upG
        by_cases e : k = .inl l
        · rw [if_pos e, if_pos e]; exact ⟨sv, rfl, hsv.ts (Same.ts e4), hso, hsd⟩
        · rw [if_neg e, if_neg e]
          have := hG k
          cases hg : G k with
          | none => rw [hg] at this; exact this
          | some u => rw [hg] at this; obtain ⟨v, g1, g2, g3⟩ := this; exact ⟨v, g1, g2.ts (Same.ts e4), g3⟩
    refine l_cons (s_if (t_not (t_val (e_call (by exact FR) (by exact hr) (by omega) (a_cons (e_var (a_cons (e_var (a_cons (e_var (a_cons (e_var (a_cons (e_bin (e_var (e_int (o_add (a_nil ?_))))))))))))))))))
    refine ⟨st, D, upG G l s, N + 1, gv, g, tv, t, l + 1, rfl, hsc4, by omega, hgv.ts (Same.ts e4), hgo, hgd, htv.ts (Same.ts e4), hdk, hdn, hd37, hsz, fun H5 e5 => ⟨_, rfl, ?_⟩⟩
    have e45 := e4.trans e5
    generalize rt t (upG G l s) g (l + 1) = kk at q
    cases kk with
    | false => exact iteT (l_cons (s_ret (e_bl (q H5 e45))))
    | true =>
      rw [Bool.true_and] at q
      refine iteF (l_nil (l_cons (s_ret (e_call (by exact FM) (by exact hr) (by omega) (a_cons (e_dget2 (by exact hr) (e_call (by exact FC) (by exact hr) (by omega) (a_cons (e_var (a_cons (e_bin (e_var (e_int (o_add (a_nil ?_)))))))))))))))
      refine ⟨tv, t, l + 1, rfl, htv.ts (Same.ts e45), by omega, hsz, fun d H6 e6 n6 hd => ?_⟩
      obtain ⟨kd, hdk', _, _, hdc⟩ := hd.ex
      refine ⟨d, rfl, .inl ⟨_, .inl hdk'⟩, e_var ?_⟩
      walk_at "sts"
      refine ⟨by show 3 ≤ sizeLine; decide, fun t7 H7 e7 n7 h7 => ?_⟩
      refine ⟨_, dg_K (k := .inl l) (e7 _ _ hdk'), a_cons (e_var (a_nil ?_))⟩
      have hc := hdc (.inl l)
      have e47 := (e45.trans e6).trans e7
      rcases hc with ⟨t8, q1, q2, q3⟩ | ⟨q1, q2⟩
      · rw [q1]; exact ⟨t8, _, rfl, e7 _ _ q2, q H7 e47⟩
      · rw [q1]; rw [q2] at q; exact ⟨t7, z3, rfl, h7, q H7 e47⟩
end



theorem SnV.tradeV {H : Hp} {v : V} {k : Option (Int × Int)} {p g : Sn} (h : SnV H v (.trade k p g)) : ∃ t m a b, v = .ref t ∧ H t = some (.tup [.str "trade", m, a, b]) ∧ ModeV H m k ∧ SnV H a p ∧ SnV H b g := h
abbrev rfS : List V := [.str "own", .str "pick", .str "pay", .str "open"]
theorem rf_own : inV (.str "own") rfS = true := by decide +kernel
theorem rf_pick : inV (.str "pick") rfS = true := by decide +kernel
theorem rf_pay : inV (.str "pay") rfS = true := by decide +kernel
theorem rf_take : inV (.str "take") rfS = false := by decide +kernel
theorem rf_ofr : inV (.str "offer") rfS = false := by decide +kernel
theorem rf_cut : inV (.str "cut") rfS = false := by decide +kernel
theorem sd_right (d : Bool) : decide (sideS d = Str.ofString "right") = d := by cases d <;> decide +kernel
section
variable {P : Program} {w : World} {K : PySem.W.Frag} {mg : Str → Option Value} {base : Heap}
def spLeft (n : Nat) : Sp := fun vs H Q _ => ∃ st sc G N gv g tv t, ∃ l : Int, ∃ sv s r, vs = [st, .ref sc, gv, tv, .int l, sv] ∧ ScpV H sc G N ∧ N + dp t ≤ 1000 ∧ SnV H gv g ∧ SnOk g ∧ dep g ≤ 48 ∧ DV H t tv ∧ DOk t ∧ dp t ≤ n + 1 ∧ dp t ≤ 46 ∧ sz t ≤ 1000 ∧ ((∃ d a, t = .pk r d a) ∨ ∃ p b, t = .py r p b) ∧ G r = some s ∧ SnV H sv s ∧ SnOk s ∧ dep s ≤ 48 ∧ ∀ H', Same H H' → Q (.bl (rt t G g l)) H'
theorem ok_left (n k : Nat) (T : Top K mg "_law_left" s_left) (mI : mg "int" = none) (FR : Fn P w K mg base k "_law_right" (spRight n)) (FB : Fn P w K mg base (k + 1) "_law_brought" (spBrought n)) : Fn P w K mg base (k + 2) "_law_left" (spLeft n) := by
  refine fn_ok T sc_left so_left (fun vs H Q E h => by obtain ⟨st, sc, G, N, gv, g, tv, t, l, sv, s, r, rfl, _⟩ := h; rfl) (fun _ _ _ _ _ _ us hl => match us, hl with | [_, _, _, _, _, _], _ => rfl) fun f cdv A outer s H vs Q E hr h nd => ?_
  obtain ⟨st, sc, G, N, gv, g, tv, t, l, sv, s, r, rfl, hsc, hN, hgv, hgo, hgd, htv, hdk, hdn, hd46, hsz, ht, hG, hsv, hso, hsd, q⟩ := h
  rcases ht with ⟨d, a, rfl⟩ | ⟨p0, b0, rfl⟩
  · obtain ⟨p, x, rfl, hp, hx⟩ := htv
    have hN : N + (dp a + 1) ≤ 1000 := hN
    have hdn : dp a + 1 ≤ n + 1 := hdn
    have hd46 : dp a + 1 ≤ 46 := hd46
    have hsz : sz a + 1 ≤ 1000 := hsz
    refine l_cons (s_if (t_cmp (e_ix (e_var (e_int (ix_t (by exact SqT.of hp) at0 (e_str (o_eqS ⟨_, rfl, ?_⟩))))))))
    rw [decide_eq_true rfl]
    refine iteT ?_
    cases s with
    | menu y z =>
      obtain ⟨t, ya, za, rfl, ht, hya, hza⟩ := SnV.menuV hsv
      refine l_cons (s_if (t_cmp (e_ix (e_var (e_int (ix_t (by exact SqT.of ht) at0 (e_str (o_neS ⟨_, rfl, ?_⟩))))))))
      rw [show (!decide (Str.ofString "menu" = Str.ofString "menu")) = false by rw [decide_eq_true rfl]; rfl]
      refine iteF (l_nil (l_cons (s_ret (e_call (by exact FB) (by exact hr) (by omega) (a_cons (e_var (a_cons (e_var (a_cons (e_var (a_cons (e_ix (e_var (e_int (ix_t (by exact SqT.of hp) (atI_nat (j := 3) rfl) ?_)))))))))))))))
      refine a_cons (e_var (a_cons (e_str (a_cons (e_ix (e_var (e_bin (e_int (e_callTy (x := "int") (by assumption) b_int (a_cons (e_cmp (e_ix (e_var (e_int (ix_t (by exact SqT.of hp) (atI_nat (j := 2) rfl) ?_)))))))))))))))
      refine e_str (o_eqS (a_nil (c_intB (o_add ?_))))
      rw [sd_right]
      have hq : rt (.pk r d a) G g l = (rt a (upG G l (if d then z else y)) g (l + 1) && rmO (cL a (l + 1) (.inl l))) := by simp only [rt, hG]
      rw [hq] at q
      have hd3 : max (dep y) (dep z) + 1 ≤ 48 := hsd
      cases d with
      | true =>
        refine ix_t (by exact SqT.of ht) (v := za) rfl (a_nil ?_)
        exact ⟨st, sc, G, N, gv, g, x, a, l, za, z, rfl, hsc, by omega, hgv, hgo, hgd, hx, hdk, by omega, by omega, by omega, hza, hso.2, by omega, q⟩
      | false =>
        refine ix_t (by exact SqT.of ht) (v := ya) rfl (a_nil ?_)
        exact ⟨st, sc, G, N, gv, g, x, a, l, ya, y, rfl, hsc, by omega, hgv, hgo, hgd, hx, hdk, by omega, by omega, by omega, hya, hso.1, by omega, q⟩
    | word z =>
      obtain ⟨t, rfl, ht⟩ := hsv
      refine l_cons (s_if (t_cmp (e_ix (e_var (e_int (ix_t (by exact SqT.of ht) at0 (e_str (o_neS ⟨_, rfl, ?_⟩))))))))
      rw [show (!decide (Str.ofString "word" = Str.ofString "menu")) = true by rw [decide_eq_false (by decide +kernel)]; rfl]
      have hq : rt (.pk r d a) G g l = false := by simp only [rt, hG]
      rw [hq] at q
      exact iteT (l_cons (s_ret (e_bl (q H (Same.refl H)))))
    | trade kd y z =>
      obtain ⟨t, mv, ya, za, rfl, ht, _⟩ := SnV.tradeV hsv
      refine l_cons (s_if (t_cmp (e_ix (e_var (e_int (ix_t (by exact SqT.of ht) at0 (e_str (o_neS ⟨_, rfl, ?_⟩))))))))
      rw [show (!decide (Str.ofString "trade" = Str.ofString "menu")) = true by rw [decide_eq_false (by decide +kernel)]; rfl]
      have hq : rt (.pk r d a) G g l = false := by simp only [rt, hG]
      rw [hq] at q
      exact iteT (l_cons (s_ret (e_bl (q H (Same.refl H)))))
  · obtain ⟨p, x, y, rfl, hp, hx, hy⟩ := htv
    have hN : N + (max (dp p0) (dp b0) + 1) ≤ 1000 := hN
    have hdn : max (dp p0) (dp b0) + 1 ≤ n + 1 := hdn
    have hd46 : max (dp p0) (dp b0) + 1 ≤ 46 := hd46
    have hsz : sz p0 + sz b0 + 1 ≤ 1000 := hsz
    refine l_cons (s_if (t_cmp (e_ix (e_var (e_int (ix_t (by exact SqT.of hp) at0 (e_str (o_eqS ⟨_, rfl, ?_⟩))))))))
    rw [decide_eq_false (by decide +kernel)]
    refine iteF (l_nil (l_cons (s_if (t_cmp (e_ix (e_var (e_int (ix_t (by exact SqT.of hp) at0 (e_str (o_eqS ⟨_, rfl, ?_⟩))))))))))
    rw [decide_eq_true rfl]
    refine iteT ?_
    cases s with
    | word z =>
      obtain ⟨t, rfl, ht⟩ := hsv
      refine l_cons (s_if (t_w (w_or (t_cmp (e_ix (e_var (e_int (ix_t (by exact SqT.of ht) at0 (e_str (o_neS ⟨_, rfl, ?_⟩))))))))))
      rw [show (!decide (Str.ofString "word" = Str.ofString "trade")) = true by rw [decide_eq_false (by decide +kernel)]; rfl]
      have hq : rt (.py r p0 b0) G g l = false := by simp only [rt, hG]
      rw [hq] at q
      exact iteT (iteT (l_cons (s_ret (e_bl (q H (Same.refl H))))))
    | menu u z =>
      obtain ⟨t, ya, za, rfl, ht, hya, hza⟩ := SnV.menuV hsv
      refine l_cons (s_if (t_w (w_or (t_cmp (e_ix (e_var (e_int (ix_t (by exact SqT.of ht) at0 (e_str (o_neS ⟨_, rfl, ?_⟩))))))))))
      rw [show (!decide (Str.ofString "menu" = Str.ofString "trade")) = true by rw [decide_eq_false (by decide +kernel)]; rfl]
      have hq : rt (.py r p0 b0) G g l = false := by simp only [rt, hG]
      rw [hq] at q
      exact iteT (iteT (l_cons (s_ret (e_bl (q H (Same.refl H))))))
    | trade kd u z =>
      obtain ⟨rfl, ho1, ho2⟩ := hso
      obtain ⟨t, mv, ua, za, rfl, ht, hmv, hua, hza⟩ := SnV.tradeV hsv
      cases (show mv = .str "once" from hmv)
      have hd3 : max (dep u) (dep z) + 1 ≤ 48 := hsd
      refine l_cons (s_if (t_w (w_or (t_cmp (e_ix (e_var (e_int (ix_t (by exact SqT.of ht) at0 (e_str (o_neS ⟨_, rfl, ?_⟩))))))))))
      rw [show (!decide (Str.ofString "trade" = Str.ofString "trade")) = false by rw [decide_eq_true rfl]; rfl]
      refine iteF (w_or1 (t_cmp (e_ix (e_var (e_int (ix_t (by exact SqT.of ht) at1 (e_ix (e_var (e_int (ix_t (by exact SqT.of hp) (atI_nat (j := 2) rfl) (o_neS ⟨_, rfl, ?_⟩)))))))))))
      rw [show (!decide (Str.ofString "once" = Str.ofString "once")) = false by rw [decide_eq_true rfl]; rfl]
      refine iteF (l_nil ?_)
      have hq : rt (.py r p0 b0) G g l = (rt p0 G u l && (rt b0 (upG G l z) g (l + 1) && rmO (cL b0 (l + 1) (.inl l)))) := by simp only [rt, hG]
      rw [hq] at q
      refine l_cons (s_if (t_not (t_val (e_call (by exact FR) (by exact hr) (by omega) (a_cons (e_var (a_cons (e_var (a_cons (e_ix (e_var (e_int (ix_t (by exact SqT.of ht) (atI_nat (j := 2) rfl) ?_)))))))))))))
      refine a_cons (e_ix (e_var (e_int (ix_t (by exact SqT.of hp) (atI_nat (j := 3) rfl) (a_cons (e_var (a_nil ?_)))))))
      refine ⟨st, sc, G, N, ua, u, x, p0, l, rfl, hsc, by omega, hua, ho1, by omega, hx, hdk.1, by omega, by omega, by omega, fun H1 e1 => ⟨_, rfl, ?_⟩⟩
      generalize rt p0 G u l = kk at q
      cases kk with
      | false => exact iteT (l_cons (s_ret (e_bl (q H1 e1))))
      | true =>
        rw [Bool.true_and] at q
        refine iteF (l_nil (l_cons (s_ret (e_call (by exact FB) (by exact hr) (by omega) (a_cons (e_var (a_cons (e_var (a_cons (e_var (a_cons (e_ix (e_var (e_int (ix_t (by exact SqT.of (e1 _ _ hp)) (atI_nat (j := 4) rfl) ?_)))))))))))))))
        refine a_cons (e_var (a_cons (e_str (a_cons (e_ix (e_var (e_int (ix_t (by exact SqT.of (e1 _ _ ht)) (atI_nat (j := 3) rfl) (a_nil ?_)))))))))
        exact ⟨st, sc, G, N, gv, g, y, b0, l, za, z, rfl, hsc.same e1, by omega, hgv.ts (Same.ts e1), hgo, hgd, hy.ts (Same.ts e1), hdk.2, by omega, by omega, by omega, hza.ts (Same.ts e1), ho2, by omega, fun H2 e2 => q H2 (e1.trans e2)⟩
theorem ok_rightS (n k : Nat) (T : Top K mg "_law_right" s_right) (F : ∀ m, n = m + 1 → Fn P w K mg base k "_law_right" (spRight m) ∧ Fn P w K mg base (k + 1) "_law_brought" (spBrought m) ∧ Fn P w K mg base (k + 2) "_law_left" (spLeft m)) : Fn P w K mg base (k + 3) "_law_right" (spRight n) := by
  refine fn_ok T sc_right so_right (fun vs H Q E h => by obtain ⟨st, sc, G, N, gv, g, tv, t, l, rfl, _⟩ := h; rfl) (fun _ _ _ _ _ _ us hl => match us, hl with | [_, _, _, _, _], _ => rfl) fun f cdv A outer s H vs Q E hr h nd => ?_
  obtain ⟨st, sc, G, N, gv, g, tv, t, l, rfl, hsc, hN, hgv, hgo, hgd, htv, hdk, hdn, hd46, hsz, q⟩ := h
  cases t with
  | own r =>
    obtain ⟨p, rfl, hp⟩ := htv
    refine l_cons (s_set (e_ix (e_var (e_int (ix_t (by exact SqT.of hp) at0 ?_)))))
    show wL _ _ _ [some st, some (.ref sc), some gv, some (.ref p), some (.int l), some (.str "own"), none] _
    refine l_cons (s_if (t_w (w_and (t_cmp (e_var (e_tup ?_))))))
    walk_at "sts"
    refine ⟨by show 4 ≤ sizeLine; decide, fun t1 H1 e1 n1 h1 => ?_⟩
    refine o_inT (by exact SqT.of h1) rfl rfl ⟨_, rfl, ?_⟩
    rw [rf_own]
    have hp1 := e1 _ _ hp
    have hsc1 := hsc.same e1
    have hgv1 := hgv.ts (Same.ts e1)
    refine iteT (w_and1 (t_cmp (e_ix (e_var (e_int (ix_t (by exact SqT.of hp1) at1 (e_var ?_)))))))
    obtain ⟨ov, hov, hovs⟩ := hsc1.has r
    refine o_ninD (by exact hr) hov ⟨_, rfl, ?_⟩
    rw [hovs]
    cases hG : G r with
    | none =>
      have hq : rt (.own r) G g l = false := by simp [rt, hG]
      rw [hq] at q
      exact iteT (l_cons (s_ret (e_bl (q H1 e1))))
    | some s =>
      have hq : rt (.own r) G g l = decide (s = g) := by simp [rt, hG]
      rw [hq] at q
      refine iteF (l_nil ?_)
      refine l_cons (s_if (t_cmp (e_var (e_str (o_eqS ⟨_, rfl, ?_⟩)))))
      rw [decide_eq_true rfl]
      refine iteT ?_
      obtain ⟨v, hv, hv1, hv2, hv3⟩ := hsc1.get hG
      refine l_cons (s_ret (e_cmp (e_ix (e_var (e_ix (e_var (e_int (ix_t (by exact SqT.of hp1) at1 (ix_d (by exact hr) ⟨sc, v, rfl, hv, e_var (o_eqSn (by exact hr) hv1 hgv1 (by omega) (q H1 e1))⟩)))))))))
  | take a =>
    obtain ⟨p, x, rfl, hp, hx⟩ := htv
    have hN : N + (dp a + 1) ≤ 1000 := hN
    have hdn : dp a + 1 ≤ n := hdn
    have hd46 : dp a + 1 ≤ 46 := hd46
    have hsz : sz a + 1 ≤ 1000 := hsz
    obtain ⟨n, rfl⟩ : ∃ m, n = m + 1 := ⟨n - 1, by omega⟩
    obtain ⟨FR, FB, FL⟩ := F n rfl
    refine l_cons (s_set (e_ix (e_var (e_int (ix_t (by exact SqT.of hp) at0 ?_)))))
    show wL _ _ _ [some st, some (.ref sc), some gv, some (.ref p), some (.int l), some (.str "take"), none] _
    refine l_cons (s_if (t_w (w_and (t_cmp (e_var (e_tup ?_))))))
    walk_at "sts"
    refine ⟨by show 4 ≤ sizeLine; decide, fun t1 H1 e1 n1 h1 => ?_⟩
    refine o_inT (by exact SqT.of h1) rfl rfl ⟨_, rfl, ?_⟩
    rw [rf_take]
    have hp1 := e1 _ _ hp
    refine iteF (iteF (l_nil ?_))
    refine l_cons (s_if (t_cmp (e_var (e_str (o_eqS ⟨_, rfl, ?_⟩)))))
    rw [decide_eq_false (by decide +kernel)]
    refine iteF (l_nil ?_)
    refine l_cons (s_if (t_cmp (e_var (e_str (o_eqS ⟨_, rfl, ?_⟩)))))
    rw [decide_eq_false (by decide +kernel)]
    refine iteF (l_nil ?_)
    refine l_cons (s_if (t_cmp (e_var (e_str (o_eqS ⟨_, rfl, ?_⟩)))))
    rw [decide_eq_true rfl]
    refine iteT ?_
    have hgv1 := hgv.ts (Same.ts e1)
    cases g with
    | word z =>
      obtain ⟨t, rfl, ht⟩ := hgv1
      refine l_cons (s_ret (e_and (e_cmp (e_ix (e_var (e_int (ix_t (by exact SqT.of ht) at0 (e_str (o_eqS ⟨_, rfl, ?_⟩)))))))))
      rw [decide_eq_false (by decide +kernel)]
      exact iteF (q H1 e1)
    | menu y z =>
      obtain ⟨t, ya, za, rfl, ht, _⟩ := SnV.menuV hgv1
      refine l_cons (s_ret (e_and (e_cmp (e_ix (e_var (e_int (ix_t (by exact SqT.of ht) at0 (e_str (o_eqS ⟨_, rfl, ?_⟩)))))))))
      rw [decide_eq_false (by decide +kernel)]
      exact iteF (q H1 e1)
    | trade kd y z =>
      obtain ⟨rfl, ho1, ho2⟩ := hgo
      obtain ⟨t, mv, ya, za, rfl, ht, hmv, hya, hza⟩ := SnV.tradeV hgv1
      cases (show mv = .str "once" from hmv)
      have hd3 : max (dep y) (dep z) + 1 ≤ 48 := hgd
      refine l_cons (s_ret (e_and (e_cmp (e_ix (e_var (e_int (ix_t (by exact SqT.of ht) at0 (e_str (o_eqS ⟨_, rfl, ?_⟩)))))))))
      rw [decide_eq_true rfl]
      refine iteT (e_one (e_call (by exact FB) (by exact hr) (by omega) (a_cons (e_var (a_cons (e_var (a_cons (e_ix (e_var (e_int (ix_t (by exact SqT.of ht) (atI_nat (j := 3) rfl) ?_)))))))))))
      refine a_cons (e_ix (e_var (e_int (ix_t (by exact SqT.of hp1) at1 (a_cons (e_var (a_cons (e_ix (e_var (e_int (ix_t (by exact SqT.of ht) at1 (a_cons (e_ix (e_var (e_int (ix_t (by exact SqT.of ht) (atI_nat (j := 2) rfl) (a_nil ?_)))))))))))))))))
      exact ⟨st, sc, G, N, za, z, x, a, l, ya, y, rfl, hsc.same e1, by omega, hza, ho2, by omega, hx.ts (Same.ts e1), hdk, by omega, by omega, by omega, hya, ho1, by omega, fun H2 e2 => q H2 (e1.trans e2)⟩
  | ofr a b =>
    obtain ⟨p, x, y, rfl, hp, hx, hy⟩ := htv
    have hN : N + (max (dp a) (dp b) + 1) ≤ 1000 := hN
    have hdn : max (dp a) (dp b) + 1 ≤ n := hdn
    have hd46 : max (dp a) (dp b) + 1 ≤ 46 := hd46
    have hsz : sz a + sz b + 1 ≤ 1000 := hsz
    obtain ⟨n, rfl⟩ : ∃ m, n = m + 1 := ⟨n - 1, by omega⟩
    obtain ⟨FR, FB, FL⟩ := F n rfl
    refine l_cons (s_set (e_ix (e_var (e_int (ix_t (by exact SqT.of hp) at0 ?_)))))
    show wL _ _ _ [some st, some (.ref sc), some gv, some (.ref p), some (.int l), some (.str "offer"), none] _
    refine l_cons (s_if (t_w (w_and (t_cmp (e_var (e_tup ?_))))))
    walk_at "sts"
    refine ⟨by show 4 ≤ sizeLine; decide, fun t1 H1 e1 n1 h1 => ?_⟩
    refine o_inT (by exact SqT.of h1) rfl rfl ⟨_, rfl, ?_⟩
    rw [rf_ofr]
    have hp1 := e1 _ _ hp
    refine iteF (iteF (l_nil ?_))
    refine l_cons (s_if (t_cmp (e_var (e_str (o_eqS ⟨_, rfl, ?_⟩)))))
    rw [decide_eq_false (by decide +kernel)]
    refine iteF (l_nil ?_)
    refine l_cons (s_if (t_cmp (e_var (e_str (o_eqS ⟨_, rfl, ?_⟩)))))
    rw [decide_eq_false (by decide +kernel)]
    refine iteF (l_nil ?_)
    refine l_cons (s_if (t_cmp (e_var (e_str (o_eqS ⟨_, rfl, ?_⟩)))))
    rw [decide_eq_false (by decide +kernel)]
    refine iteF (l_nil ?_)
    refine l_cons (s_if (t_cmp (e_var (e_str (o_eqS ⟨_, rfl, ?_⟩)))))
    rw [decide_eq_true rfl]
    refine iteT ?_
    have hgv1 := hgv.ts (Same.ts e1)
    cases g with
    | word z =>
      obtain ⟨t, rfl, ht⟩ := hgv1
      refine l_cons (s_if (t_w (w_or (t_cmp (e_ix (e_var (e_int (ix_t (by exact SqT.of ht) at0 (e_str (o_neS ⟨_, rfl, ?_⟩))))))))))
      rw [show (!decide (Str.ofString "word" = Str.ofString "menu")) = true by rw [decide_eq_false (by decide +kernel)]; rfl]
      exact iteT (iteT (l_cons (s_ret (e_bl (q H1 e1)))))
    | trade kd u z =>
      obtain ⟨t, mv, ya, za, rfl, ht, _⟩ := SnV.tradeV hgv1
      refine l_cons (s_if (t_w (w_or (t_cmp (e_ix (e_var (e_int (ix_t (by exact SqT.of ht) at0 (e_str (o_neS ⟨_, rfl, ?_⟩))))))))))
      rw [show (!decide (Str.ofString "trade" = Str.ofString "menu")) = true by rw [decide_eq_false (by decide +kernel)]; rfl]
      exact iteT (iteT (l_cons (s_ret (e_bl (q H1 e1)))))
    | menu u z =>
      obtain ⟨t, ua, za, rfl, ht, hua, hza⟩ := SnV.menuV hgv1
      have hd3 : max (dep u) (dep z) + 1 ≤ 48 := hgd
      refine l_cons (s_if (t_w (w_or (t_cmp (e_ix (e_var (e_int (ix_t (by exact SqT.of ht) at0 (e_str (o_neS ⟨_, rfl, ?_⟩))))))))))
      rw [show (!decide (Str.ofString "menu" = Str.ofString "menu")) = false by rw [decide_eq_true rfl]; rfl]
      refine iteF (w_or1 (t_not (t_val (e_call (by exact FR) (by exact hr) (by omega) (a_cons (e_var (a_cons (e_var (a_cons (e_ix (e_var (e_int (ix_t (by exact SqT.of ht) at1 ?_)))))))))))))
      refine a_cons (e_ix (e_var (e_int (ix_t (by exact SqT.of hp1) at1 (a_cons (e_var (a_nil ?_)))))))
      refine ⟨st, sc, G, N, ua, u, x, a, l, rfl, hsc.same e1, by omega, hua, hgo.1, by omega, hx.ts (Same.ts e1), hdk.1, by omega, by omega, by omega, fun H2 e2 => ⟨_, rfl, ?_⟩⟩
      have e02 := e1.trans e2
      have hq : rt (.ofr a b) G (.menu u z) l = (rt a G u l && rt b G z l) := rfl
      rw [hq] at q
      generalize rt a G u l = kk at q
      cases kk with
      | false => exact iteT (l_cons (s_ret (e_bl (q H2 e02))))
      | true =>
        rw [Bool.true_and] at q
        refine iteF (l_nil (l_cons (s_ret (e_call (by exact FR) (by exact hr) (by omega) (a_cons (e_var (a_cons (e_var (a_cons (e_ix (e_var (e_int (ix_t (by exact SqT.of (e2 _ _ ht)) (atI_nat (j := 2) rfl) ?_)))))))))))))
        refine a_cons (e_ix (e_var (e_int (ix_t (by exact SqT.of (e2 _ _ hp1)) (atI_nat (j := 2) rfl) (a_cons (e_var (a_nil ?_)))))))
        exact ⟨st, sc, G, N, za, z, y, b, l, rfl, hsc.same e02, by omega, hza.ts (Same.ts e2), hgo.2, by omega, hy.ts (Same.ts e02), hdk.2, by omega, by omega, by omega, fun H3 e3 => q H3 (e02.trans e3)⟩
  | ct s p0 b0 =>
    obtain ⟨p, sv, x, y, rfl, hp, hsv, hx, hy⟩ := htv
    obtain ⟨hso, hsd, hk1, hk2⟩ := hdk
    have hN : N + (max (dp p0) (dp b0) + 1) ≤ 1000 := hN
    have hdn : max (dp p0) (dp b0) + 1 ≤ n := hdn
    have hd46 : max (dp p0) (dp b0) + 1 ≤ 46 := hd46
    have hsz : sz p0 + sz b0 + 1 ≤ 1000 := hsz
    obtain ⟨n, rfl⟩ : ∃ m, n = m + 1 := ⟨n - 1, by omega⟩
    obtain ⟨FR, FB, FL⟩ := F n rfl
    refine l_cons (s_set (e_ix (e_var (e_int (ix_t (by exact SqT.of hp) at0 ?_)))))
    show wL _ _ _ [some st, some (.ref sc), some gv, some (.ref p), some (.int l), some (.str "cut"), none] _
    refine l_cons (s_if (t_w (w_and (t_cmp (e_var (e_tup ?_))))))
    walk_at "sts"
    refine ⟨by show 4 ≤ sizeLine; decide, fun t1 H1 e1 n1 h1 => ?_⟩
    refine o_inT (by exact SqT.of h1) rfl rfl ⟨_, rfl, ?_⟩
    rw [rf_cut]
    have hp1 := e1 _ _ hp
    refine iteF (iteF (l_nil ?_))
    refine l_cons (s_if (t_cmp (e_var (e_str (o_eqS ⟨_, rfl, ?_⟩)))))
    rw [decide_eq_false (by decide +kernel)]
    refine iteF (l_nil ?_)
    refine l_cons (s_if (t_cmp (e_var (e_str (o_eqS ⟨_, rfl, ?_⟩)))))
    rw [decide_eq_false (by decide +kernel)]
    refine iteF (l_nil ?_)
    refine l_cons (s_if (t_cmp (e_var (e_str (o_eqS ⟨_, rfl, ?_⟩)))))
    rw [decide_eq_false (by decide +kernel)]
    refine iteF (l_nil ?_)
    refine l_cons (s_if (t_cmp (e_var (e_str (o_eqS ⟨_, rfl, ?_⟩)))))
    rw [decide_eq_false (by decide +kernel)]
    refine iteF (l_nil ?_)
    refine l_cons (s_if (t_cmp (e_var (e_str (o_eqS ⟨_, rfl, ?_⟩)))))
    rw [decide_eq_false (by decide +kernel)]
    refine iteF (l_nil ?_)
    refine l_cons (s_if (t_cmp (e_var (e_str (o_eqS ⟨_, rfl, ?_⟩)))))
    rw [decide_eq_true rfl]
    refine iteT ?_
    have hq : rt (.ct s p0 b0) G g l = (rt p0 G s l && (rt b0 (upG G l s) g (l + 1) && rmO (cL b0 (l + 1) (.inl l)))) := rfl
    rw [hq] at q
    refine l_cons (s_if (t_not (t_val (e_call (by exact FR) (by exact hr) (by omega) (a_cons (e_var (a_cons (e_var (a_cons (e_ix (e_var (e_int (ix_t (by exact SqT.of hp1) (atI_nat (j := 2) rfl) ?_)))))))))))))
    refine a_cons (e_ix (e_var (e_int (ix_t (by exact SqT.of hp1) (atI_nat (j := 3) rfl) (a_cons (e_var (a_nil ?_)))))))
    refine ⟨st, sc, G, N, sv, s, x, p0, l, rfl, hsc.same e1, by omega, hsv.ts (Same.ts e1), hso.ok, by omega, hx.ts (Same.ts e1), hk1, by omega, by omega, by omega, fun H2 e2 => ⟨_, rfl, ?_⟩⟩
    have e02 := e1.trans e2
    generalize rt p0 G s l = kk at q
    cases kk with
    | false => exact iteT (l_cons (s_ret (e_bl (q H2 e02))))
    | true =>
      rw [Bool.true_and] at q
      have hp2 := e2 _ _ hp1
      refine iteF (l_nil (l_cons (s_ret (e_call (by exact FB) (by exact hr) (by omega) (a_cons (e_var (a_cons (e_var (a_cons (e_var (a_cons (e_ix (e_var (e_int (ix_t (by exact SqT.of hp2) (atI_nat (j := 4) rfl) ?_)))))))))))))))
      refine a_cons (e_var (a_cons (e_ix (e_var (e_int (ix_t (by exact SqT.of hp2) at1 (a_cons (e_ix (e_var (e_int (ix_t (by exact SqT.of hp2) (atI_nat (j := 2) rfl) (a_nil ?_))))))))))))
      exact ⟨st, sc, G, N, gv, g, y, b0, l, sv, s, rfl, hsc.same e02, by omega, hgv.ts (Same.ts e02), hgo, hgd, hy.ts (Same.ts e02), hk2, by omega, by omega, by omega, hsv.ts (Same.ts e02), hso.ok, by omega, fun H3 e3 => q H3 (e02.trans e3)⟩
  | pk r d a =>
    have htv0 := htv
    have hdn0 : dp (.pk r d a) ≤ n := hdn
    obtain ⟨n, rfl⟩ : ∃ m, n = m + 1 := ⟨n - 1, by simp only [dp] at hdn0; omega⟩
    obtain ⟨FR, FB, FL⟩ := F n rfl
    obtain ⟨p, x, rfl, hp, hx⟩ := htv
    refine l_cons (s_set (e_ix (e_var (e_int (ix_t (by exact SqT.of hp) at0 ?_)))))
    show wL _ _ _ [some st, some (.ref sc), some gv, some (.ref p), some (.int l), some (.str "pick"), none] _
    refine l_cons (s_if (t_w (w_and (t_cmp (e_var (e_tup ?_))))))
    walk_at "sts"
    refine ⟨by show 4 ≤ sizeLine; decide, fun t1 H1 e1 n1 h1 => ?_⟩
    refine o_inT (by exact SqT.of h1) rfl rfl ⟨_, rfl, ?_⟩
    rw [rf_pick]
    have hp1 := e1 _ _ hp
    have hsc1 := hsc.same e1
    refine iteT (w_and1 (t_cmp (e_ix (e_var (e_int (ix_t (by exact SqT.of hp1) at1 (e_var ?_)))))))
    obtain ⟨ov, hov, hovs⟩ := hsc1.has r
    refine o_ninD (by exact hr) hov ⟨_, rfl, ?_⟩
    rw [hovs]
    cases hG : G r with
    | none =>
      have hq : rt (.pk r d a) G g l = false := by simp [rt, hG]
      rw [hq] at q
      exact iteT (l_cons (s_ret (e_bl (q H1 e1))))
    | some s =>
      refine iteF (l_nil ?_)
      refine l_cons (s_if (t_cmp (e_var (e_str (o_eqS ⟨_, rfl, ?_⟩)))))
      rw [decide_eq_false (by decide +kernel)]
      refine iteF (l_nil ?_)
      refine l_cons (s_if (t_cmp (e_var (e_str (o_eqS ⟨_, rfl, ?_⟩)))))
      rw [decide_eq_false (by decide +kernel)]
      refine iteF (l_nil ?_)
      refine l_cons (s_if (t_cmp (e_var (e_str (o_eqS ⟨_, rfl, ?_⟩)))))
      rw [decide_eq_false (by decide +kernel)]
      refine iteF (l_nil ?_)
      refine l_cons (s_if (t_cmp (e_var (e_str (o_eqS ⟨_, rfl, ?_⟩)))))
      rw [decide_eq_false (by decide +kernel)]
      refine iteF (l_nil ?_)
      refine l_cons (s_if (t_cmp (e_var (e_str (o_eqS ⟨_, rfl, ?_⟩)))))
      rw [decide_eq_false (by decide +kernel)]
      refine iteF (l_nil ?_)
      refine l_cons (s_if (t_cmp (e_var (e_str (o_eqS ⟨_, rfl, ?_⟩)))))
      rw [decide_eq_false (by decide +kernel)]
      refine iteF (l_nil ?_)
      obtain ⟨v, hv, hv1, hv2, hv3⟩ := hsc1.get hG
      refine l_cons (s_ret (e_call (by exact FL) (by exact hr) (by omega) (a_cons (e_var (a_cons (e_var (a_cons (e_var (a_cons (e_var (a_cons (e_var ?_))))))))))))
      refine a_cons (e_ix (e_var (e_ix (e_var (e_int (ix_t (by exact SqT.of hp1) at1 (ix_d (by exact hr) ⟨sc, v, rfl, hv, a_nil ?_⟩)))))))
      exact ⟨st, sc, G, N, gv, g, .ref p, _, l, v, s, r, rfl, hsc1, hN, hgv.ts (Same.ts e1), hgo, hgd, htv0.ts (Same.ts e1), hdk, hdn, hd46, hsz, .inl ⟨_, _, rfl⟩, hG, hv1, hv2, hv3, fun H2 e2 => q H2 (e1.trans e2)⟩
  | py r p0 b0 =>
    have htv0 := htv
    have hdn0 : dp (.py r p0 b0) ≤ n := hdn
    obtain ⟨n, rfl⟩ : ∃ m, n = m + 1 := ⟨n - 1, by simp only [dp] at hdn0; omega⟩
    obtain ⟨FR, FB, FL⟩ := F n rfl
    obtain ⟨p, x, y, rfl, hp, hx, hy⟩ := htv
    refine l_cons (s_set (e_ix (e_var (e_int (ix_t (by exact SqT.of hp) at0 ?_)))))
    show wL _ _ _ [some st, some (.ref sc), some gv, some (.ref p), some (.int l), some (.str "pay"), none] _
    refine l_cons (s_if (t_w (w_and (t_cmp (e_var (e_tup ?_))))))
    walk_at "sts"
    refine ⟨by show 4 ≤ sizeLine; decide, fun t1 H1 e1 n1 h1 => ?_⟩
    refine o_inT (by exact SqT.of h1) rfl rfl ⟨_, rfl, ?_⟩
    rw [rf_pay]
    have hp1 := e1 _ _ hp
    have hsc1 := hsc.same e1
    refine iteT (w_and1 (t_cmp (e_ix (e_var (e_int (ix_t (by exact SqT.of hp1) at1 (e_var ?_)))))))
    obtain ⟨ov, hov, hovs⟩ := hsc1.has r
    refine o_ninD (by exact hr) hov ⟨_, rfl, ?_⟩
    rw [hovs]
    cases hG : G r with
    | none =>
      have hq : rt (.py r p0 b0) G g l = false := by simp [rt, hG]
      rw [hq] at q
      exact iteT (l_cons (s_ret (e_bl (q H1 e1))))
    | some s =>
      refine iteF (l_nil ?_)
      refine l_cons (s_if (t_cmp (e_var (e_str (o_eqS ⟨_, rfl, ?_⟩)))))
      rw [decide_eq_false (by decide +kernel)]
      refine iteF (l_nil ?_)
      refine l_cons (s_if (t_cmp (e_var (e_str (o_eqS ⟨_, rfl, ?_⟩)))))
      rw [decide_eq_false (by decide +kernel)]
      refine iteF (l_nil ?_)
      refine l_cons (s_if (t_cmp (e_var (e_str (o_eqS ⟨_, rfl, ?_⟩)))))
      rw [decide_eq_false (by decide +kernel)]
      refine iteF (l_nil ?_)
      refine l_cons (s_if (t_cmp (e_var (e_str (o_eqS ⟨_, rfl, ?_⟩)))))
      rw [decide_eq_false (by decide +kernel)]
      refine iteF (l_nil ?_)
      refine l_cons (s_if (t_cmp (e_var (e_str (o_eqS ⟨_, rfl, ?_⟩)))))
      rw [decide_eq_false (by decide +kernel)]
      refine iteF (l_nil ?_)
      refine l_cons (s_if (t_cmp (e_var (e_str (o_eqS ⟨_, rfl, ?_⟩)))))
      rw [decide_eq_false (by decide +kernel)]
      refine iteF (l_nil ?_)
      obtain ⟨v, hv, hv1, hv2, hv3⟩ := hsc1.get hG
      refine l_cons (s_ret (e_call (by exact FL) (by exact hr) (by omega) (a_cons (e_var (a_cons (e_var (a_cons (e_var (a_cons (e_var (a_cons (e_var ?_))))))))))))
      refine a_cons (e_ix (e_var (e_ix (e_var (e_int (ix_t (by exact SqT.of hp1) at1 (ix_d (by exact hr) ⟨sc, v, rfl, hv, a_nil ?_⟩)))))))
      exact ⟨st, sc, G, N, gv, g, .ref p, _, l, v, s, r, rfl, hsc1, hN, hgv.ts (Same.ts e1), hgo, hgd, htv0.ts (Same.ts e1), hdk, hdn, hd46, hsz, .inr ⟨_, _, rfl⟩, hG, hv1, hv2, hv3, fun H2 e2 => q H2 (e1.trans e2)⟩
theorem ok_right (Tr : Top K mg "_law_right" s_right) (Tl : Top K mg "_law_left" s_left) (Tb : Top K mg "_law_brought" s_brought) (mI : mg "int" = none) (FC : ∀ n, Fn P w K mg base (n + 2) "_law_counts" (spCnt n)) (FM : Fn P w K mg base 1 "_law_room" spRoom) : ∀ n, Fn P w K mg base (3 * n + 51) "_law_right" (spRight n)
  | 0 => ok_rightS 0 48 Tr fun _ h => by cases h
  | n + 1 => ok_rightS (n + 1) (3 * n + 51) Tr fun m h => by
    cases h
    have ih := ok_right Tr Tl Tb mI FC FM n
    have fb := ok_brought n (3 * n + 51) Tb (by omega) ih (FC 46) FM
    exact ⟨ih, fb, ok_left n (3 * n + 51) Tl mI ih fb⟩
end



theorem tru_t {K : PySem.W.Frag} {H : Hp} {l : Addr} {xs : List V} (h : H l = some (.tup xs)) : TruV K (.ref l) H (!xs.isEmpty) := .inr (.inl ⟨xs, SqT.of h, rfl⟩)
/-! ### what a derivation and a sentence look like -/
def ItOk (n : Nat) (H : Hp) (c : Str) (x : V) : Prop := (c = "t" ∧ ∃ m, n = m + 1 ∧ ∃ t, DV H t x ∧ DOk t ∧ dp t + 3 ≤ m) ∨ (c = "s" ∧ ∃ m, n = m + 1 ∧ ∃ z, SnV H x z ∧ SnT z ∧ dep z ≤ m) ∨ (c = "k" ∧ x = .str "once") ∨ (c = "r" ∧ ∃ r, x = kV r) ∨ (c = "d" ∧ (x = .str "left" ∨ x = .str "right")) ∨ (c = "n" ∧ ∃ z, x = .str z)
inductive Fk where
  | own | take | offer | pick | pay | cut | word | trade
  deriving DecidableEq
def allFk : List Fk := [.own, .take, .offer, .pick, .pay, .cut, .word, .trade]
def Fk.nm : Fk → Str
  | .own => "own" | .take => "take" | .offer => "offer" | .pick => "pick" | .pay => "pay" | .cut => "cut" | .word => "word" | .trade => "trade"
def fm : Fk → Str
  | .own => "r" | .take => "t" | .offer => "tt" | .pick => "rdt" | .pay => "rktt" | .cut => "kstt" | .word => "n" | .trade => "kss"
def fmC : Fk → List Str
  | .own => ["r"] | .take => ["t"] | .offer => ["t", "t"] | .pick => ["r", "d", "t"] | .pay => ["r", "k", "t", "t"] | .cut => ["k", "s", "t", "t"] | .word => ["n"] | .trade => ["k", "s", "s"]
abbrev fmK : List Str := ["own", "take", "offer", "pick", "pay", "make", "open", "cut", "cite"]
abbrev fmV : List Str := ["r", "t", "tt", "rdt", "rktt", "nit", "rnit", "kstt", "n"]
abbrev smK : List Str := ["word", "menu", "trade"]
abbrev smV : List Str := ["n", "ss", "kss"]
theorem fm_all : (allFk.all fun k => (List.range 5).all fun i => match (fmC k)[i]? with | some c => (match atI (fm k).cps.toList (i : Int) with | some a => decide (Wk.sg a = c) | none => false) | none => true) = true := by decide +kernel
theorem fm_len (k : Fk) : (fm k).length = (fmC k).length ∧ (fmC k).length ≤ 4 := by cases k <;> decide +kernel
theorem fm_at (k : Fk) (i : Nat) (c : Str) (h : (fmC k)[i]? = some c) : ∃ a, atI (fm k).cps.toList (i : Int) = some a ∧ Wk.sg a = c := by
  have hi : i < 5 := by
    have := (List.getElem?_eq_some_iff.mp h).1
    have := (fm_len k).2
    omega
  have hk : k ∈ allFk := by cases k <;> decide
  have h1 := List.all_eq_true.mp (List.all_eq_true.mp fm_all k hk) i (List.mem_range.mpr hi)
  rw [h] at h1
  cases ha : atI (fm k).cps.toList (i : Int) with
  | none => rw [ha] at h1; cases h1
  | some a => rw [ha] at h1; exact ⟨a, rfl, of_decide_eq_true h1⟩
theorem dv_items {n : Nat} {H : Hp} {t : D} {x : V} (hv : DV H t x) (ho : DOk t) (hd : dp t + 3 ≤ n) : ∃ p xs kd, x = .ref p ∧ H p = some (.tup (.str (Fk.nm kd) :: xs)) ∧ Al (fun c y => ItOk n H c y) (fmC kd) xs ∧ valV (mergeK [] ((fmK.zip fmV).map fun z => ((Sum.inr z.1 : Key), V.str z.2))) (.inr kd.nm) = some (.str (fm kd)) := by
  cases t with
  | own r =>
    obtain ⟨p, rfl, hp⟩ := hv
    exact ⟨p, [kV r], .own, rfl, hp, ⟨_, [], rfl, .inr (.inr (.inr (.inl ⟨rfl, r, rfl⟩))), rfl⟩, by decide +kernel⟩
  | take a =>
    obtain ⟨p, y, rfl, hp, hy⟩ := hv
    have hd : dp a + 1 + 3 ≤ n := hd
    exact ⟨p, [y], .take, rfl, hp, ⟨_, [], rfl, .inl ⟨rfl, n - 1, by omega, a, hy, ho, by omega⟩, rfl⟩, by decide +kernel⟩
  | ofr a b =>
    obtain ⟨p, y, z, rfl, hp, hy, hz⟩ := hv
    have hd : max (dp a) (dp b) + 1 + 3 ≤ n := hd
    exact ⟨p, [y, z], .offer, rfl, hp, ⟨_, _, rfl, .inl ⟨rfl, n - 1, by omega, a, hy, ho.1, by omega⟩, _, [], rfl, .inl ⟨rfl, n - 1, by omega, b, hz, ho.2, by omega⟩, rfl⟩, by decide +kernel⟩
  | pk r d a =>
    obtain ⟨p, y, rfl, hp, hy⟩ := hv
    have hd : dp a + 1 + 3 ≤ n := hd
    exact ⟨p, [kV r, .str (sideS d), y], .pick, rfl, hp, ⟨_, _, rfl, .inr (.inr (.inr (.inl ⟨rfl, r, rfl⟩))), _, _, rfl, .inr (.inr (.inr (.inr (.inl ⟨rfl, by cases d; exact .inl rfl; exact .inr rfl⟩)))), _, [], rfl, .inl ⟨rfl, n - 1, by omega, a, hy, ho, by omega⟩, rfl⟩, by decide +kernel⟩
  | py r a b =>
    obtain ⟨p, y, z, rfl, hp, hy, hz⟩ := hv
    have hd : max (dp a) (dp b) + 1 + 3 ≤ n := hd
    exact ⟨p, [kV r, .str "once", y, z], .pay, rfl, hp, ⟨_, _, rfl, .inr (.inr (.inr (.inl ⟨rfl, r, rfl⟩))), _, _, rfl, .inr (.inr (.inl ⟨rfl, rfl⟩)), _, _, rfl, .inl ⟨rfl, n - 1, by omega, a, hy, ho.1, by omega⟩, _, [], rfl, .inl ⟨rfl, n - 1, by omega, b, hz, ho.2, by omega⟩, rfl⟩, by decide +kernel⟩
  | ct s a b =>
    obtain ⟨p, sv, y, z, rfl, hp, hs, hy, hz⟩ := hv
    obtain ⟨o1, o2, o3, o4⟩ := ho
    have hd : max (dp a) (dp b) + 1 + 3 ≤ n := hd
    exact ⟨p, [.str "once", sv, y, z], .cut, rfl, hp, ⟨_, _, rfl, .inr (.inr (.inl ⟨rfl, rfl⟩)), _, _, rfl, .inr (.inl ⟨rfl, n - 1, by omega, s, hs, o1, by omega⟩), _, _, rfl, .inl ⟨rfl, n - 1, by omega, a, hy, o3, by omega⟩, _, [], rfl, .inl ⟨rfl, n - 1, by omega, b, hz, o4, by omega⟩, rfl⟩, by decide +kernel⟩
theorem sn_items {n : Nat} {H : Hp} {s : Sn} {x : V} (hv : SnV H x s) (ho : SnT s) (hd : dep s ≤ n) : ∃ p xs kd, x = .ref p ∧ H p = some (.tup (.str (Fk.nm kd) :: xs)) ∧ Al (fun c y => ItOk n H c y) (fmC kd) xs ∧ valV (mergeK [] ((smK.zip smV).map fun z => ((Sum.inr z.1 : Key), V.str z.2))) (.inr kd.nm) = some (.str (fm kd)) := by
  cases s with
  | word z =>
    obtain ⟨p, rfl, hp⟩ := hv
    exact ⟨p, [.str z], .word, rfl, hp, ⟨_, [], rfl, .inr (.inr (.inr (.inr (.inr ⟨rfl, z, rfl⟩)))), rfl⟩, by decide +kernel⟩
  | menu a b => exact ho.elim
  | trade k a b =>
    obtain ⟨rfl, h1, h2⟩ := ho
    obtain ⟨p, m, y, z, rfl, hp, hm, hy, hz⟩ := SnV.tradeV hv
    cases (show m = .str "once" from hm)
    have hd : max (dep a) (dep b) + 1 ≤ n := hd
    exact ⟨p, [.str "once", y, z], .trade, rfl, hp, ⟨_, _, rfl, .inr (.inr (.inl ⟨rfl, rfl⟩)), _, _, rfl, .inr (.inl ⟨rfl, n - 1, by omega, a, hy, h1, by omega⟩), _, [], rfl, .inr (.inl ⟨rfl, n - 1, by omega, b, hz, h2, by omega⟩), rfl⟩, by decide +kernel⟩
theorem ItOk.is {n : Nat} {H H' : Hp} (e : Same H H') {c : Str} {x : V} : ItOk n H c x → ItOk n H' c x := fun h => by
  rcases h with ⟨h0, m, h1, t, h2, h3⟩ | ⟨h0, m, h1, z, h2, h3⟩ | h | h | h | h
  · exact .inl ⟨h0, m, h1, t, h2.ts (Same.ts e), h3⟩
  · exact .inr (.inl ⟨h0, m, h1, z, h2.ts (Same.ts e), h3⟩)
  · exact .inr (.inr (.inl h))
  · exact .inr (.inr (.inr (.inl h)))
  · exact .inr (.inr (.inr (.inr (.inl h))))
  · exact .inr (.inr (.inr (.inr (.inr h))))
section
variable {P : Program} {w : World} {K : PySem.W.Frag} {mg : Str → Option Value} {base : Heap}
def spNum : Sp := fun vs H Q _ => ∃ i : Int, vs = [.int i] ∧ Q (.bl true) H
theorem ok_num (T : Top K mg "_law_is_number" s_is_number) (mIs : mg "isinstance" = none) (mInt : mg "int" = none) (mBool : mg "bool" = none) : Fn P w K mg base 1 "_law_is_number" spNum := by
  refine fn_ok T sc_is_number so_is_number (fun vs H Q E h => by obtain ⟨i, rfl, _⟩ := h; rfl) (fun _ _ _ _ _ _ us hl => match us, hl with | [_], _ => rfl) fun f cdv A outer s H vs Q E hr h nd => ?_
  obtain ⟨i, rfl, q⟩ := h
  walk_at "sts"
  refine c_isi ty_int (.ty _) (kit_ty kb_int_int) ?_
  walk_at "sts"
  refine c_isi ty_int (.ty _) (kit_ty kb_int_bool) ?_
  walk_at "sts"
  exact q
def spMode : Sp := fun vs H Q _ => vs = [.str "once"] ∧ Q (.bl true) H
theorem ok_mode (T : Top K mg "_law_is_mode" s_is_mode) (mI : mg "isinstance" = none) (mS : mg "str" = none) : Fn P w K mg base 1 "_law_is_mode" spMode := by
  refine fn_ok T sc_is_mode so_is_mode (fun vs H Q E h => by obtain ⟨rfl, _⟩ := h; rfl) (fun _ _ _ _ _ _ us hl => match us, hl with | [_], _ => rfl) fun f cdv A outer s H vs Q E hr h nd => ?_
  obtain ⟨rfl, q⟩ := h
  walk_at "sts"
  refine c_isi ty_str (.ty _) (kit_ty kb_str_str) ?_
  walk_at "sts"
  rw [decide_eq_true rfl]
  exact q
def spItem (n : Nat) : Sp := fun vs H Q _ => ∃ c x, vs = [.str c, x] ∧ ItOk n H c x ∧ ∀ H', Same H H' → Q (.bl true) H'
def spTree (n : Nat) : Sp := fun vs H Q _ => ∃ x t, vs = [x] ∧ DV H t x ∧ DOk t ∧ dp t + 3 ≤ n ∧ ∀ H', Same H H' → Q (.bl true) H'
def spSenT (n : Nat) : Sp := fun vs H Q _ => ∃ x z, vs = [x] ∧ SnV H x z ∧ SnT z ∧ dep z ≤ n ∧ ∀ H', Same H H' → Q (.bl true) H'
theorem ok_itemS (n : Nat) (T : Top K mg "_law_is_item" s_is_item) (mI : mg "isinstance" = none) (mS : mg "str" = none) (FN : Fn P w K mg base 1 "_law_is_number" spNum) (FM : Fn P w K mg base 1 "_law_is_mode" spMode) (F : ∀ m, n = m + 1 → Fn P w K mg base (3 * m + 5) "_law_is_tree" (spTree m) ∧ Fn P w K mg base (3 * m + 5) "_law_is_sentence" (spSenT m)) : Fn P w K mg base (3 * n + 3) "_law_is_item" (spItem n) := by
  refine fn_ok T sc_is_item so_is_item (fun vs H Q E h => by obtain ⟨c, x, rfl, _⟩ := h; rfl) (fun _ _ _ _ _ _ us hl => match us, hl with | [_, _], _ => rfl) fun f cdv A outer s H vs Q E hr h nd => ?_
  obtain ⟨c, x, rfl, hc, q⟩ := h
  rcases hc with ⟨rfl, m, rfl, t, h1, h2, h3⟩ | ⟨rfl, m, rfl, z, h1, h2, h3⟩ | ⟨rfl, rfl⟩ | ⟨rfl, r, rfl⟩ | ⟨rfl, hx⟩ | ⟨rfl, z, rfl⟩
  · refine l_cons (s_if (t_cmp (e_var (e_str (o_eqS ⟨_, rfl, ?_⟩)))))
    rw [decide_eq_true rfl]
    refine iteT (l_cons (s_ret (e_call (by exact (F m rfl).1) (by exact hr) (by omega) (a_cons (e_var (a_nil ?_))))))
    exact ⟨x, t, rfl, h1, h2, h3, q⟩
  · refine l_cons (s_if (t_cmp (e_var (e_str (o_eqS ⟨_, rfl, ?_⟩)))))
    rw [decide_eq_false (by decide +kernel)]
    refine iteF (l_nil (l_cons (s_if (t_cmp (e_var (e_str (o_eqS ⟨_, rfl, ?_⟩)))))))
    rw [decide_eq_true rfl]
    refine iteT (l_cons (s_ret (e_call (by exact (F m rfl).2) (by exact hr) (by omega) (a_cons (e_var (a_nil ?_))))))
    exact ⟨x, z, rfl, h1, h2, h3, q⟩
  · refine l_cons (s_if (t_cmp (e_var (e_str (o_eqS ⟨_, rfl, ?_⟩)))))
    rw [decide_eq_false (by decide +kernel)]
    refine iteF (l_nil (l_cons (s_if (t_cmp (e_var (e_str (o_eqS ⟨_, rfl, ?_⟩)))))))
    rw [decide_eq_false (by decide +kernel)]
    refine iteF (l_nil (l_cons (s_if (t_cmp (e_var (e_str (o_eqS ⟨_, rfl, ?_⟩)))))))
    rw [decide_eq_true rfl]
    refine iteT (l_cons (s_ret (e_call (by exact FM) (by exact hr) (by omega) (a_cons (e_var (a_nil ?_))))))
    exact ⟨rfl, q H (Same.refl H)⟩
  · refine l_cons (s_if (t_cmp (e_var (e_str (o_eqS ⟨_, rfl, ?_⟩)))))
    rw [decide_eq_false (by decide +kernel)]
    refine iteF (l_nil (l_cons (s_if (t_cmp (e_var (e_str (o_eqS ⟨_, rfl, ?_⟩)))))))
    rw [decide_eq_false (by decide +kernel)]
    refine iteF (l_nil (l_cons (s_if (t_cmp (e_var (e_str (o_eqS ⟨_, rfl, ?_⟩)))))))
    rw [decide_eq_false (by decide +kernel)]
    refine iteF (l_nil ?_)
    refine l_cons (s_if (t_w (w_or (t_cmp (e_var (e_str (o_eqS ⟨_, rfl, ?_⟩)))))))
    rw [decide_eq_false (by decide +kernel)]
    refine iteF (w_or1 (t_w (w_and (t_cmp (e_var (e_str (o_eqS ⟨_, rfl, ?_⟩)))))))
    rw [decide_eq_true rfl]
    refine iteT (w_and1 (t_not (t_val (e_callB (x := "isinstance") (by assumption) b_isi (a_cons (e_var ?_))))))
    cases r with
    | inl i =>
      walk_at "sts"
      refine c_isi ty_int (.ty _) (kit_ty kb_int_str) ⟨_, rfl, ?_⟩
      refine iteT (l_cons (s_ret (e_call (by exact FN) (by exact hr) (by omega) (a_cons (e_var (a_nil ?_))))))
      exact ⟨i, rfl, q H (Same.refl H)⟩
    | inr z =>
      walk_at "sts"
      refine c_isi ty_str (.ty _) (kit_ty kb_str_str) ⟨_, rfl, ?_⟩
      refine iteF (l_nil (l_cons (s_ret (e_and (e_callB (x := "isinstance") (by assumption) b_isi (a_cons (e_var ?_)))))))
      walk_at "sts"
      refine c_isi ty_str (.ty _) (kit_ty kb_str_str) ⟨_, rfl, ?_⟩
      refine iteT (e_one (e_or (e_cmp (e_var (e_str (o_neS ⟨_, rfl, ?_⟩))))))
      rw [decide_eq_false (by decide +kernel)]
      exact iteT (q H (Same.refl H))
  · refine l_cons (s_if (t_cmp (e_var (e_str (o_eqS ⟨_, rfl, ?_⟩)))))
    rw [decide_eq_false (by decide +kernel)]
    refine iteF (l_nil (l_cons (s_if (t_cmp (e_var (e_str (o_eqS ⟨_, rfl, ?_⟩)))))))
    rw [decide_eq_false (by decide +kernel)]
    refine iteF (l_nil (l_cons (s_if (t_cmp (e_var (e_str (o_eqS ⟨_, rfl, ?_⟩)))))))
    rw [decide_eq_false (by decide +kernel)]
    refine iteF (l_nil ?_)
    refine l_cons (s_if (t_w (w_or (t_cmp (e_var (e_str (o_eqS ⟨_, rfl, ?_⟩)))))))
    rw [decide_eq_false (by decide +kernel)]
    refine iteF (w_or1 (t_w (w_and (t_cmp (e_var (e_str (o_eqS ⟨_, rfl, ?_⟩)))))))
    rw [decide_eq_false (by decide +kernel)]
    refine iteF (iteF (l_nil ?_))
    have fin : ∀ z : Str, inV (V.str z) [.str "left", .str "right"] = true → wL (cxOf CX0 P w K mg base N_is_item (Str.ofString "_law_is_item") (defScope s_is_item) f cdv A outer s H E).nox ((defBody s_is_item).drop 4) { nx := fun _ H' => Q .non H', rt := Q } [some (.str "d"), some (.str z)] H := by
      as_aux_lemma =>
        intro z hz
        refine l_cons (s_ret (e_and (e_callB (x := "isinstance") (by assumption) b_isi (a_cons (e_var ?_)))))
        walk_at "sts"
        refine c_isi ty_str (.ty _) (kit_ty kb_str_str) ⟨_, rfl, ?_⟩
        refine iteT (e_one (e_or (e_cmp (e_var (e_str (o_neS ⟨_, rfl, ?_⟩))))))
        rw [decide_eq_true rfl]
        refine iteF (e_one (e_cmp (e_var (e_tup (a_cons (e_str (a_cons (e_str (a_nil ?_)))))))))
        refine ⟨by show 2 ≤ sizeLine; decide, fun q1 H1 e1 n1 h1 => ?_⟩
        refine o_inT (by exact SqT.of h1) rfl rfl ?_
        rw [hz]
        exact q H1 e1
    rcases hx with rfl | rfl
    · exact fin _ (by decide +kernel)
    · exact fin _ (by decide +kernel)
  · refine l_cons (s_if (t_cmp (e_var (e_str (o_eqS ⟨_, rfl, ?_⟩)))))
    rw [decide_eq_false (by decide +kernel)]
    refine iteF (l_nil (l_cons (s_if (t_cmp (e_var (e_str (o_eqS ⟨_, rfl, ?_⟩)))))))
    rw [decide_eq_false (by decide +kernel)]
    refine iteF (l_nil (l_cons (s_if (t_cmp (e_var (e_str (o_eqS ⟨_, rfl, ?_⟩)))))))
    rw [decide_eq_false (by decide +kernel)]
    refine iteF (l_nil ?_)
    refine l_cons (s_if (t_w (w_or (t_cmp (e_var (e_str (o_eqS ⟨_, rfl, ?_⟩)))))))
    rw [decide_eq_false (by decide +kernel)]
    refine iteF (w_or1 (t_w (w_and (t_cmp (e_var (e_str (o_eqS ⟨_, rfl, ?_⟩)))))))
    rw [decide_eq_false (by decide +kernel)]
    refine iteF (iteF (l_nil ?_))
    refine l_cons (s_ret (e_and (e_callB (x := "isinstance") (by assumption) b_isi (a_cons (e_var ?_)))))
    walk_at "sts"
    refine c_isi ty_str (.ty _) (kit_ty kb_str_str) ⟨_, rfl, ?_⟩
    refine iteT (e_one (e_or (e_cmp (e_var (e_str (o_neS ⟨_, rfl, ?_⟩))))))
    rw [decide_eq_false (by decide +kernel)]
    exact iteT (q H (Same.refl H))
def spLk (n : Nat) : Sp := fun vs H Q _ => ∃ p D kd xs kvs, vs = [.ref p, .ref D] ∧ H p = some (.tup (.str (Fk.nm kd) :: xs)) ∧ H D = some (.dK kvs) ∧ valV kvs (.inr (Fk.nm kd)) = some (.str (fm kd)) ∧ Al (fun c y => ItOk n H c y) (fmC kd) xs ∧ ∀ H', Same H H' → Q (.bl true) H'
theorem ok_lk (n : Nat) (T : Top K mg "_law_is_like" s_is_like) (mI : mg "isinstance" = none) (mS : mg "str" = none) (mT : mg "tuple" = none) (mL : mg "len" = none) (mR : mg "range" = none) (FI : Fn P w K mg base (3 * n + 3) "_law_is_item" (spItem n)) : Fn P w K mg base (3 * n + 4) "_law_is_like" (spLk n) := by
  refine fn_ok T sc_is_like so_is_like (fun vs H Q E h => by obtain ⟨p, D, kd, xs, kvs, rfl, _⟩ := h; rfl) (fun _ _ _ _ _ _ us hl => match us, hl with | [_, _], _ => rfl) fun f cdv A outer s H vs Q E hr h nd => ?_
  obtain ⟨p, D, kd, xs, kvs, rfl, hp, hD, hval, hal, q⟩ := h
  have lxs := hal.len
  obtain ⟨fl1, fl2⟩ := fm_len kd
  have hdg : DGet H D (.str kd.nm) (some (.str (fm kd))) := by
    have g := dg_K (k := (.inr kd.nm : Key)) hD
    rw [hval] at g
    exact g
  have hfl : (fm kd).length ≤ sizeLine := by show _ ≤ 2 ^ 24; omega
  refine l_cons (s_if (t_w (w_or (t_not (t_val (e_callB (x := "isinstance") (by assumption) b_isi (a_cons (e_var ?_))))))))
  walk_at "sts"
  refine c_isi (ty_tup hp) (.ty _) (kit_ty kb_tuple_tuple) ⟨_, rfl, ?_⟩
  refine iteF (w_or (t_not (t_tru (e_var ⟨_, tru_t hp, ?_⟩))))
  refine iteF (w_or (t_not (t_val (e_callB (x := "isinstance") (by assumption) b_isi (a_cons (e_ix (e_var (e_int (ix_t (by exact SqT.of hp) at0 ?_)))))))))
  walk_at "sts"
  refine c_isi ty_str (.ty _) (kit_ty kb_str_str) ⟨_, rfl, ?_⟩
  refine iteF (w_or1 (t_cmp (e_ix (e_var (e_int (ix_t (by exact SqT.of hp) at0 (e_var (o_ninD (by exact hr) hdg ⟨_, rfl, ?_⟩))))))))
  refine iteF (l_nil (l_cons (s_set (e_dg (by exact hr) (e_var (e_ix (e_var (e_int (ix_t (by exact SqT.of hp) at0 ⟨D, _, rfl, hdg, ?_⟩)))))))))
  refine l_cons (s_if (t_cmp (e_callB (x := "len") (by assumption) b_len (a_cons (e_var (a_nil (c_lenT (SqT.of hp) (e_bin (e_int (e_callB (x := "len") (by assumption) b_len (a_cons (e_var (a_nil (c_lenS hfl (o_add (o_neI ⟨_, rfl, ?_⟩))))))))))))))))
  rw [decide_eq_true (by simp only [List.length_cons]; omega)]
  refine iteF (l_nil ?_)
  refine l_cons (s_forR (by assumption) (e_callB (x := "len") (by assumption) b_len (a_cons (e_var (a_nil (c_lenS hfl ?_))))))
  refine ⟨(fm kd).length, rfl, by omega, fun j σ H' => ∃ o3, σ = [some (.ref p), some (.ref D), some (.str (fm kd)), o3] ∧ Same H H', ⟨none, rfl, Same.refl H⟩, ?_, ?_⟩
  · rintro j σ H1 hj ⟨o3, rfl, e1⟩
    have hjx : xs[j]? = some (xs[j]'(by omega)) := List.getElem?_eq_getElem (by omega)
    obtain ⟨c, hc, hit⟩ := hal.get hjx
    obtain ⟨a, ha, rfl⟩ := fm_at kd j c hc
    show wL _ _ _ [some (.ref p), some (.ref D), some (.str (fm kd)), some (.int (j : Int))] _
    refine l_cons (s_if (t_not (t_val (e_call (by exact FI) (by exact hr) (by omega) (a_cons (e_ix (e_var (e_var (ix_s hfl ha ?_)))))))))
    refine a_cons (e_ix (e_var (e_bin (e_var (e_int (o_add ?_))))))
    rw [show ((j : Int) + 1) = ((j + 1 : Nat) : Int) by omega]
    refine ix_t (by exact SqT.of (e1 _ _ hp)) (atI_nat (by rw [List.getElem?_cons_succ]; exact hjx)) (a_nil ?_)
    refine ⟨_, _, rfl, hit.is e1, fun H2 e2 => ?_⟩
    exact ⟨true, rfl, iteF (l_nil (l_nil ⟨_, rfl, e1.trans e2⟩))⟩
  · rintro σ H1 ⟨o3, rfl, e1⟩
    exact l_cons (s_ret (e_bl (q H1 e1)))
theorem ok_treeS (n : Nat) (T : Top K mg "_law_is_tree" s_is_tree) (FL : Fn P w K mg base (3 * n + 4) "_law_is_like" (spLk n)) : Fn P w K mg base (3 * n + 5) "_law_is_tree" (spTree n) := by
  refine fn_ok T sc_is_tree so_is_tree (fun vs H Q E h => by obtain ⟨x, t, rfl, _⟩ := h; rfl) (fun _ _ _ _ _ _ us hl => match us, hl with | [_], _ => rfl) fun f cdv A outer s H vs Q E hr h nd => ?_
  obtain ⟨x, t, rfl, hv, ho, hd, q⟩ := h
  obtain ⟨p, xs, kd, rfl, hp, hal, hval⟩ := dv_items hv ho hd
  refine l_cons (s_ret (e_call (by exact FL) (by exact hr) (by omega) (a_cons (e_var (a_cons ?_)))))
  refine e_dC (zs := fmK) (ws := fmV) ((.cons ⟨_, _, rfl⟩ (.cons ⟨_, _, rfl⟩ (.cons ⟨_, _, rfl⟩ (.cons ⟨_, _, rfl⟩ (.cons ⟨_, _, rfl⟩ (.cons ⟨_, _, rfl⟩ (.cons ⟨_, _, rfl⟩ (.cons ⟨_, _, rfl⟩ (.cons ⟨_, _, rfl⟩ .nil)))))))))) ((.cons ⟨_, _, rfl⟩ (.cons ⟨_, _, rfl⟩ (.cons ⟨_, _, rfl⟩ (.cons ⟨_, _, rfl⟩ (.cons ⟨_, _, rfl⟩ (.cons ⟨_, _, rfl⟩ (.cons ⟨_, _, rfl⟩ (.cons ⟨_, _, rfl⟩ (.cons ⟨_, _, rfl⟩ .nil)))))))))) rfl (by simp) (by show 9 ≤ 15; decide) (by show 9 ≤ 15; decide) fun D H2 e2 n2 h2 => a_nil ?_
  exact ⟨p, D, kd, xs, _, rfl, e2 _ _ hp, h2, hval, hal.mono fun _ _ => ItOk.is e2, fun H' e' => q H' (e2.trans e')⟩
theorem ok_senS (n : Nat) (T : Top K mg "_law_is_sentence" s_is_sentence) (FL : Fn P w K mg base (3 * n + 4) "_law_is_like" (spLk n)) : Fn P w K mg base (3 * n + 5) "_law_is_sentence" (spSenT n) := by
  refine fn_ok T sc_is_sentence so_is_sentence (fun vs H Q E h => by obtain ⟨x, t, rfl, _⟩ := h; rfl) (fun _ _ _ _ _ _ us hl => match us, hl with | [_], _ => rfl) fun f cdv A outer s H vs Q E hr h nd => ?_
  obtain ⟨x, t, rfl, hv, ho, hd, q⟩ := h
  obtain ⟨p, xs, kd, rfl, hp, hal, hval⟩ := sn_items hv ho hd
  refine l_cons (s_ret (e_call (by exact FL) (by exact hr) (by omega) (a_cons (e_var (a_cons ?_)))))
  refine e_dC (zs := smK) (ws := smV) ((.cons ⟨_, _, rfl⟩ (.cons ⟨_, _, rfl⟩ (.cons ⟨_, _, rfl⟩ .nil)))) ((.cons ⟨_, _, rfl⟩ (.cons ⟨_, _, rfl⟩ (.cons ⟨_, _, rfl⟩ .nil)))) rfl (by simp) (by show 3 ≤ 15; decide) (by show 3 ≤ 15; decide) fun D H2 e2 n2 h2 => a_nil ?_
  exact ⟨p, D, kd, xs, _, rfl, e2 _ _ hp, h2, hval, hal.mono fun _ _ => ItOk.is e2, fun H' e' => q H' (e2.trans e')⟩
theorem ok_trees (TT : Top K mg "_law_is_tree" s_is_tree) (TS : Top K mg "_law_is_sentence" s_is_sentence) (TL : Top K mg "_law_is_like" s_is_like) (TI : Top K mg "_law_is_item" s_is_item) (mI : mg "isinstance" = none) (mS : mg "str" = none) (mT : mg "tuple" = none) (mL : mg "len" = none) (mR : mg "range" = none) (FN : Fn P w K mg base 1 "_law_is_number" spNum) (FM : Fn P w K mg base 1 "_law_is_mode" spMode) : ∀ n, Fn P w K mg base (3 * n + 5) "_law_is_tree" (spTree n) ∧ Fn P w K mg base (3 * n + 5) "_law_is_sentence" (spSenT n)
  | 0 => ⟨ok_treeS 0 TT (ok_lk 0 TL mI mS mT mL mR (ok_itemS 0 TI mI mS FN FM (fun _ h => by omega))), ok_senS 0 TS (ok_lk 0 TL mI mS mT mL mR (ok_itemS 0 TI mI mS FN FM (fun _ h => by omega)))⟩
  | n + 1 => by
    have lk := ok_lk (n + 1) TL mI mS mT mL mR (ok_itemS (n + 1) TI mI mS FN FM (fun m h => by cases h; exact ok_trees TT TS TL TI mI mS mT mL mR FN FM n))
    exact ⟨ok_treeS (n + 1) TT lk, ok_senS (n + 1) TS lk⟩
end



/-! ### what a claim asks -/
def upS (G : Key → Option Sn) (z : Str) (s : Sn) : Key → Option Sn := fun k => if k = .inr z then some s else G k
def clG : List Hd → (Key → Option Sn) := fun l => l.foldl (fun G x => upS G x.1 x.2.2) (fun _ => none)
/-- what the law's checker says -/
def shw (hs : List Hd) (g : Sn) (t : D) : Bool := rt t (clG hs) g 0 && hs.all fun x => rmO (cL t 0 (.inr x.1))
def HdO (x : Hd) : Prop := x.2.1 = none ∧ SnOk x.2.2 ∧ dep x.2.2 ≤ 48
section
variable {P : Program} {w : World} {K : PySem.W.Frag} {mg : Str → Option Value} {base : Heap}
def spShows : Sp := fun vs H Q _ => ∃ st cv tv hs g t, vs = [st, cv, tv] ∧ ClV H cv hs g ∧ (∀ x ∈ hs, HdO x) ∧ hs.length ≤ 40 ∧ SnOk g ∧ dep g ≤ 48 ∧ DV H t tv ∧ DOk t ∧ dp t ≤ 46 ∧ sz t ≤ 1000 ∧ ∀ H', Same H H' → Q (.bl (shw hs g t)) H'
theorem ok_shows (T : Top K mg "_law_shows" s_shows) (FT : Fn P w K mg base 152 "_law_is_tree" (spTree 49)) (FC : Fn P w K mg base 48 "_law_counts" (spCnt 46)) (FM : Fn P w K mg base 1 "_law_room" spRoom) (FR : Fn P w K mg base 189 "_law_right" (spRight 46)) : Fn P w K mg base 190 "_law_shows" spShows := by
  refine fn_ok T sc_shows so_shows (fun vs H Q E h => by obtain ⟨st, cv, tv, hs, g, t, rfl, _⟩ := h; rfl) (fun _ _ _ _ _ _ us hl => match us, hl with | [_, _, _], _ => rfl) fun f cdv A outer s H vs Q E hr h nd => ?_
  obtain ⟨st, cv, tv, hs, g, t, rfl, hcl, hH, hl40, hgo, hgd, htv, hok, hdp, hsz, q⟩ := h
  obtain ⟨ca, hh, gg, vs, rfl, hca, hhv, hal, hgg⟩ := hcl
  have lal := hal.len
  refine l_cons (s_set (e_dict fun D H1 e1 nD h1 => ?_))
  show wL _ _ _ [some st, some (.ref ca), some tv, some (.ref D), none, none] _
  refine l_cons (s_forT (e_ix (e_var (e_int (ix_t (by exact SqT.of (e1 _ _ hca)) at0 ?_)))))
  refine ⟨hh, vs, rfl, SqT.of (e1 _ _ hhv), fun j σ H' => ∃ x4 kvs, σ = [some st, some (.ref ca), some tv, some (.ref D), x4, none] ∧ H' D = some (.dK kvs) ∧ (kvs.map (·.1)).Nodup ∧ kvs.length ≤ j ∧ (∀ k, match clG (hs.take j) k with
    | some s => ∃ v, valV kvs k = some v ∧ SnV H' v s ∧ SnOk s ∧ dep s ≤ 48
    | none => valV kvs k = none) ∧ ∀ y o, y ≠ D → H1 y = some o → H' y = some o, ⟨none, [], rfl, h1, List.nodup_nil, Nat.le_refl _, fun k => by simp only [List.take_zero]; rfl, fun y o _ h => h⟩, ?_, ?_, ?_⟩
  · rintro j σ H' _ ⟨x4, kvs, rfl, hD, hnd, hkl, hk, keep⟩
    exact SqT.of (keep _ _ (ne_fresh nD hhv).symm (e1 _ _ hhv))
  · rintro j y σ H' hy ⟨x4, kvs, rfl, hD, hnd, hkl, hk, keep⟩
    obtain ⟨x, hx, a, mv, sv, rfl, ha, hmv, hsv⟩ := hal.get hy
    obtain ⟨_, ho1, ho2⟩ := hH x (List.mem_of_getElem? hx)
    have hjl := (List.getElem?_eq_some_iff.mp hy).1
    have eH : Same H H' := fun y o hy => keep y o (ne_fresh nD hy).symm (e1 _ _ hy)
    show wL _ _ _ [some st, some (.ref ca), some tv, some (.ref D), some (.ref a), none] _
    refine l_cons (s_dput (hu_of hr) (e_ix (e_var (e_int (ix_t (by exact SqT.of (eH _ _ ha)) (atI_nat (j := 2) rfl) (e_var (e_ix (e_var (e_int (ix_t (by exact SqT.of (eH _ _ ha)) at0 ?_))))))))))
    refine ⟨D, _, rfl, DPut.k (k := .inr x.1) hD (by show _ < 2 ^ 24; omega), l_nil ?_⟩
    have tU : TS H' (upd H' D (.dK (putK kvs (.inr x.1) sv))) := fun c u hc => by rw [upd_ne (fun z => by subst z; rw [hD] at hc; cases hc)]; exact hc
    refine ⟨_, _, rfl, upd_same, nd_put _ _ hnd, by have := length_putK kvs (.inr x.1) sv; omega, fun k => ?_, fun y o ny hy => by rw [upd_ne ny]; exact keep y o ny hy⟩
    have hxj : hs.take (j + 1) = hs.take j ++ [x] := take_snoc' hx
    rw [hxj, valV_put]
    unfold clG
    rw [List.foldl_append]
    show match upS (clG (hs.take j)) x.1 x.2.2 k with | some s => _ | none => _
    unfold upS
    by_cases e : k = .inr x.1
    · rw [if_pos e, if_pos e]; exact ⟨_, rfl, (hsv.ts (Same.ts eH)).ts tU, ho1, ho2⟩
    · rw [if_neg e, if_neg e]
      have := hk k
      cases hg : clG (hs.take j) k with
      | none => rw [hg] at this; exact this
      | some u => rw [hg] at this; obtain ⟨v, g1, g2, g3⟩ := this; exact ⟨v, g1, g2.ts tU, g3⟩
  rintro σ H2 ⟨x4, kvs, rfl, hD, hnd, hkl, hk, keep⟩
  rw [List.take_of_length_le (by omega)] at hk
  have e2 : Same H H2 := fun y o hy => keep y o (ne_fresh nD hy).symm (e1 _ _ hy)
  have hsc : ScpV H2 D (clG hs) 40 := ⟨kvs, hD, hnd, by omega, hk⟩
  show wL _ _ _ [some st, some (.ref ca), some tv, some (.ref D), x4, none] _
  refine l_cons (s_if (t_w (w_or (t_not (t_val (e_call (by exact FT) (by exact hr) (by decide) (a_cons (e_var (a_nil ?_)))))))))
  refine ⟨tv, t, rfl, htv.ts (Same.ts e2), hok, by omega, fun H3 e3 => ⟨true, rfl, iteF (w_or1 (t_not (t_val (e_call (by exact FR) (by exact hr) (by decide) ?_))))⟩⟩
  have e03 := e2.trans e3
  refine a_cons (e_var (a_cons (e_var (a_cons (e_ix (e_var (e_int (ix_t (by exact SqT.of (e03 _ _ hca)) at1 (a_cons (e_var (a_cons (e_int (a_nil ?_)))))))))))))
  refine ⟨st, D, clG hs, 40, gg, g, tv, t, 0, rfl, hsc.same e3, by omega, hgg.ts (Same.ts e03), hgo, hgd, htv.ts (Same.ts e03), hok, by omega, hdp, hsz, fun H4 e4 => ⟨_, rfl, ?_⟩⟩
  have e04 := e03.trans e4
  cases hrt : rt t (clG hs) g 0 with
  | false =>
    have hq : shw hs g t = false := by unfold shw; rw [hrt]; rfl
    rw [hq] at q
    exact iteT (l_cons (s_ret (e_bl (q H4 e04))))
  | true =>
  refine iteF (l_nil ?_)
  have hq : shw hs g t = hs.all (fun x => rmO (cL t 0 (.inr x.1))) := by unfold shw; rw [hrt]; rfl
  rw [hq] at q
  refine l_cons (s_set (e_call (by exact FC) (by exact hr) (by decide) (a_cons (e_var (a_cons (e_int (a_nil ?_)))))))
  refine ⟨tv, t, 0, rfl, htv.ts (Same.ts e04), hdp, hsz, fun d H5 e5 n5 hd => ?_⟩
  obtain ⟨kd, hdk', _, _, hdc⟩ := hd.ex
  have e05 := e04.trans e5
  show wL _ _ _ [some st, some (.ref ca), some tv, some (.ref D), x4, some (.ref d)] _
  refine l_cons (s_forT (e_ix (e_var (e_int (ix_t (by exact SqT.of (e05 _ _ hca)) at0 ?_)))))
  refine ⟨hh, vs, rfl, SqT.of (e05 _ _ hhv), fun j σ H' => ∃ x4, σ = [some st, some (.ref ca), some tv, some (.ref D), x4, some (.ref d)] ∧ (hs.take j).all (fun x => rmO (cL t 0 (.inr x.1))) = true ∧ Same H5 H', ⟨_, rfl, by simp, Same.refl _⟩, ?_, ?_, ?_⟩
  · rintro j σ H' _ ⟨x4, rfl, _, e4⟩
    exact SqT.of (e4 _ _ (e05 _ _ hhv))
  · rintro j y σ H' hy ⟨x4, rfl, hall, e6⟩
    obtain ⟨x, hx, a, mv, sv, rfl, ha, hmv, hsv⟩ := hal.get hy
    obtain ⟨hm0, _, _⟩ := hH x (List.mem_of_getElem? hx)
    rw [hm0] at hmv
    cases (show mv = .str "once" from hmv)
    have e06 := e05.trans e6
    show wL _ _ _ [some st, some (.ref ca), some tv, some (.ref D), some (.ref a), some (.ref d)] _
    refine l_cons (s_if (t_not (t_val (e_call (by exact FM) (by exact hr) (by decide) (a_cons (e_dget2 (by exact hr) (e_var ?_)))))))
    refine ⟨d, rfl, .inl ⟨_, .inl (e6 _ _ hdk')⟩, e_ix (e_var (e_int (ix_t (by exact SqT.of (e06 _ _ ha)) at0 ?_)))⟩
    walk_at "sts"
    refine ⟨by show 3 ≤ sizeLine; decide, fun t7 H7 e7 n7 h7 => ?_⟩
    have e57 := e6.trans e7
    have e07 := e05.trans e57
    refine ⟨_, dg_K (k := .inr x.1) (e57 _ _ hdk'), a_cons (e_ix (e_var (e_int (ix_t (by exact SqT.of (e07 _ _ ha)) at1 (a_nil ?_)))))⟩
    have hc := hdc (.inr x.1)
    have hxj : hs.take (j + 1) = hs.take j ++ [x] := take_snoc' hx
    have done : ∀ (Nx Rx : Prop), (∀ (e : rmO (cL t 0 (.inr x.1)) = true), Nx) → (rmO (cL t 0 (.inr x.1)) = false → Rx) → (if (!rmO (cL t 0 (.inr x.1))) = true then Rx else Nx) := fun Nx Rx h1 h2 => by
      cases hb : rmO (cL t 0 (.inr x.1)) with
      | true => exact h1 hb
      | false => exact h2 hb
    have bad : rmO (cL t 0 (.inr x.1)) = false → Q (.bl false) H7 := fun e => by
      have hf : hs.all (fun x => rmO (cL t 0 (.inr x.1))) = false := by
        rw [List.all_eq_false]
        exact ⟨x, List.mem_of_getElem? hx, by rw [e]; decide⟩
      rw [hf] at q
      exact q H7 e07
    rcases hc with ⟨t8, q1, q2, q3⟩ | ⟨q1, q2⟩
    · rw [q1]
      exact ⟨t8, _, rfl, e57 _ _ q2, ⟨_, rfl, done _ _ (fun e => l_nil (l_nil ⟨_, rfl, by rw [hxj, List.all_append, hall]; simp [e], e57⟩)) (fun e => l_cons (s_ret (e_bl (bad e))))⟩⟩
    · rw [q1]
      refine ⟨t7, z3, rfl, h7, ?_⟩
      rw [← q2]
      exact ⟨_, rfl, done _ _ (fun e => l_nil (l_nil ⟨_, rfl, by rw [hxj, List.all_append, hall]; simp [e], e57⟩)) (fun e => l_cons (s_ret (e_bl (bad e))))⟩
  rintro σ H6 ⟨x4, rfl, hall, e6⟩
  rw [List.take_of_length_le (by omega)] at hall
  rw [hall] at q
  exact l_cons (s_ret (e_bl (q H6 (e05.trans e6))))
end



abbrev Mp := List (Key × Key)
def fnd (m : Mp) (r : Key) : Option Key := (m.find? fun p => decide (p.1 = r)).map (·.2)
def lk (m : Mp) (r : Key) : Key := (fnd m r).getD r
def below : Key → Int → Bool
  | .inr _, _ => true
  | .inl i, lv => decide (i < lv)
def shR (old new : Int) : Key → Key
  | .inl i => .inl (i + new - old)
  | .inr z => .inr z
def mvR (m : Mp) (old new : Int) (r : Key) : Key := if below r old = true then lk m r else shR old new r
def mK (m : Mp) : List (Key × V) := m.map fun p => (p.1, kV p.2)
theorem mK_val : ∀ (m : Mp) (r : Key), valV (mK m) r = (fnd m r).map kV
  | [], r => rfl
  | p :: m, r => by
    by_cases e : p.1 = r
    · rw [show mK (p :: m) = (p.1, kV p.2) :: mK m from rfl, valV_pos e]
      simp [fnd, e]
    · rw [show mK (p :: m) = (p.1, kV p.2) :: mK m from rfl, valV_neg e, mK_val m r]
      simp [fnd, e]
theorem lk_val (m : Mp) (r : Key) : (valV (mK m) r).getD (kV r) = kV (lk m r) := by
  rw [mK_val, lk]
  cases fnd m r <;> rfl
def RowQ (H : Hp) (v : V) (b : Bool) : Prop := (b = false ∧ ((∃ i, v = .int i) ∨ ∃ z, v = .str z)) ∨ ∃ t x xs, v = .ref t ∧ H t = some (.tup (x :: xs)) ∧ flatV x = true ∧ inV x kdS = b
theorem RowQ.ts {H H' : Hp} (e : TS H H') {v : V} {b : Bool} : RowQ H v b → RowQ H' v b := fun h => h.elim .inl fun ⟨t, x, xs, h1, h2, h3⟩ => .inr ⟨t, x, xs, h1, e _ _ h2, h3⟩
def ren (f : Key → Key) : D → D
  | .own r => .own (f r) | .take a => .take (ren f a) | .ofr a b => .ofr (ren f a) (ren f b) | .pk r d a => .pk (f r) d (ren f a) | .py r p b => .py (f r) (ren f p) (ren f b) | .ct s p b => .ct s (ren f p) (ren f b)
def D.nm : D → Str
  | .own _ => "own" | .take _ => "take" | .ofr _ _ => "offer" | .pk _ _ _ => "pick" | .py _ _ _ => "pay" | .ct _ _ _ => "cut"
def D.rf : D → Bool
  | .own _ => true | .take _ => false | .ofr _ _ => false | .pk _ _ _ => true | .py _ _ _ => true | .ct _ _ _ => false
theorem rf_in36 (t : D) : inV (.str t.nm) rfS = t.rf := by cases t <;> (simp only [D.nm, D.rf]; decide +kernel)
theorem nm_in36 (t : D) : inV (.str t.nm) kdS = true := by cases t <;> (simp only [D.nm]; decide +kernel)
theorem DV.hd {H : Hp} : ∀ {t : D} {v : V}, DV H t v → ∃ p xs, v = .ref p ∧ H p = some (.tup (.str t.nm :: xs))
  | .own _, _, ⟨p, h1, h2⟩ => ⟨p, _, h1, h2⟩
  | .take _, _, ⟨p, x, h1, h2, _⟩ => ⟨p, _, h1, h2⟩
  | .ofr _ _, _, ⟨p, x, y, h1, h2, _⟩ => ⟨p, _, h1, h2⟩
  | .pk _ _ _, _, ⟨p, x, h1, h2, _⟩ => ⟨p, _, h1, h2⟩
  | .py _ _ _, _, ⟨p, x, y, h1, h2, _⟩ => ⟨p, _, h1, h2⟩
  | .ct _ _ _, _, ⟨p, sv, x, y, h1, h2, _⟩ => ⟨p, _, h1, h2⟩
theorem RowQ.dv {H : Hp} {t : D} {v : V} (h : DV H t v) : RowQ H v true := by
  obtain ⟨p, xs, e, hp⟩ := h.hd
  exact .inr ⟨p, _, _, e, hp, rfl, nm_in36 t⟩
theorem RowQ.sn {H : Hp} : ∀ {s : Sn} {v : V}, SnV H v s → RowQ H v false
  | .word _, _, ⟨t, h1, h2⟩ => .inr ⟨t, _, _, h1, h2, rfl, by decide +kernel⟩
  | .menu _ _, _, ⟨t, a, b, h1, h2, _⟩ => .inr ⟨t, _, _, h1, h2, rfl, by decide +kernel⟩
  | .trade _ _ _, _, ⟨t, m, a, b, h1, h2, _⟩ => .inr ⟨t, _, _, h1, h2, rfl, by decide +kernel⟩
/-- what stands in a row -/
inductive Pit where
  | fix (v : V) | sen (s : Sn) | ref (r : Key) | kid (u : D)
def PiV (H : Hp) : Pit → V → Prop
  | .fix x, v => v = x | .sen s, v => SnV H v s | .ref r, v => v = kV r | .kid u, v => DV H u v
def mvI (f : Key → Key) : Pit → Pit
  | .fix v => .fix v | .sen s => .sen s | .ref r => .ref (f r) | .kid u => .kid (ren f u)
structure RowI (H : Hp) (t : D) (p : Addr) (xs : List V) (its : List Pit) : Prop where
  h : H p = some (.tup xs)
  v : Al (PiV H) its xs
  len : xs.length ≤ 10
  nm : ∃ tl, its = .fix (.str t.nm) :: tl ∧ (∀ x, .fix x ∈ tl → RowQ H x false) ∧ (∀ u, .kid u ∈ tl → dp u + 1 ≤ dp t) ∧ (∀ (j : Nat) r, tl[j]? = some (.ref r) → j = 0) ∧ (t.rf = true ↔ ∃ r, tl[0]? = some (.ref r))
  bd : ∀ (f : Key → Key) (H' : Hp) (p' : Addr) (ys : List V), TS H H' → H' p' = some (.tup ys) → Al (PiV H') (its.map (mvI f)) ys → DV H' (ren f t) (.ref p')
theorem al1 {F : Pit → V → Prop} {a : Pit} {l : List Pit} {ys : List V} (h : Al F (a :: l) ys) : ∃ v us, ys = v :: us ∧ F a v ∧ Al F l us := h
theorem row_of {H : Hp} : ∀ {t : D} {v : V}, DV H t v → ∃ p xs its, v = .ref p ∧ RowI H t p xs its
  | .own r, v, hv => by
    obtain ⟨p, e, hp⟩ := hv
    refine ⟨p, _, [.fix (.str "own"), .ref r], e, hp, ⟨_, _, rfl, rfl, _, _, rfl, rfl, rfl⟩, by simp, ⟨_, rfl, fun x hx => by simp at hx, fun u hu => by simp at hu, fun j r' hj => by cases j with | zero => rfl | succ j => simp at hj, ⟨fun _ => ⟨r, rfl⟩, fun _ => rfl⟩⟩, fun f H' p' ys e' h' ha => ?_⟩
    obtain ⟨v1, u1, rfl, h1, v2, u2, rfl, h2, h3⟩ := ha
    cases (show u2 = [] from h3); cases (show v1 = _ from h1); cases (show v2 = _ from h2)
    exact ⟨p', rfl, h'⟩
  | .take a, v, hv => by
    obtain ⟨p, x, e, hp, hx⟩ := hv
    refine ⟨p, _, [.fix (.str "take"), .kid a], e, hp, ⟨_, _, rfl, rfl, _, _, rfl, hx, rfl⟩, by simp, ⟨_, rfl, fun x hx => by simp at hx, fun u hu => by simp at hu; subst hu; simp only [dp]; omega, fun j r' hj => by cases j with | zero => simp at hj | succ j => simp at hj, ⟨fun h => (by cases h), fun ⟨r, h⟩ => by simp at h⟩⟩, fun f H' p' ys e' h' ha => ?_⟩
    obtain ⟨v1, u1, rfl, h1, v2, u2, rfl, h2, h3⟩ := ha
    cases (show u2 = [] from h3); cases (show v1 = _ from h1)
    exact ⟨p', v2, rfl, h', h2⟩
  | .ofr a b, v, hv => by
    obtain ⟨p, x, y, e, hp, hx, hy⟩ := hv
    refine ⟨p, _, [.fix (.str "offer"), .kid a, .kid b], e, hp, ⟨_, _, rfl, rfl, _, _, rfl, hx, _, _, rfl, hy, rfl⟩, by simp, ⟨_, rfl, fun x hx => by simp at hx, fun u hu => by simp at hu; simp only [dp]; rcases hu with rfl | rfl <;> omega, fun j r' hj => by rcases j with _ | _ | j <;> simp at hj, ⟨fun h => (by cases h), fun ⟨r, h⟩ => by simp at h⟩⟩, fun f H' p' ys e' h' ha => ?_⟩
    obtain ⟨v1, u1, rfl, h1, v2, u2, rfl, h2, v3, u3, rfl, h3, h4⟩ := ha
    cases (show u3 = [] from h4); cases (show v1 = _ from h1)
    exact ⟨p', v2, v3, rfl, h', h2, h3⟩
  | .pk r d a, v, hv => by
    obtain ⟨p, x, e, hp, hx⟩ := hv
    refine ⟨p, _, [.fix (.str "pick"), .ref r, .fix (.str (sideS d)), .kid a], e, hp, ⟨_, _, rfl, rfl, _, _, rfl, rfl, _, _, rfl, rfl, _, _, rfl, hx, rfl⟩, by simp, ⟨_, rfl, fun x hx => by simp at hx; subst hx; exact .inl ⟨rfl, .inr ⟨_, rfl⟩⟩, fun u hu => by simp at hu; subst hu; simp only [dp]; omega, fun j r' hj => by rcases j with _ | _ | _ | j <;> simp at hj ⊢, ⟨fun _ => ⟨r, rfl⟩, fun _ => rfl⟩⟩, fun f H' p' ys e' h' ha => ?_⟩
    obtain ⟨v1, u1, rfl, h1, v2, u2, rfl, h2, v3, u3, rfl, h3, v4, u4, rfl, h4, h5⟩ := ha
    cases (show u4 = [] from h5); cases (show v1 = _ from h1); cases (show v2 = _ from h2); cases (show v3 = _ from h3)
    exact ⟨p', v4, rfl, h', h4⟩
  | .py r q b, v, hv => by
    obtain ⟨p, x, y, e, hp, hx, hy⟩ := hv
    refine ⟨p, _, [.fix (.str "pay"), .ref r, .fix (.str "once"), .kid q, .kid b], e, hp, ⟨_, _, rfl, rfl, _, _, rfl, rfl, _, _, rfl, rfl, _, _, rfl, hx, _, _, rfl, hy, rfl⟩, by simp, ⟨_, rfl, fun x hx => by simp at hx; subst hx; exact .inl ⟨rfl, .inr ⟨_, rfl⟩⟩, fun u hu => by simp at hu; simp only [dp]; rcases hu with rfl | rfl <;> omega, fun j r' hj => by rcases j with _ | _ | _ | _ | j <;> simp at hj ⊢, ⟨fun _ => ⟨r, rfl⟩, fun _ => rfl⟩⟩, fun f H' p' ys e' h' ha => ?_⟩
    obtain ⟨v1, u1, rfl, h1, v2, u2, rfl, h2, v3, u3, rfl, h3, v4, u4, rfl, h4, v5, u5, rfl, h5, h6⟩ := ha
    cases (show u5 = [] from h6); cases (show v1 = _ from h1); cases (show v2 = _ from h2); cases (show v3 = _ from h3)
    exact ⟨p', v4, v5, rfl, h', h4, h5⟩
  | .ct s q b, v, hv => by
    obtain ⟨p, sv, x, y, e, hp, hs, hx, hy⟩ := hv
    refine ⟨p, _, [.fix (.str "cut"), .fix (.str "once"), .sen s, .kid q, .kid b], e, hp, ⟨_, _, rfl, rfl, _, _, rfl, rfl, _, _, rfl, hs, _, _, rfl, hx, _, _, rfl, hy, rfl⟩, by simp, ⟨_, rfl, fun x hx => by simp at hx; subst hx; exact .inl ⟨rfl, .inr ⟨_, rfl⟩⟩, fun u hu => by simp at hu; simp only [dp]; rcases hu with rfl | rfl <;> omega, fun j r' hj => by rcases j with _ | _ | _ | _ | j <;> simp at hj ⊢, ⟨fun h => (by cases h), fun ⟨r, h⟩ => by simp at h⟩⟩, fun f H' p' ys e' h' ha => ?_⟩
    obtain ⟨v1, u1, rfl, h1, v2, u2, rfl, h2, v3, u3, rfl, h3, v4, u4, rfl, h4, v5, u5, rfl, h5, h6⟩ := ha
    cases (show u5 = [] from h6); cases (show v1 = _ from h1); cases (show v2 = _ from h2)
    exact ⟨p', v3, v4, v5, rfl, h', h3, h4, h5⟩
def elsA (b : List Stmt) (i : Nat) : List Stmt := match b.getD i (.Pass ⟨0, 0, 0, 0⟩) with
  | .If _ _ a _ => a
  | _ => []
/-- the suite of a for -/
def forA (b : List Stmt) (i : Nat) : List Stmt := match b.getD i (.Pass ⟨0, 0, 0, 0⟩) with
  | .For _ _ a _ _ => a
  | _ => []
theorem PiV.ts {H H' : Hp} (e : TS H H') : ∀ {i : Pit} {v : V}, PiV H i v → PiV H' i v
  | .fix _, _, h => h | .sen _, _, h => SnV.ts e h | .ref _, _, h => h | .kid _, _, h => DV.ts e h
section
variable {P : Program} {w : World} {K : PySem.W.Frag} {mg : Str → Option Value} {base : Heap}
def spRow : Sp := fun vs H Q _ => ∃ v b, vs = [v] ∧ RowQ H v b ∧ ∀ H', Same H H' → Q (.bl b) H'
theorem ok_row (T : Top K mg "_law_row" s_row) (mIs : mg "isinstance" = none) (mTup : mg "tuple" = none) (mLen : mg "len" = none) : Fn P w K mg base 1 "_law_row" spRow := by
  refine fn_ok T sc_row so_row (fun vs H Q E h => by obtain ⟨v, b, rfl, _⟩ := h; rfl) (fun _ _ _ _ _ _ us hl => match us, hl with | [_], _ => rfl) fun f cdv A outer s H vs Q E hr h nd => ?_
  obtain ⟨v, b, rfl, hv, q⟩ := h
  walk_at "sts"
  refine ⟨by show 9 ≤ sizeLine; decide, fun p H1 e1 n1 h1 => ?_⟩
  show wL _ _ _ [some v, some (.ref p)] _
  walk_at "sts"
  rcases hv with ⟨rfl, ⟨i, rfl⟩ | ⟨z, rfl⟩⟩ | ⟨t, x, xs, rfl, ht, hx, rfl⟩
  · refine c_isi ty_int (.ty _) (kit_ty kb_int_tuple) ?_
    walk_at "sts"
    exact q H1 e1
  · refine c_isi ty_str (.ty _) (kit_ty kb_str_tuple) ?_
    walk_at "sts"
    exact q H1 e1
  · refine c_isi (ty_tup (e1 _ _ ht)) (.ty _) (kit_ty kb_tuple_tuple) ?_
    walk_at "sts"
    refine c_lenT (by exact SqT.of (e1 _ _ ht)) ?_
    walk_at "sts"
    refine ifT (by simp only [List.length_cons]; omega) ?_
    walk_at "sts"
    refine ix_t (by exact SqT.of (e1 _ _ ht)) at0 ?_
    walk_at "sts"
    refine o_inT (by exact SqT.of h1) hx rfl ?_
    exact q H1 e1
def spLmv (n : Nat) : Sp := fun vs H Q _ => ∃ v t, ∃ old new : Int, ∃ d m, vs = [v, .int old, .int new, .ref d] ∧ DV H t v ∧ dp t ≤ n ∧ H d = some (.dK (mK m)) ∧ ∀ v' H', Same H H' → DV H' (ren (mvR m old new) t) v' → Q v' H'
theorem ok_lmvS (n : Nat) (T : Top K mg "_law_moved" s_moved) (mL : mg "len" = none) (mR : mg "range" = none) (mI : mg "isinstance" = none) (mInt : mg "int" = none) (mT : mg "tuple" = none) (FW : Fn P w K mg base 1 "_law_row" spRow) (F : ∀ m, n = m + 1 → Fn P w K mg base (m + 2) "_law_moved" (spLmv m)) : Fn P w K mg base (n + 2) "_law_moved" (spLmv n) := by
  refine fn_ok T sc_moved so_moved (fun vs H Q E h => by obtain ⟨v, t, old, new, d, m, rfl, _⟩ := h; rfl) (fun _ _ _ _ _ _ us hl => match us, hl with | [_, _, _, _], _ => rfl) fun f cdv A outer s H vs Q E hr h nd => ?_
  obtain ⟨v, t, old, new, d, m, rfl, hv, hn, hd, q⟩ := h
  obtain ⟨p, xs, its, rfl, hR⟩ := row_of hv
  obtain ⟨tl, hits, hfx, hkd, hrf, hrf2⟩ := hR.nm
  have lxs := hR.v.len
  have l10 := hR.len
  refine l_cons (s_set (e_lst (a_nil ⟨by show 0 ≤ sizeLine; decide, fun D H1 e1 nD h1 => ?_⟩)))
  show wL _ _ _ [some (.ref p), some (.int old), some (.int new), some (.ref d), some (.ref D), none, none] _
  refine l_cons (s_forR (by assumption) (e_callB (x := "len") (by assumption) b_len (a_cons (e_var (a_nil (c_lenT (by exact SqT.of (e1 _ _ hR.h)) ?_))))))
  refine ⟨xs.length, rfl, by omega, fun j σ H' => ∃ x5 x6 acc, σ = [some (.ref p), some (.int old), some (.int new), some (.ref d), some (.ref D), x5, x6] ∧ H' D = some (.lst acc) ∧ Al (PiV H') ((its.take j).map (mvI (mvR m old new))) acc ∧ acc.length = j ∧ ∀ y o, y ≠ D → H1 y = some o → H' y = some o, ⟨none, none, [], rfl, h1, by simp only [List.take_zero]; rfl, rfl, fun y o _ h => h⟩, ?_, ?_⟩
  · rintro j σ H' hj ⟨x5, x6, acc, rfl, hD, hal, hacc, keep⟩
    have eH : Same H H' := fun y o hy => keep y o (ne_fresh nD hy).symm (e1 _ _ hy)
    have hp := eH _ _ hR.h
    obtain ⟨it, hit, hiv⟩ := hR.v.get (List.getElem?_eq_getElem hj)
    have hiv' := hiv.ts (Same.ts eH)
    -- the item is put
    have put : ∀ (H7 : Hp) (v7 : V) (NX BK CT : L2.St → Hp → Prop), Same H' H7 → PiV H7 (mvI (mvR m old new) it) v7 → (∀ σ H8, (∃ x5 x6 acc, σ = [some (.ref p), some (.int old), some (.int new), some (.ref d), some (.ref D), x5, x6] ∧ H8 D = some (.lst acc) ∧ Al (PiV H8) ((its.take (j + 1)).map (mvI (mvR m old new))) acc ∧ acc.length = j + 1 ∧ ∀ y o, y ≠ D → H1 y = some o → H8 y = some o) → NX σ H8) → wL (cxOf CX0 P w K mg base N_moved (Str.ofString "_law_moved") (defScope s_moved) f cdv A outer s H E).nox ((forA (defBody s_moved) 1).drop 2) { nx := NX, rt := Q, bk := BK, ct := CT } [some (.ref p), some (.int old), some (.int new), some (.ref d), some (.ref D), some (.int (j : Int)), some v7] H7 := by
      as_aux_lemma =>
        intro H7 v7 NX BK CT e7 h7 hNX
        have hD7 := e7 _ _ hD
        refine l_cons (s_expr (e_app (e_var ⟨D, _, rfl, SqL.of hD7, e_var ⟨_, hD7, by show _ < 2 ^ 24; omega, l_nil ?_⟩⟩)))
        have tU : TS H7 (upd H7 D (.lst (acc ++ [v7]))) := TS.upd hD7
        have hsn : its.take (j + 1) = its.take j ++ [it] := by rw [List.take_succ, hit]; rfl
        refine hNX _ _ ⟨_, _, _, rfl, upd_same, ?_, by simp [hacc], fun y o ny hy => by rw [upd_ne ny]; exact e7 _ _ (keep y o ny hy)⟩
        rw [hsn, List.map_append]
        exact (hal.mono fun _ _ => PiV.ts ((Same.ts e7).trans tU)).app ⟨v7, [], rfl, h7.ts tU, rfl⟩
    show wL _ _ _ [some (.ref p), some (.int old), some (.int new), some (.ref d), some (.ref D), some (.int (j : Int)), x6] _
    refine l_cons (s_set (e_ix (e_var (e_var (ix_t (by exact SqT.of hp) (atI_nat (List.getElem?_eq_getElem hj)) ?_)))))
    show wL _ _ _ [some (.ref p), some (.int old), some (.int new), some (.ref d), some (.ref D), some (.int (j : Int)), some xs[j]] _
    have hd' := eH _ _ hd
    obtain ⟨v0, us, hxs, hv0, hus⟩ := al1 (show Al (PiV H) (.fix (.str (K36.D.nm t)) :: tl) xs by rw [← hits]; exact hR.v)
    have hx0 : atI xs 0 = some (.str (K36.D.nm t)) := by rw [hxs, show v0 = .str (K36.D.nm t) from hv0]; exact at0
    refine l_seq (fun σ7 H7 => ∃ v7, σ7 = [some (.ref p), some (.int old), some (.int new), some (.ref d), some (.ref D), some (.int (j : Int)), some v7] ∧ Same H' H7 ∧ PiV H7 (mvI (mvR m old new) it) v7) (fun go => ?_) ?_
    · refine l_cons (s_if (t_w (w_and (t_cmp (e_var (e_int (o_eqI ⟨_, rfl, ?_⟩)))))))
      by_cases j1 : j = 1
      · rw [decide_eq_true (by omega)]
        refine iteT (w_and1 (t_cmp (e_ix (e_var (e_int (ix_t (by exact SqT.of hp) hx0 (e_tup ?_)))))))
        walk_at "sts"
        refine ⟨by show 4 ≤ sizeLine; decide, fun t2 H2 e2 n2 h2 => ?_⟩
        refine o_inT (by exact SqT.of h2) rfl rfl ⟨_, rfl, ?_⟩
        rw [rf_in36]
        cases hrf0 : (K36.D.rf t) with
        | true =>
          obtain ⟨r, hr1⟩ := hrf2.mp hrf0
          have hit1 : it = .ref r := by
            as_aux_lemma =>
              rw [hits, j1] at hit
              have : tl[0]? = some it := by simpa using hit
              rw [hr1] at this
              exact (Option.some.inj this).symm
          subst hit1
          have hx : xs[j] = kV r := hiv
          rw [hx]
          have hd2 := e2 _ _ hd'
          have get : ∀ (NX BK CT : L2.St → Hp → Prop), below r old = true → (∀ σ7 H7, (∃ v7, σ7 = [some (.ref p), some (.int old), some (.int new), some (.ref d), some (.ref D), some (.int (j : Int)), some v7] ∧ Same H' H7 ∧ PiV H7 (mvI (mvR m old new) (.ref r)) v7) → NX σ7 H7) → wL (cxOf CX0 P w K mg base N_moved (Str.ofString "_law_moved") (defScope s_moved) f cdv A outer s H E).nox (elsA (ifA (forA (defBody s_moved) 1) 1) 0) { nx := NX, rt := Q, bk := BK, ct := CT } [some (.ref p), some (.int old), some (.int new), some (.ref d), some (.ref D), some (.int (j : Int)), some (kV r)] H2 := by
            as_aux_lemma =>
              intro NX BK CT hb hNX
              refine l_cons (s_set (e_dget2 (by exact hr) (e_var ⟨d, rfl, .inl ⟨_, .inl hd2⟩, e_var (e_var ⟨_, DGet.k hd2, ?_⟩)⟩)))
              rw [lk_val]
              refine l_nil (hNX _ _ ⟨_, rfl, e2, ?_⟩)
              show _ = kV (mvR m old new r)
              unfold mvR
              rw [if_pos hb]
          refine iteT (l_cons (s_if (t_w (w_and (t_val (e_callB (x := "isinstance") (by assumption) b_isi ?_))))))
          walk_at "sts"
          cases r with
          | inl i =>
            refine c_isi ty_int (.ty _) (kit_ty kb_int_int) ⟨_, rfl, iteT (w_and1 (t_cmp (e_var (e_var (o_ge ⟨_, rfl, ?_⟩)))))⟩
            by_cases hi : old ≤ i
            · rw [decide_eq_true (by omega)]
              refine iteT (l_cons (s_set (e_bin (e_bin (e_var (e_var (o_add (e_var (o_sub ?_)))))))))
              refine l_nil (l_nil (go _ _ ⟨_, rfl, e2, ?_⟩))
              show V.int _ = kV (mvR m old new (.inl i))
              unfold mvR
              rw [if_neg (by simp [below]; omega)]
              rfl
            · rw [decide_eq_false (by omega)]
              exact iteF (get _ _ _ (by simp [below]; omega) fun _ _ h => l_nil (go _ _ h))
          | inr z =>
            refine c_isi ty_str (.ty _) (kit_ty kb_str_int) ⟨_, rfl, iteF (iteF (get _ _ _ rfl fun _ _ h => l_nil (go _ _ h)))⟩
        | false =>
          have nref : ∀ r, it ≠ .ref r := fun r hr1 => by
            rw [hits, j1, hr1] at hit
            have : tl[0]? = some (.ref r) := by simpa using hit
            rw [hrf2.mpr ⟨r, this⟩] at hrf0
            cases hrf0
          refine iteF ?_
          refine l_cons (s_if (t_w (w_and (t_cmp (e_var (e_int (o_gt ⟨_, rfl, ?_⟩)))))))
          by_cases j0 : j = 0
          · rw [decide_eq_false (by omega)]
            obtain ⟨x0, rfl⟩ : ∃ x0, it = .fix x0 := by rw [hits, j0] at hit; exact ⟨_, (Option.some.inj hit).symm⟩
            exact iteF (iteF (l_nil (l_nil (go _ _ ⟨_, rfl, e2, hiv'⟩))))
          · rw [decide_eq_true (by omega)]
            have hmem : it ∈ tl := by
              obtain ⟨i, rfl⟩ : ∃ i, j = i + 1 := ⟨j - 1, by omega⟩
              rw [hits] at hit
              exact List.mem_of_getElem? (show tl[i]? = some it by simpa using hit)
            refine iteT (w_and1 (t_val (e_call (by exact FW) (by exact hr) (by omega) (a_cons (e_var (a_nil ?_))))))
            cases it with
            | ref r => exact absurd rfl (nref r)
            | sen s => exact ⟨_, false, rfl, RowQ.sn (SnV.ts (Same.ts e2) hiv'), fun H7 e7 => ⟨_, rfl, iteF (l_nil (l_nil (go _ _ ⟨_, rfl, e2.trans e7, SnV.ts (Same.ts (e2.trans e7)) hiv'⟩)))⟩⟩
            | fix x =>
              have hx : xs[j] = x := hiv
              refine ⟨_, false, rfl, by rw [hx]; exact (hfx x hmem).ts (Same.ts (eH.trans e2)), fun H7 e7 => ⟨_, rfl, iteF (l_nil (l_nil (go _ _ ⟨_, rfl, e2.trans e7, hiv'⟩)))⟩⟩
            | kid u =>
              have hu : DV H2 u xs[j] := DV.ts (Same.ts e2) hiv'
              have hd7 := hkd u hmem
              obtain ⟨n, rfl⟩ : ∃ i, n = i + 1 := ⟨n - 1, by omega⟩
              refine ⟨_, true, rfl, RowQ.dv hu, fun H7 e7 => ⟨_, rfl, iteT (l_cons (s_set (e_call (by exact F n rfl) (by exact hr) (by omega) ?_)))⟩⟩
              walk_at "sts"
              exact ⟨_, u, old, new, d, m, rfl, DV.ts (Same.ts e7) hu, by omega, e7 _ _ (e2 _ _ hd'), fun v8 H8 e8 h8 => l_nil (l_nil (go _ _ ⟨v8, rfl, (e2.trans e7).trans e8, h8⟩))⟩
      · rw [decide_eq_false (by omega)]
        have nref : ∀ r, it ≠ .ref r := fun r hr1 => by
          rw [hits, hr1] at hit
          cases j with
          | zero => cases hit
          | succ i =>
            have := hrf i r (by simpa using hit)
            omega
        refine iteF (iteF ?_)
        refine l_cons (s_if (t_w (w_and (t_cmp (e_var (e_int (o_gt ⟨_, rfl, ?_⟩)))))))
        by_cases j0 : j = 0
        · rw [decide_eq_false (by omega)]
          obtain ⟨x0, rfl⟩ : ∃ x0, it = .fix x0 := by rw [hits, j0] at hit; exact ⟨_, (Option.some.inj hit).symm⟩
          exact iteF (iteF (l_nil (l_nil (go _ _ ⟨_, rfl, (Same.refl H'), hiv'⟩))))
        · rw [decide_eq_true (by omega)]
          have hmem : it ∈ tl := by
            obtain ⟨i, rfl⟩ : ∃ i, j = i + 1 := ⟨j - 1, by omega⟩
            rw [hits] at hit
            exact List.mem_of_getElem? (show tl[i]? = some it by simpa using hit)
          refine iteT (w_and1 (t_val (e_call (by exact FW) (by exact hr) (by omega) (a_cons (e_var (a_nil ?_))))))
          cases it with
          | ref r => exact absurd rfl (nref r)
          | sen s => exact ⟨_, false, rfl, RowQ.sn (SnV.ts (Same.ts (Same.refl H')) hiv'), fun H7 e7 => ⟨_, rfl, iteF (l_nil (l_nil (go _ _ ⟨_, rfl, (Same.refl H').trans e7, SnV.ts (Same.ts ((Same.refl H').trans e7)) hiv'⟩)))⟩⟩
          | fix x =>
            have hx : xs[j] = x := hiv
            refine ⟨_, false, rfl, by rw [hx]; exact (hfx x hmem).ts (Same.ts (eH.trans (Same.refl H'))), fun H7 e7 => ⟨_, rfl, iteF (l_nil (l_nil (go _ _ ⟨_, rfl, (Same.refl H').trans e7, hiv'⟩)))⟩⟩
          | kid u =>
            have hu : DV H' u xs[j] := DV.ts (Same.ts (Same.refl H')) hiv'
            have hd7 := hkd u hmem
            obtain ⟨n, rfl⟩ : ∃ i, n = i + 1 := ⟨n - 1, by omega⟩
            refine ⟨_, true, rfl, RowQ.dv hu, fun H7 e7 => ⟨_, rfl, iteT (l_cons (s_set (e_call (by exact F n rfl) (by exact hr) (by omega) ?_)))⟩⟩
            walk_at "sts"
            exact ⟨_, u, old, new, d, m, rfl, DV.ts (Same.ts e7) hu, by omega, e7 _ _ ((Same.refl H') _ _ hd'), fun v8 H8 e8 h8 => l_nil (l_nil (go _ _ ⟨v8, rfl, ((Same.refl H').trans e7).trans e8, h8⟩))⟩
    · rintro σ7 H7 ⟨v7, rfl, e7, h7⟩
      exact put H7 v7 _ _ _ e7 h7 fun _ _ h => h
  · rintro σ H' ⟨x5, x6, acc, rfl, hD, hal, hacc, keep⟩
    rw [List.take_of_length_le (by omega)] at hal
    have eH : Same H H' := fun y o hy => keep y o (ne_fresh nD hy).symm (e1 _ _ hy)
    refine l_cons (s_ret (e_callTy (x := "tuple") (by assumption) b_tuple (a_cons (e_var (a_nil (c_tupL (by exact SqL.of hD) fun l9 H9 e9 n9 h9 => ?_))))))
    exact q (.ref l9) H9 (eH.trans e9) (hR.bd _ H9 l9 acc ((Same.ts eH).trans (Same.ts e9)) h9 (hal.mono fun _ _ => PiV.ts (Same.ts e9)))
theorem ok_lmv (T : Top K mg "_law_moved" s_moved) (mL : mg "len" = none) (mR : mg "range" = none) (mI : mg "isinstance" = none) (mInt : mg "int" = none) (mT : mg "tuple" = none) (FW : Fn P w K mg base 1 "_law_row" spRow) : ∀ n, Fn P w K mg base (n + 2) "_law_moved" (spLmv n)
  | 0 => ok_lmvS 0 T mL mR mI mInt mT FW fun m h => by cases h
  | n + 1 => ok_lmvS (n + 1) T mL mR mI mInt mT FW fun m h => by cases h; exact ok_lmv T mL mR mI mInt mT FW n
end



/-! ### holds that are picked -/
theorem HsV.take {H : Hp} : ∀ {us : List V} {hs : List Hd} (n : Nat), HsV H us hs → HsV H (us.take n) (hs.take n)
  | [], [], n, _ => by simp only [List.take_nil]; trivial
  | _ :: _, _ :: _, 0, _ => trivial
  | _ :: _, _ :: _, n + 1, ⟨a, r⟩ => ⟨a, r.take n⟩
theorem HsV.drop {H : Hp} : ∀ {us : List V} {hs : List Hd} (n : Nat), HsV H us hs → HsV H (us.drop n) (hs.drop n)
  | [], [], n, _ => by simp only [List.drop_nil]; trivial
  | _ :: _, _ :: _, 0, h => h
  | _ :: _, _ :: _, n + 1, ⟨_, r⟩ => r.drop n
theorem HsV.cat {H : Hp} : ∀ {us : List V} {hs : List Hd} {vs : List V} {ks : List Hd}, HsV H us hs → HsV H vs ks → HsV H (us ++ vs) (hs ++ ks)
  | [], [], _, _, _, h => h
  | _ :: _, _ :: _, _, _, ⟨a, r⟩, h => ⟨a, r.cat h⟩
/-- what a claim's row is -/
def HdP (h : Hd) : Prop := h.2.1 = none ∧ SnOk h.2.2 ∧ dep h.2.2 ≤ 45 ∧ rws h.2.2 ≤ 410
theorem ren_sz (f : Key → Key) : ∀ t : D, sz (ren f t) = sz t ∧ dp (ren f t) = dp t ∧ (DOk t → DOk (ren f t))
  | .own _ => ⟨rfl, rfl, fun h => h⟩
  | .take a => by obtain ⟨h1, h2, h3⟩ := ren_sz f a; exact ⟨by simp only [ren, sz, h1], by simp only [ren, dp, h2], h3⟩
  | .ofr a b => by
    obtain ⟨h1, h2, h3⟩ := ren_sz f a
    obtain ⟨g1, g2, g3⟩ := ren_sz f b
    exact ⟨by simp only [ren, sz, h1, g1], by simp only [ren, dp, h2, g2], fun h => ⟨h3 h.1, g3 h.2⟩⟩
  | .pk _ _ a => by obtain ⟨h1, h2, h3⟩ := ren_sz f a; exact ⟨by simp only [ren, sz, h1], by simp only [ren, dp, h2], h3⟩
  | .py _ a b => by
    obtain ⟨h1, h2, h3⟩ := ren_sz f a
    obtain ⟨g1, g2, g3⟩ := ren_sz f b
    exact ⟨by simp only [ren, sz, h1, g1], by simp only [ren, dp, h2, g2], fun h => ⟨h3 h.1, g3 h.2⟩⟩
  | .ct _ a b => by
    obtain ⟨h1, h2, h3⟩ := ren_sz f a
    obtain ⟨g1, g2, g3⟩ := ren_sz f b
    exact ⟨by simp only [ren, sz, h1, g1], by simp only [ren, dp, h2, g2], fun h => ⟨h.1, h.2.1, h3 h.2.2.1, g3 h.2.2.2⟩⟩
section
variable {P : Program} {w : World} {K : PySem.W.Frag} {mg : Str → Option Value} {base : Heap}
def spPicked : Sp := fun vs H Q _ => ∃ c b hs cv tv hds g t, vs = [.ref c.a, cv, tv] ∧ StG H c b hs ∧ ClV H cv hds g ∧ 0 < hds.length ∧ hds.length ≤ 40 ∧ (∀ h ∈ hds, HdP h ∧ dep h.2.2 ≤ 44 ∧ rws h.2.2 ≤ 400) ∧ DV H t tv ∧ DOk t ∧ dp t ≤ 45 ∧
  ∀ a cv' tv' hds' t' H', Gf c H H' → StG H' c b hs → H' a = some (.tup [cv', tv']) → ClV H' cv' hds' g → (∀ h ∈ hds', HdP h) → hds'.map (·.1) = hds.map (·.1) → DV H' t' tv' → DOk t' → dp t' ≤ dp t + 1 → sz t' ≤ sz t + 1 → Q (.ref a) H'
theorem ok_picked (T : Top K mg "_law_picked" s_picked) (mL : mg "len" = none) (FN : Fn P w K mg base 1 "_law_next" spNext) (FS : Fn P w K mg base 3 "_law_sentence" (spSent 1)) (FM : Fn P w K mg base 47 "_law_moved" (spLmv 45)) : Fn P w K mg base 48 "_law_picked" spPicked := by
  refine fn_ok T sc_picked so_picked (fun vs H Q E h => by obtain ⟨c, b, hs, cv, tv, hds, g, t, rfl, _⟩ := h; rfl) (fun _ _ _ _ _ _ us hl => match us, hl with | [_, _, _], _ => rfl) fun f cdv A outer s H vs Q E hr h nd => ?_
  obtain ⟨c, b, hs, cv, tv, hds, g, t, rfl, hst, hcl, h0, h40, hP, htv, hok, hdp, q⟩ := h
  obtain ⟨ca, th, sg, us, rfl, hca, hth, hus, hsg⟩ := hcl
  have lus := hus.len
  obtain ⟨kvs, k1, kp, _⟩ := hst.d
  refine l_cons (s_set (e_dg (by exact hr) (e_var (e_str ⟨c.a, .ref c.p, rfl, dg_k k1 kp, ?_⟩))))
  show wL _ _ _ [some (.ref c.a), some (.ref ca), some tv, some (.ref c.p), none, none, none, none, none, none] _
  refine l_cons (s_set (e_call (by exact FN) (by exact hr) (by decide) (a_cons (e_var (a_cons (e_callB (x := "len") (by assumption) b_len (a_cons (e_ix (e_var (e_int (ix_t (by exact SqT.of hca) at0 (a_nil (c_lenT (by exact SqT.of hth) (a_nil ?_))))))))))))))
  refine ⟨c.p, _, rfl, by omega, by omega, hst.pl, fun d H1 d0 d1 b1 p1 => ?_⟩
  obtain ⟨i, rfl⟩ := Int.eq_ofNat_of_zero_le d0
  have hi : i < us.length := by omega
  have s1 := hst.pool b1 p1
  have g1 : Gf c H H1 := Gf.pool b1
  have t01 := hst.tss g1
  have hca1 := t01 _ _ hca
  have hth1 := t01 _ _ hth
  have hus1 := hus.ts t01
  obtain ⟨h, hh, ta, m, sv, hu, hta, hm, hsv⟩ := hus1.get (List.getElem?_eq_getElem hi)
  obtain ⟨⟨hm0, ho, hd45, hr410⟩, hd44, hr400⟩ := hP h (List.mem_of_getElem? hh)
  have hget : atI us (i : Int) = some (.ref ta) := atI_nat (by rw [List.getElem?_eq_getElem hi, hu])
  show wL _ _ _ [some (.ref c.a), some (.ref ca), some tv, some (.ref c.p), some (.int (i : Int)), none, none, none, none, none] _
  refine l_cons (s_set (e_ix (e_ix (e_ix (e_var (e_int (ix_t (by exact SqT.of hca1) at0 (e_var (ix_t (by exact SqT.of hth1) hget (e_int (ix_t (by exact SqT.of hta) at0 ?_)))))))))))
  show wL _ _ _ [some (.ref c.a), some (.ref ca), some tv, some (.ref c.p), some (.int (i : Int)), some (.str h.1), none, none, none, none] _
  refine l_cons (s_set (e_ix (e_ix (e_ix (e_var (e_int (ix_t (by exact SqT.of hca1) at0 (e_var (ix_t (by exact SqT.of hth1) hget (e_int (ix_t (by exact SqT.of hta) (atI_nat (j := 2) rfl) ?_)))))))))))
  show wL _ _ _ [some (.ref c.a), some (.ref ca), some tv, some (.ref c.p), some (.int (i : Int)), some (.str h.1), some sv, none, none, none] _
  refine l_cons (s_set (e_call (by exact FS) (by exact hr) (by decide) (a_cons (e_var (a_cons (e_int (a_nil ?_)))))))
  refine ⟨c, b, hs, 1, rfl, s1, Nat.le_refl _, fun ov os H2 b2 p2 hos hod hoo => ?_⟩
  have s2 := s1.pool b2 p2
  have g12 : Gf c H1 H2 := Gf.pool b2
  have t12 := s1.tss g12
  show wL _ _ _ [some (.ref c.a), some (.ref ca), some tv, some (.ref c.p), some (.int (i : Int)), some (.str h.1), some sv, some ov, none, none] _
  refine l_cons (s_set (e_call (by exact FM) (by exact hr) (by decide) (a_cons (e_var (a_cons (e_int (a_cons (e_int (a_cons (e_d1 fun nd nnd => e_var (e_int ?_)))))))))))
  have ed : Same H2 (upd H2 nd (.dK [])) := fun y o hy => by rw [upd_ne (ne_of_none hy nnd)]; exact hy
  refine ⟨upd_same, h.1, rfl, a_nil ?_⟩
  have h3 : upd (upd H2 nd (.dK [])) nd (.dK [(Sum.inr h.1, V.int 0)]) nd = some (.dK (mK [(.inr h.1, .inl 0)])) := upd_same
  have e23 : Same H2 (upd (upd H2 nd (.dK [])) nd (.dK [(Sum.inr h.1, V.int 0)])) := fun y o hy => by rw [upd_ne (ne_of_none hy nnd)]; exact ed _ _ hy
  generalize upd (upd H2 nd (.dK [])) nd (.dK [(Sum.inr h.1, V.int 0)]) = H3 at h3 e23
  have t03 := (t01.trans t12).trans (Same.ts e23)
  refine ⟨tv, t, 0, 1, nd, [(.inr h.1, .inl 0)], rfl, htv.ts t03, hdp, h3, fun bv H4 e4 hbv => ?_⟩
  have s4 := (s2.same e23).same e4
  have g04 := ((g1.trans g12).trans (Gf.same e23)).trans (Gf.same e4)
  have t04 := t03.trans (Same.ts e4)
  have t14 := (t12.trans (Same.ts e23)).trans (Same.ts e4)
  have t24 := (Same.ts e23).trans (Same.ts e4)
  obtain ⟨z1, z2, z3⟩ := ren_sz (mvR [(.inr h.1, .inl 0)] 0 1) t
  show wL _ _ _ [some (.ref c.a), some (.ref ca), some tv, some (.ref c.p), some (.int (i : Int)), some (.str h.1), some sv, some ov, some bv, none] _
  -- behind the choice of a side
  have last : ∀ (H5 : Hp) (rw0 tv' : V) (mn : Sn) (d : Bool), Gf c H H5 → TS H1 H5 → StG H5 c b hs → HdV H5 rw0 (h.1, none, mn) → HdP (h.1, none, mn) → DV H5 (.pk (.inr h.1) d (ren (mvR [(.inr h.1, .inl 0)] 0 1) t)) tv' → wL (cxOf CX0 P w K mg base N_picked (Str.ofString "_law_picked") (defScope s_picked) f cdv A outer s H E).nox ((defBody s_picked).drop 7) { nx := fun _ H' => Q .non H', rt := Q } [some (.ref c.a), some (.ref ca), some tv', some (.ref c.p), some (.int (i : Int)), some (.str h.1), some sv, some ov, some bv, some rw0] H5 := by
    as_aux_lemma =>
      intro H5 rw0 tv' mn d g5 t15 s5 hrw hmn hdv
      have hca5 := t15 _ _ hca1
      have hth5 := t15 _ _ hth1
      have hspl : us = us.take i ++ us.drop i := (List.take_append_drop i us).symm
      have hspl2 : us = us.take (i + 1) ++ us.drop (i + 1) := (List.take_append_drop (i + 1) us).symm
      have li : (us.take i).length = i := by rw [List.length_take]; omega
      have li2 : (us.take (i + 1)).length = i + 1 := by rw [List.length_take]; omega
      refine l_cons (s_ret (e_tup (a_cons (e_tup (a_cons (e_bin (e_bin (e_tHi (e_ix (e_var (e_int (ix_t (by exact SqT.of hca5) at0 (e_var ?_)))))))))))))
      refine ⟨th, us.take i, us.drop i, rfl, by rw [li], by rw [← hspl]; exact hth5, fun q1 H6 e6 h6 => ?_⟩
      refine e_tup (a_cons (e_var (a_nil ⟨by show 1 ≤ sizeLine; decide, fun q2 H7 e7 n7 h7 => ?_⟩)))
      refine o_catA (e7 _ _ h6) h7 (by rw [li]; simp only [List.length_cons, List.length_nil]; omega) fun q3 H8 e8 h8 => ?_
      have e58 := (e6.trans e7).trans e8
      refine e_tLo (e_ix (e_var (e_int (ix_t (by exact SqT.of (e58 _ _ hca5)) at0 (e_bin (e_var (e_int (o_add ?_))))))))
      refine ⟨th, us.take (i + 1), us.drop (i + 1), rfl, by rw [li2]; show V.int ((i : Int) + 1) = _; congr 1, by rw [← hspl2]; exact e58 _ _ hth5, fun q4 H9 e9 h9 => ?_⟩
      refine o_catA (e9 _ _ h8) h9 (by simp only [List.length_append, List.length_take, List.length_drop, List.length_cons, List.length_nil]; omega) fun q5 H10 e10 h10 => ?_
      have e510 := (e58.trans e9).trans e10
      refine a_cons (e_ix (e_var (e_int (ix_t (by exact SqT.of (e510 _ _ hca5)) at1 (a_nil ⟨by show 2 ≤ sizeLine; decide, fun q6 H11 e11 n11 h11 => ?_⟩)))))
      refine a_cons (e_var (a_nil ⟨by show 2 ≤ sizeLine; decide, fun q7 H12 e12 n12 h12 => ?_⟩))
      have e512 := (e510.trans e11).trans e12
      have t512 := Same.ts e512
      have hus5 := (hus1.ts t15).ts t512
      refine q q7 (.ref q6) tv' (hds.take i ++ [(h.1, none, mn)] ++ hds.drop (i + 1)) _ H12 (g5.trans (Gf.same e512)) (s5.same e512) h12 ⟨q6, q5, sg, _, rfl, e12 _ _ h11, (e11.trans e12) _ _ h10, ((hus5.take i).cat (vs := [rw0]) (ks := [(h.1, none, mn)]) ⟨hrw.ts t512, trivial⟩).cat (hus5.drop (i + 1)), ((hsg.ts t01).ts t15).ts t512⟩ ?_ ?_ (hdv.ts t512) (z3 hok) (by simp only [dp]; omega) (by simp only [sz]; omega)
      · intro x hx
        rw [List.append_assoc] at hx
        rcases List.mem_append.mp hx with hx | hx
        · exact (hP x (List.mem_of_mem_take hx)).1
        · rcases List.mem_append.mp hx with hx | hx
          · rw [List.mem_singleton.mp hx]; exact hmn
          · exact (hP x (List.mem_of_mem_drop hx)).1
      · have hi2 : i < hds.length := by omega
        have e : hds = hds.take i ++ [h] ++ hds.drop (i + 1) := by
          have h1 := (List.take_append_drop (i + 1) hds).symm
          rw [List.take_succ, hh] at h1
          exact h1
        rw [List.map_append, List.map_append]
        conv => rhs; rw [e, List.map_append, List.map_append]
        rfl
  refine l_cons (s_if (t_cmp (e_call (by exact FN) (by exact hr) (by decide) (a_cons (e_var (a_cons (e_int (a_nil ?_))))))))
  refine ⟨c.p, 2, rfl, by decide, by decide, s4.pl, fun d5 H5 _ _ b5 p5 => e_int (o_eqI ⟨_, rfl, ?_⟩)⟩
  have s5 := s4.pool b5 p5
  have g45 : Gf c H4 H5 := Gf.pool b5
  have t45 := s4.tss g45
  have hsv5 := (hsv.ts t14).ts t45
  have hos5 := (hos.ts t24).ts t45
  have hbv5 := hbv.ts t45
  have hod2 : rws os ≤ 3 := by
    have h1 := rws_dep os
    have e1 : 2 ^ (dep os + 1) ≤ 2 ^ 2 := Nat.pow_le_pow_right (by decide) (by omega)
    omega
  refine if2 (fun _ => ?_) (fun _ => ?_)
  · refine l_cons (s_set (e_tup (a_cons (e_var (a_cons (e_str (a_cons (e_tup (a_cons (e_str (a_cons (e_var (a_cons (e_var (a_nil ?_)))))))))))))))
    refine ⟨by show 3 ≤ sizeLine; decide, fun q1 H6 e6 n6 h6 => a_nil ⟨by show 3 ≤ sizeLine; decide, fun q2 H7 e7 n7 h7 => ?_⟩⟩
    refine l_cons (s_set (e_tup (a_cons (e_str (a_cons (e_var (a_cons (e_str (a_cons (e_var (a_nil ⟨by show 4 ≤ sizeLine; decide, fun q3 H8 e8 n8 h8 => l_nil ?_⟩)))))))))))
    have e58 := (e6.trans e7).trans e8
    have t58 := Same.ts e58
    exact last H8 (.ref q2) (.ref q3) (.menu h.2.2 os) false ((g04.trans g45).trans (Gf.same e58)) ((t14.trans t45).trans t58) (s5.same e58) ⟨q2, .str "once", .ref q1, rfl, e8 _ _ h7, rfl, ⟨q1, sv, ov, rfl, (e7.trans e8) _ _ h6, hsv5.ts t58, hos5.ts t58⟩⟩ ⟨rfl, ⟨ho, hoo.ok⟩, by show max (dep h.2.2) (dep os) + 1 ≤ 45; omega, by show rws h.2.2 + rws os + 1 ≤ 410; omega⟩ ⟨q3, bv, rfl, h8, hbv5.ts t58⟩
  · refine l_cons (s_set (e_tup (a_cons (e_var (a_cons (e_str (a_cons (e_tup (a_cons (e_str (a_cons (e_var (a_cons (e_var (a_nil ?_)))))))))))))))
    refine ⟨by show 3 ≤ sizeLine; decide, fun q1 H6 e6 n6 h6 => a_nil ⟨by show 3 ≤ sizeLine; decide, fun q2 H7 e7 n7 h7 => ?_⟩⟩
    refine l_cons (s_set (e_tup (a_cons (e_str (a_cons (e_var (a_cons (e_str (a_cons (e_var (a_nil ⟨by show 4 ≤ sizeLine; decide, fun q3 H8 e8 n8 h8 => l_nil ?_⟩)))))))))))
    have e58 := (e6.trans e7).trans e8
    have t58 := Same.ts e58
    exact last H8 (.ref q2) (.ref q3) (.menu os h.2.2) true ((g04.trans g45).trans (Gf.same e58)) ((t14.trans t45).trans t58) (s5.same e58) ⟨q2, .str "once", .ref q1, rfl, e8 _ _ h7, rfl, ⟨q1, ov, sv, rfl, (e7.trans e8) _ _ h6, hos5.ts t58, hsv5.ts t58⟩⟩ ⟨rfl, ⟨hoo.ok, ho⟩, by show max (dep os) (dep h.2.2) + 1 ≤ 45; omega, by show rws os + rws h.2.2 + 1 ≤ 410; omega⟩ ⟨q3, bv, rfl, h8, hbv5.ts t58⟩
def spCase : Sp := fun vs H Q _ => ∃ c b, vs = [.ref c.a] ∧ StG H c b [] ∧ b ≤ 9 ∧
  ∀ a cv tv hds g t b' hs' H', Gf c H H' → StG H' c b' hs' → H' a = some (.tup [cv, tv]) → ClV H' cv hds g → (∀ h ∈ hds, HdP h) → (hds.map (·.1)).Nodup → hds.length ≤ 31 → SnOk g → dep g ≤ 3 → DV H' t tv → DOk t → dp t ≤ 46 → sz t ≤ 1000 → Q (.ref a) H'
theorem ok_case (T : Top K mg "_law_case" s_case) (FN : Fn P w K mg base 1 "_law_next" spNext) (FS : Fn P w K mg base 4 "_law_sentence" (spSent 2)) (FG : Fn P w K mg base 65 "_law_grown" spGrown) (FP : Fn P w K mg base 48 "_law_picked" spPicked) : Fn P w K mg base 66 "_law_case" spCase := by
  refine fn_ok T sc_case so_case (fun vs H Q E h => by obtain ⟨c, b, rfl, _⟩ := h; rfl) (fun _ _ _ _ _ _ us hl => match us, hl with | [_], _ => rfl) fun f cdv A outer s H vs Q E hr h nd => ?_
  obtain ⟨c, b, rfl, hst, hb9, q⟩ := h
  obtain ⟨kvs, k1, kp, _⟩ := hst.d
  refine l_cons (s_set (e_dg (by exact hr) (e_var (e_str ⟨c.a, .ref c.p, rfl, dg_k k1 kp, ?_⟩))))
  show wL _ _ _ [some (.ref c.a), some (.ref c.p), none, none, none] _
  refine l_cons (s_set (e_call (by exact FG) (by exact hr) (by decide) (a_cons (e_var (a_cons (e_call (by exact FS) (by exact hr) (by decide) (a_cons (e_var (a_cons (e_int (a_nil ?_)))))))))))
  refine ⟨c, b, [], 2, rfl, hst, Nat.le_refl _, fun gv g H1 b1 p1 hgv hgd hgo => a_nil ?_⟩
  have s1 := hst.pool b1 p1
  have g1 : Gf c H H1 := Gf.pool b1
  obtain ⟨gs, _, _, rfl, _⟩ := hgv.ref
  refine ⟨c, b, gs, g, rfl, s1, hb9, hgv, hgo, hgd, fun a cv tv hs t b' H2 g2 s2 ha hcl htv hok hsz hdp hl31 => ?_⟩
  have g02 := g1.trans g2
  show wL _ _ _ [some (.ref c.a), some (.ref c.p), some (.ref a), none, none] _
  refine l_cons (s_set (e_ix (e_var (e_int (ix_t (by exact SqT.of ha) at0 ?_)))))
  refine l_cons (s_set (e_ix (e_var (e_int (ix_t (by exact SqT.of ha) at1 ?_)))))
  show wL _ _ _ [some (.ref c.a), some (.ref c.p), some (.ref a), some cv, some tv] _
  have hrow : ∀ h ∈ clH hs, HdP h ∧ dep h.2.2 ≤ 44 ∧ rws h.2.2 ≤ 400 := fun h hh => by
    obtain ⟨x, hx, rfl⟩ := List.mem_map.mp hh
    obtain ⟨hv, _, hal⟩ := s2.hl
    have key : ∀ {l : List Hol} {us : List V}, Al (HoV H2) l us → x ∈ l → SnT x.2 ∧ dep x.2 ≤ 44 ∧ rws x.2 ≤ 400 := by
      as_aux_lemma =>
        intro l
        induction l with
        | nil => intro us _ hm; cases hm
        | cons y l ih =>
          rintro us ⟨v, us', rfl, h1, h2⟩ hm
          rcases List.mem_cons.mp hm with rfl | hm
          · obtain ⟨_, _, _, _, _, h4⟩ := h1; exact h4
          · exact ih h2 hm
    obtain ⟨k1, k2, k3⟩ := key hal hx
    exact ⟨⟨rfl, k1.ok, by show dep x.2 ≤ 45; omega, by show rws x.2 ≤ 410; omega⟩, k2, k3⟩
  have hnm : ((clH hs).map (·.1)).Nodup := by
    as_aux_lemma =>
      have := s2.nm.nd
      unfold clH
      rw [List.map_map]
      exact this
  have hlen : (clH hs).length = hs.length := by unfold clH; rw [List.length_map]
  -- behind the offer
  have last : ∀ (H5 : Hp) (cv5 tv5 : V) (g5 : Sn) (t5 : D), Gf c H H5 → StG H5 c b' hs → ClV H5 cv5 (clH hs) g5 → SnOk g5 → dep g5 ≤ 3 → DV H5 t5 tv5 → DOk t5 → dp t5 ≤ 45 → sz t5 ≤ 990 → wL (cxOf CX0 P w K mg base N_case (Str.ofString "_law_case") (defScope s_case) f cdv A outer s H E).nox ((defBody s_case).drop 5) { nx := fun _ H' => Q .non H', rt := Q } [some (.ref c.a), some (.ref c.p), some (.ref a), some cv5, some tv5] H5 := by
    as_aux_lemma =>
      intro H5 cv5 tv5 g5 t5 f5 s5 hcl5 ho5 hd5 ht5 hok5 hdp5 hsz5
      have hcl5' := hcl5
      obtain ⟨ca, th, sg, us, rfl, hca, hth, hus, hsg⟩ := hcl5
      have lus := hus.len
      -- the pair itself
      have plain : ∀ (H6 : Hp) (NX BK CT : L2.St → Hp → Prop), Gf c H5 H6 → StG H6 c b' hs → wL (cxOf CX0 P w K mg base N_case (Str.ofString "_law_case") (defScope s_case) f cdv A outer s H E).nox ((defBody s_case).drop 6) { nx := NX, rt := Q, bk := BK, ct := CT } [some (.ref c.a), some (.ref c.p), some (.ref a), some (.ref ca), some tv5] H6 := by
        as_aux_lemma =>
          intro H6 NX BK CT g6 s6
          have t56 := s5.tss g6
          refine l_cons (s_ret (e_tup (a_cons (e_var (a_cons (e_var (a_nil ⟨by show 2 ≤ sizeLine; decide, fun q1 H7 e7 n7 h7 => ?_⟩)))))))
          have t67 := Same.ts e7
          exact q q1 (.ref ca) tv5 (clH hs) g5 t5 b' hs H7 ((f5.trans g6).trans (Gf.same e7)) (s6.same e7) h7 ((hcl5'.ts t56).ts t67) (fun h hh => (hrow h hh).1) hnm (by omega) ho5 hd5 ((ht5.ts t56).ts t67) hok5 (by omega) (by omega)
      refine l_cons (s_if (t_w (w_and (t_tru (e_ix (e_var (e_int (ix_t (by exact SqT.of hca) at0 ⟨_, tru_t hth, ?_⟩))))))))
      cases us with
      | nil => exact iteF (iteF (l_nil (plain H5 _ _ _ (Gf.same (Same.refl _)) s5)))
      | cons u0 us =>
      refine iteT (w_and1 (t_cmp (e_call (by exact FN) (by exact hr) (by decide) (a_cons (e_var (a_cons (e_int (a_nil ?_))))))))
      refine ⟨c.p, 2, rfl, by decide, by decide, s5.pl, fun d6 H6 _ _ b6 p6 => e_int (o_eqI ⟨_, rfl, ?_⟩)⟩
      have s6 := s5.pool b6 p6
      have g56 : Gf c H5 H6 := Gf.pool b6
      refine if2 (fun _ => ?_) (fun _ => l_nil (plain H6 _ _ _ g56 s6))
      have t56 := s5.tss g56
      refine l_cons (s_ret (e_call (by exact FP) (by exact hr) (by decide) (a_cons (e_var (a_cons (e_var (a_cons (e_var (a_nil ?_)))))))))
      refine ⟨c, b', hs, .ref ca, tv5, clH hs, g5, t5, rfl, s6, hcl5'.ts t56, by simp only [List.length_cons] at lus; omega, by omega, hrow, ht5.ts t56, hok5, hdp5, fun a7 cv7 tv7 hds7 t7 H7 g7 s7 ha7 hcl7 hP7 hn7 ht7 hok7 hdp7 hsz7 => ?_⟩
      exact q a7 cv7 tv7 hds7 g5 t7 b' hs H7 ((f5.trans g56).trans g7) s7 ha7 hcl7 hP7 (by rw [hn7]; exact hnm) (by have := congrArg List.length hn7; rw [List.length_map, List.length_map] at this; omega) ho5 hd5 ht7 hok7 (by omega) (by omega)
  refine l_cons (s_if (t_cmp (e_call (by exact FN) (by exact hr) (by decide) (a_cons (e_var (a_cons (e_int (a_nil ?_))))))))
  refine ⟨c.p, 2, rfl, by decide, by decide, s2.pl, fun d3 H3 _ _ b3 p3 => e_int (o_eqI ⟨_, rfl, ?_⟩)⟩
  have s3 := s2.pool b3 p3
  have g23 : Gf c H2 H3 := Gf.pool b3
  have t23 := s2.tss g23
  have hcl3 := hcl.ts t23
  have htv3 := htv.ts t23
  refine if2 (fun _ => ?_) (fun _ => l_nil (last H3 cv tv g t (g02.trans g23) s3 hcl3 hgo.ok (by omega) htv3 hok (by omega) (by omega)))
  obtain ⟨ca, th, sg, us, rfl, hca, hth, hus, hsg⟩ := hcl3
  refine l_cons (s_set (e_tup (a_cons (e_str (a_cons (e_var (a_cons (e_tup (a_cons (e_str (a_cons (e_str (a_cons (e_ix (e_var (e_int (ix_t (by exact SqT.of hca) at1 (a_cons (e_var (a_cons (e_tup (a_cons (e_str (a_cons (e_int (a_nil ?_))))))))))))))))))))))))))
  refine ⟨by show 2 ≤ sizeLine; decide, fun q1 H4 e4 n4 h4 => a_nil ⟨by show 5 ≤ sizeLine; decide, fun q2 H5 e5 n5 h5 => a_nil ⟨by show 3 ≤ sizeLine; decide, fun q3 H6 e6 n6 h6 => ?_⟩⟩⟩
  have e36 := (e4.trans e5).trans e6
  show wL _ _ _ [some (.ref c.a), some (.ref c.p), some (.ref a), some (.ref ca), some (.ref q3)] _
  refine l_cons (s_set (e_tup (a_cons (e_ix (e_var (e_int (ix_t (by exact SqT.of (e36 _ _ hca)) at0 (a_cons (e_tup (a_cons (e_str (a_cons (e_ix (e_var (e_int (ix_t (by exact SqT.of (e36 _ _ hca)) at1 (a_cons (e_ix (e_var (e_int (ix_t (by exact SqT.of (e36 _ _ hca)) at1 (a_nil ?_))))))))))))))))))))))
  refine ⟨by show 3 ≤ sizeLine; decide, fun q4 H7 e7 n7 h7 => a_nil ⟨by show 2 ≤ sizeLine; decide, fun q5 H8 e8 n8 h8 => l_nil ?_⟩⟩
  have e68 := e7.trans e8
  have e38 := e36.trans e68
  have t38 := Same.ts e38
  have hsg8 := hsg.ts t38
  exact last H8 (.ref q5) (.ref q3) (.menu g g) (.ofr t (.ct g t (.own (.inl 0)))) ((g02.trans g23).trans (Gf.same e38)) (s3.same e38) ⟨q5, th, .ref q4, us, rfl, h8, e38 _ _ hth, hus.ts t38, ⟨q4, sg, sg, rfl, e8 _ _ h7, hsg8, hsg8⟩⟩ ⟨hgo.ok, hgo.ok⟩ (by show max (dep g) (dep g) + 1 ≤ 3; omega) ⟨q3, tv, .ref q2, rfl, e68 _ _ h6, htv3.ts t38, ⟨q2, sg, tv, .ref q1, rfl, (e6.trans e68) _ _ h5, hsg8, htv3.ts t38, ⟨q1, rfl, ((e5.trans e6).trans e68) _ _ h4⟩⟩⟩ ⟨hok, hgo, hgd, hok, trivial⟩ (by simp only [dp]; omega) (by simp only [sz]; omega)
end



/-! ### what a derivation shows is true in a world -/
def op (L : List (List Int)) (a b : Nat) : Nat := (gg L a b).toNat
/-- a commutative product with a unit -/
structure Wld (L : List (List Int)) : Prop where
  z : 0 < L.length
  lt : ∀ a b, a < L.length → b < L.length → op L a b < L.length
  un : ∀ a, a < L.length → op L 0 a = a
  cm : ∀ a b, a < L.length → b < L.length → op L a b = op L b a
  as : ∀ a b c, a < L.length → b < L.length → c < L.length → op L (op L a b) c = op L a (op L b c)
theorem wld_of {L : List (List Int)} (h1 : ShpP L) (h2 : UntP L) (h3 : OrdP L) (h4 : GrpP L) : Wld L := by
  have sq := sq_of h1
  have hz : 0 < L.length := List.length_pos_iff.mpr h1.1
  have lt : ∀ a b, a < L.length → b < L.length → op L a b < L.length := fun a b ha hb => by
    have := sq_in sq ha hb
    unfold op
    omega
  refine ⟨hz, lt, fun a ha => ?_, fun a b ha hb => ?_, fun a b c ha hb hc => ?_⟩
  · unfold op gg
    rw [show nr L 0 = _ from h2, List.getD_eq_getElem?_getD, List.getElem?_map, List.getElem?_range ha]
    rfl
  · unfold op
    rcases Nat.lt_trichotomy a b with h | h | h
    · rw [h3 b a hb h]
    · rw [h]
    · rw [h3 a b ha h]
  · have g := h4 a b ha hb
    have hlen := sq_row sq hb
    have e : gg L (gg L a b).toNat c = gg L a (gg L b c).toNat := by
      as_aux_lemma =>
        have hx : nr L (gg L a b).toNat = (nr L b).map fun c => gg L a c.toNat := g
        unfold gg at hx ⊢
        rw [hx, List.getD_eq_getElem?_getD, List.getElem?_map, List.getElem?_eq_getElem (by omega)]
        show gg L a _ = gg L a _
        rw [List.getD_eq_getElem?_getD, List.getElem?_eq_getElem (by omega)]
        rfl
    unfold op
    rw [e]
/-- the product of what refs stand for -/
def prod (L : List (List Int)) (σ : Key → Nat) : List Key → Nat
  | [] => 0
  | k :: l => op L (σ k) (prod L σ l)
section
variable {L : List (List Int)} {σ : Key → Nat}
theorem prod_lt (W : Wld L) : ∀ {l : List Key}, (∀ k ∈ l, σ k < L.length) → prod L σ l < L.length
  | [], _ => W.z
  | k :: l, h => W.lt _ _ (h k (List.mem_cons_self ..)) (prod_lt W fun x hx => h x (List.mem_cons_of_mem _ hx))
theorem op_lc (W : Wld L) {a b c : Nat} (ha : a < L.length) (hb : b < L.length) (hc : c < L.length) : op L a (op L b c) = op L b (op L a c) := by
  rw [← W.as a b c ha hb hc, W.cm a b ha hb, W.as b a c hb ha hc]
theorem prod_app (W : Wld L) : ∀ {l m : List Key}, (∀ k ∈ l, σ k < L.length) → (∀ k ∈ m, σ k < L.length) → prod L σ (l ++ m) = op L (prod L σ l) (prod L σ m)
  | [], m, _, h => (W.un _ (prod_lt W h)).symm
  | k :: l, m, h, g => by
    have hk := h k (List.mem_cons_self ..)
    have hl : ∀ x ∈ l, σ x < L.length := fun x hx => h x (List.mem_cons_of_mem _ hx)
    show op L (σ k) (prod L σ (l ++ m)) = op L (op L (σ k) (prod L σ l)) (prod L σ m)
    rw [prod_app W hl g, W.as _ _ _ hk (prod_lt W hl) (prod_lt W g)]
theorem prod_perm (W : Wld L) {l m : List Key} (p : l.Perm m) : (∀ k ∈ l, σ k < L.length) → prod L σ l = prod L σ m := by
  induction p with
  | nil => intro _; rfl
  | cons x p ih => intro h; show op L _ _ = op L _ _; rw [ih fun k hk => h k (List.mem_cons_of_mem _ hk)]
  | swap x y l =>
    intro h
    have hx : σ x < L.length := h x (by simp)
    have hy : σ y < L.length := h y (by simp)
    exact op_lc W hy hx (prod_lt W fun k hk => h k (by simp [hk]))
  | trans p q ih1 ih2 => intro h; rw [ih1 h, ih2 fun k hk => h k (p.mem_iff.mpr hk)]
theorem prod_cong {τ : Key → Nat} : ∀ {l : List Key}, (∀ k ∈ l, σ k = τ k) → prod L σ l = prod L τ l
  | [], _ => rfl
  | k :: l, h => by show op L _ _ = op L _ _; rw [h k (List.mem_cons_self ..), prod_cong fun x hx => h x (List.mem_cons_of_mem _ hx)]
end
/-- how often a ref stands in a list -/
def cnt (k : Key) : List Key → Nat
  | [] => 0
  | x :: l => (if x = k then 1 else 0) + cnt k l
theorem cnt_app (k : Key) : ∀ l m : List Key, cnt k (l ++ m) = cnt k l + cnt k m
  | [], m => by simp [cnt]
  | x :: l, m => by show _ + cnt k (l ++ m) = (_ + cnt k l) + cnt k m; rw [cnt_app k l m]; omega
def rmv (k : Key) (l : List Key) : List Key := l.filter fun x => !decide (x = k)
theorem cnt_rmv (k j : Key) : ∀ l : List Key, cnt k (rmv j l) = if k = j then 0 else cnt k l
  | [] => by simp [rmv, cnt]
  | x :: l => by
    have ih := cnt_rmv k j l
    unfold rmv at ih ⊢
    by_cases h : x = j
    · rw [List.filter_cons_of_neg (by simp [h]), ih]
      by_cases hk : k = j
      · rw [if_pos hk, if_pos hk]
      · rw [if_neg hk, if_neg hk]
        show _ = (if x = k then 1 else 0) + cnt k l
        rw [if_neg (fun z => hk (by rw [← z, h])), Nat.zero_add]
    · rw [List.filter_cons_of_pos (by simp [h])]
      show (if x = k then 1 else 0) + cnt k (List.filter _ l) = _
      rw [ih]
      by_cases hk : k = j
      · rw [if_pos hk, if_pos hk, if_neg (fun z => h (by rw [z, hk]))]
      · rw [if_neg hk, if_neg hk]; rfl
theorem cnt_zero {k : Key} : ∀ {l : List Key}, cnt k l = 0 ↔ k ∉ l
  | [] => by simp [cnt]
  | x :: l => by
    simp only [cnt, List.mem_cons, not_or]
    by_cases h : x = k
    · simp [h]
    · rw [if_neg h, Nat.zero_add, cnt_zero (l := l)]
      exact ⟨fun g => ⟨fun z => h z.symm, g⟩, fun g => g.2⟩
theorem rmv_none {k : Key} {l : List Key} (h : k ∉ l) : rmv k l = l := by
  unfold rmv
  rw [List.filter_eq_self]
  intro x hx
  rw [decide_eq_false fun z => h (by rw [← z]; exact hx)]
  rfl
theorem perm_out {k : Key} : ∀ {l : List Key}, cnt k l = 1 → l.Perm (k :: rmv k l)
  | [], h => by cases h
  | x :: l, h => by
    by_cases e : x = k
    · subst e
      have h0 : cnt x l = 0 := by simp only [cnt, if_true] at h; omega
      have : rmv x (x :: l) = l := by
        have := rmv_none (cnt_zero.mp h0)
        unfold rmv at this ⊢
        rw [List.filter_cons_of_neg (by simp), this]
      rw [this]
    · have h1 : cnt k l = 1 := by simp only [cnt, if_neg e] at h; omega
      have : rmv k (x :: l) = x :: rmv k l := by unfold rmv; rw [List.filter_cons_of_pos (by simp [e])]
      rw [this]
      exact (List.Perm.cons x (perm_out h1)).trans (List.Perm.swap k x _)
theorem perm_cnt : ∀ {l m : List Key}, (∀ k, cnt k l = cnt k m) → l.Perm m
  | [], m, h => by
    cases m with
    | nil => exact .nil
    | cons x m => have := h x; simp only [cnt, if_true] at this; omega
  | x :: l, m, h => by
    have hx := h x
    have hm : x ∈ m := by
      have : cnt x m ≠ 0 := by rw [← hx]; simp [cnt]
      exact Classical.byContradiction fun z => this (cnt_zero.mpr z)
    obtain ⟨a, b, rfl⟩ := List.append_of_mem hm
    have ih : l.Perm (a ++ b) := perm_cnt fun k => by
      have := h k
      rw [cnt_app] at this ⊢
      simp only [cnt] at this
      omega
    exact (List.Perm.cons x ih).trans List.perm_middle.symm
/-- the refs that are used, the left side of an offer -/
def us : D → Int → List Key
  | .own r, _ => [r]
  | .take a, l => rmv (.inl l) (us a (l + 1))
  | .ofr a _, l => us a l
  | .pk r _ a, l => r :: rmv (.inl l) (us a (l + 1))
  | .py r p b, l => r :: (us p l ++ rmv (.inl l) (us b (l + 1)))
  | .ct _ p b, l => us p l ++ rmv (.inl l) (us b (l + 1))
theorem gone_l (l : Int) (k : Key) : gone (some l) k = decide (k = .inl l) := by
  unfold gone
  cases k with
  | inl i =>
    by_cases h : i = l
    · rw [h]; exact (decide_eq_true rfl).trans (decide_eq_true rfl).symm
    · rw [decide_eq_false (fun z => h (by have z : V.int i = V.int l := z; cases z; rfl)), decide_eq_false (fun z => h (Sum.inl.inj z))]
  | inr z => rw [decide_eq_false (fun z => by cases z), decide_eq_false (fun z => by cases z)]
theorem bxG_l (l : Int) (F : Key → C3) (k : Key) : bxG (some l) none F k = if k = .inl l then z3 else F k := by
  unfold bxG
  rw [gone_l]
  by_cases h : k = .inl l
  · rw [if_pos h, decide_eq_true h, if_pos rfl]
  · rw [if_neg h, decide_eq_false h, if_neg (by decide)]; rfl
theorem bxG_n (F : Key → C3) (k : Key) : bxG none none F k = F k := by
  unfold bxG
  rw [gone_no, if_neg (by decide)]; rfl
def Lo (x : C3) : Prop := 0 ≤ x.1 ∧ x.1 ≤ x.2.1
theorem lo_dl (r k : Key) : Lo (dl r k) := by unfold dl Lo; split <;> simp [o3, z3]
theorem lo_z3 : Lo z3 := by simp [Lo, z3]
theorem lo_ad {x y : C3} (h : Lo x) (g : Lo y) : Lo (ad x y) := by unfold Lo at *; simp only [ad]; omega
theorem lo_ei {x y : C3} (h : Lo x) (g : Lo y) : Lo (ei x y) := by unfold Lo at *; simp only [ei]; omega
theorem lo_bl {F : Key → C3} {l : Int} {k : Key} (h : Lo (F k)) : Lo (bxG (some l) none F k) := by
  rw [bxG_l]
  split
  · exact lo_z3
  · exact h
theorem lo_cL : ∀ (t : D) (l : Int) (k : Key), Lo (cL t l k)
  | .own r, _, k => lo_dl r k
  | .take a, l, k => lo_bl (lo_cL a (l + 1) k)
  | .ofr a b, l, k => lo_ei (lo_cL a l k) (lo_cL b l k)
  | .pk r _ a, l, k => lo_ad (lo_bl (lo_cL a (l + 1) k)) (lo_dl r k)
  | .py r p b, l, k => lo_ad (lo_ad (lo_bl (lo_cL b (l + 1) k)) (by rw [bxG_n]; exact lo_cL p l k)) (lo_dl r k)
  | .ct _ p b, l, k => lo_ad (lo_bl (lo_cL b (l + 1) k)) (by rw [bxG_n]; exact lo_cL p l k)
/-- used as often at most as at least -/
def Exa (x : C3) : Prop := x.1 = x.2.1
theorem rmO_ex {x : C3} (h : rmO x = true) : x.1 = 1 ∧ x.2.1 = 1 := by
  unfold rmO at h
  rw [Bool.and_eq_true] at h
  exact ⟨of_decide_eq_true h.1, of_decide_eq_true h.2⟩
theorem ex_ad {x y : C3} (h : Lo x) (g : Lo y) (e : Exa (ad x y)) : Exa x ∧ Exa y := by
  unfold Lo Exa at *
  simp only [ad] at e
  omega
theorem ex_ei {x y : C3} (h : Lo x) (g : Lo y) (e : Exa (ei x y)) : Exa x ∧ Exa y ∧ x.1 = y.1 := by
  unfold Lo Exa at *
  simp only [ei] at e
  omega
theorem ex_bl {F : Key → C3} {l : Int} (h : rmO (F (.inl l)) = true) (e : ∀ k, Exa (bxG (some l) none F k)) : ∀ k, Exa (F k) := fun k => by
  by_cases hk : k = .inl l
  · subst hk
    obtain ⟨h1, h2⟩ := rmO_ex h
    unfold Exa
    rw [h1, h2]
  · have := e k
    rwa [bxG_l, if_neg hk] at this
/-- the counts are those of the list -/
theorem us_cnt : ∀ {t : D} {G : Key → Option Sn} {g : Sn} {l : Int}, rt t G g l = true → (∀ k, Exa (cL t l k)) → ∀ k, ((cnt k (us t l) : Nat) : Int) = (cL t l k).1
  | .own r, G, g, l, _, _, k => by
    show ((cnt k [r] : Nat) : Int) = (dl r k).1
    simp only [cnt, dl]
    split <;> simp [o3, z3]
  | .take a, G, g, l, h, e, k => by
    cases g with
    | trade _ x y =>
      have h : (rt a (upG G l x) y (l + 1) && rmO (cL a (l + 1) (.inl l))) = true := h
      rw [Bool.and_eq_true] at h
      have ih := us_cnt h.1 (ex_bl h.2 e) k
      show ((cnt k (rmv (.inl l) (us a (l + 1))) : Nat) : Int) = (bxG (some l) none (cL a (l + 1)) k).1
      rw [cnt_rmv, bxG_l]
      split
      · rfl
      · exact ih
    | word _ => cases h
    | menu _ _ => cases h
  | .ofr a b, G, g, l, h, e, k => by
    cases g with
    | menu x y =>
      have h : (rt a G x l && rt b G y l) = true := h
      rw [Bool.and_eq_true] at h
      have e' : ∀ k, Exa (ei (cL a l k) (cL b l k)) := e
      have ih := us_cnt h.1 (fun k => (ex_ei (lo_cL a l k) (lo_cL b l k) (e' k)).1) k
      obtain ⟨_, _, h3⟩ := ex_ei (lo_cL a l k) (lo_cL b l k) (e' k)
      show ((cnt k (us a l) : Nat) : Int) = min _ _
      omega
    | word _ => cases h
    | trade _ _ _ => cases h
  | .pk r d a, G, g, l, h, e, k => by
    have h' : (match G r with | some (.menu x y) => rt a (upG G l (if d then y else x)) g (l + 1) && rmO (cL a (l + 1) (.inl l)) | _ => false) = true := h
    split at h'
    · rename_i x y hG
      rw [Bool.and_eq_true] at h'
      have e' : ∀ k, Exa (ad (bxG (some l) none (cL a (l + 1)) k) (dl r k)) := e
      have ih := us_cnt h'.1 (ex_bl h'.2 fun k => (ex_ad (lo_bl (lo_cL a (l + 1) k)) (lo_dl r k) (e' k)).1) k
      show (((if r = k then 1 else 0) + cnt k (rmv (.inl l) (us a (l + 1))) : Nat) : Int) = (bxG (some l) none (cL a (l + 1)) k).1 + (dl r k).1
      rw [cnt_rmv, bxG_l]
      unfold dl
      split <;> split <;> simp [o3, z3] <;> omega
    · cases h'
  | .py r p b, G, g, l, h, e, k => by
    have h' : (match G r with | some (.trade _ x y) => rt p G x l && (rt b (upG G l y) g (l + 1) && rmO (cL b (l + 1) (.inl l))) | _ => false) = true := h
    split at h'
    · rename_i x y hG
      rw [Bool.and_eq_true, Bool.and_eq_true] at h'
      obtain ⟨h1, h2, h3⟩ := h'
      have e' : ∀ k, Exa (ad (ad (bxG (some l) none (cL b (l + 1)) k) (bxG none none (cL p l) k)) (dl r k)) := e
      have e2 := fun k => (ex_ad (lo_ad (lo_bl (lo_cL b (l + 1) k)) (by rw [bxG_n]; exact lo_cL p l k)) (lo_dl r k) (e' k)).1
      have e3 := fun k => ex_ad (lo_bl (lo_cL b (l + 1) k)) (by rw [bxG_n]; exact lo_cL p l k) (e2 k)
      have ih1 := us_cnt h1 (fun k => by have := (e3 k).2; rwa [bxG_n] at this) k
      have ih2 := us_cnt h2 (ex_bl h3 fun k => (e3 k).1) k
      show (((if r = k then 1 else 0) + cnt k (us p l ++ rmv (.inl l) (us b (l + 1))) : Nat) : Int) = (bxG (some l) none (cL b (l + 1)) k).1 + (bxG none none (cL p l) k).1 + (dl r k).1
      rw [cnt_app, cnt_rmv, bxG_l, bxG_n]
      unfold dl
      split <;> split <;> simp [o3, z3] <;> omega
    · cases h'
  | .ct s p b, G, g, l, h, e, k => by
    have h' : (rt p G s l && (rt b (upG G l s) g (l + 1) && rmO (cL b (l + 1) (.inl l)))) = true := h
    rw [Bool.and_eq_true, Bool.and_eq_true] at h'
    obtain ⟨h1, h2, h3⟩ := h'
    have e' : ∀ k, Exa (ad (bxG (some l) none (cL b (l + 1)) k) (bxG none none (cL p l) k)) := e
    have e3 := fun k => ex_ad (lo_bl (lo_cL b (l + 1) k)) (by rw [bxG_n]; exact lo_cL p l k) (e' k)
    have ih1 := us_cnt h1 (fun k => by have := (e3 k).2; rwa [bxG_n] at this) k
    have ih2 := us_cnt h2 (ex_bl h3 fun k => (e3 k).1) k
    show ((cnt k (us p l ++ rmv (.inl l) (us b (l + 1))) : Nat) : Int) = (bxG (some l) none (cL b (l + 1)) k).1 + (bxG none none (cL p l) k).1
    rw [cnt_app, cnt_rmv, bxG_l, bxG_n]
    split <;> simp [z3] <;> omega
/-- what is not in the scope is not used -/
theorem us_out : ∀ {t : D} {G : Key → Option Sn} {g : Sn} {l : Int} {k : Key}, rt t G g l = true → G k = none → (cL t l k).2.1 = 0
  | .own r, G, g, l, k, h, hk => by
    have h' : (match G r with | some s => decide (s = g) | none => false) = true := h
    have hr : r ≠ k := fun z => by rw [z, hk] at h'; cases h'
    show (dl r k).2.1 = 0
    unfold dl
    rw [if_neg hr]; rfl
  | .take a, G, g, l, k, h, hk => by
    cases g with
    | trade _ x y =>
      have h : (rt a (upG G l x) y (l + 1) && rmO (cL a (l + 1) (.inl l))) = true := h
      rw [Bool.and_eq_true] at h
      show (bxG (some l) none (cL a (l + 1)) k).2.1 = 0
      rw [bxG_l]
      split
      · rfl
      · rename_i hn
        exact us_out h.1 (by unfold upG; rw [if_neg hn]; exact hk)
    | word _ => cases h
    | menu _ _ => cases h
  | .ofr a b, G, g, l, k, h, hk => by
    cases g with
    | menu x y =>
      have h : (rt a G x l && rt b G y l) = true := h
      rw [Bool.and_eq_true] at h
      have h1 := us_out h.1 hk
      have h2 := us_out h.2 hk
      show max (cL a l k).2.1 (cL b l k).2.1 = 0
      rw [h1, h2]; rfl
    | word _ => cases h
    | trade _ _ _ => cases h
  | .pk r d a, G, g, l, k, h, hk => by
    have h' : (match G r with | some (.menu x y) => rt a (upG G l (if d then y else x)) g (l + 1) && rmO (cL a (l + 1) (.inl l)) | _ => false) = true := h
    have hr : r ≠ k := fun z => by rw [z, hk] at h'; cases h'
    split at h'
    · rw [Bool.and_eq_true] at h'
      show (bxG (some l) none (cL a (l + 1)) k).2.1 + (dl r k).2.1 = 0
      rw [bxG_l]
      unfold dl
      rw [if_neg hr]
      split
      · rfl
      · rename_i hn
        rw [us_out h'.1 (by unfold upG; rw [if_neg hn]; exact hk)]; rfl
    · cases h'
  | .py r p b, G, g, l, k, h, hk => by
    have h' : (match G r with | some (.trade _ x y) => rt p G x l && (rt b (upG G l y) g (l + 1) && rmO (cL b (l + 1) (.inl l))) | _ => false) = true := h
    have hr : r ≠ k := fun z => by rw [z, hk] at h'; cases h'
    split at h'
    · rw [Bool.and_eq_true, Bool.and_eq_true] at h'
      obtain ⟨h1, h2, h3⟩ := h'
      show (bxG (some l) none (cL b (l + 1)) k).2.1 + (bxG none none (cL p l) k).2.1 + (dl r k).2.1 = 0
      rw [bxG_l, bxG_n, us_out h1 hk]
      unfold dl
      rw [if_neg hr]
      split
      · rfl
      · rename_i hn
        rw [us_out h2 (by unfold upG; rw [if_neg hn]; exact hk)]; rfl
    · cases h'
  | .ct s p b, G, g, l, k, h, hk => by
    have h' : (rt p G s l && (rt b (upG G l s) g (l + 1) && rmO (cL b (l + 1) (.inl l)))) = true := h
    rw [Bool.and_eq_true, Bool.and_eq_true] at h'
    obtain ⟨h1, h2, h3⟩ := h'
    show (bxG (some l) none (cL b (l + 1)) k).2.1 + (bxG none none (cL p l) k).2.1 = 0
    rw [bxG_l, bxG_n, us_out h1 hk]
    split
    · rfl
    · rename_i hn
      rw [us_out h2 (by unfold upG; rw [if_neg hn]; exact hk)]; rfl
theorem us_in {t : D} {G : Key → Option Sn} {g : Sn} {l : Int} {k : Key} (h : rt t G g l = true) (e : ∀ k, Exa (cL t l k)) (hk : k ∈ us t l) : ∃ s, G k = some s := by
  cases hG : G k with
  | some s => exact ⟨s, rfl⟩
  | none =>
    exfalso
    have h1 := us_out h hG
    have h2 := us_cnt h e k
    have h3 := lo_cL t l k
    have h4 : cnt k (us t l) ≠ 0 := fun z => cnt_zero.mp z hk
    unfold Lo at h3
    omega
def upN (σ : Key → Nat) (l : Int) (u : Nat) : Key → Nat := fun k => if k = .inl l then u else σ k
theorem rmv_mem {k j : Key} {l : List Key} : k ∈ rmv j l ↔ k ∈ l ∧ k ≠ j := by
  unfold rmv
  rw [List.mem_filter]
  exact and_congr Iff.rfl ⟨fun h z => (by rw [decide_eq_true z] at h; cases h), fun h => (by rw [decide_eq_false h]; rfl)⟩
theorem bnd {L : List (List Int)} (W : Wld L) {m : List Key} {l : Int} {σ : Key → Nat} {u : Nat} (hc : cnt (.inl l) m = 1) (hlt : ∀ k ∈ m, upN σ l u k < L.length) : prod L (upN σ l u) m = op L u (prod L σ (rmv (.inl l) m)) ∧ ∀ k ∈ rmv (.inl l) m, σ k < L.length := by
  have hs : ∀ k ∈ rmv (.inl l) m, upN σ l u k = σ k := fun k hk => by unfold upN; rw [if_neg (rmv_mem.mp hk).2]
  refine ⟨?_, fun k hk => by rw [← hs k hk]; exact hlt k (rmv_mem.mp hk).1⟩
  rw [prod_perm W (perm_out hc) hlt]
  show op L (upN σ l u (.inl l)) _ = _
  rw [prod_cong hs]
  unfold upN
  rw [if_pos rfl]
theorem trb_tr {L : List (List Int)} {F : FcT} {m : Option (Int × Int)} {x y : Sn} {e : Nat} : trb L F (.trade m x y) e = true ↔ ∀ v, v < L.length → trb L F x v = true → trb L F y (op L e v) = true := by
  simp only [trb, List.all_eq_true, List.mem_range, Bool.or_eq_true, Bool.not_eq_true']
  exact ⟨fun h v hv hx => (h v hv).elim (fun z => by rw [hx] at z; cases z) id, fun h v hv => by
    cases hx : trb L F x v with
    | false => exact .inl rfl
    | true => exact .inr (h v hv hx)⟩
theorem env_up {L : List (List Int)} {F : FcT} {G : Key → Option Sn} {σ : Key → Nat} {l : Int} {x : Sn} {u : Nat} (hE : ∀ k s, G k = some s → σ k < L.length ∧ trb L F s (σ k) = true) (hu : u < L.length) (hx : trb L F x u = true) : ∀ k s, upG G l x k = some s → upN σ l u k < L.length ∧ trb L F s (upN σ l u k) = true := fun k s h => by
  unfold upG at h
  unfold upN
  by_cases hk : k = .inl l
  · rw [if_pos hk] at h ⊢
    cases h
    exact ⟨hu, hx⟩
  · rw [if_neg hk] at h ⊢
    exact hE k s h
theorem one_cnt {a : D} {G : Key → Option Sn} {g : Sn} {l : Int} (h : rt a G g (l + 1) = true) (hr : rmO (cL a (l + 1) (.inl l)) = true) (e : ∀ k, Exa (cL a (l + 1) k)) : cnt (.inl l) (us a (l + 1)) = 1 := by
  have h1 := us_cnt h e (.inl l)
  have h2 := (rmO_ex hr).1
  omega
theorem sound {L : List (List Int)} {F : FcT} (W : Wld L) : ∀ {t : D} {G : Key → Option Sn} {g : Sn} {l : Int} {σ : Key → Nat}, rt t G g l = true → (∀ k, Exa (cL t l k)) → (∀ k s, G k = some s → σ k < L.length ∧ trb L F s (σ k) = true) → (∀ k ∈ us t l, σ k < L.length) ∧ trb L F g (prod L σ (us t l)) = true
  | .own r, G, g, l, σ, h, e, hE => by
    have h' : (match G r with | some s => decide (s = g) | none => false) = true := h
    split at h'
    · rename_i s hG
      obtain ⟨h1, h2⟩ := hE r s hG
      have hs : s = g := of_decide_eq_true h'
      refine ⟨fun k hk => by rw [List.mem_singleton.mp hk]; exact h1, ?_⟩
      show trb L F g (op L (σ r) 0) = true
      rw [W.cm _ _ h1 W.z, W.un _ h1, ← hs]
      exact h2
    · cases h'
  | .take a, G, g, l, σ, h, e, hE => by
    have hin : ∀ k ∈ us (.take a) l, σ k < L.length := fun k hk => let ⟨s, hs⟩ := us_in h e hk; (hE k s hs).1
    refine ⟨hin, ?_⟩
    cases g with
    | trade m x y =>
      have h : (rt a (upG G l x) y (l + 1) && rmO (cL a (l + 1) (.inl l))) = true := h
      rw [Bool.and_eq_true] at h
      have e1 := ex_bl h.2 e
      refine trb_tr.mpr fun v hv hx => ?_
      obtain ⟨i1, i2⟩ := sound (σ := upN σ l v) W h.1 e1 (env_up hE hv hx)
      obtain ⟨b1, b2⟩ := bnd W (one_cnt h.1 h.2 e1) i1
      rw [b1] at i2
      show trb L F y (op L (prod L σ (rmv (.inl l) (us a (l + 1)))) v) = true
      rw [W.cm _ _ (prod_lt W b2) hv]
      exact i2
    | word _ => cases h
    | menu _ _ => cases h
  | .ofr a b, G, g, l, σ, h, e, hE => by
    cases g with
    | menu x y =>
      have h : (rt a G x l && rt b G y l) = true := h
      rw [Bool.and_eq_true] at h
      have e' : ∀ k, Exa (ei (cL a l k) (cL b l k)) := e
      have ee := fun k => ex_ei (lo_cL a l k) (lo_cL b l k) (e' k)
      obtain ⟨i1, i2⟩ := sound W h.1 (fun k => (ee k).1) hE
      obtain ⟨j1, j2⟩ := sound W h.2 (fun k => (ee k).2.1) hE
      have hp : (us b l).Perm (us a l) := perm_cnt fun k => by
        have h1 := us_cnt h.1 (fun k => (ee k).1) k
        have h2 := us_cnt h.2 (fun k => (ee k).2.1) k
        have h3 := (ee k).2.2
        omega
      rw [prod_perm W hp j1] at j2
      refine ⟨i1, ?_⟩
      show (trb L F x _ && trb L F y _) = true
      rw [Bool.and_eq_true]
      exact ⟨i2, j2⟩
    | word _ => cases h
    | trade _ _ _ => cases h
  | .pk r d a, G, g, l, σ, h, e, hE => by
    have hin : ∀ k ∈ us (.pk r d a) l, σ k < L.length := fun k hk => let ⟨s, hs⟩ := us_in h e hk; (hE k s hs).1
    refine ⟨hin, ?_⟩
    have h' : (match G r with | some (.menu x y) => rt a (upG G l (if d then y else x)) g (l + 1) && rmO (cL a (l + 1) (.inl l)) | _ => false) = true := h
    split at h'
    · rename_i x y hG
      rw [Bool.and_eq_true] at h'
      have e' : ∀ k, Exa (ad (bxG (some l) none (cL a (l + 1)) k) (dl r k)) := e
      have e1 := ex_bl h'.2 fun k => (ex_ad (lo_bl (lo_cL a (l + 1) k)) (lo_dl r k) (e' k)).1
      obtain ⟨h1, h2⟩ := hE r _ hG
      have h2 : (trb L F x (σ r) && trb L F y (σ r)) = true := h2
      rw [Bool.and_eq_true] at h2
      obtain ⟨i1, i2⟩ := sound (σ := upN σ l (σ r)) W h'.1 e1 (env_up hE h1 (by cases d; exact h2.1; exact h2.2))
      obtain ⟨b1, b2⟩ := bnd W (one_cnt h'.1 h'.2 e1) i1
      rw [b1] at i2
      exact i2
    · cases h'
  | .py r p b, G, g, l, σ, h, e, hE => by
    have hin : ∀ k ∈ us (.py r p b) l, σ k < L.length := fun k hk => let ⟨s, hs⟩ := us_in h e hk; (hE k s hs).1
    refine ⟨hin, ?_⟩
    have h' : (match G r with | some (.trade _ x y) => rt p G x l && (rt b (upG G l y) g (l + 1) && rmO (cL b (l + 1) (.inl l))) | _ => false) = true := h
    split at h'
    · rename_i m x y hG
      rw [Bool.and_eq_true, Bool.and_eq_true] at h'
      obtain ⟨h1, h2, h3⟩ := h'
      have e' : ∀ k, Exa (ad (ad (bxG (some l) none (cL b (l + 1)) k) (bxG none none (cL p l) k)) (dl r k)) := e
      have e2 := fun k => (ex_ad (lo_ad (lo_bl (lo_cL b (l + 1) k)) (by rw [bxG_n]; exact lo_cL p l k)) (lo_dl r k) (e' k)).1
      have e3 := fun k => ex_ad (lo_bl (lo_cL b (l + 1) k)) (by rw [bxG_n]; exact lo_cL p l k) (e2 k)
      have ep : ∀ k, Exa (cL p l k) := fun k => by have := (e3 k).2; rwa [bxG_n] at this
      have eb := ex_bl h3 fun k => (e3 k).1
      obtain ⟨i1, i2⟩ := sound W h1 ep hE
      obtain ⟨hr, ht⟩ := hE r _ hG
      have hpl := prod_lt W i1
      have hu := trb_tr.mp ht _ hpl i2
      have hul := W.lt _ _ hr hpl
      obtain ⟨j1, j2⟩ := sound (σ := upN σ l (op L (σ r) (prod L σ (us p l)))) W h2 eb (env_up hE hul hu)
      obtain ⟨b1, b2⟩ := bnd W (one_cnt h2 h3 eb) j1
      rw [b1] at j2
      show trb L F g (op L (σ r) (prod L σ (us p l ++ rmv (.inl l) (us b (l + 1))))) = true
      rw [prod_app W i1 b2, ← W.as _ _ _ hr hpl (prod_lt W b2)]
      exact j2
    · cases h'
  | .ct s p b, G, g, l, σ, h, e, hE => by
    have hin : ∀ k ∈ us (.ct s p b) l, σ k < L.length := fun k hk => let ⟨s, hs⟩ := us_in h e hk; (hE k s hs).1
    refine ⟨hin, ?_⟩
    have h' : (rt p G s l && (rt b (upG G l s) g (l + 1) && rmO (cL b (l + 1) (.inl l)))) = true := h
    rw [Bool.and_eq_true, Bool.and_eq_true] at h'
    obtain ⟨h1, h2, h3⟩ := h'
    have e' : ∀ k, Exa (ad (bxG (some l) none (cL b (l + 1)) k) (bxG none none (cL p l) k)) := e
    have e3 := fun k => ex_ad (lo_bl (lo_cL b (l + 1) k)) (by rw [bxG_n]; exact lo_cL p l k) (e' k)
    have ep : ∀ k, Exa (cL p l k) := fun k => by have := (e3 k).2; rwa [bxG_n] at this
    have eb := ex_bl h3 fun k => (e3 k).1
    obtain ⟨i1, i2⟩ := sound W h1 ep hE
    have hpl := prod_lt W i1
    obtain ⟨j1, j2⟩ := sound (σ := upN σ l (prod L σ (us p l))) W h2 eb (env_up hE hpl i2)
    obtain ⟨b1, b2⟩ := bnd W (one_cnt h2 h3 eb) j1
    rw [b1] at j2
    show trb L F g (prod L σ (us p l ++ rmv (.inl l) (us b (l + 1)))) = true
    rw [prod_app W i1 b2]
    exact j2
/-! ### a claim in a world -/
/-- where a hold's name is told its place -/
def plc : List (Hd × Int) → Key → Nat
  | [], _ => 0
  | x :: l, k => if k = .inr x.1.1 then x.2.toNat else plc l k
theorem clG_gen : ∀ {l : List Hd} {G0 : Key → Option Sn} {k : Key} {s : Sn}, l.foldl (fun G x => upS G x.1 x.2.2) G0 k = some s → (∃ x ∈ l, k = .inr x.1 ∧ s = x.2.2) ∨ G0 k = some s
  | [], _, _, _, h => .inr h
  | x :: l, G0, k, s, h => by
    rcases clG_gen (l := l) h with ⟨y, hy, e⟩ | h2
    · exact .inl ⟨y, List.mem_cons_of_mem _ hy, e⟩
    · have h2 : upS G0 x.1 x.2.2 k = some s := h2
      unfold upS at h2
      by_cases hk : k = .inr x.1
      · rw [if_pos hk] at h2
        cases h2
        exact .inl ⟨x, List.mem_cons_self .., hk, rfl⟩
      · rw [if_neg hk] at h2
        exact .inr h2
theorem clG_some {l : List Hd} {k : Key} {s : Sn} (h : clG l k = some s) : ∃ x ∈ l, k = .inr x.1 ∧ s = x.2.2 := by
  rcases clG_gen h with h | h
  · exact h
  · cases h
theorem clG_none {l : List Hd} {k : Key} (h : ∀ x ∈ l, k ≠ .inr x.1) : clG l k = none := by
  cases hc : clG l k with
  | none => rfl
  | some s =>
    obtain ⟨x, hx, e, _⟩ := clG_some hc
    exact absurd e (h x hx)
theorem plc_at : ∀ {l : List (Hd × Int)}, (l.map fun x => x.1.1).Nodup → ∀ x ∈ l, plc l (.inr x.1.1) = x.2.toNat
  | [], _, x, hx => (nomatch hx)
  | y :: l, nd, x, hx => by
    rw [List.map_cons, List.nodup_cons] at nd
    unfold plc
    rcases List.mem_cons.mp hx with rfl | hx
    · rw [if_pos rfl]
    · rw [if_neg (fun z => nd.1 (by have := Sum.inr.inj z; rw [← this]; exact List.mem_map.mpr ⟨x, hx, rfl⟩))]
      exact plc_at nd.2 x hx
theorem cnt_keys {l : List Hd} (nd : (l.map (·.1)).Nodup) (k : Key) : cnt k (l.map fun x => (.inr x.1 : Key)) = if ∃ x ∈ l, k = .inr x.1 then 1 else 0 := by
  induction l with
  | nil => rw [if_neg (fun ⟨x, hx, _⟩ => nomatch hx)]; rfl
  | cons y l ih =>
    rw [List.map_cons, List.nodup_cons] at nd
    have ih := ih nd.2
    show (if (.inr y.1 : Key) = k then 1 else 0) + cnt k (l.map fun x => (.inr x.1 : Key)) = _
    rw [ih]
    by_cases hy : (.inr y.1 : Key) = k
    · have he : ∃ x ∈ y :: l, k = .inr x.1 := ⟨y, List.mem_cons_self .., hy.symm⟩
      have hn : ¬ ∃ x ∈ l, k = .inr x.1 := by
        as_aux_lemma =>
          rintro ⟨x, hx, e⟩
          rw [← hy] at e
          have := Sum.inr.inj e
          exact nd.1 (List.mem_map.mpr ⟨x, hx, this.symm⟩)
      rw [if_pos hy, if_pos he, if_neg hn]
    · rw [if_neg hy, Nat.zero_add]
      have : (∃ x ∈ y :: l, k = .inr x.1) ↔ ∃ x ∈ l, k = .inr x.1 := ⟨fun ⟨x, hx, e⟩ => by
        rcases List.mem_cons.mp hx with rfl | hx
        · exact absurd e.symm hy
        · exact ⟨x, hx, e⟩, fun ⟨x, hx, e⟩ => ⟨x, List.mem_cons_of_mem _ hx, e⟩⟩
      simp only [this]
theorem whl_prod {L : List (List Int)} (W : Wld L) : ∀ {ps : List Int} {a : Int}, 0 ≤ a → a < L.length → (∀ x ∈ ps, 0 ≤ x ∧ x < (L.length : Int)) → (ps.foldl (fun w p => gg L w.toNat p.toNat) a).toNat = op L a.toNat (ps.foldr (fun p w => op L p.toNat w) 0)
  | [], a, h0, h1, _ => by
    show a.toNat = op L a.toNat 0
    rw [W.cm _ _ (by omega) W.z, W.un _ (by omega)]
  | p :: ps, a, h0, h1, h => by
    obtain ⟨p0, p1⟩ := h p (List.mem_cons_self ..)
    have hps : ∀ x ∈ ps, 0 ≤ x ∧ x < (L.length : Int) := fun x hx => h x (List.mem_cons_of_mem _ hx)
    have hl := W.lt a.toNat p.toNat (by omega) (by omega)
    have rest : ∀ {qs : List Int}, (∀ x ∈ qs, 0 ≤ x ∧ x < (L.length : Int)) → qs.foldr (fun p w => op L p.toNat w) 0 < L.length := by
      as_aux_lemma =>
        intro qs
        induction qs with
        | nil => intro _; exact W.z
        | cons q qs ih => intro hq; exact W.lt _ _ (by have := hq q (List.mem_cons_self ..); omega) (ih fun x hx => hq x (List.mem_cons_of_mem _ hx))
    have hg : 0 ≤ gg L a.toNat p.toNat ∧ gg L a.toNat p.toNat < L.length ∨ gg L a.toNat p.toNat < 0 := by unfold op at hl; omega
    show (ps.foldl (fun w p => gg L w.toNat p.toNat) (gg L a.toNat p.toNat)).toNat = op L a.toNat (op L p.toNat _)
    rw [← W.as _ _ _ (by omega) (by omega) (rest hps)]
    have key : (ps.foldl (fun w p => gg L w.toNat p.toNat) (gg L a.toNat p.toNat)).toNat = op L (gg L a.toNat p.toNat).toNat (ps.foldr (fun p w => op L p.toNat w) 0) := by
      as_aux_lemma =>
        rcases hg with hg | hg
        · exact whl_prod W hg.1 hg.2 hps
        · cases ps with
          | nil =>
            show (gg L a.toNat p.toNat).toNat = op L (gg L a.toNat p.toNat).toNat 0
            have hz : (gg L a.toNat p.toNat).toNat = 0 := by omega
            rw [hz, W.un _ W.z]
          | cons q qs =>
            show ((q :: qs).foldl (fun w p => gg L w.toNat p.toNat) (gg L a.toNat p.toNat)).toNat = _
            have e : (q :: qs).foldl (fun w p => gg L w.toNat p.toNat) (gg L a.toNat p.toNat) = (q :: qs).foldl (fun w p => gg L w.toNat p.toNat) ((gg L a.toNat p.toNat).toNat : Int) := by
              show qs.foldl _ (gg L (gg L a.toNat p.toNat).toNat q.toNat) = qs.foldl _ (gg L ((gg L a.toNat p.toNat).toNat : Int).toNat q.toNat)
              rw [Int.toNat_natCast]
            rw [e]
            have := whl_prod W (ps := q :: qs) (a := ((gg L a.toNat p.toNat).toNat : Int)) (by omega) (by unfold op at hl; omega) hps
            rwa [Int.toNat_natCast] at this
    exact key
/-- a claim that is shown holds at every row of places -/
theorem shown_true {L : List (List Int)} {F : FcT} (W : Wld L) {hs : List Hd} {g : Sn} {t : D} {ps : List Int} (h : shw hs g t = true) (nd : (hs.map (·.1)).Nodup) (lps : ps.length = hs.length) (rps : ∀ x ∈ ps, 0 ≤ x ∧ x < (L.length : Int)) (hf : fnB L F hs ps = true) : trb L F g (whl L ps).toNat = true := by
  unfold shw at h
  rw [Bool.and_eq_true, List.all_eq_true] at h
  obtain ⟨h1, h2⟩ := h
  have ex : ∀ k, Exa (cL t 0 k) := fun k => by
    by_cases hk : ∃ x ∈ hs, k = .inr x.1
    · obtain ⟨x, hx, rfl⟩ := hk
      obtain ⟨a1, a2⟩ := rmO_ex (h2 x hx)
      unfold Exa
      rw [a1, a2]
    · have hz := us_out h1 (clG_none fun x hx e => hk ⟨x, hx, e⟩)
      have hl := lo_cL t 0 k
      unfold Lo at hl
      unfold Exa
      omega
  have ndz : ((hs.zip ps).map fun x => x.1.1).Nodup := by
    have : ((hs.zip ps).map fun x => x.1.1) = hs.map (·.1) := by
      rw [show (fun x : Hd × Int => x.1.1) = (fun y : Hd => y.1) ∘ Prod.fst from rfl, ← List.map_map, List.map_fst_zip (by omega)]
    rw [this]; exact nd
  have hE : ∀ k s, clG hs k = some s → plc (hs.zip ps) k < L.length ∧ trb L F s (plc (hs.zip ps) k) = true := fun k s hk => by
    obtain ⟨x, hx, rfl, rfl⟩ := clG_some hk
    obtain ⟨i, hi, ei⟩ := List.getElem_of_mem hx
    have hz : (x, ps[i]'(by omega)) ∈ hs.zip ps := by
      rw [← ei]
      exact List.mem_of_getElem? (i := i) (by rw [List.getElem?_zip_eq_some]; exact ⟨List.getElem?_eq_getElem hi, List.getElem?_eq_getElem (by omega)⟩)
    rw [plc_at ndz _ hz]
    unfold fnB at hf
    rw [List.all_eq_true] at hf
    have := rps _ (List.getElem_mem (show i < ps.length by omega))
    exact ⟨by show (ps[i]'(by omega)).toNat < _; omega, hf _ hz⟩
  obtain ⟨i1, i2⟩ := sound W h1 ex hE
  have hp : (us t 0).Perm (hs.map fun x => (.inr x.1 : Key)) := perm_cnt fun k => by
    have c1 := us_cnt h1 ex k
    rw [cnt_keys nd]
    by_cases hk : ∃ x ∈ hs, k = .inr x.1
    · rw [if_pos hk]
      obtain ⟨x, hx, rfl⟩ := hk
      have := (rmO_ex (h2 x hx)).1
      omega
    · rw [if_neg hk]
      have hz := us_out h1 (clG_none fun x hx e => hk ⟨x, hx, e⟩)
      have hl := lo_cL t 0 k
      unfold Lo at hl
      omega
  rw [prod_perm W hp i1] at i2
  have e : prod L (plc (hs.zip ps)) (hs.map fun x => (.inr x.1 : Key)) = ps.foldr (fun p w => op L p.toNat w) 0 := by
    as_aux_lemma =>
      have gen : ∀ (l : List (Hd × Int)) (τ : Key → Nat), (∀ x ∈ l, τ (.inr x.1.1) = x.2.toNat) → prod L τ ((l.map (·.1)).map fun x => (.inr x.1 : Key)) = (l.map (·.2)).foldr (fun p w => op L p.toNat w) 0 := by
        as_aux_lemma =>
          intro l
          induction l with
          | nil => intro τ _; rfl
          | cons y l ih =>
            intro τ hτ
            show op L (τ (.inr y.1.1)) _ = op L y.2.toNat _
            rw [hτ y (List.mem_cons_self ..), ih τ fun x hx => hτ x (List.mem_cons_of_mem _ hx)]
      have := gen (hs.zip ps) (plc (hs.zip ps)) (fun x hx => plc_at ndz x hx)
      rwa [List.map_fst_zip (by omega), List.map_snd_zip (by omega)] at this
  rw [e] at i2
  have w := whl_prod W (ps := ps) (a := 0) (Int.le_refl _) (by have := W.z; omega) rps
  have hr : ps.foldr (fun p w => op L p.toNat w) 0 < L.length := by
    rw [← e]
    exact prod_lt W fun k hk => i1 k (hp.mem_iff.mpr hk)
  unfold whl
  rw [w]
  show trb L F g (op L 0 _) = true
  rw [W.un _ hr]
  exact i2



/-! ### a world is asked -/
theorem rows_at {H : Hp} {a : Addr} {as : List Addr} {L : List (List Int)} (h : Rows H a as L) {i : Nat} (hi : i < L.length) : ∃ b, (as.map V.ref)[i]? = some (.ref b) ∧ H b = some (.lst (iV (nr L i))) := by
  have hl := h.rs.len
  have hb : as[i]? = some (as[i]'(by omega)) := List.getElem?_eq_getElem (by omega)
  obtain ⟨r, hr, hb2⟩ := h.rs.get hb
  rw [nr_get hi] at hr
  cases hr
  exact ⟨_, by rw [List.getElem?_map, hb]; rfl, hb2⟩
/-- where the holds are true -/
def TrsV (L : List (List Int)) (F : FcT) (H : Hp) (ts : List V) (hs : List Hd) : Prop := ts.length = hs.length ∧ ∀ (i : Nat) (h : Hd), hs[i]? = some h → ∃ q, ts[i]? = some (.ref q) ∧ H q = some (.lst (bV (tl L F h.2.2)))
theorem fnB_st {L : List (List Int)} {F : FcT} {hs : List Hd} {ps : List Int} {j : Nat} {h : Hd} {x : Int} (hh : hs[j]? = some h) (hx : ps[j]? = some x) : fnB L F (hs.take (j + 1)) (ps.take (j + 1)) = (fnB L F (hs.take j) (ps.take j) && trb L F h.2.2 x.toNat) := by
  have h1 := (List.getElem?_eq_some_iff.mp hh).1
  have h2 := (List.getElem?_eq_some_iff.mp hx).1
  unfold fnB
  rw [take_snoc' hh, take_snoc' hx, List.zip_append (by rw [List.length_take, List.length_take]; omega), List.all_append]
  simp
section
variable {P : Program} {w : World} {K : PySem.W.Frag} {mg : Str → Option Value} {base : Heap} {C CO : Addr}
def spAsks (C : Addr) : Sp := fun vs H Q _ => ∃ p r cv tr pl ot wa wd was wbs rs L F hs g ts ps gv2 g2 lg, vs = [.ref p, .ref r, cv, .ref tr, .ref pl, .ref ot] ∧ WorldAt C H p wa wd was wbs L F ∧ Rows H r rs L ∧ SqP L ∧ 0 < L.length ∧ L.length ≤ 1000 ∧ ClV H cv hs g ∧ SzC hs g ∧ oncC hs g = true ∧ hs.length ≤ 1000 ∧ H tr = some (.lst ts) ∧ TrsV L F H ts hs ∧ H pl = some (.lst (iV ps)) ∧ ps.length = hs.length ∧ (∀ x ∈ ps, 0 ≤ x ∧ x < (L.length : Int)) ∧
  H ot = some (.tup [gv2, .ref lg]) ∧ SnV H gv2 g2 ∧ SzS g2 ∧ onc g2 = true ∧ H lg = some (.lst (bV (tl L F g2))) ∧ (fnB L F hs ps = true → trb L F g (whl L ps).toNat = true) ∧ ∀ H', Same H H' → Q (.bl true) H'
theorem ok_asks (T : Top K mg "_law_asks" s_asks) (mL : mg "len" = none) (mR : mg "range" = none) (mI : mg "isinstance" = none) (mB : mg "bool" = none) (mLi : mg "list" = none) (MF : MtN P w K mg base 50 C "fails" (spWFails C CO)) (MH : MtN P w K mg base 50 C "has" (spWHas C CO)) : Fn P w K mg base 51 "_law_asks" (spAsks C) := by
  refine fn_ok T sc_asks so_asks (fun vs H Q E h => by obtain ⟨p, r, cv, tr, pl, ot, wa, wd, was, wbs, rs, L, F, hs, g, ts, ps, gv2, g2, lg, rfl, _⟩ := h; rfl) (fun _ _ _ _ _ _ us hl => match us, hl with | [_, _, _, _, _, _], _ => rfl) fun f cdv A outer s H vs Q E hr h nd => ?_
  obtain ⟨p, r, cv, tr, pl, ot, wa, wd, was, wbs, rs, L, F, hs, g, ts, ps, gv2, g2, lg, rfl, hW, hR, sq, zl0, zl, hcl, hZ, hon, h40, htr, htrs, hpl, lps, rps, hot, hgv2, hz2, ho2, hlg, hsound, q⟩ := h
  have lts := htrs.1
  have lipv : (iV ps).length = ps.length := by rw [iV, List.length_map]
  -- the claim itself
  refine l_cons (s_set (e_methN (by exact MF) takesN0 (by exact hr) (by decide) ?_))
  obtain ⟨dx, hp⟩ := hW.1
  refine e_var ⟨p, dx, _, rfl, hp, wfl_no _ _ (by decide +kernel) (by decide +kernel), ?_⟩
  refine a_cons (e_var (a_cons (e_callTy (x := "list") (by assumption) b_list (a_cons (e_var (a_nil (c_listL hpl fun l2 H1 e1 n1 h1 => a_nil ?_)))))))
  refine ⟨p, wa, wd, was, wbs, L, F, cv, hs, g, l2, ps, rfl, hW.same e1, sq, zl0, zl, hcl.ts (Same.ts e1), hZ, h1, lps, rps, fun _ H2 e2 => ?_, fun z => by rw [hon] at z; cases z⟩
  have hfl : failB L F hs g ps = false := by
    as_aux_lemma =>
      unfold failB
      cases hf : fnB L F hs ps with
      | false => rfl
      | true => rw [hsound hf]; rfl
  rw [hfl]
  have e02 := e1.trans e2
  show wL _ _ _ [some (.ref p), some (.ref r), some cv, some (.ref tr), some (.ref pl), some (.ref ot), some (.bl false), none, none, none] _
  refine l_cons (s_if (t_w (w_or (t_not (t_val (e_callB (x := "isinstance") (by assumption) b_isi ?_))))))
  walk_at "sts"
  refine c_isi ty_bl (.ty _) (kit_ty kb_bool_bool) ⟨_, rfl, iteF (w_or1 (t_val (e_var ⟨false, rfl, iteF (l_nil ?_)⟩)))⟩
  refine l_cons (s_set (e_int ?_))
  refine l_cons (s_set (e_bl ?_))
  show wL _ _ _ [some (.ref p), some (.ref r), some cv, some (.ref tr), some (.ref pl), some (.ref ot), some (.bl false), some (.int 0), some (.bl true), none] _
  refine l_cons (s_forR (by assumption) (e_callB (x := "len") (by assumption) b_len (a_cons (e_var (a_nil (c_lenL (SqL.of (e02 _ _ hpl)) ?_))))))
  refine ⟨(iV ps).length, rfl, by omega, fun j σ H' => ∃ x9, σ = [some (.ref p), some (.ref r), some cv, some (.ref tr), some (.ref pl), some (.ref ot), some (.bl false), some (.int (whl L (ps.take j))), some (.bl (fnB L F (hs.take j) (ps.take j))), x9] ∧ Same H H', ⟨none, by rw [List.take_zero, List.take_zero]; rfl, e02⟩, ?_, ?_⟩
  · rintro j σ H3 hj ⟨x9, rfl, e3⟩
    have hj' : j < ps.length := by omega
    have hps : ps[j]? = some ps[j] := List.getElem?_eq_getElem hj'
    have hhs : hs[j]? = some (hs[j]'(by omega)) := List.getElem?_eq_getElem (by omega)
    obtain ⟨x0, x1⟩ := rps _ (List.getElem_mem hj')
    have hst := fnB_st (L := L) (F := F) hhs hps
    have hwst := whl_step (L := L) hps
    generalize ps[j] = x at hps x0 x1 hst hwst
    generalize hs[j]'(by omega) = h at hhs hst
    obtain ⟨i, rfl⟩ := Int.eq_ofNat_of_zero_le x0
    obtain ⟨qa, hq1, hq2⟩ := htrs.2 j h hhs
    have hpi : (iV ps)[j]? = some (.int (i : Int)) := by rw [iV, List.getElem?_map, hps]; rfl
    obtain ⟨w0, w1⟩ := whl_rg sq zl0 (ps := ps.take j) fun x hx => rps x (List.mem_of_mem_take hx)
    obtain ⟨m, hm⟩ := Int.eq_ofNat_of_zero_le w0
    have hml : m < L.length := by omega
    have hil : i < L.length := by omega
    obtain ⟨b, hb1, hb2⟩ := rows_at hR hml
    have hrow : (iV (nr L m))[i]? = some (.int (gg L m i)) := by
      rw [iV, List.getElem?_map, gg_get (by rw [sq_row sq hml]; exact hil)]; rfl
    have hstp : ∀ (k2 : Bool) (NX BK CT : L2.St → Hp → Prop), k2 = fnB L F (hs.take (j + 1)) (ps.take (j + 1)) → (∀ H4 x9, Same H H4 → NX [some (.ref p), some (.ref r), some cv, some (.ref tr), some (.ref pl), some (.ref ot), some (.bl false), some (.int (whl L (ps.take (j + 1)))), some (.bl (fnB L F (hs.take (j + 1)) (ps.take (j + 1)))), x9] H4) → wL (cxOf CX0 P w K mg base N_asks (Str.ofString "_law_asks") (defScope s_asks) f cdv A outer s H E).nox ((forA (defBody s_asks) 4).drop 1) { nx := NX, rt := Q, bk := BK, ct := CT } [some (.ref p), some (.ref r), some cv, some (.ref tr), some (.ref pl), some (.ref ot), some (.bl false), some (.int (whl L (ps.take j))), some (.bl k2), some (.int (j : Int))] H3 := by
      as_aux_lemma =>
        intro k2 NX BK CT hk2 hNX
        refine l_cons (s_set (e_ix (e_ix (e_var (e_var ?_)))))
        rw [hm]
        refine ix_l (by exact SqL.of (e3 _ _ hR.hd)) (atI_nat hb1) (e_ix (e_var (e_var (ix_l (by exact SqL.of (e3 _ _ hpl)) (atI_nat hpi) ?_))))
        refine ix_l (by exact SqL.of (e3 _ _ hb2)) (atI_nat hrow) (l_nil ?_)
        have := hNX H3 (some (.int (j : Int))) e3
        rw [← hk2, hwst, hm] at this
        exact this
    show wL _ _ _ [some (.ref p), some (.ref r), some cv, some (.ref tr), some (.ref pl), some (.ref ot), some (.bl false), some (.int (whl L (ps.take j))), some (.bl (fnB L F (hs.take j) (ps.take j))), some (.int (j : Int))] _
    refine l_cons (s_set (e_and (e_var ⟨_, rfl, ?_⟩)))
    cases hf : fnB L F (hs.take j) (ps.take j) with
    | false => exact iteF (hstp false _ _ _ (by rw [hst, hf]; rfl) fun H4 x9 e4 => ⟨x9, rfl, e4⟩)
    | true =>
      refine iteT (e_one (e_ix (e_ix (e_var (e_var (ix_l (by exact SqL.of (e3 _ _ htr)) (atI_nat hq1) ?_))))))
      refine e_ix (e_var (e_var (ix_l (by exact SqL.of (e3 _ _ hpl)) (atI_nat hpi) ?_)))
      refine ix_l (by exact SqL.of (e3 _ _ hq2)) (atI_nat (tl_at hil)) ?_
      exact hstp _ _ _ _ (by rw [hst, hf, Int.toNat_natCast]; rfl) fun H4 x9 e4 => ⟨x9, rfl, e4⟩
  rintro σ H3 ⟨x9, rfl, e3⟩
  rw [List.take_of_length_le (by omega), List.take_of_length_le (by omega)]
  obtain ⟨w0, w1⟩ := whl_rg sq zl0 rps
  obtain ⟨m, hm⟩ := Int.eq_ofNat_of_zero_le w0
  have hml : m < L.length := by omega
  rw [hm]
  have hmn : (whl L ps).toNat = m := by rw [hm]; exact Int.toNat_natCast m
  rw [hmn] at hsound
  -- with another goal
  have last : ∀ (k : Bool) (H4 : Hp) o6, k = fnB L F hs ps → Same H H4 → wL (cxOf CX0 P w K mg base N_asks (Str.ofString "_law_asks") (defScope s_asks) f cdv A outer s H E).nox ((defBody s_asks).drop 6) { nx := fun _ H' => Q .non H', rt := Q } [some (.ref p), some (.ref r), some cv, some (.ref tr), some (.ref pl), some (.ref ot), o6, some (.int (m : Int)), some (.bl k), x9] H4 := by
    as_aux_lemma =>
      intro k H4 o6 hk e4
      obtain ⟨ca, th, sg, us, rfl, hca, hth, hus, hsg⟩ := hcl
      refine l_cons (s_set (e_methN (by exact MF) takesN0 (by exact hr) (by decide) ?_))
      obtain ⟨dx, hp⟩ := (hW.same e4).1
      refine e_var ⟨p, dx, _, rfl, hp, wfl_no _ _ (by decide +kernel) (by decide +kernel), ?_⟩
      refine a_cons (e_tup (a_cons (e_ix (e_var (e_int (ix_t (by exact SqT.of (e4 _ _ hca)) at0 (a_cons (e_ix (e_var (e_int (ix_t (by exact SqT.of (e4 _ _ hot)) at0 (a_nil ?_))))))))))))
      refine ⟨by show 2 ≤ sizeLine; decide, fun cn H5 e5 n5 h5 => ?_⟩
      have e45 := e4.trans e5
      refine a_cons (e_callTy (x := "list") (by assumption) b_list (a_cons (e_var (a_nil (c_listL (e45 _ _ hpl) fun l3 H6 e6 n6 h6 => a_nil ?_)))))
      have e46 := e45.trans e6
      refine ⟨p, wa, wd, was, wbs, L, F, .ref cn, hs, g2, l3, ps, rfl, hW.same e46, sq, zl0, zl, ⟨cn, th, gv2, us, rfl, e6 _ _ h5, e46 _ _ hth, hus.ts (Same.ts e46), hgv2.ts (Same.ts e46)⟩, ⟨hZ.1, hz2⟩, h6, lps, rps, fun _ H7 e7 => ?_, fun z => ?_⟩
      · have e47 := e46.trans e7
        show wL _ _ _ [some (.ref p), some (.ref r), some (.ref ca), some (.ref tr), some (.ref pl), some (.ref ot), some (.bl (failB L F hs g2 ps)), some (.int (m : Int)), some (.bl k), x9] _
        refine l_cons (s_ret (e_and (e_callB (x := "isinstance") (by assumption) b_isi ?_)))
        walk_at "sts"
        refine c_isi ty_bl (.ty _) (kit_ty kb_bool_bool) ⟨_, rfl, iteT (e_one (e_cmp (e_var (e_and (e_var ⟨k, rfl, ?_⟩)))))⟩
        have hfb : failB L F hs g2 ps = (k && !trb L F g2 m) := by unfold failB; rw [hk, hmn]
        rw [hfb]
        cases k with
        | false => exact iteF (o_eqB (by rw [show decide ((false && !trb L F g2 m) = false) = true from decide_eq_true rfl]; exact q H7 e47))
        | true =>
          refine iteT (e_one (e_not (e_ix (e_ix (e_var (e_int (ix_t (by exact SqT.of (e47 _ _ hot)) at1 (e_var (ix_l (by exact SqL.of (e47 _ _ hlg)) (atI_nat (tl_at hml)) ⟨_, rfl, o_eqB ?_⟩)))))))))
          rw [Bool.true_and, decide_eq_true rfl]
          exact q H7 e47
      · unfold oncC at hon z
        rw [Bool.and_eq_true] at hon
        rw [hon.1, ho2] at z
        cases z
  refine l_cons (s_if (t_val (e_var ⟨_, rfl, ?_⟩)))
  cases hf : fnB L F hs ps with
  | false => exact iteF (l_nil (last false H3 _ hf.symm e3))
  | true =>
    have hcl' := hcl
    obtain ⟨ca, th, sg, us, rfl, hca, hth, hus, hsg⟩ := hcl'
    refine iteT (l_cons (s_set (e_methN (by exact MH) takesN0 (by exact hr) (by decide) ?_)))
    obtain ⟨dx, hp⟩ := (hW.same e3).1
    refine e_var ⟨p, dx, _, rfl, hp, wfl_no _ _ (by decide +kernel) (by decide +kernel), ?_⟩
    refine a_cons (e_var (a_cons (e_ix (e_var (e_int (ix_t (by exact SqT.of (e3 _ _ hca)) at1 (a_nil ?_)))))))
    refine ⟨p, wa, wd, was, wbs, L, F, sg, g, m, rfl, hW.same e3, sq, zl, hsg.ts (Same.ts e3), hZ.2, hml, fun _ H4 e4 => ?_, fun z => ?_⟩
    · rw [hsound hf]
      show wL _ _ _ [some (.ref p), some (.ref r), some (.ref ca), some (.ref tr), some (.ref pl), some (.ref ot), some (.bl true), some (.int (m : Int)), some (.bl true), x9] _
      refine l_cons (s_if (t_w (w_or (t_not (t_val (e_callB (x := "isinstance") (by assumption) b_isi ?_))))))
      walk_at "sts"
      refine c_isi ty_bl (.ty _) (kit_ty kb_bool_bool) ⟨_, rfl, iteF (w_or1 (t_not (t_val (e_var ⟨true, rfl, iteF (l_nil (l_nil ?_))⟩))))⟩
      exact last true H4 _ hf.symm (e3.trans e4)
    · unfold oncC at hon
      rw [Bool.and_eq_true] at hon
      rw [hon.2] at z
      cases z
end



/-! ### a comprehension over a tuple, without a test -/
section
variable {X : Cx} {elt a : Expr} {σ : L2.St} {H : Hp} {Q : VK} {pos : Pos} {N G G' : List Str} {Vn : List (Nat × Str)} {sc scope : Scope}
def LcT (X : Cx) (Vn : List (Nat × Str)) (G' : List Str) (elt : Expr) (scope : Scope) (i : Nat) (ad : Addr) (xs : List L2.V) (D : Addr) (σ : L2.St) (H1 : Hp) (Qd : Hp → Prop) : Prop := ∃ Pv : Nat → Hp → Prop, Pv 0 (upd H1 D (.lst [])) ∧ (∀ k H2, k ≤ xs.length → Pv k H2 → SqT X.K H2 ad xs) ∧
  (∀ k x H2, xs[k]? = some x → Pv k H2 → ∀ s0 H0 C cl fp, InB (Bk X s0 H0 scope C cl fp) Vn G' → wE (Bk X s0 H0 scope C cl fp) elt ((wipe σ [i]).set i (some x)) H2 fun y H4 => ∃ acc, H4 D = some (.lst acc) ∧ acc.length < sizeLine ∧ Pv (k + 1) (upd H4 D (.lst (acc ++ [y])))) ∧
  ∀ H2, Pv xs.length H2 → Qd H2
theorem lcT_of {i : Nat} {ad : Addr} {xs : List L2.V} {D : Addr} {H1 : Hp} {Qd : Hp → Prop} (q : LcT X Vn G' elt scope i ad xs D σ H1 Qd) : ∃ W : Nat → Nat → Hp → Prop, (∃ m, W 0 m (upd H1 D (.lst []))) ∧ ∀ k m H, W k m H →
    ((Itt X.K ad).stop k H ∧ Qd H) ∨ ((Itt X.K ad).go k H ∧ ∃ Nx : Hp → Prop, (∀ H', Nx H' → ∃ m', m' < m ∧ W (k + 1) m' H') ∧ ∀ x H', (Itt X.K ad).yld k H x H' → gName i x (wipe σ [i]) H' fun σ2 H2 => wipe σ2 [i] = wipe σ [i] ∧ tYes σ2 H2 fun b H3 =>
      if b = true then wBk X Vn G' elt scope σ2 H3 fun y H4 => ∃ acc, H4 D = some (.lst acc) ∧ acc.length < sizeLine ∧ Nx (upd H4 D (.lst (acc ++ [y]))) else Nx H3) := by
  obtain ⟨Pv, h0, hl, hs, hd⟩ := q
  refine lc_tup Pv h0 hl (fun k x H hk p => ?_) hd
  refine ⟨wipe_set σ i _, ?_⟩
  unfold tYes
  refine iteT ?_
  unfold wBk
  intro s0 H0 C cl fp I
  exact hs k x H hk p s0 H0 C cl fp I
theorem s_lcT {nx : L2.St → Hp → Prop} {rt : VK} {bk ct : L2.St → Hp → Prop} {i j : Nat} {x y : Str} {px py spos : Pos} (B : BkOk X.N Vn G' i x sc scope)
    (q : wE X a σ H fun v H1 => ∃ ad xs, v = .ref ad ∧ SqT X.K H1 ad xs ∧ ∀ D, H1 D = none → LcT X Vn G' elt scope i ad xs D σ H1 fun H2 => nx (σ.set j (some (.ref D))) H2)
    (I : In X N G sc := by assumption) (hc : X.calm = true := by rfl) (hA : At N j y := by repeat (first | with_reducible apply At.z | with_reducible apply At.s))
    (hk : X.env.scope.kind = .function := by rfl) (hy : X.env.scope.names.lookup y = some .local := by rfl) (hl : (py.line == pos.line) = true := by rfl) (ha : (scope.names.any fun (n, k) => n == y && (k == .local || k == .cell)) = false := by decide +kernel) (hs2 : ∀ z, foldedSetIterable a X.env z = pure z := by intro _; rfl) :
    wS X (.Assign [.Name y py] (.ListComp elt [⟨.Name x px, a, [], 0⟩] scope pos) spos) ⟨nx, rt, bk, ct⟩ σ H := by
  refine s_of (ps_setLc (own := [(x, i)]) (g := gName i) (tt := tYes) (te := wBk X Vn G' elt scope) hc I.nd (I.hi hA) hy (sw_true hk hy hl ha) (pi_tup pe) (B.ok I) (fun s H C cl fp => B.pg I s H C cl fp) (fun _ _ _ _ _ => pts_nil) (fun s H C cl fp => pe_bk (B.inB I s H C cl fp)) hs2) (e_mono q fun v H1 q1 => ?_)
  obtain ⟨ad, xs, rfl, hl, q2⟩ := q1
  exact ⟨ad, rfl, ⟨xs, hl⟩, fun D hD => lcT_of (q2 D hD)⟩
end
/-! ### worlds are drawn beside the state -/
theorem b_dictT : bootBuiltins "dict" = some (.type "dict") := by decide +kernel
theorem made_same {C x dx : Addr} {H H' : Hp} (nx : H x = none) (nd : H dx = none) (bt : But x (upd (upd H dx (.own x)) x (.ins C dx [])) H') : Same H H' := fun y o h => bt y o (ne_of_none h nx) (by rw [upd_ne (ne_of_none h nx), upd_ne (ne_of_none h nd)]; exact h)
theorem made_up {C x dx : Addr} {H : Hp} (nx : H x = none) (nd : H dx = none) : Same H (upd (upd H dx (.own x)) x (.ins C dx [])) := fun y o h => by rw [upd_ne (ne_of_none h nx), upd_ne (ne_of_none h nd)]; exact h
theorem StG.pool2 {H H' : Hp} {c : Cf} {b : Int} {hs : List Hol} {p2 : Addr} (s : StG H c b hs) (q : PoolAt H p2) (n : p2 ≠ c.p) (e : But p2 H H') : StG H' c b hs := by
  obtain ⟨x, y, z, hq⟩ := q
  have kp : ∀ {u : Addr} {o : HO}, H u = some o → o ≠ .lst [.int x, .int y, .int z] → H' u = some o := fun {u o} h1 h2 => e u o (fun w => h2 (by rw [w, hq] at h1; exact (Option.some.inj h1).symm)) h1
  have ts : TS H H' := fun u xs h => kp h (by intro w; cases w)
  have svs : ∀ ts : List Str, HO.lst (sVs ts) ≠ .lst [.int x, .int y, .int z] := fun ts w => by
    have w := HO.lst.inj w
    obtain ⟨w', e2⟩ := svs_strs (ts := ts) (.int x) (by rw [w]; simp)
    cases e2
  refine ⟨?_, ?_, kp s.wl (svs _), kp s.rl (by intro w; cases w), kp s.en (by intro w; cases w), ?_, kp s.tl (svs _), s.nm, s.nd, s.w0, s.w4⟩
  · obtain ⟨kvs, h1, h2⟩ := s.d
    exact ⟨kvs, kp h1 (by intro w; cases w), h2⟩
  · obtain ⟨i, j, k, h⟩ := s.pl
    exact ⟨i, j, k, e _ _ n.symm h⟩
  · obtain ⟨hv, h1, h2⟩ := s.hl
    refine ⟨hv, kp h1 (fun w => ?_), h2.mono fun h v ⟨a, sv, g1, g2, g3, g4⟩ => ⟨a, sv, g1, kp g2 (by intro w; cases w), g3.ts ts, g4⟩⟩
    have w := HO.lst.inj w
    obtain ⟨a, ea⟩ := hov_refs h2 (.int x) (by rw [w]; simp)
    cases ea
theorem no_but {p b : Addr} {H H1 : Hp} (e : But p H H1) (q : PoolAt H1 p) (n : H1 b = none) : H b = none := by
  cases hz : H b with
  | none => rfl
  | some o => exact absurd (e b o (q.ne n) hz) (by rw [n]; intro z; cases z)
/-- what is new since H0 stays -/
def Nk (H0 H H' : Hp) : Prop := ∀ b o, H0 b = none → H b = some o → H' b = some o
theorem Nk.of {H0 H H' : Hp} {p q : Addr} (hp : H0 p ≠ none) (hq : H0 q ≠ none) (e : Bu p q H H') : Nk H0 H H' := fun b o n h => e b o (fun z => hp (by rw [← z]; exact n)) (fun z => hq (by rw [← z]; exact n)) h
def TrN (H0 : Hp) (L : List (List Int)) (F : FcT) (H : Hp) (ts : List V) (hs : List Hd) : Prop := ts.length = hs.length ∧ ∀ (i : Nat) (h : Hd), hs[i]? = some h → ∃ q, ts[i]? = some (.ref q) ∧ H0 q = none ∧ H q = some (.lst (bV (tl L F h.2.2)))
def AbN (H0 : Hp) (L : List (List Int)) (F : FcT) (H : Hp) (ts : List V) (hs : List Hd) : Prop := ts.length = hs.length ∧ ∀ (i : Nat) (h : Hd), hs[i]? = some h → ∃ q, ts[i]? = some (.ref q) ∧ H0 q = none ∧ H q = some (.lst (nV (prs L F h.2.2 L.length)))
theorem TrN.kp {H0 H H' : Hp} {L : List (List Int)} {F : FcT} {ts : List V} {hs : List Hd} (h : TrN H0 L F H ts hs) (k : Nk H0 H H') : TrN H0 L F H' ts hs := ⟨h.1, fun i x hx => let ⟨q, a, b, c⟩ := h.2 i x hx; ⟨q, a, b, k _ _ b c⟩⟩
theorem AbN.kp {H0 H H' : Hp} {L : List (List Int)} {F : FcT} {ts : List V} {hs : List Hd} (h : AbN H0 L F H ts hs) (k : Nk H0 H H') : AbN H0 L F H' ts hs := ⟨h.1, fun i x hx => let ⟨q, a, b, c⟩ := h.2 i x hx; ⟨q, a, b, k _ _ b c⟩⟩
theorem TrN.trs {H0 H : Hp} {L : List (List Int)} {F : FcT} {ts : List V} {hs : List Hd} (h : TrN H0 L F H ts hs) : TrsV L F H ts hs := ⟨h.1, fun i x hx => let ⟨q, a, _, c⟩ := h.2 i x hx; ⟨q, a, c⟩⟩
theorem SnOk.onc : ∀ {s : Sn}, SnOk s → onc s = true
  | .word _, _ => rfl
  | .menu l r, ⟨h1, h2⟩ => by show (K36.onc l && K36.onc r) = true; rw [SnOk.onc h1, SnOk.onc h2]; rfl
  | .trade k p g, ⟨h, h1, h2⟩ => by subst h; show (true && K36.onc p && K36.onc g) = true; rw [SnOk.onc h1, SnOk.onc h2]; rfl
theorem hdp_onc {hs : List Hd} {g : Sn} (h : ∀ x ∈ hs, HdP x) (hg : SnOk g) : oncC hs g = true := by
  unfold oncC
  rw [Bool.and_eq_true, List.all_eq_true]
  refine ⟨fun x hx => ?_, hg.onc⟩
  obtain ⟨h1, h2, _⟩ := h x hx
  unfold okH
  rw [h1, h2.onc]
  rfl
theorem hdp_sz {hs : List Hd} {g : Sn} (h : ∀ x ∈ hs, HdP x) (hg : dep g ≤ 3) : SzC hs g := by
  refine ⟨fun x hx => ?_, ?_⟩
  · obtain ⟨_, _, h3, h4⟩ := h x hx
    exact ⟨by omega, by omega⟩
  · have := rws_dep g
    have h2 : (2 : Nat) ^ (dep g + 1) ≤ 2 ^ 4 := Nat.pow_le_pow_right (by decide) (by omega)
    exact ⟨by omega, by omega⟩
section
variable {P : Program} {w : World} {K : PySem.W.Frag} {mg : Str → Option Value} {base : Heap} {C CB : Addr}
def spSound : Sp := fun vs H Q _ => ∃ c b hs p2 cv hds g t, vs = [.ref c.a, .ref p2, cv] ∧ StG H c b hs ∧ PoolAt H p2 ∧ p2 ≠ c.p ∧ ClV H cv hds g ∧ shw hds g t = true ∧ (∀ h ∈ hds, HdP h) ∧ (hds.map (·.1)).Nodup ∧ hds.length ≤ 31 ∧ SnOk g ∧ dep g ≤ 3 ∧
  ∀ H', Bu c.p p2 H H' → StG H' c b hs → PoolAt H' p2 → Q (.bl true) H'
theorem ok_sound (T : Top K mg "_law_sound" s_sound) (mL : mg "len" = none) (mR : mg "range" = none) (mLi : mg "list" = none) (mD : mg "dict" = none) (mI : mg "int" = none) (FN : Fn P w K mg base 1 "_law_next" spNext) (FTb : Fn P w K mg base 3 "_law_table" spTable) (FFc : Fn P w K mg base 2 "_law_facts" spFcts) (FT : Fn P w K mg base 49 "_law_true" (spTrue 48))
    (FS : Fn P w K mg base 4 "_law_sentence" (spSent 2)) (FA : Fn P w K mg base 51 "_law_asks" (spAsks C)) (KW : KlN P w K mg base 3 "World" C (spWInit C CB)) : Fn P w K mg base 52 "_law_sound" spSound := by
  refine fn_okC T sc_sound so_sound (fun vs H Q E h => by obtain ⟨c, b, hs, p2, cv, hds, g, t, rfl, _⟩ := h; rfl) (fun _ _ _ _ _ _ us hl => match us, hl with | [_, _, _], _ => rfl) fun f cdv A outer s H vs Q E hr h nd => ?_
  obtain ⟨c, b, hs, p2, cv, hds, g, t, rfl, hst, hp2, n2, hcl, hsh, hP, hnd, h31, hgo, hg3, q⟩ := h
  have hcp : H c.p ≠ none := by obtain ⟨x, y, z, e⟩ := hst.pl; rw [e]; intro z; cases z
  have hpp : H p2 ≠ none := by obtain ⟨x, y, z, e⟩ := hp2; rw [e]; intro z; cases z
  have hso := hdp_onc hP hgo
  have hsz := hdp_sz hP hg3
  -- the table
  refine l_cons (s_set (e_call (by exact FTb) (by exact hr) (by decide) (a_cons (e_var (a_cons (e_int (a_nil ?_)))))))
  refine ⟨p2, rfl, hp2, fun r rs L n H1 hD hRw n0 n32 t1 t2 t3 t4 => ?_⟩
  obtain ⟨b1, q1, fr, hR1⟩ := hD
  have s1 := hst.pool2 hp2 n2 b1
  have sq := sq_of t1
  have lL : L.length = n := hRw.1
  have WL := wld_of t1 t2 t3 t4
  show wL _ _ _ [some (.ref c.a), some (.ref p2), some cv, some (.ref r), none, none, none, none, none, none, none, none, none, none, none, none, none] _
  refine l_cons (s_set (e_callB (x := "len") (by assumption) b_len (a_cons (e_var (a_nil (c_lenL (by exact SqL.of hR1.hd) ?_))))))
  rw [List.length_map, hR1.rs.len]
  show wL _ _ _ [some (.ref c.a), some (.ref p2), some cv, some (.ref r), some (.int (L.length : Int)), none, none, none, none, none, none, none, none, none, none, none, none] _
  -- the facts
  obtain ⟨kvs, k1, _, _, kw, _⟩ := s1.d
  refine l_cons (s_set (e_call (by exact FFc) (by exact hr) (by decide) ?_))
  refine a_cons (e_var (a_cons (e_ix (e_var (e_str (ix_d (by exact hr) ⟨c.a, .ref c.wd, rfl, dg_k k1 kw, ?_⟩))))))
  refine a_cons (e_var (a_cons (e_int (a_nil ?_))))
  have wp2 : c.wd ≠ p2 := fun z => by
    obtain ⟨x, y, u, e⟩ := q1
    have := s1.wl
    rw [z, e] at this
    have w := HO.lst.inj (Option.some.inj this)
    obtain ⟨w', e2⟩ := svs_strs (ts := c.ws) (.int x) (by rw [← w]; simp)
    cases e2
  refine ⟨p2, c.wd, c.ws, L.length, rfl, q1, s1.wl, wp2, s1.w4, by omega, by omega, fun d ds F H2 b2 q2 fd hF2 lF zF => ?_⟩
  have s2 := s1.pool2 q1 n2 b2
  have b02 : But p2 H H2 := b1.trans b2
  have frd : ∀ x ∈ d :: ds, H x = none := fun x hx => no_but b1 q1 (fd x hx)
  have np : ∀ {x : Addr}, H x = none → x ≠ p2 := fun h z => hpp (by rw [← z]; exact h)
  have hR2 : Rows H2 r rs L := hR1.keep fun x hx o z => b2 x o (np (fr x hx)) z
  show wL _ _ _ [some (.ref c.a), some (.ref p2), some cv, some (.ref r), some (.int (L.length : Int)), some (.ref d), none, none, none, none, none, none, none, none, none, none, none] _
  -- the world
  refine l_cons (s_set (e_makeN (by exact KW) takesN0 (by exact hr) (by decide) ?_))
  refine a_cons (e_lcL (by exact bk_sound0) (e_var ⟨r, _, rfl, SqL.of hR2.hd, fun D3 nD3 => ?_⟩))
  refine ⟨fun j H11 => ∃ cs, H11 D3 = some (.lst (cs.map V.ref)) ∧ RsV H11 cs (L.take j) ∧ (D3 :: cs).Nodup ∧ Same H2 H11, ⟨[], upd_same, by rw [List.take_zero]; exact rfl, by simp, fun c u hc => by rw [upd_ne (ne_of_none hc nD3)]; exact hc⟩, fun j H11 _ p => by obtain ⟨_, _, _, _, e⟩ := p; exact SqL.of (e _ _ hR2.hd), ?_, ?_⟩
  · intro j x H11 hx pp s0 H0 C0 cl fp IB
    obtain ⟨cs, p1, p2', p3, p5⟩ := pp
    rw [List.getElem?_map] at hx
    obtain ⟨b', hb, rfl⟩ := Option.map_eq_some_iff.mp hx
    obtain ⟨rr, hr1, hrb⟩ := hR2.rs.get hb
    have hk := (List.getElem?_eq_some_iff.mp hr1).1
    have lcs := p2'.len
    rw [List.length_take] at lcs
    refine b_callTy (x := "list") (by assumption) b_list (a_cons (b_var (a_nil (c_listL (p5 _ _ hrb) fun cc H12 e3 n3 h3 => ?_))))
    have ncD : cc ≠ D3 := fun z => by subst z; rw [p1] at n3; cases n3
    have nm : cc ∉ cs := fun m => by obtain ⟨r, hr⟩ := p2'.vl m; rw [hr] at n3; cases n3
    refine ⟨cs.map V.ref, e3 _ _ p1, by rw [List.length_map]; show _ < 2 ^ 24; omega, cs ++ [cc], by rw [List.map_append]; exact upd_same, ?_, nd_snoc (l := D3 :: cs) p3 (fun m => by
      rcases List.mem_cons.mp m with m | m
      · exact ncD m
      · exact nm m), fun x u hx => by rw [upd_ne (ne_of_none hx nD3)]; exact e3 _ _ (p5 _ _ hx)⟩
    rw [take_snoc' hr1]
    refine RsV.snoc (by rw [upd_ne ncD]; exact h3) (p2'.keep fun b hb o z => ?_)
    rw [upd_ne (fun z2 => by subst z2; exact (List.nodup_cons.mp p3).1 hb)]
    exact e3 _ _ z
  intro H11 pp
  obtain ⟨cs, p1, p2', p3, e11⟩ := pp
  rw [List.length_map, hR2.rs.len, List.take_length] at p2'
  have hR11 : Rows H11 D3 cs L := ⟨p1, p2', p3⟩
  have hF11 := hF2.same e11
  refine a_cons (e_callTy (x := "dict") (by assumption) b_dictT (a_cons (e_var (a_nil (c_dict hF11.hd fun d2 H12 e12' n12 h12 => a_nil ?_)))))
  have hF12 : Facts H12 d2 ds F := ⟨h12, hF11.rs.keep fun b _ o z => e12' _ _ z, hF11.kn, List.nodup_cons.mpr ⟨fun m => (by obtain ⟨x, hx⟩ := hF11.rs.vl m; rw [hx] at n12; cases n12), (List.nodup_cons.mp hF11.nd).2⟩⟩
  have hR12 := hR11.same e12'
  intro pw dx npw ndx nexd
  have em := made_up (C := C) npw ndx
  have hz : SzP L F := ⟨by omega, fun y hy => by rw [(hRw.2 y hy).1]; omega, by omega, fun y hy => Nat.le_trans (zF y hy).1 (by decide)⟩
  have hfc : FctP L F := by
    as_aux_lemma =>
      unfold FctP
      rw [List.all_eq_true]
      intro y hy
      rw [List.all_eq_true]
      intro x hx
      have := (zF y hy).2 x hx
      unfold inR
      rw [Bool.and_eq_true]
      exact ⟨decide_eq_true this.1, decide_eq_true this.2⟩
  refine ⟨pw, dx, D3, d2, cs, ds, L, F, rfl, upd_same, hR12.same em, hF12.same em, hz, .inl ⟨flt_none t1 t2 t3 t4 hfc, fun a' d' as' bs' H13 bt f1 f2 hW => ⟨rfl, ?_⟩⟩⟩
  have e213 : Same H2 H13 := (e11.trans e12').trans (made_same npw ndx bt)
  have s13 := s2.same e213
  have b013 : But p2 H H13 := fun x o n h => e213 _ _ (b02 x o n h)
  have q13 := q2.up e213
  have hR13 := hR2.same e213
  have hF13 := hF2.same e213
  have e212 := e11.trans e12'
  have old : ∀ {x : Addr}, H12 x = none → H x = none := fun h => no_but b02 q2 (none_of e212 h)
  have fpw : H pw = none := old npw
  have fa : ∀ x ∈ a' :: as', H x = none := fun x hx => old (none_of em (f1 x hx))
  have fdd : ∀ x ∈ d' :: bs', H x = none := fun x hx => old (none_of em (f2 x hx))
  have t013 : TS H H13 := fun x xs h => b013 x _ (fun z => by subst z; obtain ⟨_, _, _, e⟩ := hp2; rw [e] at h; cases h) h
  have kW : ∀ {H' : Hp}, Nk H H13 H' → WorldAt C H' pw a' d' as' bs' L F ∧ Rows H' r rs L ∧ Facts H' d ds F := fun {H'} k => by
    obtain ⟨⟨dx, w1⟩, w2, w3⟩ := hW
    exact ⟨⟨⟨dx, k _ _ fpw w1⟩, w2.keep fun x hx o z => k x o (fa x hx) z, w3.keep fun x hx o z => k x o (fdd x hx) z⟩, hR13.keep fun x hx o z => k x o (fr x hx) z, hF13.keep fun x hx o z => k x o (frd x hx) z⟩
  clear hR11 hF11 hF12 hR12 hR2 hF2 hR1 hfc hz p1 p2' p3 em bt npw ndx nexd e11 e12' n12 h12 nD3 k1 kw hW
  obtain ⟨ca, th, sg, us, rfl, hca, hth, hus, hsg⟩ := hcl
  have lus := hus.len
  show wL _ _ _ [some (.ref c.a), some (.ref p2), some (.ref ca), some (.ref r), some (.int (L.length : Int)), some (.ref d), some (.ref pw), none, none, none, none, none, none, none, none, none, none] _
  -- where the holds are true
  refine l_cons (s_lcT (by exact bk_sound1) (e_ix (e_var (e_int (ix_t (by exact SqT.of (t013 _ _ hca)) at0 ⟨th, us, rfl, SqT.of (t013 _ _ hth), fun tr ntr => ?_⟩)))))
  have ftr : H tr = none := no_but b013 q13 ntr
  refine ⟨fun j H3 => ∃ ts, H3 tr = some (.lst ts) ∧ TrN H L F H3 ts (hds.take j) ∧ (∀ v ∈ ts, v ≠ .ref tr) ∧ Same H13 H3, ⟨[], upd_same, ⟨by rw [List.take_zero]; rfl, fun i h hh => by rw [List.take_zero] at hh; cases hh⟩, by simp, fun c u hc => by rw [upd_ne (ne_of_none hc ntr)]; exact hc⟩, fun j H3 _ p => by obtain ⟨_, _, _, _, e⟩ := p; exact SqT.of (e _ _ (t013 _ _ hth)), ?_, ?_⟩
  · intro j x H3 hx pp s0 H0 C0 cl fp IB
    obtain ⟨ts, p1, p3, p4, p5⟩ := pp
    have tt : TS H H3 := t013.trans (Same.ts p5)
    obtain ⟨h, hh, ta, m, sv, rfl, hta, hm, hsv⟩ := (hus.ts tt).get hx
    obtain ⟨_, _, hd45, _⟩ := hP h (List.mem_of_getElem? hh)
    have hjl := (List.getElem?_eq_some_iff.mp hh).1
    have k3 : Nk H H13 H3 := fun b o _ h => p5 _ _ h
    obtain ⟨_, hR3, hF3⟩ := kW k3
    refine b_call (by exact FT) (by exact hr) (by decide) (a_cons (b_var (a_cons (b_var (a_cons (e_ix (b_var (e_int (ix_t (by exact SqT.of hta) (atI_nat (j := 2) rfl) (a_nil ?_))))))))))
    refine ⟨r, d, sv, rs, ds, L, F, h.2.2, rfl, hR3, hF3, sq, by omega, hsv, by omega, fun l H4 e4 nl hl => ?_⟩
    have fl : H l = none := no_but b013 q13 (none_of p5 nl)
    have ltr : l ≠ tr := fun z => by subst z; rw [p1] at nl; cases nl
    have lts := p3.1
    rw [List.length_take] at lts
    have e5 : Nk H H3 (upd H4 tr (.lst (ts ++ [.ref l]))) → True := fun _ => trivial
    refine ⟨ts, e4 _ _ p1, by show _ < 2 ^ 24; omega, ts ++ [.ref l], upd_same, ⟨by rw [List.length_append, List.length_take, lts]; show _ + 1 = _; omega, fun i h' hi => ?_⟩, fun v hv => ?_, fun c u hc => by rw [upd_ne (ne_of_none hc ntr)]; exact e4 _ _ (p5 _ _ hc)⟩
    · rw [take_snoc' hh] at hi
      have lt : (hds.take j).length = j := by rw [List.length_take]; omega
      by_cases hij : i < j
      · rw [List.getElem?_append_left (by omega)] at hi
        obtain ⟨q', g1, g2, g3⟩ := p3.2 i h' hi
        refine ⟨q', by rw [List.getElem?_append_left (by omega)]; exact g1, g2, ?_⟩
        rw [upd_ne (fun z => p4 _ (List.mem_of_getElem? g1) (by rw [z]))]
        exact e4 _ _ g3
      · have hil := (List.getElem?_eq_some_iff.mp hi).1
        rw [List.length_append, lt, List.length_singleton] at hil
        have e : i = j := by omega
        subst e
        rw [List.getElem?_append_right (by omega), lt, Nat.sub_self] at hi
        cases hi
        refine ⟨l, by rw [List.getElem?_append_right (by omega), show i - ts.length = 0 by omega]; rfl, fl, ?_⟩
        rw [upd_ne ltr]
        exact hl
    · rcases List.mem_append.mp hv with hv | hv
      · exact p4 v hv
      · rw [List.mem_singleton.mp hv]
        intro z
        exact ltr (V.ref.inj z)
  intro H3 pp
  obtain ⟨ts, htr, hts, _, e133⟩ := pp
  rw [lus, List.take_length] at hts
  have b03 : But p2 H H3 := fun x o n h => e133 _ _ (b013 x o n h)
  have q3 := q13.up e133
  have s3 := s13.same e133
  have t03 := t013.trans (Same.ts e133)
  show wL _ _ _ [some (.ref c.a), some (.ref p2), some (.ref ca), some (.ref r), some (.int (L.length : Int)), some (.ref d), some (.ref pw), some (.ref tr), none, none, none, none, none, none, none, none, none] _
  -- the elements at which they are
  refine l_cons (s_set (e_lst (a_nil ⟨by show 0 ≤ sizeLine; decide, fun ab H4 e4 nab hab0 => ?_⟩)))
  have fab : H ab = none := no_but b03 q3 nab
  have tab : tr ≠ ab := fun z => by rw [z, nab] at htr; cases htr
  show wL _ _ _ [some (.ref c.a), some (.ref p2), some (.ref ca), some (.ref r), some (.int (L.length : Int)), some (.ref d), some (.ref pw), some (.ref tr), some (.ref ab), none, none, none, none, none, none, none, none] _
  refine l_cons (s_forL (e_var ⟨tr, ts, rfl, SqL.of (e4 _ _ htr), fun j σ H' => ∃ x9 x10 acc, σ = [some (.ref c.a), some (.ref p2), some (.ref ca), some (.ref r), some (.int (L.length : Int)), some (.ref d), some (.ref pw), some (.ref tr), some (.ref ab), x9, x10, none, none, none, none, none, none] ∧ H' ab = some (.lst acc) ∧ AbN H L F H' acc (hds.take j) ∧ (∀ v ∈ acc, v ≠ .ref ab) ∧ Same H3 H', ⟨none, none, [], rfl, hab0, ⟨by rw [List.take_zero]; rfl, fun i h hh => by rw [List.take_zero] at hh; cases hh⟩, by simp, e4⟩, fun j σ H' _ p => by obtain ⟨_, _, _, _, _, _, _, e⟩ := p; exact SqL.of (e _ _ htr), ?_, ?_⟩))
  · intro j y σ H5 hy pp
    obtain ⟨x9, x10, acc, rfl, p1, p2', p3, e5⟩ := pp
    have hjl := (List.getElem?_eq_some_iff.mp hy).1
    have hhj : hds[j]? = some (hds[j]'(by rw [← hts.1]; exact hjl)) := List.getElem?_eq_getElem _
    generalize hds[j]'(by rw [← hts.1]; exact hjl) = h at hhj
    obtain ⟨fo, g1, _, g3⟩ := hts.2 j h hhj
    rw [hy] at g1
    cases g1
    have hjl2 : j < hds.length := by rw [← hts.1]; exact hjl
    show wL _ _ _ [some (.ref c.a), some (.ref p2), some (.ref ca), some (.ref r), some (.int (L.length : Int)), some (.ref d), some (.ref pw), some (.ref tr), some (.ref ab), some (.ref fo), x10, none, none, none, none, none, none] _
    refine l_cons (s_expr (e_app (e_var ⟨ab, _, rfl, SqL.of p1, e_lcRf (by exact bk_sound2) (by assumption) (e_var ⟨L.length, rfl, by omega, fun D nD => ?_⟩)⟩)))
    refine ⟨fun k H6 => H6 D = some (.lst (nV (prs L F h.2.2 k))) ∧ Same H5 H6, ⟨by rw [prs0]; exact upd_same, fun c u hc => by rw [upd_ne (ne_of_none hc nD)]; exact hc⟩, ?_, ?_⟩
    · intro k H6 hk p s0 H0 C0 cl fp IB
      obtain ⟨r1, r2⟩ := p
      refine t_val (e_ix (b_var (b_var (ix_l (SqL.of (r2 _ _ (e5 _ _ g3))) (atI_nat (tl_at hk)) ⟨_, rfl, ?_⟩))))
      have hps := prs_step (L := L) (F := F) (s := h.2.2) (k := k)
      cases h1 : trb L F h.2.2 k with
      | false =>
        rw [h1] at hps
        exact iteF ⟨by rw [hps]; exact r1, r2⟩
      | true =>
        rw [h1] at hps
        refine iteT fun s0 H0 C0 cl fp IB => b_var ⟨_, r1, by have := prs_len L F h.2.2 k; rw [List.length_map]; show _ < 2 ^ 24; omega, ?_, fun c u hc => by rw [upd_ne (ne_of_none hc nD)]; exact r2 _ _ hc⟩
        rw [hps]
        show _ = some (HO.lst (nV (prs L F h.2.2 k ++ [k])))
        rw [show nV (prs L F h.2.2 k ++ [k]) = nV (prs L F h.2.2 k) ++ [.int (k : Int)] from by simp [nV]]
        exact upd_same
    intro H6 p
    obtain ⟨r1, r2⟩ := p
    have fD : H D = none := no_but b03 q3 (none_of e5 nD)
    have nDa : D ≠ ab := fun z => by rw [z, p1] at nD; cases nD
    have la := p2'.1
    rw [List.length_take] at la
    refine ⟨acc, r2 _ _ p1, by show _ < 2 ^ 24; omega, l_nil ⟨_, _, acc ++ [.ref D], rfl, upd_same, ⟨by rw [List.length_append, List.length_take, la]; show _ + 1 = _; omega, fun i h' hi => ?_⟩, fun v hv => ?_, fun c u hc => ?_⟩⟩
    · rw [take_snoc' hhj] at hi
      have lt : (hds.take j).length = j := by rw [List.length_take]; omega
      have lj : acc.length = j := by omega
      by_cases hij : i < j
      · rw [List.getElem?_append_left (by omega)] at hi
        obtain ⟨q', g1, g2, g3⟩ := p2'.2 i h' hi
        refine ⟨q', by rw [List.getElem?_append_left (by omega)]; exact g1, g2, ?_⟩
        rw [upd_ne (fun z => p3 _ (List.mem_of_getElem? g1) (by rw [z]))]
        exact r2 _ _ g3
      · have hil := (List.getElem?_eq_some_iff.mp hi).1
        rw [List.length_append, lt, List.length_singleton] at hil
        have e : i = j := by omega
        subst e
        rw [List.getElem?_append_right (by omega), lt, Nat.sub_self] at hi
        cases hi
        refine ⟨D, by rw [List.getElem?_append_right (by omega), show i - acc.length = 0 by omega]; rfl, fD, ?_⟩
        rw [upd_ne nDa]
        exact r1
    · rcases List.mem_append.mp hv with hv | hv
      · exact p3 v hv
      · rw [List.mem_singleton.mp hv]
        intro z
        exact nDa (V.ref.inj z)
    · rw [upd_ne (ne_of_none hc nab)]
      exact r2 _ _ (e5 _ _ hc)
  rintro σ H5 ⟨x9, x10, acc, rfl, hab, hacc, _, e35⟩
  rw [hts.1, List.take_length] at hacc
  have e135 := e133.trans e35
  have s5 := s3.same e35
  have q5 := q3.up e35
  have b05 : But p2 H H5 := fun x o n h => e35 _ _ (b03 x o n h)
  have t05 := t03.trans (Same.ts e35)
  have hts5 := hts.kp (H' := H5) (fun _ _ _ h => e35 _ _ h)
  have htr5 := e35 _ _ htr
  have k135 : Nk H H13 H5 := fun _ _ _ h => e135 _ _ h
  have hcp5 : ∀ {H' : Hp}, Bu c.p p2 H5 H' → Nk H H5 H' := fun e => Nk.of hcp hpp e
  clear e4 hab0 nab htr hts ntr
  -- five rows of places and one more
  refine l_cons (s_forR (by assumption) (e_int ⟨6, rfl, by decide, fun k σ H' => ∃ x9 x10 x11 x12 x13 x14, σ = [some (.ref c.a), some (.ref p2), some (.ref ca), some (.ref r), some (.int (L.length : Int)), some (.ref d), some (.ref pw), some (.ref tr), some (.ref ab), x9, x10, x11, x12, x13, x14, none, none] ∧ Bu c.p p2 H5 H' ∧ StG H' c b hs ∧ PoolAt H' p2, ⟨x9, x10, none, none, none, none, rfl, fun _ _ _ _ h => h, s5, q5⟩, ?_, ?_⟩))
  · rintro k σ H6 hk ⟨x9, x10, x11, x12, x13, x14, rfl, b6, s6, q6⟩
    show wL _ _ _ [some (.ref c.a), some (.ref p2), some (.ref ca), some (.ref r), some (.int (L.length : Int)), some (.ref d), some (.ref pw), some (.ref tr), some (.ref ab), x9, some (.int (k : Int)), x11, x12, x13, x14, none, none] _
    refine l_cons (s_set (e_call (by exact FS) (by exact hr) (by decide) (a_cons (e_var (a_cons (e_int (a_nil ?_)))))))
    refine ⟨c, b, hs, 2, rfl, s6, Nat.le_refl _, fun gv gs H7 b7 p7 hgv hgd hgt => ?_⟩
    have s7 := s6.pool b7 p7
    have q7 : PoolAt H7 p2 := let ⟨x, y, z, e⟩ := q6; ⟨x, y, z, b7 _ _ n2 e⟩
    have b57 : Bu c.p p2 H5 H7 := fun x o z1 z2 h => b7 x o z1 (b6 x o z1 z2 h)
    show wL _ _ _ [some (.ref c.a), some (.ref p2), some (.ref ca), some (.ref r), some (.int (L.length : Int)), some (.ref d), some (.ref pw), some (.ref tr), some (.ref ab), x9, some (.int (k : Int)), some gv, x12, x13, x14, none, none] _
    have tup : ∀ {u : Addr} {xs : List V} {H' : Hp}, Bu c.p p2 H5 H' → H5 u = some (.tup xs) → H' u = some (.tup xs) := fun {u xs H'} e h => e u _ (fun z => by subst z; obtain ⟨_, _, _, e⟩ := s5.pl; rw [e] at h; cases h) (fun z => by subst z; obtain ⟨_, _, _, e⟩ := q5; rw [e] at h; cases h) h
    have hth7 := tup b57 (t05 _ _ hth)
    refine l_cons (s_lcT (by exact bk_sound3) (e_ix (e_var (e_int (ix_t (by exact SqT.of (tup b57 (t05 _ _ hca))) at0 ⟨th, us, rfl, SqT.of hth7, fun D nD => ?_⟩)))))
    have nDp : D ≠ p2 := q7.ne nD
    have hthp : th ≠ p2 := fun z => by subst z; obtain ⟨_, _, _, e⟩ := q7; rw [e] at hth7; cases hth7
    have hthD : th ≠ D := fun z => by subst z; rw [hth7] at nD; cases nD
    refine ⟨fun j H8 => ∃ ps, H8 D = some (.lst (iV ps)) ∧ ps.length = j ∧ (∀ x ∈ ps, 0 ≤ x ∧ x < (L.length : Int)) ∧ PoolAt H8 p2 ∧ (∀ x o, x ≠ p2 → x ≠ D → H7 x = some o → H8 x = some o), ⟨[], upd_same, rfl, by simp, let ⟨x, y, z, e⟩ := q7; ⟨x, y, z, by rw [upd_ne nDp.symm]; exact e⟩, fun x o _ n h => by rw [upd_ne n]; exact h⟩, fun j H8 _ p => by
      obtain ⟨_, _, _, _, _, e⟩ := p
      exact SqT.of (e _ _ hthp hthD hth7), ?_, ?_⟩
    · intro j x H8 hx pp s0 H0 C0 cl fp IB
      obtain ⟨ps, p1, p3, p4, p5, p6⟩ := pp
      refine b_call (by exact FN) (by exact hr) (by decide) (a_cons (b_var (a_cons (b_var (a_nil ?_)))))
      refine ⟨p2, (L.length : Int), rfl, by omega, by omega, p5, fun v H9 v0 v1 b9 p9 => ?_⟩
      have hjl := (List.getElem?_eq_some_iff.mp hx).1
      refine ⟨_, b9 _ _ nDp p1, by rw [List.length_map]; show _ < 2 ^ 24; omega, ps ++ [v], by rw [show iV (ps ++ [v]) = iV ps ++ [.int v] from by simp [iV]]; exact upd_same, by rw [List.length_append, p3]; rfl, fun y hy => ?_, let ⟨x, y, z, e⟩ := p9; ⟨x, y, z, by rw [upd_ne nDp.symm]; exact e⟩, fun y o z1 z2 h => by rw [upd_ne z2]; exact b9 y o z1 (p6 y o z1 z2 h)⟩
      rcases List.mem_append.mp hy with hy | hy
      · exact p4 y hy
      · rw [List.mem_singleton.mp hy]
        exact ⟨v0, v1⟩
    rintro H8 ⟨ps, hD, lps, rps, q8, b78⟩
    rw [lus] at lps
    have b78' : But p2 H7 H8 := fun x o n h => b78 x o n (fun z => by subst z; rw [nD] at h; cases h) h
    have nDc : D ≠ c.p := s7.pl.ne nD
    have fD : H D = none := by
      cases hz : H D with
      | none => rfl
      | some o => exact absurd (b57 D o nDc nDp (b05 D o nDp hz)) (by rw [nD]; intro z; cases z)
    have tt7 : ∀ {H' : Hp}, But p2 H7 H' → TS H7 H' := fun b u xs h => b u _ (fun z => by subst z; obtain ⟨_, _, _, e⟩ := q7; rw [e] at h; cases h) h
    have b5n : ∀ {H' : Hp}, But p2 H7 H' → Bu c.p p2 H5 H' := fun b x o z1 z2 h => b x o z2 (b57 x o z1 z2 h)
    show wL _ _ _ [some (.ref c.a), some (.ref p2), some (.ref ca), some (.ref r), some (.int (L.length : Int)), some (.ref d), some (.ref pw), some (.ref tr), some (.ref ab), x9, some (.int (k : Int)), some gv, some (.ref D), x13, x14, none, none] _
    -- the question
    have last : ∀ (H9 : Hp) (ps : List Int) x13 x14, But p2 H7 H9 → PoolAt H9 p2 → H9 D = some (.lst (iV ps)) → ps.length = hds.length → (∀ x ∈ ps, 0 ≤ x ∧ x < (L.length : Int)) → ∀ (NX : L2.St → Hp → Prop) (BK CT : L2.St → Hp → Prop), (∀ H' x9 x10 x11 x12 x13 x14, Bu c.p p2 H5 H' → StG H' c b hs → PoolAt H' p2 → NX [some (.ref c.a), some (.ref p2), some (.ref ca), some (.ref r), some (.int (L.length : Int)), some (.ref d), some (.ref pw), some (.ref tr), some (.ref ab), x9, x10, x11, x12, x13, x14, none, none] H') →
        wL (cxOf CX0 P w K mg base (N_sound ++ C_sound) (Str.ofString "_law_sound") (defScope s_sound) f cdv A outer s H E).nox ((forA (defBody s_sound) 7).drop 3) { nx := NX, rt := Q, bk := BK, ct := CT } [some (.ref c.a), some (.ref p2), some (.ref ca), some (.ref r), some (.int (L.length : Int)), some (.ref d), some (.ref pw), some (.ref tr), some (.ref ab), x9, some (.int (k : Int)), some gv, some (.ref D), x13, x14, none, none] H9 := by
      intro H9 ps x13 x14 b79 q9 hD9 lps rps NX BK CT nx
      have b9 := b5n b79
      have s9 := s7.pool2 q7 n2 b79
      have hgv9 := hgv.ts (tt7 b79)
      have n9 := hcp5 b9
      obtain ⟨hW9, hR9, hF9⟩ := kW (fun x o n h => n9 x o n (k135 x o n h))
      refine l_cons (s_if (t_not (t_val (e_call (by exact FA) (by exact hr) (by decide) (a_cons (e_var (a_cons (e_var (a_cons (e_var (a_cons (e_var (a_cons (e_var (a_cons (e_tup (a_cons (e_var (a_cons (e_call (by exact FT) (by exact hr) (by decide) (a_cons (e_var (a_cons (e_var (a_cons (e_var (a_nil ?_)))))))))))))))))))))))))))
      refine ⟨r, d, gv, rs, ds, L, F, gs, rfl, hR9, hF9, sq, by omega, hgv9, by omega, fun lg HA eA nA hlg => a_nil ⟨by show 2 ≤ sizeLine; decide, fun ot HB eB nB hB => a_nil ?_⟩⟩
      have eAB := eA.trans eB
      have hso2 : K36.onc gs = true := hgt.ok.onc
      have hca9 := eAB _ _ (tup b9 (t05 _ _ hca))
      have hth9 := eAB _ _ (tup b9 (t05 _ _ hth))
      have hz2 : SzS gs := ⟨by omega, by have := rws2 hgd; omega⟩
      have tt : TS H HB := (t05.trans (fun u xs h => tup b9 h)).trans (Same.ts eAB)
      refine ⟨pw, r, .ref ca, tr, D, ot, a', d', as', bs', rs, L, F, hds, g, ts, ps, gv, gs, lg, rfl, hW9.same eAB, hR9.same eAB, sq, by omega, by omega, ⟨ca, th, sg, us, rfl, hca9, hth9, hus.ts tt, hsg.ts tt⟩, hsz, hso, by omega, eAB _ _ (n9 _ _ ftr htr5), ((hts5.kp n9).kp (fun _ _ _ h => eAB _ _ h)).trs, eAB _ _ hD9, lps, rps, hB, hgv9.ts (Same.ts eAB), hz2, hso2, eB _ _ hlg, fun hf => shown_true WL hsh hnd lps rps hf, fun HC eC => ⟨true, rfl, iteF (l_nil (l_nil ?_))⟩⟩
      have e9C := eAB.trans eC
      exact nx HC _ _ _ _ _ _ (fun x o z1 z2 h => e9C _ _ (b9 x o z1 z2 h)) (s9.same e9C) (q9.up e9C)
    refine l_cons (s_if (t_w (w_and (t_cmp (e_var (e_int (o_gt ⟨_, rfl, ?_⟩)))))))
    by_cases hk0 : (0 : Int) < (k : Int)
    case neg =>
      rw [decide_eq_false hk0]
      refine iteF (iteF (l_nil ?_))
      exact last H8 ps x13 x14 b78' q8 hD lps rps _ _ _ fun H' x9 x10 x11 x12 x13 x14 g1 g2 g3 => ⟨_, _, _, _, _, _, rfl, g1, g2, g3⟩
    rw [decide_eq_true hk0]
    have hab8 := hcp5 (b5n b78') _ _ fab hab
    have hacc8 := hacc.kp (hcp5 (b5n b78'))
    have lac := hacc.1
    refine iteT (w_and1 (t_not (t_tru (e_lcLf (by exact bk_sound4) (e_var ⟨ab, _, rfl, SqL.of hab8, fun E1 nE => ?_⟩)))))
    refine ⟨fun j H9 => ∃ l, H9 E1 = some (.lst l) ∧ l.length ≤ j ∧ (l.isEmpty = true → ∀ (i : Nat) (h : Hd), i < j → hds[i]? = some h → prs L F h.2.2 L.length ≠ []) ∧ Same H8 H9, ⟨[], upd_same, Nat.le_refl _, fun _ i h hi => by omega, fun c u hc => by rw [upd_ne (ne_of_none hc nE)]; exact hc⟩, fun j H9 _ p => by obtain ⟨_, _, _, _, e⟩ := p; exact SqL.of (e _ _ hab8), ?_, ?_⟩
    · intro j x H9 hx pp s0 H0 C0 cl fp IB
      obtain ⟨l, p1, p3, p4, p5⟩ := pp
      have hjl := (List.getElem?_eq_some_iff.mp hx).1
      have hhj : hds[j]? = some (hds[j]'(by omega)) := List.getElem?_eq_getElem _
      generalize hds[j]'(by omega) = h at hhj
      obtain ⟨qa, g1, _, g3⟩ := hacc8.2 j h hhj
      rw [hx] at g1
      cases g1
      refine t_not (t_tru (b_var ⟨_, tru_l (p5 _ _ g3), ?_⟩))
      cases he : prs L F h.2.2 L.length with
      | nil =>
        refine iteT fun s0 H0 C0 cl fp IB => b_var ⟨l, p1, by show _ < 2 ^ 24; omega, _, upd_same, by rw [List.length_append]; exact Nat.succ_le_succ p3, fun z => ?_, fun c u hc => by rw [upd_ne (ne_of_none hc nE)]; exact p5 _ _ hc⟩
        simp at z
      | cons v vs =>
        refine iteF ⟨l, p1, by omega, fun z i h' hi hh' => ?_, p5⟩
        by_cases hij : i < j
        · exact p4 z i h' hij hh'
        · have e : i = j := by omega
          subst e
          rw [hhj] at hh'
          cases hh'
          rw [he]
          intro z2
          cases z2
    rintro H9 ⟨l, hl, _, hemp, e89⟩
    rw [lac] at hemp
    refine ⟨_, tru_l hl, ?_⟩
    have b79 : But p2 H7 H9 := fun x o n h => e89 _ _ (b78' x o n h)
    have q9 := q8.up e89
    have hD9 := e89 _ _ hD
    cases hle : l.isEmpty with
    | false =>
      refine iteF (l_nil ?_)
      exact last H9 ps x13 x14 b79 q9 hD9 lps rps _ _ _ fun H' x9 x10 x11 x12 x13 x14 g1 g2 g3 => ⟨_, _, _, _, _, _, rfl, g1, g2, g3⟩
    | true =>
    have hne := hemp hle
    refine iteT (l_cons (s_set (e_bin (e_bin (e_var (e_int (o_sub (e_bin (e_int (e_call (by exact FN) (by exact hr) (by decide) (a_cons (e_var (a_cons (e_int (a_nil ?_)))))))))))))))
    refine ⟨p2, 4, rfl, by decide, by decide, q9, fun dd HA d0 d1 bA qA => o_mul (.inl ⟨by omega, by omega⟩) (o_add ?_)⟩
    have b7A : But p2 H7 HA := fun x o n h => bA x o n (b79 x o n h)
    have hDA := bA _ _ nDp hD9
    have habA := hcp5 (b5n b7A) _ _ fab hab
    have haccA := hacc.kp (hcp5 (b5n b7A))
    have nDab : D ≠ ab := fun z => by
      have := hcp5 b57 _ _ fab hab
      rw [← z, nD] at this
      cases this
    have hr0 : (0 : Int) ≤ (k : Int) - 1 + 5 * dd := by omega
    generalize (k : Int) - 1 + 5 * dd = re at hr0
    show wL _ _ _ [some (.ref c.a), some (.ref p2), some (.ref ca), some (.ref r), some (.int (L.length : Int)), some (.ref d), some (.ref pw), some (.ref tr), some (.ref ab), x9, some (.int (k : Int)), some gv, some (.ref D), some (.int re), x14, none, none] _
    refine l_cons (s_forR (by assumption) (e_callB (x := "len") (by assumption) b_len (a_cons (e_var (a_nil (c_lenL (by exact SqL.of hDA) ?_))))))
    rw [List.length_map]
    refine ⟨ps.length, rfl, by omega, fun j σ H' => ∃ ps' re x14, σ = [some (.ref c.a), some (.ref p2), some (.ref ca), some (.ref r), some (.int (L.length : Int)), some (.ref d), some (.ref pw), some (.ref tr), some (.ref ab), x9, some (.int (k : Int)), some gv, some (.ref D), some (.int re), x14, none, none] ∧ 0 ≤ re ∧ H' D = some (.lst (iV ps')) ∧ ps'.length = hds.length ∧ (∀ x ∈ ps', 0 ≤ x ∧ x < (L.length : Int)) ∧ ∀ x o, x ≠ D → HA x = some o → H' x = some o, ⟨ps, re, x14, rfl, hr0, hDA, lps, rps, fun _ _ _ h => h⟩, ?_, ?_⟩
    · rintro j σ H' hj ⟨ps', re, x14, rfl, hr0, hD', lps', rps', bD⟩
      have hhj : hds[j]? = some (hds[j]'(by omega)) := List.getElem?_eq_getElem _
      generalize hds[j]'(by omega) = h at hhj
      obtain ⟨qa, g1, g2, g3⟩ := haccA.2 j h hhj
      have hab' := bD _ _ nDab.symm habA
      have nqD : qa ≠ D := fun z => by
        obtain ⟨q5', z1, z2, z3⟩ := hacc.2 j h hhj
        rw [g1] at z1
        cases z1
        have := hcp5 b57 _ _ z2 z3
        rw [z, nD] at this
        cases this
      have g3' := bD _ _ nqD g3
      have hnn := hne j h (by omega) hhj
      have lpr := prs_len L F h.2.2 L.length
      have hpos : 0 < (prs L F h.2.2 L.length).length := List.length_pos_iff.mpr hnn
      have m0 := Int.emod_nonneg re (show ((prs L F h.2.2 L.length).length : Int) ≠ 0 by omega)
      have m1 := Int.emod_lt_of_pos re (show (0 : Int) < ((prs L F h.2.2 L.length).length : Int) by omega)
      obtain ⟨mi, hmi⟩ := Int.eq_ofNat_of_zero_le m0
      have hmil : mi < (prs L F h.2.2 L.length).length := by omega
      have hv : (nV (prs L F h.2.2 L.length))[mi]? = some (.int ((prs L F h.2.2 L.length)[mi] : Int)) := by rw [List.getElem?_map, List.getElem?_eq_getElem hmil]; rfl
      have hvl := prs_lt (List.getElem_mem hmil)
      generalize (prs L F h.2.2 L.length)[mi] = v at hv hvl
      show wL _ _ _ [some (.ref c.a), some (.ref p2), some (.ref ca), some (.ref r), some (.int (L.length : Int)), some (.ref d), some (.ref pw), some (.ref tr), some (.ref ab), x9, some (.int (k : Int)), some gv, some (.ref D), some (.int re), some (.int (j : Int)), none, none] _
      refine l_cons (s_sub (e_ix (e_ix (e_var (e_var (ix_l (by exact SqL.of hab') (atI_nat g1) (e_bin (e_callTy (x := "int") (by assumption) b_int (a_cons (e_var (a_nil (c_int (e_callB (x := "len") (by assumption) b_len (a_cons (e_ix (e_var (e_var (ix_l (by exact SqL.of hab') (atI_nat g1) (a_nil (c_lenL (by exact SqL.of g3') ?_))))))))))))))))))))
      rw [List.length_map]
      refine o_mod (by omega) ?_
      rw [hmi]
      refine ix_l (by exact SqL.of g3') (atI_nat hv) ?_
      refine e_var (e_var (set_l hD' (k := j) (show ixN (iV ps').length (j : Int) = some j by rw [List.length_map]; have := ixN_in (n := ps'.length) (i := (j : Int)) (by omega) (by omega); rwa [Int.toNat_natCast] at this) ?_))
      rw [iv_set]
      have g3'' : upd H' D (.lst (iV (ps'.set j (v : Int)))) qa = some (.lst (nV (prs L F h.2.2 L.length))) := by rw [upd_ne nqD]; exact g3'
      have hab'' : upd H' D (.lst (iV (ps'.set j (v : Int)))) ab = some (.lst acc) := by rw [upd_ne nDab.symm]; exact hab'
      refine l_cons (s_set (e_bin (e_var (e_callB (x := "len") (by assumption) b_len (a_cons (e_ix (e_var (e_var (ix_l (by exact SqL.of hab'') (atI_nat g1) (a_nil (c_lenL (by exact SqL.of g3'') ?_)))))))))))
      rw [List.length_map]
      refine o_fdiv ⟨by omega, by omega⟩ (l_nil ⟨_, _, _, rfl, Int.ediv_nonneg hr0 (by omega), upd_same, by rw [List.length_set]; exact lps', fun x hx => ?_, fun x o z h => by rw [upd_ne z]; exact bD x o z h⟩)
      rcases List.mem_or_eq_of_mem_set hx with hx | rfl
      · exact rps' x hx
      · exact ⟨by omega, by omega⟩
    rintro σ HB ⟨ps', re, x14, rfl, _, hDB, lps', rps', bD⟩
    have b7B : But p2 H7 HB := fun x o n h => bD x o (fun z => by subst z; rw [nD] at h; cases h) (b7A x o n h)
    have qB : PoolAt HB p2 := let ⟨x, y, z, e⟩ := qA; ⟨x, y, z, bD _ _ nDp.symm e⟩
    exact l_nil (last HB ps' _ _ b7B qB hDB lps' rps' _ _ _ fun H' x9 x10 x11 x12 x13 x14 g1 g2 g3 => ⟨_, _, _, _, _, _, rfl, g1, g2, g3⟩)
  rintro σ H6 ⟨x9, x10, x11, x12, x13, x14, rfl, b6, s6, q6⟩
  exact l_cons (s_ret (e_bl (q H6 (fun x o z1 z2 h => b6 x o z1 z2 (b05 x o z2 h)) s6 q6)))
end




section
variable {P : Program} {w : World} {K : PySem.W.Frag} {mg : Str → Option Value} {base : Heap} {C : Addr}
theorem sql_keep {K : PySem.W.Frag} {H H' : Hp} {sa : Addr} {xs : List V} (h : SqL K H sa xs) (e : ∀ o, H sa = some o → H' sa = some o) : SqL K H' sa xs := by
  rcases h with h | h
  · rcases h with h | ⟨o, h⟩
    · exact .inl (.inl (e _ h))
    · exact .inl (.inr ⟨o, e _ h⟩)
  · exact .inr h
def spLaw (K : PySem.W.Frag) : Sp := fun vs H Q _ => ∃ (a : Addr) (ns : List Int), vs = [.ref a] ∧ SqL K H a (ns.map V.int) ∧ ns.length ≤ 63 ∧ ∀ H', Q (.bl true) H'
theorem ok_law {f : Addr} {fd : FuncData} (F : Fun K "law" "law" s_law f fd) (mR : mg "range" = none) (FPo : Fn P w K mg base 2 "_law_pool" (spPool K)) (FSt : Fn P w K mg base 2 "_law_state" spState) (FCa : Fn P w K mg base 66 "_law_case" spCase) (FSh : Fn P w K mg base 190 "_law_shows" spShows) (FSo : Fn P w K mg base 52 "_law_sound" spSound) : FnOk P w K mg base CX0 200 f fd ["_law_script"] (spLaw K) := by
  refine run_ok F sc_law so_law (fun vs H Q E h => by obtain ⟨a, ns, rfl, _⟩ := h; rfl) fun f cdv A outer s H vs Q E hr h nd => ?_
  obtain ⟨sa, zs, rfl, hS, hlen, q⟩ := h
  refine l_cons (s_set (e_call (by exact FSt) (by exact hr) (by decide) (a_cons (e_call (by exact FPo) (by exact hr) (by decide) (a_cons (e_var (a_cons (e_int (a_nil ?_)))))))))
  refine ⟨sa, zs, 0, rfl, hS, fun p H1 e1 np p1 => a_cons (e_str (a_cons (e_int (a_nil ?_))))⟩
  refine ⟨p, 8, rfl, p1, by decide, by decide, fun c b H2 hcp b2 s2 hb1 hb2 nca nch nct => ?_⟩
  show wL _ _ _ [some (.ref sa), some (.ref c.a), none, none, none] _
  refine l_cons (s_set (e_call (by exact FCa) (by exact hr) (by decide) (a_cons (e_var (a_nil ?_)))))
  refine ⟨c, b, rfl, s2, by omega, fun a cv tv hds g t b' hs' H3 g3 s3 ha hcl hP hnd h31 hgo hg3 htv hok hdp hsz => ?_⟩
  show wL _ _ _ [some (.ref sa), some (.ref c.a), some (.ref a), none, none] _
  refine l_cons (s_if (t_not (t_val (e_call (by exact FSh) (by exact hr) (by decide) (a_cons (e_var (a_cons (e_ix (e_var (e_int (ix_t (by exact SqT.of ha) at0 (a_cons (e_ix (e_var (e_int (ix_t (by exact SqT.of ha) at1 (a_nil ?_)))))))))))))))))
  refine ⟨.ref c.a, cv, tv, hds, g, t, rfl, hcl, fun x hx => ⟨(hP x hx).1, (hP x hx).2.1, by have := (hP x hx).2.2.1; omega⟩, by omega, hgo, by omega, htv, hok, hdp, hsz, fun H4 e4 => ⟨_, rfl, ?_⟩⟩
  cases hsh : shw hds g t with
  | false => exact iteT (l_cons (s_ret (e_bl (q H4))))
  | true =>
  refine iteF (l_nil ?_)
  have hS4 : SqL K H4 sa (zs.map V.int) := sql_keep hS fun o h => by
    have h1 := e1 _ _ h
    have hp : sa ≠ p := fun z => by rw [z, np] at h; cases h
    have ne : ∀ {y : Addr}, H1 y = none → sa ≠ y := fun n z => by rw [z, n] at h1; cases h1
    exact e4 _ _ (g3 _ _ (b2 _ _ hp h1) ⟨by rw [hcp]; exact hp, ne nca, ne nch, ne nct⟩)
  have s4 := s3.same e4
  refine l_cons (s_set (e_call (by exact FPo) (by exact hr) (by decide) (a_cons (e_var (a_cons (e_int (a_nil ?_)))))))
  refine ⟨sa, zs, 1, rfl, hS4, fun p2 H5 e5 np2 q5 => ?_⟩
  have n2 : p2 ≠ c.p := s4.pl.ne np2
  have s5 := s4.same e5
  have e35 := e4.trans e5
  have ha5 := e35 _ _ ha
  have hcl5 := hcl.ts (Same.ts e35)
  show wL _ _ _ [some (.ref sa), some (.ref c.a), some (.ref a), some (.ref p2), none] _
  refine l_cons (s_forR (by assumption) (e_int ⟨3, rfl, by decide, fun k σ H' => ∃ x4, σ = [some (.ref sa), some (.ref c.a), some (.ref a), some (.ref p2), x4] ∧ StG H' c b' hs' ∧ PoolAt H' p2 ∧ Bu c.p p2 H5 H', ⟨none, rfl, s5, q5, fun _ _ _ _ h => h⟩, ?_, ?_⟩))
  · rintro k σ H6 hk ⟨x4, rfl, s6, q6, b6⟩
    have t6 : TS H5 H6 := fun u xs h => b6 u _ (fun z => by subst z; obtain ⟨_, _, _, e⟩ := s5.pl; rw [e] at h; cases h) (fun z => by subst z; obtain ⟨_, _, _, e⟩ := q5; rw [e] at h; cases h) h
    show wL _ _ _ [some (.ref sa), some (.ref c.a), some (.ref a), some (.ref p2), some (.int (k : Int))] _
    refine l_cons (s_if (t_not (t_val (e_call (by exact FSo) (by exact hr) (by decide) (a_cons (e_var (a_cons (e_var (a_cons (e_ix (e_var (e_int (ix_t (by exact SqT.of (t6 _ _ ha5)) at0 (a_nil ?_))))))))))))))
    refine ⟨c, b', hs', p2, cv, hds, g, t, rfl, s6, q6, n2, hcl5.ts t6, hsh, hP, hnd, h31, hgo, hg3, fun H7 b7 s7 q7 => ⟨true, rfl, iteF (l_nil (l_nil ⟨_, rfl, s7, q7, fun x o z1 z2 h => b7 x o z1 z2 (b6 x o z1 z2 h)⟩))⟩⟩
  rintro σ H6 ⟨x4, rfl, _⟩
  exact l_cons (s_ret (e_bl (q H6)))
end


section
theorem all_mk {l : PySem.W.OpenLaw} {w : World} {K : PySem.W.Frag} {h : Heap} {mg : Str → Option Value} {fa : Addr} (X : K.In h) (G : h.Ns mainGlobals mg) (hfa : mg "law" = some (.ref fa))
    {f0 : Addr} {od0 an0 : Option Addr} {sl0 : Array (Option Value)} {oc0 kV0 dc0 pm0 cd0 ct0 : Value}
    {f1 : Addr} {od1 an1 : Option Addr} {sl1 : Array (Option Value)} {oc1 kV1 dc1 pm1 cd1 ct1 : Value}
    {f2 : Addr} {od2 an2 : Option Addr} {sl2 : Array (Option Value)} {oc2 kV2 dc2 pm2 cd2 ct2 : Value}
    {f3 : Addr} {od3 an3 : Option Addr} {sl3 : Array (Option Value)} {oc3 kV3 dc3 pm3 cd3 ct3 : Value}
    {f4 : Addr} {od4 an4 : Option Addr} {sl4 : Array (Option Value)} {oc4 kV4 dc4 pm4 cd4 ct4 : Value}
    {f5 : Addr} {od5 an5 : Option Addr} {sl5 : Array (Option Value)} {oc5 kV5 dc5 pm5 cd5 ct5 : Value}
    {f6 : Addr} {od6 an6 : Option Addr} {sl6 : Array (Option Value)} {oc6 kV6 dc6 pm6 cd6 ct6 : Value}
    {f7 : Addr} {od7 an7 : Option Addr} {sl7 : Array (Option Value)} {oc7 kV7 dc7 pm7 cd7 ct7 : Value}
    {f8 : Addr} {od8 an8 : Option Addr} {sl8 : Array (Option Value)} {oc8 kV8 dc8 pm8 cd8 ct8 : Value}
    {f9 : Addr} {od9 an9 : Option Addr} {sl9 : Array (Option Value)} {oc9 kV9 dc9 pm9 cd9 ct9 : Value}
    {f10 : Addr} {od10 an10 : Option Addr} {sl10 : Array (Option Value)} {oc10 kV10 dc10 pm10 cd10 ct10 : Value}
    {f11 : Addr} {od11 an11 : Option Addr} {sl11 : Array (Option Value)} {oc11 kV11 dc11 pm11 cd11 ct11 : Value}
    {f12 : Addr} {od12 an12 : Option Addr} {sl12 : Array (Option Value)} {oc12 kV12 dc12 pm12 cd12 ct12 : Value}
    {f13 : Addr} {od13 an13 : Option Addr} {sl13 : Array (Option Value)} {oc13 kV13 dc13 pm13 cd13 ct13 : Value}
    {f14 : Addr} {od14 an14 : Option Addr} {sl14 : Array (Option Value)} {oc14 kV14 dc14 pm14 cd14 ct14 : Value}
    {f15 : Addr} {od15 an15 : Option Addr} {sl15 : Array (Option Value)} {oc15 kV15 dc15 pm15 cd15 ct15 : Value}
    {f16 : Addr} {od16 an16 : Option Addr} {sl16 : Array (Option Value)} {oc16 kV16 dc16 pm16 cd16 ct16 : Value}
    {f17 : Addr} {od17 an17 : Option Addr} {sl17 : Array (Option Value)} {oc17 kV17 dc17 pm17 cd17 ct17 : Value}
    {f18 : Addr} {od18 an18 : Option Addr} {sl18 : Array (Option Value)} {oc18 kV18 dc18 pm18 cd18 ct18 : Value}
    {f19 : Addr} {od19 an19 : Option Addr} {sl19 : Array (Option Value)} {oc19 kV19 dc19 pm19 cd19 ct19 : Value}
    {f20 : Addr} {od20 an20 : Option Addr} {sl20 : Array (Option Value)} {oc20 kV20 dc20 pm20 cd20 ct20 : Value}
    {f21 : Addr} {od21 an21 : Option Addr} {sl21 : Array (Option Value)} {oc21 kV21 dc21 pm21 cd21 ct21 : Value}
    {f22 : Addr} {od22 an22 : Option Addr} {sl22 : Array (Option Value)} {oc22 kV22 dc22 pm22 cd22 ct22 : Value}
    {f23 : Addr} {od23 an23 : Option Addr} {sl23 : Array (Option Value)} {oc23 kV23 dc23 pm23 cd23 ct23 : Value}
    {f24 : Addr} {od24 an24 : Option Addr} {sl24 : Array (Option Value)} {oc24 kV24 dc24 pm24 cd24 ct24 : Value}
    {f25 : Addr} {od25 an25 : Option Addr} {sl25 : Array (Option Value)} {oc25 kV25 dc25 pm25 cd25 ct25 : Value}
    {f26 : Addr} {od26 an26 : Option Addr} {sl26 : Array (Option Value)} {oc26 kV26 dc26 pm26 cd26 ct26 : Value}
    {f27 : Addr} {od27 an27 : Option Addr} {sl27 : Array (Option Value)} {oc27 kV27 dc27 pm27 cd27 ct27 : Value}
    {f28 : Addr} {od28 an28 : Option Addr} {sl28 : Array (Option Value)} {oc28 kV28 dc28 pm28 cd28 ct28 : Value}
    {f29 : Addr} {od29 an29 : Option Addr} {sl29 : Array (Option Value)} {oc29 kV29 dc29 pm29 cd29 ct29 : Value}
    {f30 : Addr} {od30 an30 : Option Addr} {sl30 : Array (Option Value)} {oc30 kV30 dc30 pm30 cd30 ct30 : Value}
    {f31 : Addr} {od31 an31 : Option Addr} {sl31 : Array (Option Value)} {oc31 kV31 dc31 pm31 cd31 ct31 : Value}
    {f32 : Addr} {od32 an32 : Option Addr} {sl32 : Array (Option Value)} {oc32 kV32 dc32 pm32 cd32 ct32 : Value}
    {f33 : Addr} {od33 an33 : Option Addr} {sl33 : Array (Option Value)} {oc33 kV33 dc33 pm33 cd33 ct33 : Value}
    {f34 : Addr} {od34 an34 : Option Addr} {sl34 : Array (Option Value)} {oc34 kV34 dc34 pm34 cd34 ct34 : Value}
    {f35 : Addr} {od35 an35 : Option Addr} {sl35 : Array (Option Value)} {oc35 kV35 dc35 pm35 cd35 ct35 : Value}
    {f36 : Addr} {od36 an36 : Option Addr} {sl36 : Array (Option Value)} {oc36 kV36 dc36 pm36 cd36 ct36 : Value}
    {f37 : Addr} {od37 an37 : Option Addr} {sl37 : Array (Option Value)} {oc37 kV37 dc37 pm37 cd37 ct37 : Value}
    {f38 : Addr} {od38 an38 : Option Addr} {sl38 : Array (Option Value)} {oc38 kV38 dc38 pm38 cd38 ct38 : Value}
    {f39 : Addr} {od39 an39 : Option Addr} {sl39 : Array (Option Value)} {oc39 kV39 dc39 pm39 cd39 ct39 : Value}
    {f40 : Addr} {od40 an40 : Option Addr} {sl40 : Array (Option Value)} {oc40 kV40 dc40 pm40 cd40 ct40 : Value}
    {f41 : Addr} {od41 an41 : Option Addr} {sl41 : Array (Option Value)} {oc41 kV41 dc41 pm41 cd41 ct41 : Value}
    {f42 : Addr} {od42 an42 : Option Addr} {sl42 : Array (Option Value)} {oc42 kV42 dc42 pm42 cd42 ct42 : Value}
    {f43 : Addr} {od43 an43 : Option Addr} {sl43 : Array (Option Value)} {oc43 kV43 dc43 pm43 cd43 ct43 : Value}
    {f44 : Addr} {od44 an44 : Option Addr} {sl44 : Array (Option Value)} {oc44 kV44 dc44 pm44 cd44 ct44 : Value}
    {f45 : Addr} {od45 an45 : Option Addr} {sl45 : Array (Option Value)} {oc45 kV45 dc45 pm45 cd45 ct45 : Value}
    {f46 : Addr} {od46 an46 : Option Addr} {sl46 : Array (Option Value)} {oc46 kV46 dc46 pm46 cd46 ct46 : Value}
    {f47 : Addr} {od47 an47 : Option Addr} {sl47 : Array (Option Value)} {oc47 kV47 dc47 pm47 cd47 ct47 : Value}
    {f48 : Addr} {od48 an48 : Option Addr} {sl48 : Array (Option Value)} {oc48 kV48 dc48 pm48 cd48 ct48 : Value}
    {f49 : Addr} {od49 an49 : Option Addr} {sl49 : Array (Option Value)} {oc49 kV49 dc49 pm49 cd49 ct49 : Value}
    {CB CH CO : Addr}
    {nmCB qnCB : Str} {NaCB : Addr} {bsCB : List Value} {snCB : List Str} {subCB : List Value} {abCB : Bool} {colCB : Option Bool} {ddCB : Option Addr} {x0CB x1CB x2CB x3CB x5CB : Option Value}
    {f50 : Addr} {od50 an50 : Option Addr} {sl50 : Array (Option Value)} {oc50 kV50 dc50 pm50 cd50 ct50 : Value}
    {C : Addr}
    {f51 : Addr} {od51 an51 : Option Addr} {sl51 : Array (Option Value)} {oc51 kV51 dc51 pm51 cd51 ct51 : Value}
    {f52 : Addr} {od52 an52 : Option Addr} {sl52 : Array (Option Value)} {oc52 kV52 dc52 pm52 cd52 ct52 : Value}
    {f53 : Addr} {od53 an53 : Option Addr} {sl53 : Array (Option Value)} {oc53 kV53 dc53 pm53 cd53 ct53 : Value}
    {f54 : Addr} {od54 an54 : Option Addr} {sl54 : Array (Option Value)} {oc54 kV54 dc54 pm54 cd54 ct54 : Value}
    {f55 : Addr} {od55 an55 : Option Addr} {sl55 : Array (Option Value)} {oc55 kV55 dc55 pm55 cd55 ct55 : Value}
    (a0 : PySem.W.nsIn K mainGlobals "is_all_once" = some (some (.ref f0)))
    (l0 : K.lookup f0 = some ⟨oc0, od0, .func (PySem.W.fnOf "is_all_once" "is_all_once" (defArgs s_is_all_once) (defBody s_is_all_once) (defScope s_is_all_once) .none kV0 dc0 pm0 an0 cd0 ct0), sl0⟩)
    (c0 : PySem.W.codeIn K cd0 "is_all_once" = true)
    (k0 : PySem.W.keepIn K (.ref f0) = true)
    (a1 : PySem.W.nsIn K mainGlobals "require_once" = some (some (.ref f1)))
    (l1 : K.lookup f1 = some ⟨oc1, od1, .func (PySem.W.fnOf "require_once" "require_once" (defArgs s_require_once) (defBody s_require_once) (defScope s_require_once) .none kV1 dc1 pm1 an1 cd1 ct1), sl1⟩)
    (c1 : PySem.W.codeIn K cd1 "require_once" = true)
    (k1 : PySem.W.keepIn K (.ref f1) = true)
    (a2 : PySem.W.nsIn K mainGlobals "truths" = some (some (.ref f2)))
    (l2 : K.lookup f2 = some ⟨oc2, od2, .func (PySem.W.fnOf "truths" "truths" (defArgs s_truths) (defBody s_truths) (defScope s_truths) .none kV2 dc2 pm2 an2 cd2 ct2), sl2⟩)
    (c2 : PySem.W.codeIn K cd2 "truths" = true)
    (k2 : PySem.W.keepIn K (.ref f2) = true)
    (a3 : PySem.W.nsIn K mainGlobals "fault_of" = some (some (.ref f3)))
    (l3 : K.lookup f3 = some ⟨oc3, od3, .func (PySem.W.fnOf "fault_of" "fault_of" (defArgs s_fault_of) (defBody s_fault_of) (defScope s_fault_of) .none kV3 dc3 pm3 an3 cd3 ct3), sl3⟩)
    (c3 : PySem.W.codeIn K cd3 "fault_of" = true)
    (k3 : PySem.W.keepIn K (.ref f3) = true)
    (a4 : PySem.W.nsIn K mainGlobals "has_shape" = some (some (.ref f4)))
    (l4 : K.lookup f4 = some ⟨oc4, od4, .func (PySem.W.fnOf "has_shape" "has_shape" (defArgs s_has_shape) (defBody s_has_shape) (defScope s_has_shape) .none kV4 dc4 pm4 an4 cd4 ct4), sl4⟩)
    (c4 : PySem.W.codeIn K cd4 "has_shape" = true)
    (k4 : PySem.W.keepIn K (.ref f4) = true)
    (a5 : PySem.W.nsIn K mainGlobals "does_grouping_hold" = some (some (.ref f5)))
    (l5 : K.lookup f5 = some ⟨oc5, od5, .func (PySem.W.fnOf "does_grouping_hold" "does_grouping_hold" (defArgs s_does_grouping_hold) (defBody s_does_grouping_hold) (defScope s_does_grouping_hold) .none kV5 dc5 pm5 an5 cd5 ct5), sl5⟩)
    (c5 : PySem.W.codeIn K cd5 "does_grouping_hold" = true)
    (k5 : PySem.W.keepIn K (.ref f5) = true)
    (a6 : PySem.W.nsIn K mainGlobals "_law_cell" = some (some (.ref f6)))
    (l6 : K.lookup f6 = some ⟨oc6, od6, .func (PySem.W.fnOf "_law_cell" "_law_cell" (defArgs s_cell) (defBody s_cell) (defScope s_cell) .none kV6 dc6 pm6 an6 cd6 ct6), sl6⟩)
    (c6 : PySem.W.codeIn K cd6 "_law_cell" = true)
    (k6 : PySem.W.keepIn K (.ref f6) = true)
    (a7 : PySem.W.nsIn K mainGlobals "_law_pool" = some (some (.ref f7)))
    (l7 : K.lookup f7 = some ⟨oc7, od7, .func (PySem.W.fnOf "_law_pool" "_law_pool" (defArgs s_pool) (defBody s_pool) (defScope s_pool) .none kV7 dc7 pm7 an7 cd7 ct7), sl7⟩)
    (c7 : PySem.W.codeIn K cd7 "_law_pool" = true)
    (k7 : PySem.W.keepIn K (.ref f7) = true)
    (a8 : PySem.W.nsIn K mainGlobals "_law_next" = some (some (.ref f8)))
    (l8 : K.lookup f8 = some ⟨oc8, od8, .func (PySem.W.fnOf "_law_next" "_law_next" (defArgs s_next) (defBody s_next) (defScope s_next) .none kV8 dc8 pm8 an8 cd8 ct8), sl8⟩)
    (c8 : PySem.W.codeIn K cd8 "_law_next" = true)
    (k8 : PySem.W.keepIn K (.ref f8) = true)
    (a9 : PySem.W.nsIn K mainGlobals "_law_name" = some (some (.ref f9)))
    (l9 : K.lookup f9 = some ⟨oc9, od9, .func (PySem.W.fnOf "_law_name" "_law_name" (defArgs s_name) (defBody s_name) (defScope s_name) .none kV9 dc9 pm9 an9 cd9 ct9), sl9⟩)
    (c9 : PySem.W.codeIn K cd9 "_law_name" = true)
    (k9 : PySem.W.keepIn K (.ref f9) = true)
    (a10 : PySem.W.nsIn K mainGlobals "_law_state" = some (some (.ref f10)))
    (l10 : K.lookup f10 = some ⟨oc10, od10, .func (PySem.W.fnOf "_law_state" "_law_state" (defArgs s_state) (defBody s_state) (defScope s_state) .none kV10 dc10 pm10 an10 cd10 ct10), sl10⟩)
    (c10 : PySem.W.codeIn K cd10 "_law_state" = true)
    (k10 : PySem.W.keepIn K (.ref f10) = true)
    (a11 : PySem.W.nsIn K mainGlobals "_law_sentence" = some (some (.ref f11)))
    (l11 : K.lookup f11 = some ⟨oc11, od11, .func (PySem.W.fnOf "_law_sentence" "_law_sentence" (defArgs s_sentence) (defBody s_sentence) (defScope s_sentence) .none kV11 dc11 pm11 an11 cd11 ct11), sl11⟩)
    (c11 : PySem.W.codeIn K cd11 "_law_sentence" = true)
    (k11 : PySem.W.keepIn K (.ref f11) = true)
    (a12 : PySem.W.nsIn K mainGlobals "_law_merge" = some (some (.ref f12)))
    (l12 : K.lookup f12 = some ⟨oc12, od12, .func (PySem.W.fnOf "_law_merge" "_law_merge" (defArgs s_merge) (defBody s_merge) (defScope s_merge) .none kV12 dc12 pm12 an12 cd12 ct12), sl12⟩)
    (c12 : PySem.W.codeIn K cd12 "_law_merge" = true)
    (k12 : PySem.W.keepIn K (.ref f12) = true)
    (a13 : PySem.W.nsIn K mainGlobals "_law_box" = some (some (.ref f13)))
    (l13 : K.lookup f13 = some ⟨oc13, od13, .func (PySem.W.fnOf "_law_box" "_law_box" (defArgs s_box) (defBody s_box) (defScope s_box) .none kV13 dc13 pm13 an13 cd13 ct13), sl13⟩)
    (c13 : PySem.W.codeIn K cd13 "_law_box" = true)
    (k13 : PySem.W.keepIn K (.ref f13) = true)
    (a14 : PySem.W.nsIn K mainGlobals "_law_counts" = some (some (.ref f14)))
    (l14 : K.lookup f14 = some ⟨oc14, od14, .func (PySem.W.fnOf "_law_counts" "_law_counts" (defArgs s_counts) (defBody s_counts) (defScope s_counts) .none kV14 dc14 pm14 an14 cd14 ct14), sl14⟩)
    (c14 : PySem.W.codeIn K cd14 "_law_counts" = true)
    (k14 : PySem.W.keepIn K (.ref f14) = true)
    (a15 : PySem.W.nsIn K mainGlobals "_law_fits" = some (some (.ref f15)))
    (l15 : K.lookup f15 = some ⟨oc15, od15, .func (PySem.W.fnOf "_law_fits" "_law_fits" (defArgs s_fits) (defBody s_fits) (defScope s_fits) .none kV15 dc15 pm15 an15 cd15 ct15), sl15⟩)
    (c15 : PySem.W.codeIn K cd15 "_law_fits" = true)
    (k15 : PySem.W.keepIn K (.ref f15) = true)
    (a16 : PySem.W.nsIn K mainGlobals "_law_usable" = some (some (.ref f16)))
    (l16 : K.lookup f16 = some ⟨oc16, od16, .func (PySem.W.fnOf "_law_usable" "_law_usable" (defArgs s_usable) (defBody s_usable) (defScope s_usable) .none kV16 dc16 pm16 an16 cd16 ct16), sl16⟩)
    (c16 : PySem.W.codeIn K cd16 "_law_usable" = true)
    (k16 : PySem.W.keepIn K (.ref f16) = true)
    (a17 : PySem.W.nsIn K mainGlobals "_law_hold" = some (some (.ref f17)))
    (l17 : K.lookup f17 = some ⟨oc17, od17, .func (PySem.W.fnOf "_law_hold" "_law_hold" (defArgs s_hold) (defBody s_hold) (defScope s_hold) .none kV17 dc17 pm17 an17 cd17 ct17), sl17⟩)
    (c17 : PySem.W.codeIn K cd17 "_law_hold" = true)
    (k17 : PySem.W.keepIn K (.ref f17) = true)
    (a18 : PySem.W.nsIn K mainGlobals "_law_close" = some (some (.ref f18)))
    (l18 : K.lookup f18 = some ⟨oc18, od18, .func (PySem.W.fnOf "_law_close" "_law_close" (defArgs s_close) (defBody s_close) (defScope s_close) .none kV18 dc18 pm18 an18 cd18 ct18), sl18⟩)
    (c18 : PySem.W.codeIn K cd18 "_law_close" = true)
    (k18 : PySem.W.keepIn K (.ref f18) = true)
    (a19 : PySem.W.nsIn K mainGlobals "_law_split" = some (some (.ref f19)))
    (l19 : K.lookup f19 = some ⟨oc19, od19, .func (PySem.W.fnOf "_law_split" "_law_split" (defArgs s_split) (defBody s_split) (defScope s_split) .none kV19 dc19 pm19 an19 cd19 ct19), sl19⟩)
    (c19 : PySem.W.codeIn K cd19 "_law_split" = true)
    (k19 : PySem.W.keepIn K (.ref f19) = true)
    (a20 : PySem.W.nsIn K mainGlobals "_law_paid" = some (some (.ref f20)))
    (l20 : K.lookup f20 = some ⟨oc20, od20, .func (PySem.W.fnOf "_law_paid" "_law_paid" (defArgs s_paid) (defBody s_paid) (defScope s_paid) .none kV20 dc20 pm20 an20 cd20 ct20), sl20⟩)
    (c20 : PySem.W.codeIn K cd20 "_law_paid" = true)
    (k20 : PySem.W.keepIn K (.ref f20) = true)
    (a21 : PySem.W.nsIn K mainGlobals "_law_under" = some (some (.ref f21)))
    (l21 : K.lookup f21 = some ⟨oc21, od21, .func (PySem.W.fnOf "_law_under" "_law_under" (defArgs s_under) (defBody s_under) (defScope s_under) .none kV21 dc21 pm21 an21 cd21 ct21), sl21⟩)
    (c21 : PySem.W.codeIn K cd21 "_law_under" = true)
    (k21 : PySem.W.keepIn K (.ref f21) = true)
    (a22 : PySem.W.nsIn K mainGlobals "_law_use" = some (some (.ref f22)))
    (l22 : K.lookup f22 = some ⟨oc22, od22, .func (PySem.W.fnOf "_law_use" "_law_use" (defArgs s_use) (defBody s_use) (defScope s_use) .none kV22 dc22 pm22 an22 cd22 ct22), sl22⟩)
    (c22 : PySem.W.codeIn K cd22 "_law_use" = true)
    (k22 : PySem.W.keepIn K (.ref f22) = true)
    (a23 : PySem.W.nsIn K mainGlobals "_law_right_row" = some (some (.ref f23)))
    (l23 : K.lookup f23 = some ⟨oc23, od23, .func (PySem.W.fnOf "_law_right_row" "_law_right_row" (defArgs s_right_row) (defBody s_right_row) (defScope s_right_row) .none kV23 dc23 pm23 an23 cd23 ct23), sl23⟩)
    (c23 : PySem.W.codeIn K cd23 "_law_right_row" = true)
    (k23 : PySem.W.keepIn K (.ref f23) = true)
    (a24 : PySem.W.nsIn K mainGlobals "_law_cut" = some (some (.ref f24)))
    (l24 : K.lookup f24 = some ⟨oc24, od24, .func (PySem.W.fnOf "_law_cut" "_law_cut" (defArgs s_cut) (defBody s_cut) (defScope s_cut) .none kV24 dc24 pm24 an24 cd24 ct24), sl24⟩)
    (c24 : PySem.W.codeIn K cd24 "_law_cut" = true)
    (k24 : PySem.W.keepIn K (.ref f24) = true)
    (a25 : PySem.W.nsIn K mainGlobals "_law_grow" = some (some (.ref f25)))
    (l25 : K.lookup f25 = some ⟨oc25, od25, .func (PySem.W.fnOf "_law_grow" "_law_grow" (defArgs s_grow) (defBody s_grow) (defScope s_grow) .none kV25 dc25 pm25 an25 cd25 ct25), sl25⟩)
    (c25 : PySem.W.codeIn K cd25 "_law_grow" = true)
    (k25 : PySem.W.keepIn K (.ref f25) = true)
    (a26 : PySem.W.nsIn K mainGlobals "_law_grown" = some (some (.ref f26)))
    (l26 : K.lookup f26 = some ⟨oc26, od26, .func (PySem.W.fnOf "_law_grown" "_law_grown" (defArgs s_grown) (defBody s_grown) (defScope s_grown) .none kV26 dc26 pm26 an26 cd26 ct26), sl26⟩)
    (c26 : PySem.W.codeIn K cd26 "_law_grown" = true)
    (k26 : PySem.W.keepIn K (.ref f26) = true)
    (a27 : PySem.W.nsIn K mainGlobals "_law_is_number" = some (some (.ref f27)))
    (l27 : K.lookup f27 = some ⟨oc27, od27, .func (PySem.W.fnOf "_law_is_number" "_law_is_number" (defArgs s_is_number) (defBody s_is_number) (defScope s_is_number) .none kV27 dc27 pm27 an27 cd27 ct27), sl27⟩)
    (c27 : PySem.W.codeIn K cd27 "_law_is_number" = true)
    (k27 : PySem.W.keepIn K (.ref f27) = true)
    (a28 : PySem.W.nsIn K mainGlobals "_law_is_mode" = some (some (.ref f28)))
    (l28 : K.lookup f28 = some ⟨oc28, od28, .func (PySem.W.fnOf "_law_is_mode" "_law_is_mode" (defArgs s_is_mode) (defBody s_is_mode) (defScope s_is_mode) .none kV28 dc28 pm28 an28 cd28 ct28), sl28⟩)
    (c28 : PySem.W.codeIn K cd28 "_law_is_mode" = true)
    (k28 : PySem.W.keepIn K (.ref f28) = true)
    (a29 : PySem.W.nsIn K mainGlobals "_law_is_item" = some (some (.ref f29)))
    (l29 : K.lookup f29 = some ⟨oc29, od29, .func (PySem.W.fnOf "_law_is_item" "_law_is_item" (defArgs s_is_item) (defBody s_is_item) (defScope s_is_item) .none kV29 dc29 pm29 an29 cd29 ct29), sl29⟩)
    (c29 : PySem.W.codeIn K cd29 "_law_is_item" = true)
    (k29 : PySem.W.keepIn K (.ref f29) = true)
    (a30 : PySem.W.nsIn K mainGlobals "_law_is_like" = some (some (.ref f30)))
    (l30 : K.lookup f30 = some ⟨oc30, od30, .func (PySem.W.fnOf "_law_is_like" "_law_is_like" (defArgs s_is_like) (defBody s_is_like) (defScope s_is_like) .none kV30 dc30 pm30 an30 cd30 ct30), sl30⟩)
    (c30 : PySem.W.codeIn K cd30 "_law_is_like" = true)
    (k30 : PySem.W.keepIn K (.ref f30) = true)
    (a31 : PySem.W.nsIn K mainGlobals "_law_is_sentence" = some (some (.ref f31)))
    (l31 : K.lookup f31 = some ⟨oc31, od31, .func (PySem.W.fnOf "_law_is_sentence" "_law_is_sentence" (defArgs s_is_sentence) (defBody s_is_sentence) (defScope s_is_sentence) .none kV31 dc31 pm31 an31 cd31 ct31), sl31⟩)
    (c31 : PySem.W.codeIn K cd31 "_law_is_sentence" = true)
    (k31 : PySem.W.keepIn K (.ref f31) = true)
    (a32 : PySem.W.nsIn K mainGlobals "_law_is_tree" = some (some (.ref f32)))
    (l32 : K.lookup f32 = some ⟨oc32, od32, .func (PySem.W.fnOf "_law_is_tree" "_law_is_tree" (defArgs s_is_tree) (defBody s_is_tree) (defScope s_is_tree) .none kV32 dc32 pm32 an32 cd32 ct32), sl32⟩)
    (c32 : PySem.W.codeIn K cd32 "_law_is_tree" = true)
    (k32 : PySem.W.keepIn K (.ref f32) = true)
    (a33 : PySem.W.nsIn K mainGlobals "_law_room" = some (some (.ref f33)))
    (l33 : K.lookup f33 = some ⟨oc33, od33, .func (PySem.W.fnOf "_law_room" "_law_room" (defArgs s_room) (defBody s_room) (defScope s_room) .none kV33 dc33 pm33 an33 cd33 ct33), sl33⟩)
    (c33 : PySem.W.codeIn K cd33 "_law_room" = true)
    (k33 : PySem.W.keepIn K (.ref f33) = true)
    (a34 : PySem.W.nsIn K mainGlobals "_law_brought" = some (some (.ref f34)))
    (l34 : K.lookup f34 = some ⟨oc34, od34, .func (PySem.W.fnOf "_law_brought" "_law_brought" (defArgs s_brought) (defBody s_brought) (defScope s_brought) .none kV34 dc34 pm34 an34 cd34 ct34), sl34⟩)
    (c34 : PySem.W.codeIn K cd34 "_law_brought" = true)
    (k34 : PySem.W.keepIn K (.ref f34) = true)
    (a35 : PySem.W.nsIn K mainGlobals "_law_right" = some (some (.ref f35)))
    (l35 : K.lookup f35 = some ⟨oc35, od35, .func (PySem.W.fnOf "_law_right" "_law_right" (defArgs s_right) (defBody s_right) (defScope s_right) .none kV35 dc35 pm35 an35 cd35 ct35), sl35⟩)
    (c35 : PySem.W.codeIn K cd35 "_law_right" = true)
    (k35 : PySem.W.keepIn K (.ref f35) = true)
    (a36 : PySem.W.nsIn K mainGlobals "_law_left" = some (some (.ref f36)))
    (l36 : K.lookup f36 = some ⟨oc36, od36, .func (PySem.W.fnOf "_law_left" "_law_left" (defArgs s_left) (defBody s_left) (defScope s_left) .none kV36 dc36 pm36 an36 cd36 ct36), sl36⟩)
    (c36 : PySem.W.codeIn K cd36 "_law_left" = true)
    (k36 : PySem.W.keepIn K (.ref f36) = true)
    (a37 : PySem.W.nsIn K mainGlobals "_law_shows" = some (some (.ref f37)))
    (l37 : K.lookup f37 = some ⟨oc37, od37, .func (PySem.W.fnOf "_law_shows" "_law_shows" (defArgs s_shows) (defBody s_shows) (defScope s_shows) .none kV37 dc37 pm37 an37 cd37 ct37), sl37⟩)
    (c37 : PySem.W.codeIn K cd37 "_law_shows" = true)
    (k37 : PySem.W.keepIn K (.ref f37) = true)
    (a38 : PySem.W.nsIn K mainGlobals "_law_row" = some (some (.ref f38)))
    (l38 : K.lookup f38 = some ⟨oc38, od38, .func (PySem.W.fnOf "_law_row" "_law_row" (defArgs s_row) (defBody s_row) (defScope s_row) .none kV38 dc38 pm38 an38 cd38 ct38), sl38⟩)
    (c38 : PySem.W.codeIn K cd38 "_law_row" = true)
    (k38 : PySem.W.keepIn K (.ref f38) = true)
    (a39 : PySem.W.nsIn K mainGlobals "_law_moved" = some (some (.ref f39)))
    (l39 : K.lookup f39 = some ⟨oc39, od39, .func (PySem.W.fnOf "_law_moved" "_law_moved" (defArgs s_moved) (defBody s_moved) (defScope s_moved) .none kV39 dc39 pm39 an39 cd39 ct39), sl39⟩)
    (c39 : PySem.W.codeIn K cd39 "_law_moved" = true)
    (k39 : PySem.W.keepIn K (.ref f39) = true)
    (a40 : PySem.W.nsIn K mainGlobals "_law_product" = some (some (.ref f40)))
    (l40 : K.lookup f40 = some ⟨oc40, od40, .func (PySem.W.fnOf "_law_product" "_law_product" (defArgs s_product) (defBody s_product) (defScope s_product) .none kV40 dc40 pm40 an40 cd40 ct40), sl40⟩)
    (c40 : PySem.W.codeIn K cd40 "_law_product" = true)
    (k40 : PySem.W.keepIn K (.ref f40) = true)
    (a41 : PySem.W.nsIn K mainGlobals "_law_renamed" = some (some (.ref f41)))
    (l41 : K.lookup f41 = some ⟨oc41, od41, .func (PySem.W.fnOf "_law_renamed" "_law_renamed" (defArgs s_renamed) (defBody s_renamed) (defScope s_renamed) .none kV41 dc41 pm41 an41 cd41 ct41), sl41⟩)
    (c41 : PySem.W.codeIn K cd41 "_law_renamed" = true)
    (k41 : PySem.W.keepIn K (.ref f41) = true)
    (a42 : PySem.W.nsIn K mainGlobals "_law_table" = some (some (.ref f42)))
    (l42 : K.lookup f42 = some ⟨oc42, od42, .func (PySem.W.fnOf "_law_table" "_law_table" (defArgs s_table) (defBody s_table) (defScope s_table) .none kV42 dc42 pm42 an42 cd42 ct42), sl42⟩)
    (c42 : PySem.W.codeIn K cd42 "_law_table" = true)
    (k42 : PySem.W.keepIn K (.ref f42) = true)
    (a43 : PySem.W.nsIn K mainGlobals "_law_facts" = some (some (.ref f43)))
    (l43 : K.lookup f43 = some ⟨oc43, od43, .func (PySem.W.fnOf "_law_facts" "_law_facts" (defArgs s_facts) (defBody s_facts) (defScope s_facts) .none kV43 dc43 pm43 an43 cd43 ct43), sl43⟩)
    (c43 : PySem.W.codeIn K cd43 "_law_facts" = true)
    (k43 : PySem.W.keepIn K (.ref f43) = true)
    (a44 : PySem.W.nsIn K mainGlobals "_law_true" = some (some (.ref f44)))
    (l44 : K.lookup f44 = some ⟨oc44, od44, .func (PySem.W.fnOf "_law_true" "_law_true" (defArgs s_true) (defBody s_true) (defScope s_true) .none kV44 dc44 pm44 an44 cd44 ct44), sl44⟩)
    (c44 : PySem.W.codeIn K cd44 "_law_true" = true)
    (k44 : PySem.W.keepIn K (.ref f44) = true)
    (a45 : PySem.W.nsIn K mainGlobals "_law_picked" = some (some (.ref f45)))
    (l45 : K.lookup f45 = some ⟨oc45, od45, .func (PySem.W.fnOf "_law_picked" "_law_picked" (defArgs s_picked) (defBody s_picked) (defScope s_picked) .none kV45 dc45 pm45 an45 cd45 ct45), sl45⟩)
    (c45 : PySem.W.codeIn K cd45 "_law_picked" = true)
    (k45 : PySem.W.keepIn K (.ref f45) = true)
    (a46 : PySem.W.nsIn K mainGlobals "_law_case" = some (some (.ref f46)))
    (l46 : K.lookup f46 = some ⟨oc46, od46, .func (PySem.W.fnOf "_law_case" "_law_case" (defArgs s_case) (defBody s_case) (defScope s_case) .none kV46 dc46 pm46 an46 cd46 ct46), sl46⟩)
    (c46 : PySem.W.codeIn K cd46 "_law_case" = true)
    (k46 : PySem.W.keepIn K (.ref f46) = true)
    (a47 : PySem.W.nsIn K mainGlobals "_law_asks" = some (some (.ref f47)))
    (l47 : K.lookup f47 = some ⟨oc47, od47, .func (PySem.W.fnOf "_law_asks" "_law_asks" (defArgs s_asks) (defBody s_asks) (defScope s_asks) .none kV47 dc47 pm47 an47 cd47 ct47), sl47⟩)
    (c47 : PySem.W.codeIn K cd47 "_law_asks" = true)
    (k47 : PySem.W.keepIn K (.ref f47) = true)
    (a48 : PySem.W.nsIn K mainGlobals "_law_sound" = some (some (.ref f48)))
    (l48 : K.lookup f48 = some ⟨oc48, od48, .func (PySem.W.fnOf "_law_sound" "_law_sound" (defArgs s_sound) (defBody s_sound) (defScope s_sound) .none kV48 dc48 pm48 an48 cd48 ct48), sl48⟩)
    (c48 : PySem.W.codeIn K cd48 "_law_sound" = true)
    (k48 : PySem.W.keepIn K (.ref f48) = true)
    (a49 : PySem.W.nsIn K mainGlobals "law" = some (some (.ref f49)))
    (l49 : K.lookup f49 = some ⟨oc49, od49, .func (PySem.W.fnOf "law" "law" (defArgs s_law) (defBody s_law) (defScope s_law) .none kV49 dc49 pm49 an49 cd49 ct49), sl49⟩)
    (c49 : PySem.W.codeIn K cd49 "law" = true)
    (k49 : PySem.W.keepIn K (.ref f49) = true)
    (z_isinstance : PySem.W.nsIn K mainGlobals "isinstance" = some none)
    (z_int : PySem.W.nsIn K mainGlobals "int" = some none)
    (z_bool : PySem.W.nsIn K mainGlobals "bool" = some none)
    (z_str : PySem.W.nsIn K mainGlobals "str" = some none)
    (z_tuple : PySem.W.nsIn K mainGlobals "tuple" = some none)
    (z_list : PySem.W.nsIn K mainGlobals "list" = some none)
    (z_len : PySem.W.nsIn K mainGlobals "len" = some none)
    (z_range : PySem.W.nsIn K mainGlobals "range" = some none)
    (z_abs : PySem.W.nsIn K mainGlobals "abs" = some none)
    (z_all : PySem.W.nsIn K mainGlobals "all" = some none)
    (z_enumerate : PySem.W.nsIn K mainGlobals "enumerate" = some none)
    (z_max : PySem.W.nsIn K mainGlobals "max" = some none)
    (z_min : PySem.W.nsIn K mainGlobals "min" = some none)
    (z_zip : PySem.W.nsIn K mainGlobals "zip" = some none)
    (z_dict : PySem.W.nsIn K mainGlobals "dict" = some none)
    (z_reversed : PySem.W.nsIn K mainGlobals "reversed" = some none)
    (mCB : PySem.W.nsIn K mainGlobals "BadWorld" = some (some (.ref CB)))
    (mCH : PySem.W.nsIn K mainGlobals "HeldError" = some (some (.ref CH)))
    (mCO : PySem.W.nsIn K mainGlobals "NotOnce" = some (some (.ref CO)))
    (xLCB : K.lookup CB = some (excClassObj nmCB qnCB CB NaCB bsCB [.ref CH, .type "ValueError", .type "Exception", .type "BaseException", .type "object"] true snCB subCB abCB colCB ddCB x0CB x1CB x2CB x3CB x5CB "ValueError.__new__"))
    (a50 : PySem.W.findIn K (.ref CB) "__init__" = some (some (.ref f50)))
    (i50 : PySem.W.isFn K (.ref f50) = true)
    (l50 : K.lookup f50 = some ⟨oc50, od50, .func (PySem.W.fnOf "__init__" "BadWorld.__init__" (defArgs s_BadWorld___init) (defBody s_BadWorld___init) (defScope s_BadWorld___init) .none kV50 dc50 pm50 an50 cd50 ct50), sl50⟩)
    (c50 : PySem.W.codeIn K cd50 "BadWorld.__init__" = true)
    (k50 : PySem.W.keepIn K (.ref f50) = true)
    (saCB : PySem.W.findIn K (.ref CB) "__setattr__" = some (some (.builtin "object.__setattr__")))
    (nkCB : PySem.W.findIn K (.ref CB) "reason" = some none)
    (kCCB : PySem.W.keepIn K (.ref CB) = true)
    (eCCB : PySem.W.subIn K (.ref CB) (.type "BaseException") = some true)
    (tCCB : PySem.W.typeIn K (.ref CB) = some (.type "type"))
    (kCCO : PySem.W.keepIn K (.ref CO) = true)
    (eCCO : PySem.W.subIn K (.ref CO) (.type "BaseException") = some true)
    (tCCO : PySem.W.typeIn K (.ref CO) = some (.type "type"))
    (eiCO : PySem.W.excIn K CO bmVE "ValueError.__new__" = true)
    (aC : PySem.W.nsIn K mainGlobals "World" = some (some (.ref C)))
    (a51 : PySem.W.findIn K (.ref C) "__init__" = some (some (.ref f51)))
    (i51 : PySem.W.isFn K (.ref f51) = true)
    (l51 : K.lookup f51 = some ⟨oc51, od51, .func (PySem.W.fnOf "__init__" "World.__init__" (defArgs s_World___init) (defBody s_World___init) (defScope s_World___init) .none kV51 dc51 pm51 an51 cd51 ct51), sl51⟩)
    (c51 : PySem.W.codeIn K cd51 "World.__init__" = true)
    (k51 : PySem.W.keepIn K (.ref f51) = true)
    (a52 : PySem.W.findIn K (.ref C) "__len__" = some (some (.ref f52)))
    (i52 : PySem.W.isFn K (.ref f52) = true)
    (l52 : K.lookup f52 = some ⟨oc52, od52, .func (PySem.W.fnOf "__len__" "World.__len__" (defArgs s_World___len) (defBody s_World___len) (defScope s_World___len) .none kV52 dc52 pm52 an52 cd52 ct52), sl52⟩)
    (c52 : PySem.W.codeIn K cd52 "World.__len__" = true)
    (k52 : PySem.W.keepIn K (.ref f52) = true)
    (a53 : PySem.W.findIn K (.ref C) "product" = some (some (.ref f53)))
    (i53 : PySem.W.isFn K (.ref f53) = true)
    (l53 : K.lookup f53 = some ⟨oc53, od53, .func (PySem.W.fnOf "product" "World.product" (defArgs s_World_product) (defBody s_World_product) (defScope s_World_product) .none kV53 dc53 pm53 an53 cd53 ct53), sl53⟩)
    (c53 : PySem.W.codeIn K cd53 "World.product" = true)
    (k53 : PySem.W.keepIn K (.ref f53) = true)
    (a54 : PySem.W.findIn K (.ref C) "has" = some (some (.ref f54)))
    (i54 : PySem.W.isFn K (.ref f54) = true)
    (l54 : K.lookup f54 = some ⟨oc54, od54, .func (PySem.W.fnOf "has" "World.has" (defArgs s_World_has) (defBody s_World_has) (defScope s_World_has) .none kV54 dc54 pm54 an54 cd54 ct54), sl54⟩)
    (c54 : PySem.W.codeIn K cd54 "World.has" = true)
    (k54 : PySem.W.keepIn K (.ref f54) = true)
    (a55 : PySem.W.findIn K (.ref C) "fails" = some (some (.ref f55)))
    (i55 : PySem.W.isFn K (.ref f55) = true)
    (l55 : K.lookup f55 = some ⟨oc55, od55, .func (PySem.W.fnOf "fails" "World.fails" (defArgs s_World_fails) (defBody s_World_fails) (defScope s_World_fails) .none kV55 dc55 pm55 an55 cd55 ct55), sl55⟩)
    (c55 : PySem.W.codeIn K cd55 "World.fails" = true)
    (k55 : PySem.W.keepIn K (.ref f55) = true)
    (pg : PySem.W.plainGet K C Str.empty = true)
    (hd : PySem.W.hasDictIn K C = true)
    (po : PySem.W.plainOver K C = true)
    (sa : PySem.W.findIn K (.ref C) "__setattr__" = some (some (.builtin "object.__setattr__")))
    (mks : PySem.W.makesIn K C = true)
    (kC : PySem.W.keepIn K (.ref C) = true)
    (nP : PySem.W.findIn K (.ref C) "products" = some none)
    (nF : PySem.W.findIn K (.ref C) "facts" = some none) :
    ∃ fd : FuncData, (∀ (s : Shared) (v : Value), BindsTo s fd ⟨[v], []⟩ [("_law_script", v)]) ∧ ∀ base : Heap, K.In base → base.Ns mainGlobals mg → FnOk l.prog w K mg base CX0 200 fa fd ["_law_script"] (spLaw K) := by
  have e := hfa.symm.trans (PySem.W.mg_of X G a49)
  cases e
  have mIs := (PySem.W.mg_none_of X G z_isinstance)
  have mInt := (PySem.W.mg_none_of X G z_int)
  have mBool := (PySem.W.mg_none_of X G z_bool)
  have mList := (PySem.W.mg_none_of X G z_list)
  have mLen := (PySem.W.mg_none_of X G z_len)
  have mR := (PySem.W.mg_none_of X G z_range)
  have mAbs := (PySem.W.mg_none_of X G z_abs)
  have mAll := (PySem.W.mg_none_of X G z_all)
  have mEn := (PySem.W.mg_none_of X G z_enumerate)
  have mMax := (PySem.W.mg_none_of X G z_max)
  have mMin := (PySem.W.mg_none_of X G z_min)
  have mTup := (PySem.W.mg_none_of X G z_tuple)
  have mZip := (PySem.W.mg_none_of X G z_zip)
  have mDict := (PySem.W.mg_none_of X G z_dict)
  have mStr := (PySem.W.mg_none_of X G z_str)
  have mRev := (PySem.W.mg_none_of X G z_reversed)
  have CL : Cls K C := ⟨pg, hd, po, sa⟩
  have O : WOk K mg C := ⟨CL, nP, nF, mks, kC, PySem.W.mg_of X G aC⟩
  have FL := fun_mk (st := s_law) l49 c49 k49
  have OB : OexC K CB := ⟨⟨_, _, _, _, _, _, _, _, _, _, _, _, _, _, _, xLCB, by first | rfl | simp [PySem.HandSPX.refsVE]⟩, saCB, eCCB, tCCB, kCCB⟩
  have R : Ei K mg "NotOnce" CO := ⟨PySem.W.mg_of X G mCO, kCCO, eiCO, eCCO, tCCO⟩
  refine ⟨PySem.W.fnOf "law" "law" (defArgs s_law) (defBody s_law) (defScope s_law) .none kV49 dc49 pm49 an49 cd49 ct49, fun s v => .of_eq rfl, fun base _ _ => ?_⟩
  have Fcell : Fn l.prog w K mg base 1 "_law_cell" (spCell K) := ok_cell (top_mk X G a6 l6 c6 k6) mLen mAbs
  have Fpool := ok_pool (top_mk X G a7 l7 c7 k7) Fcell mInt
  have Fnext : Fn l.prog w K mg base 1 "_law_next" spNext := ok_next (top_mk X G a8 l8 c8 k8) mInt
  have Fshape : Fn l.prog w K mg base 1 "has_shape" spShape := ok_shape (top_mk X G a4 l4 c4 k4) mLen mAll
  have Fgrp : Fn l.prog w K mg base 1 "does_grouping_hold" spGrp := ok_grp (top_mk X G a5 l5 c5 k5) mEn
  have Ffault := ok_fault (top_mk X G a3 l3 c3 k3) mLen mAll mList mR Fshape Fgrp
  have ER : Er l.prog w K mg base "BadWorld" CB "reason" := ok_bw (topM_mk a50 i50 l50 c50 k50) OB nkCB (PySem.W.mg_of X G mCB)
  have KW : KlN l.prog w K mg base 3 "World" C (spWInit C CB) := ok_winit (topM_mk a51 i51 l51 c51 k51) O mList Ffault ER
  have Fonce : Fn l.prog w K mg base 1 "is_all_once" spOnce := ok_once (top_mk X G a0 l0 c0 k0)
  have Ftruths := ok_truths (P := l.prog) (w := w) (base := base) (top_mk X G a2 l2 c2 k2) mLen mR mZip mAll 48
  have Freq : FnN l.prog w K mg base 2 "require_once" (spReq CO) := ok_req (top_mk X G a1 l1 c1 k1) R Fonce
  have MH := ok_whas (topM_mk a54 i54 l54 c54 k54) O R Fonce Ftruths
  have MF := ok_wfails (topM_mk a55 i55 l55 c55 k55) O mZip Freq Ftruths
  have Ftrue := ok_true (P := l.prog) (w := w) (base := base) (top_mk X G a44 l44 c44 k44) mLen mR 48
  have Fpr : Fn l.prog w K mg base 1 "_law_product" spPr := ok_pr (top_mk X G a40 l40 c40 k40) mMin mMax mInt
  have Fren := ok_ren (top_mk X G a41 l41 c41 k41) mLen mList mR Fnext
  have Ftable := ok_table (top_mk X G a42 l42 c42 k42) mR mMax Fnext Fpr Fren
  have Ffcts := ok_fcts (top_mk X G a43 l43 c43 k43) mR Fnext
  have Fname := ok_name (top_mk X G a9 l9 c9 k9) mLen mStr mR Fnext
  have Fstate := ok_state (top_mk X G a10 l10 c10 k10) mInt mR Fnext
  have Fsent := ok_sent (top_mk X G a11 l11 c11 k11) mLen Fnext
  have Fusable : Fn l.prog w K mg base 1 "_law_usable" spUsable := ok_usable (top_mk X G a16 l16 c16 k16) mLen
  have Fhold := ok_hold (top_mk X G a17 l17 c17 k17) mLen Fnext Fname
  have Fclose := ok_close (top_mk X G a18 l18 c18 k18) mLen mRev mR Fnext Fhold
  have Fsplit := ok_split (top_mk X G a19 l19 c19 k19) Fnext
  have Fbox : Fn l.prog w K mg base 1 "_law_box" spBox := ok_box (top_mk X G a13 l13 c13 k13)
  have Fmerge : Fn l.prog w K mg base 1 "_law_merge" spMerge := ok_merge (top_mk X G a12 l12 c12 k12) mList mMax mMin
  have Fcnt := ok_cnt (top_mk X G a14 l14 c14 k14) Fbox Fmerge
  have Fgrow := ok_growU 19 (top_mk X G a25 l25 c25 k25) (top_mk X G a20 l20 c20 k20) (top_mk X G a21 l21 c21 k21) (top_mk X G a22 l22 c22 k22) (top_mk X G a23 l23 c23 k23) (top_mk X G a24 l24 c24 k24) mLen mR Fnext Fsplit Fclose Fusable Fhold Fsent
  have Fgrown := ok_grown (top_mk X G a26 l26 c26 k26) mTup Fnext Fgrow.1 Fgrow.2 (Fcnt 42)
  have Froom : Fn l.prog w K mg base 1 "_law_room" spRoom := ok_room (top_mk X G a33 l33 c33 k33)
  have Fright := ok_right (top_mk X G a35 l35 c35 k35) (top_mk X G a36 l36 c36 k36) (top_mk X G a34 l34 c34 k34) mInt Fcnt Froom
  have Fnum : Fn l.prog w K mg base 1 "_law_is_number" spNum := ok_num (top_mk X G a27 l27 c27 k27) mIs mInt mBool
  have Fmode : Fn l.prog w K mg base 1 "_law_is_mode" spMode := ok_mode (top_mk X G a28 l28 c28 k28) mIs mStr
  have Ftree := ok_trees (top_mk X G a32 l32 c32 k32) (top_mk X G a31 l31 c31 k31) (top_mk X G a30 l30 c30 k30) (top_mk X G a29 l29 c29 k29) mIs mStr mTup mLen mR Fnum Fmode
  have Fshows := ok_shows (top_mk X G a37 l37 c37 k37) (Ftree 49).1 (Fcnt 46) Froom (Fright 46)
  have Frow : Fn l.prog w K mg base 1 "_law_row" spRow := ok_row (top_mk X G a38 l38 c38 k38) mIs mTup mLen
  have Flmv := ok_lmv (top_mk X G a39 l39 c39 k39) mLen mR mIs mInt mTup Frow
  have Fpick := ok_picked (top_mk X G a45 l45 c45 k45) mLen Fnext (Fsent 1) (Flmv 45)
  have Fcase := ok_case (top_mk X G a46 l46 c46 k46) Fnext (Fsent 2) Fgrown Fpick
  have Fasks := ok_asks (top_mk X G a47 l47 c47 k47) mLen mR mIs mBool mList MF MH
  have Fsound := ok_sound (top_mk X G a48 l48 c48 k48) mLen mR mList mDict mInt Fnext Ftable Ffcts Ftrue (Fsent 2) Fasks KW
  exact ok_law FL mR Fpool Fstate Fcase Fshows Fsound
theorem walk {l : PySem.W.OpenLaw} {q : Program} {loose : List Str} {XP : (Str → Option Value) → Heap → Prop} {YP : World → Heap → Prop} {d : DefRec} {K : Params → PySem.W.Frag} (hn : l.most = some 63) (hdf : d.params.defaults = [])
    (hY : ∀ (w : World) (h : Heap), YP w h → (K w.params).In h)
    (F : ∀ (w : World) (mg : Str → Option Value) (fa : Addr) (h : Heap), (K w.params).In h → h.Ns mainGlobals mg → mg d.name = some (.ref fa) →
      ∃ fd : FuncData, (∀ (s : Shared) (u : Value), BindsTo s fd ⟨[u], []⟩ [("_law_script", u)]) ∧ ∀ base : Heap, (K w.params).In base → base.Ns mainGlobals mg → FnOk l.prog w (K w.params) mg base CX0 200 fa fd ["_law_script"] (spLaw (K w.params))) :
    PySem.W.WalkO q loose XP YP l.row.toRowW d [] (fun f vs => PySem.call f vs) :=
  L2.walk_of (n := 63) (k := 200) (x := "_law_script") (CX := fun _ => CX0) (sp := fun w => spLaw (K w.params)) hn (by decide) hdf ⟨rfl, by decide, by decide⟩ hY F (fun _ _ a ns hl _ hS => ⟨a, ns, rfl, hS, hl, fun _ => rfl⟩) fun _ _ _ _ _ z => z
end
end K36
open PySem PySem.W PyProof.Rows
set_option maxRecDepth 100000 in
set_option maxHeartbeats 0 in
theorem PySem.Challenge.cw_heldproofs_k36_whole_worlds_sound_holds : PySem.Challenge.rw_heldproofs_k36_whole_worlds_sound.Holds := by
  w_on; o_law; k_head; (case hw => w_witness2)
  k_fill
  refine K36.walk (l := PySem.Challenge.rw_heldproofs_k36_whole_worlds_sound) rfl rfl (fun w h Y => PySem.W.kIn_of Y) ?F
  case F =>
    intro w mg fa h KX G hmg
    refine' K36.all_mk KX G hmg ?a0 ?l0 ?c0 ?k0 ?a1 ?l1 ?c1 ?k1 ?a2 ?l2 ?c2 ?k2 ?a3 ?l3 ?c3 ?k3 ?a4 ?l4 ?c4 ?k4 ?a5 ?l5 ?c5 ?k5 ?a6 ?l6 ?c6 ?k6 ?a7 ?l7 ?c7 ?k7 ?a8 ?l8 ?c8 ?k8 ?a9 ?l9 ?c9 ?k9 ?a10 ?l10 ?c10 ?k10 ?a11 ?l11 ?c11 ?k11 ?a12 ?l12 ?c12 ?k12 ?a13 ?l13 ?c13 ?k13 ?a14 ?l14 ?c14 ?k14 ?a15 ?l15 ?c15 ?k15 ?a16 ?l16 ?c16 ?k16 ?a17 ?l17 ?c17 ?k17 ?a18 ?l18 ?c18 ?k18 ?a19 ?l19 ?c19 ?k19 ?a20 ?l20 ?c20 ?k20 ?a21 ?l21 ?c21 ?k21 ?a22 ?l22 ?c22 ?k22 ?a23 ?l23 ?c23 ?k23 ?a24 ?l24 ?c24 ?k24 ?a25 ?l25 ?c25 ?k25 ?a26 ?l26 ?c26 ?k26 ?a27 ?l27 ?c27 ?k27 ?a28 ?l28 ?c28 ?k28 ?a29 ?l29 ?c29 ?k29 ?a30 ?l30 ?c30 ?k30 ?a31 ?l31 ?c31 ?k31 ?a32 ?l32 ?c32 ?k32 ?a33 ?l33 ?c33 ?k33 ?a34 ?l34 ?c34 ?k34 ?a35 ?l35 ?c35 ?k35 ?a36 ?l36 ?c36 ?k36 ?a37 ?l37 ?c37 ?k37 ?a38 ?l38 ?c38 ?k38 ?a39 ?l39 ?c39 ?k39 ?a40 ?l40 ?c40 ?k40 ?a41 ?l41 ?c41 ?k41 ?a42 ?l42 ?c42 ?k42 ?a43 ?l43 ?c43 ?k43 ?a44 ?l44 ?c44 ?k44 ?a45 ?l45 ?c45 ?k45 ?a46 ?l46 ?c46 ?k46 ?a47 ?l47 ?c47 ?k47 ?a48 ?l48 ?c48 ?k48 ?a49 ?l49 ?c49 ?k49 ?z_isinstance ?z_int ?z_bool ?z_str ?z_tuple ?z_list ?z_len ?z_range ?z_abs ?z_all ?z_enumerate ?z_max ?z_min ?z_zip ?z_dict ?z_reversed ?mCB ?mCH ?mCO ?xLCB ?a50 ?i50 ?l50 ?c50 ?k50 ?saCB ?nkCB ?kCCB ?eCCB ?tCCB ?kCCO ?eCCO ?tCCO ?eiCO ?aC ?a51 ?i51 ?l51 ?c51 ?k51 ?a52 ?i52 ?l52 ?c52 ?k52 ?a53 ?i53 ?l53 ?c53 ?k53 ?a54 ?i54 ?l54 ?c54 ?k54 ?a55 ?i55 ?l55 ?c55 ?k55 ?pg ?hd ?po ?sa ?mks ?kC ?nP ?nF
    (case a0 => k_is)
    (case l0 => k_is)
    (case c0 => k_is)
    (case k0 => k_is)
    (case a1 => k_is)
    (case l1 => k_is)
    (case c1 => k_is)
    (case k1 => k_is)
    (case a2 => k_is)
    (case l2 => k_is)
    (case c2 => k_is)
    (case k2 => k_is)
    (case a3 => k_is)
    (case l3 => k_is)
    (case c3 => k_is)
    (case k3 => k_is)
    (case a4 => k_is)
    (case l4 => k_is)
    (case c4 => k_is)
    (case k4 => k_is)
    (case a5 => k_is)
    (case l5 => k_is)
    (case c5 => k_is)
    (case k5 => k_is)
    (case a6 => k_is)
    (case l6 => k_is)
    (case c6 => k_is)
    (case k6 => k_is)
    (case a7 => k_is)
    (case l7 => k_is)
    (case c7 => k_is)
    (case k7 => k_is)
    (case a8 => k_is)
    (case l8 => k_is)
    (case c8 => k_is)
    (case k8 => k_is)
    (case a9 => k_is)
    (case l9 => k_is)
    (case c9 => k_is)
    (case k9 => k_is)
    (case a10 => k_is)
    (case l10 => k_is)
    (case c10 => k_is)
    (case k10 => k_is)
    (case a11 => k_is)
    (case l11 => k_is)
    (case c11 => k_is)
    (case k11 => k_is)
    (case a12 => k_is)
    (case l12 => k_is)
    (case c12 => k_is)
    (case k12 => k_is)
    (case a13 => k_is)
    (case l13 => k_is)
    (case c13 => k_is)
    (case k13 => k_is)
    (case a14 => k_is)
    (case l14 => k_is)
    (case c14 => k_is)
    (case k14 => k_is)
    (case a15 => k_is)
    (case l15 => k_is)
    (case c15 => k_is)
    (case k15 => k_is)
    (case a16 => k_is)
    (case l16 => k_is)
    (case c16 => k_is)
    (case k16 => k_is)
    (case a17 => k_is)
    (case l17 => k_is)
    (case c17 => k_is)
    (case k17 => k_is)
    (case a18 => k_is)
    (case l18 => k_is)
    (case c18 => k_is)
    (case k18 => k_is)
    (case a19 => k_is)
    (case l19 => k_is)
    (case c19 => k_is)
    (case k19 => k_is)
    (case a20 => k_is)
    (case l20 => k_is)
    (case c20 => k_is)
    (case k20 => k_is)
    (case a21 => k_is)
    (case l21 => k_is)
    (case c21 => k_is)
    (case k21 => k_is)
    (case a22 => k_is)
    (case l22 => k_is)
    (case c22 => k_is)
    (case k22 => k_is)
    (case a23 => k_is)
    (case l23 => k_is)
    (case c23 => k_is)
    (case k23 => k_is)
    (case a24 => k_is)
    (case l24 => k_is)
    (case c24 => k_is)
    (case k24 => k_is)
    (case a25 => k_is)
    (case l25 => k_is)
    (case c25 => k_is)
    (case k25 => k_is)
    (case a26 => k_is)
    (case l26 => k_is)
    (case c26 => k_is)
    (case k26 => k_is)
    (case a27 => k_is)
    (case l27 => k_is)
    (case c27 => k_is)
    (case k27 => k_is)
    (case a28 => k_is)
    (case l28 => k_is)
    (case c28 => k_is)
    (case k28 => k_is)
    (case a29 => k_is)
    (case l29 => k_is)
    (case c29 => k_is)
    (case k29 => k_is)
    (case a30 => k_is)
    (case l30 => k_is)
    (case c30 => k_is)
    (case k30 => k_is)
    (case a31 => k_is)
    (case l31 => k_is)
    (case c31 => k_is)
    (case k31 => k_is)
    (case a32 => k_is)
    (case l32 => k_is)
    (case c32 => k_is)
    (case k32 => k_is)
    (case a33 => k_is)
    (case l33 => k_is)
    (case c33 => k_is)
    (case k33 => k_is)
    (case a34 => k_is)
    (case l34 => k_is)
    (case c34 => k_is)
    (case k34 => k_is)
    (case a35 => k_is)
    (case l35 => k_is)
    (case c35 => k_is)
    (case k35 => k_is)
    (case a36 => k_is)
    (case l36 => k_is)
    (case c36 => k_is)
    (case k36 => k_is)
    (case a37 => k_is)
    (case l37 => k_is)
    (case c37 => k_is)
    (case k37 => k_is)
    (case a38 => k_is)
    (case l38 => k_is)
    (case c38 => k_is)
    (case k38 => k_is)
    (case a39 => k_is)
    (case l39 => k_is)
    (case c39 => k_is)
    (case k39 => k_is)
    (case a40 => k_is)
    (case l40 => k_is)
    (case c40 => k_is)
    (case k40 => k_is)
    (case a41 => k_is)
    (case l41 => k_is)
    (case c41 => k_is)
    (case k41 => k_is)
    (case a42 => k_is)
    (case l42 => k_is)
    (case c42 => k_is)
    (case k42 => k_is)
    (case a43 => k_is)
    (case l43 => k_is)
    (case c43 => k_is)
    (case k43 => k_is)
    (case a44 => k_is)
    (case l44 => k_is)
    (case c44 => k_is)
    (case k44 => k_is)
    (case a45 => k_is)
    (case l45 => k_is)
    (case c45 => k_is)
    (case k45 => k_is)
    (case a46 => k_is)
    (case l46 => k_is)
    (case c46 => k_is)
    (case k46 => k_is)
    (case a47 => k_is)
    (case l47 => k_is)
    (case c47 => k_is)
    (case k47 => k_is)
    (case a48 => k_is)
    (case l48 => k_is)
    (case c48 => k_is)
    (case k48 => k_is)
    (case a49 => k_is)
    (case l49 => k_is)
    (case c49 => k_is)
    (case k49 => k_is)
    (case z_isinstance => k_is)
    (case z_int => k_is)
    (case z_bool => k_is)
    (case z_str => k_is)
    (case z_tuple => k_is)
    (case z_list => k_is)
    (case z_len => k_is)
    (case z_range => k_is)
    (case z_abs => k_is)
    (case z_all => k_is)
    (case z_enumerate => k_is)
    (case z_max => k_is)
    (case z_min => k_is)
    (case z_zip => k_is)
    (case z_dict => k_is)
    (case z_reversed => k_is)
    (case mCB => k_is)
    (case mCH => k_is)
    (case mCO => k_is)
    (case xLCB => k_is)
    (case a50 => k_is)
    (case i50 => k_is)
    (case l50 => k_is)
    (case c50 => k_is)
    (case k50 => k_is)
    (case saCB => k_is)
    (case nkCB => k_is)
    (case kCCB => k_is)
    (case eCCB => k_is)
    (case tCCB => k_is)
    (case kCCO => k_is)
    (case eCCO => k_is)
    (case tCCO => k_is)
    (case eiCO => k_exc)
    (case aC => k_is)
    (case a51 => k_is)
    (case i51 => k_is)
    (case l51 => k_is)
    (case c51 => k_is)
    (case k51 => k_is)
    (case a52 => k_is)
    (case i52 => k_is)
    (case l52 => k_is)
    (case c52 => k_is)
    (case k52 => k_is)
    (case a53 => k_is)
    (case i53 => k_is)
    (case l53 => k_is)
    (case c53 => k_is)
    (case k53 => k_is)
    (case a54 => k_is)
    (case i54 => k_is)
    (case l54 => k_is)
    (case c54 => k_is)
    (case k54 => k_is)
    (case a55 => k_is)
    (case i55 => k_is)
    (case l55 => k_is)
    (case c55 => k_is)
    (case k55 => k_is)
    (case pg => k_is)
    (case hd => k_is)
    (case po => k_is)
    (case sa => k_is)
    (case mks => k_is)
    (case kC => k_is)
    (case nP => k_is)
    (case nF => k_is)
