import PyProof.Rows.All
import Wide.All
import OpenK.AllK
import Wide.FinOn
import HandS.ForMost
import HandS.IsInst
import HandS.Codes
import HandS.ForExc
import HandS.ExcInit
import HandS.ExcField
import HandS.CallSlots
import HandS.TupLe
import KE.KExcIs
import HandS.Flt
import HandS.ExcCtx
import HandS.HotCalls
import HandS.ExcInitHot
import HandS.Text
import HandS.Iter
import HandS.Wide
import HandS.Defaults
import HandS.More
import HandS.Conv
import HandS.Deep
import HandS.Set
import HandS.SetFor
import HandS.Strs
import HandS.Rev
import HandS.TupSets
import HandS.DictComp
import HandS.Dict
import HandS.Finally
import HandS.Flow
import HandS.Style
import HandS.TupAny
import KE.GoesMore
import KE.GoesEnum
import HandS.Zip
import HandS.RevRange
import HandS.GenBody
import HandS.GenYield
import HandS.GenCall
import HandS.GenList
import KE.KDictZip
import HandS.WordsDict
import HandS.Sort
import KE.DataEq
import HandS.ExcIs
import PySem.Challenge.RW_heldproofs_k04_parts_and_paths
set_option Elab.async false
set_option linter.all false
set_option maxRecDepth 100000
/-! My own layer over the hand layer: the weakest reading of a piece of syntax, and a rule a construct, chosen where the values are known. -/
namespace Wk
open PySem PySem.Spec PyProof.Rows L2
section
variable (X : Cx)
@[irreducible] def wE (e : Expr) : TE := fun σ H Q => ∀ (pins : List (Addr × Obj)) (s : Shared), Inv X pins σ H s → wpAny (model X.prog X.w) X.A (eval e X.env) (EP X pins σ Q) X.xe s
@[irreducible] def wT (e : Expr) : TT := fun σ H Q => ∀ (pins : List (Addr × Obj)) (s : Shared), Inv X pins σ H s → wpAny (model X.prog X.w) X.A (isTrue e X.env (eval e X.env)) (TP X pins σ Q) X.xe s
@[irreducible] def wW (e : Expr) : TT := fun σ H Q => ∀ (whole : Sem Value) (pins : List (Addr × Obj)) (s : Shared), Inv X pins σ H s → wpAny (model X.prog X.w) X.A (isTrue e X.env whole) (TP X pins σ Q) X.xe s
@[irreducible] def wA (es : List Expr) : TA := fun σ H Q => ∀ (pos : Pos) (pins : List (Addr × Obj)) (s : Shared), Inv X pins σ H s → wpAny (model X.prog X.w) X.A (spliced (backTo pos (starEach es X.env))) (AP X pins σ Q) X.xe s
@[irreducible] def wS (st : Stmt) : TS := fun D σ H => ∀ (pins : List (Addr × Obj)) (s : Shared), Inv X pins σ H s → wpAny (model X.prog X.w) X.A (exec st X.env) (SP X pins D) X.xe s
@[irreducible] def wL (st : List Stmt) : TS := fun D σ H => ∀ (pins : List (Addr × Obj)) (s : Shared), Inv X pins σ H s → wpAny (model X.prog X.w) X.A (execs st X.env) (SP X pins D) X.xe s
@[irreducible] def wO (f : Value → Value → Sem Value) : R2 := fun x y H Q => ∀ (pins : List (Addr × Obj)) (s : Shared) (σ : L2.St) (v u : Value), Inv X pins σ H s → RelV x v → RelV y u → wpAny (model X.prog X.w) X.A (f v u) (EP X pins σ Q) X.xe s
@[irreducible] def wB (op : Operator) : R2 := fun x y H Q => wO X (binaryOp op) x y H Q
@[irreducible] def wK (op : CmpOp) : R2 := fun x y H Q => wO X (compareOp op) x y H Q
@[irreducible] def wIx : R2 := fun x y H Q => ∀ (value slice : Expr) (pins : List (Addr × Obj)) (s : Shared) (σ : L2.St) (v u : Value), Inv X pins σ H s → RelV x v → RelV y u → subscripted slice false v u = operate [v, u] (getItem v u) → wpAny (model X.prog X.w) X.A (subscriptTail value slice v u) (EP X pins σ Q) X.xe s
@[irreducible] def wC (f : Value) : List V → Hp → VK → Prop := fun xs H Q => ∀ (pins : List (Addr × Obj)) (s : Shared) (σ : L2.St) (us : List Value), Inv X pins σ H s → Vals xs us → wpAny (model X.prog X.w) X.A (call f us) (EP X pins σ Q) X.xe s
@[irreducible] def wSet : V → V → V → Hp → (Hp → Prop) → Prop := fun o i v H Q => ∀ (pins : List (Addr × Obj)) (s : Shared) (σ : L2.St) (ov iv u : Value), Inv X pins σ H s → RelV o ov → RelV i iv → RelV v u → wpAny (model X.prog X.w) X.A (setItem ov iv u) (fun _ s' => ∃ H', Inv X pins σ H' s' ∧ Q H') X.xe s
end
section
variable {X : Cx} {e a b c : Expr} {es rest : List Expr} {st : Stmt} {sts : List Stmt} {σ : L2.St} {H : Hp} {Q : VK} {D : Ends} {pos p0 : Pos} {QT : Bool → Hp → Prop}
theorem pe : PE X e (wE X e) := ⟨fun pins s _ _ _ I h => by unfold wE at h; exact h pins s I⟩
theorem pt : PT X e (wT X e) := ⟨fun pins s _ _ _ I h => by unfold wT at h; exact h pins s I⟩
theorem pw : PW X e (wW X e) := ⟨fun wh pins s _ _ _ I h => by unfold wW at h; exact h wh pins s I⟩
theorem pa : PA X es (wA X es) := ⟨fun p pins s _ _ _ I h => by unfold wA at h; exact h p pins s I⟩
theorem ps : PS X st (wS X st) := ⟨fun pins s _ _ _ I h => by unfold wS at h; exact h pins s I⟩
theorem pl : PSs X sts (wL X sts) := ⟨fun pins s _ _ _ I h => by unfold wL at h; exact h pins s I⟩
theorem opr {f : Value → Value → Sem Value} : OpR X f (wO X f) := fun pins s σ _ _ _ v u _ I rx ry h => by unfold wO at h; exact h pins s σ v u I rx ry
theorem opb {op : Operator} : OpR X (binaryOp op) (wB X op) := fun pins s σ _ _ _ v u _ I rx ry h => by unfold wB at h; exact opr pins s σ _ _ _ v u _ I rx ry h
theorem opk {op : CmpOp} : OpR X (compareOp op) (wK X op) := fun pins s σ _ _ _ v u _ I rx ry h => by unfold wK at h; exact opr pins s σ _ _ _ v u _ I rx ry h
theorem ixr : IxR X (wIx X) := fun va sl pins s σ _ _ _ v u _ I rx ry h hs => by unfold wIx at h; exact h va sl pins s σ v u I rx ry hs
theorem cr {f : Value} : CallR X f (wC X f) := fun pins s σ _ _ us _ I r h => by unfold wC at h; exact h pins s σ us I r
theorem pset : PSet X (wSet X) := fun pins s σ _ _ _ _ ov iv u _ I ro ri rv h => by unfold wSet at h; exact h pins s σ ov iv u I ro ri rv
theorem e_of {t : TE} (h : PE X e t) (q : t σ H Q) : wE X e σ H Q := by unfold wE; exact fun pins s I => h.run pins s σ H Q I q
theorem t_of {t : TT} (h : PT X e t) (q : t σ H QT) : wT X e σ H QT := by unfold wT; exact fun pins s I => h.run pins s σ H QT I q
theorem w_of {t : TT} (h : PW X e t) (q : t σ H QT) : wW X e σ H QT := by unfold wW; exact fun wh pins s I => h.run wh pins s σ H QT I q
theorem a_of {t : TA} {QA : List V → Hp → Prop} (h : PA X es t) (q : t σ H QA) : wA X es σ H QA := by unfold wA; exact fun p pins s I => h.run p pins s σ H QA I q
theorem s_of {t : TS} (h : PS X st t) (q : t D σ H) : wS X st D σ H := by unfold wS; exact fun pins s I => h.run pins s σ H D I q
theorem l_of {t : TS} (h : PSs X sts t) (q : t D σ H) : wL X sts D σ H := by unfold wL; exact fun pins s I => h.run pins s σ H D I q
theorem o_of {f : Value → Value → Sem Value} {r : R2} {x y : V} (h : OpR X f r) (q : r x y H Q) : wO X f x y H Q := by unfold wO; exact fun pins s σ v u I rx ry => h pins s σ H x y v u Q I rx ry q
theorem b_of {op : Operator} {r : R2} {x y : V} (h : OpR X (binaryOp op) r) (q : r x y H Q) : wB X op x y H Q := by unfold wB; exact o_of h q
theorem k_of {op : CmpOp} {r : R2} {x y : V} (h : OpR X (compareOp op) r) (q : r x y H Q) : wK X op x y H Q := by unfold wK; exact o_of h q
theorem ix_of {r : R2} {x y : V} (h : IxR X r) (q : r x y H Q) : wIx X x y H Q := by unfold wIx; exact fun va sl pins s σ v u I rx ry hs => h va sl pins s σ H x y v u Q I rx ry q hs
theorem c_of {f : Value} {r : List V → Hp → VK → Prop} {xs : List V} (h : CallR X f r) (q : r xs H Q) : wC X f xs H Q := by unfold wC; exact fun pins s σ us I r => h pins s σ H xs us Q I r q
theorem set_of {t : V → V → V → Hp → (Hp → Prop) → Prop} {o i v : V} {QH : Hp → Prop} (h : PSet X t) (q : t o i v H QH) : wSet X o i v H QH := by unfold wSet; exact fun pins s σ ov iv u I ro ri rv => h pins s σ H o i v ov iv u QH I ro ri rv q

theorem e_mono {Q' : VK} (q : wE X e σ H Q) (h : ∀ v H1, Q v H1 → Q' v H1) : wE X e σ H Q' := by
  unfold wE at q ⊢
  exact fun pins s I => wpAny_mono (q pins s I) (fun _ _ ⟨v, H1, I1, r, z⟩ => ⟨v, H1, I1, r, h v H1 z⟩) fun _ _ z => z
theorem a_mono {QA QA' : List V → Hp → Prop} (q : wA X es σ H QA) (h : ∀ v H1, QA v H1 → QA' v H1) : wA X es σ H QA' := by
  unfold wA at q ⊢
  exact fun pp pins s I => wpAny_mono (q pp pins s I) (fun _ _ ⟨v, H1, I1, r, z⟩ => ⟨v, H1, I1, r, h v H1 z⟩) fun _ _ z => z

end
/-- where a name stands in a list; found by its spelling -/
inductive At {α : Type} : List α → Nat → α → Prop where
  | z {x : α} {l : List α} : At (x :: l) 0 x
  | s {x y : α} {l : List α} {i : Nat} (h : At l i x) : At (y :: l) (i + 1) x
theorem At.get {α : Type} {l : List α} {i : Nat} {x : α} (h : At l i x) : l[i]? = some x := by
  induction h with
  | z => rfl
  | s _ ih => simpa using ih
theorem At.mem {α : Type} {l : List α} {i : Nat} {x : α} (h : At l i x) : x ∈ l := List.mem_of_getElem? h.get
instance locDec {sc : Scope} {x : Str} : Decidable (Loc sc x) := inferInstanceAs (Decidable (_ ∨ _))
/-- a def's names: its own, in their slots, and the global ones -/
structure ScOk (N G : List Str) (sc : Scope) : Prop where
  nd : N.Nodup
  lo : ∀ x ∈ N, Loc sc x ∧ (x == ("__debug__" : Str)) = false ∧ (x == ("__classdict__" : Str)) = false
  gl : ∀ x ∈ G, sc.names.lookup x = some .globalImplicit ∧ (x == ("__debug__" : Str)) = false ∧ x ≠ "__name__"
/-- the body that the proof stands in -/
structure In (X : Cx) (N G : List Str) (sc : Scope) : Prop where
  ok : ScOk N G sc
  n : ∃ C, X.N = N ++ C
  nd : X.N.Nodup
  sc : X.env.scope = sc
  fn : X.fn = fun _ => true
  nev : PassesOwn (model X.prog X.w) X.A X.env X.xe
section
variable {X : Cx} {e a b c : Expr} {es rest : List Expr} {st : Stmt} {sts : List Stmt} {σ : L2.St} {H : Hp} {Q : VK} {D : Ends} {pos p0 : Pos} {QT : Bool → Hp → Prop} {N G : List Str} {sc : Scope}
theorem In.loc (I : In X N G sc) {i : Nat} {x : Str} (h : At N i x) : Loc X.env.scope x := by rw [I.sc]; exact (I.ok.lo x h.mem).1
theorem In.vis (I : In X N G sc) {i : Nat} {x : Str} (h : At N i x) : Vis X.env.scope x := by
  rcases I.loc h with z | z
  · exact .inl z
  · exact .inr (.inl z)
theorem In.hi (I : In X N G sc) {i : Nat} {x : Str} (h : At N i x) : X.N[i]? = some x := by
  obtain ⟨C, e⟩ := I.n
  have hl : i < N.length := by
    have := h.get
    exact (List.getElem?_eq_some_iff.mp this).1
  rw [e, List.getElem?_append_left hl]
  exact h.get
theorem In.f (I : In X N G sc) {x : Str} : X.fn x = true ∨ X.env.scope.names.lookup x = some .local := .inl (by rw [I.fn])
theorem In.g (I : In X N G sc) {i : Nat} {x : Str} (h : At G i x) : Gl X x := by
  show X.env.scope.names.lookup x = _
  rw [I.sc]
  exact (I.ok.gl x h.mem).1
theorem In.gd (I : In X N G sc) {i : Nat} {x : Str} (h : At G i x) : (x == ("__debug__" : Str)) = false := (I.ok.gl x h.mem).2.1
theorem In.gn (I : In X N G sc) {i : Nat} {x : Str} (h : At G i x) : x ≠ "__name__" := (I.ok.gl x h.mem).2.2
theorem In.never (I : In X N G sc) : PassesOwn (model X.prog X.w) X.A X.env X.xe := I.nev

/-! ### statements -/
theorem l_nil {nx : L2.St → Hp → Prop} {rt : VK} {bk ct : L2.St → Hp → Prop} (q : nx σ H) : wL X [] ⟨nx, rt, bk, ct⟩ σ H := l_of pss_nil q
theorem l_cons {nx : L2.St → Hp → Prop} {rt : VK} {bk ct : L2.St → Hp → Prop} (q : wS X st ⟨fun σ' H' => wL X sts ⟨nx, rt, bk, ct⟩ σ' H', rt, bk, ct⟩ σ H) : wL X (st :: sts) ⟨nx, rt, bk, ct⟩ σ H := l_of (pss_cons ps pl) q
theorem s_set {nx : L2.St → Hp → Prop} {rt : VK} {bk ct : L2.St → Hp → Prop} {i : Nat} {x : Str} {pos' : Pos} (q : wE X e σ H fun v H' => nx (σ.set i (some v)) H') (I : In X N G sc := by assumption) (hA : At N i x := by repeat (first | with_reducible apply At.z | with_reducible apply At.s)) (hs : swapsWith e (some (.Name x pos')) pos.line X.env = pure false := by rfl) :
    wS X (.Assign [.Name x pos'] e pos) ⟨nx, rt, bk, ct⟩ σ H := s_of (ps_set I.nd (I.hi hA) (I.loc hA) pe hs I.f) q
theorem s_ret {nx : L2.St → Hp → Prop} {rt : VK} {bk ct : L2.St → Hp → Prop} (q : wE X e σ H rt) : wS X (.Return (some e) pos) ⟨nx, rt, bk, ct⟩ σ H := s_of (ps_ret pe) q
theorem s_retN {nx : L2.St → Hp → Prop} {rt : VK} {bk ct : L2.St → Hp → Prop} (q : rt .non H) : wS X (.Return none pos) ⟨nx, rt, bk, ct⟩ σ H := s_of ps_retN q
theorem s_pass {nx : L2.St → Hp → Prop} {rt : VK} {bk ct : L2.St → Hp → Prop} (q : nx σ H) : wS X (.Pass pos) ⟨nx, rt, bk, ct⟩ σ H := s_of ps_pass q
theorem s_brk {nx : L2.St → Hp → Prop} {rt : VK} {bk ct : L2.St → Hp → Prop} (q : bk σ H) : wS X (.Break pos) ⟨nx, rt, bk, ct⟩ σ H := s_of ps_break q
theorem s_cnt {nx : L2.St → Hp → Prop} {rt : VK} {bk ct : L2.St → Hp → Prop} (q : ct σ H) : wS X (.Continue pos) ⟨nx, rt, bk, ct⟩ σ H := s_of ps_continue q
theorem s_expr {nx : L2.St → Hp → Prop} {rt : VK} {bk ct : L2.St → Hp → Prop} (q : wE X e σ H fun _ H' => nx σ H') (hs : swapsWith e none pos.line X.env = pure false := by rfl) : wS X (.Expr e pos) ⟨nx, rt, bk, ct⟩ σ H := s_of (ps_expr pe hs) q
theorem s_if {nx : L2.St → Hp → Prop} {rt : VK} {bk ct : L2.St → Hp → Prop} {A B : List Stmt} (q : wT X c σ H fun k H1 => if k = true then wL X A ⟨nx, rt, bk, ct⟩ σ H1 else wL X B ⟨nx, rt, bk, ct⟩ σ H1) : wS X (.If c A B pos) ⟨nx, rt, bk, ct⟩ σ H := s_of (ps_if pt pl pl) q
theorem s_fld {nx : L2.St → Hp → Prop} {rt : VK} {bk ct : L2.St → Hp → Prop} {o value : Expr} {f : Str} {pos' : Pos} (q : wE X value σ H fun y H1 => wE X o σ H1 fun x H2 => ∃ a C dx fs, x = .ref a ∧ H2 a = some (.ins C dx fs) ∧ Cls X.K C ∧ NoAttr X.K C f ∧ fs.length < 1000 ∧ nx σ (upd H2 a (.ins C dx (putF f y fs))))
    (hs : swapsWith value (some (.Attribute o f pos')) pos.line X.env = pure false := by rfl) : wS X (.Assign [.Attribute o f pos'] value pos) ⟨nx, rt, bk, ct⟩ σ H := s_of (ps_fld pe pe hs) q
/-- o[i] = v -/
theorem s_sub {nx : L2.St → Hp → Prop} {rt : VK} {bk ct : L2.St → Hp → Prop} {o i value : Expr} {pos' : Pos} (q : wE X value σ H fun v H1 => wE X o σ H1 fun x H2 => wE X i σ H2 fun y H3 => wSet X x y v H3 fun H4 => nx σ H4)
    (hs : swapsWithSole [.Subscript o i pos'] value pos.line X.env = pure false := by rfl) (hw : swappedStores [.Subscript o i pos'] value X.env = pure none := by rfl) (h1 : (assignEach [.Subscript o i pos'] X.env).map (·.2) = [assign (.Subscript o i pos') X.env] := by rfl)
    (ha : ∀ v, assign (.Subscript o i pos') X.env v = (do let ov ← holding [v] (eval o X.env); let iv ← holding [v, ov] (eval i X.env); standAt pos'; holding [v, ov, iv] (setItem ov iv v); release [v, ov, iv] []) := by intro _; rfl) : wS X (.Assign [.Subscript o i pos'] value pos) ⟨nx, rt, bk, ct⟩ σ H := s_of (ps_asg pe (pg_sub pe pe pset ha) hs hw h1) q
/-- two names from a tuple -/
theorem s_tup2 {nx : L2.St → Hp → Prop} {rt : VK} {bk ct : L2.St → Hp → Prop} {i j : Nat} {x y : Str} {k : Nat} {px py pt : Pos} (q : wE X e σ H fun v H1 => ∃ a u w, v = .ref a ∧ SqT X.K H1 a [u, w] ∧ nx ((σ.set i (some u)).set j (some w)) H1)
    (I : In X N G sc := by assumption) (hc : X.calm = true := by rfl) (hA : At N i x := by repeat (first | with_reducible apply At.z | with_reducible apply At.s)) (hB : At N j y := by repeat (first | with_reducible apply At.z | with_reducible apply At.s))
    (hs : swapsWithSole [.Tuple [.Name x px, .Name y py] k pt] e pos.line X.env = pure false := by rfl) (hw : swappedStores [.Tuple [.Name x px, .Name y py] k pt] e X.env = pure none := by rfl) (h1 : (assignEach [.Tuple [.Name x px, .Name y py] k pt] X.env).map (·.2) = [assign (.Tuple [.Name x px, .Name y py] k pt) X.env] := by rfl) :
    wS X (.Assign [.Tuple [.Name x px, .Name y py] k pt] e pos) ⟨nx, rt, bk, ct⟩ σ H := by
  refine s_of (ps_asg pe (pg_tup hc (pgs_cons (pg_name I.nd (I.hi hA) (I.loc hA) I.f) (pgs_cons (pg_name I.nd (I.hi hB) (I.loc hB) I.f) pgs_nil))) hs hw h1) (e_mono q fun v H1 q1 => ?_)
  obtain ⟨ad, u, w, ev, hq, q2⟩ := q1
  exact ⟨ad, [u, w], ev, hq, rfl, u, [w], rfl, w, [], rfl, rfl, q2⟩
/-! ### expressions -/
theorem e_var {i : Nat} {x : Str} {v : V} (q : Q v H) (I : In X N G sc := by assumption) (hA : At N i x := by repeat (first | with_reducible apply At.z | with_reducible apply At.s)) (hσ : σ[i]? = some (some v) := by exact rfl) : wE X (.Name x pos) σ H Q :=
  e_of (pe_var (I.hi hA) (I.vis hA) (I.ok.lo x hA.mem).2.1 (I.ok.lo x hA.mem).2.2) ⟨v, hσ, q⟩
theorem e_int {i : Int} {j} (q : Q (.int i) H) : wE X (.Constant (.int i) j pos) σ H Q := e_of pe_int q
theorem e_bl {k : Bool} {j} (q : Q (.bl k) H) : wE X (.Constant (.bool k) j pos) σ H Q := e_of pe_bl q
theorem e_non {j} (q : Q .non H) : wE X (.Constant .none j pos) σ H Q := e_of pe_non q
theorem e_str {x : Str} {j} (q : Q (.str x) H) : wE X (.Constant (.str x) j pos) σ H Q := e_of pe_str q
theorem e_bin {op : Operator} (q : wE X a σ H fun x H1 => wE X b σ H1 fun y H2 => wB X op x y H2 Q) : wE X (.BinOp a op b pos) σ H Q := e_of (pe_op opb pe pe) q
theorem e_cmp {op : CmpOp} (q : wE X a σ H fun x H1 => wE X b σ H1 fun y H2 => wK X op x y H2 Q) (hm : behindInMarks op b = false := by first | exact nomark _ | rfl) : wE X (.Compare a [op] [b] pos) σ H Q := e_of (pe_cmpR opk pe pe hm) q
theorem t_cmp {op : CmpOp} (q : wE X a σ H fun x H1 => wE X b σ H1 fun y H2 => wK X op x y H2 fun z H3 => ∃ k, z = .bl k ∧ QT k H3) (hm : behindInMarks op b = false := by first | exact nomark _ | rfl) : wT X (.Compare a [op] [b] pos) σ H QT := t_of (pt_cmpR opk pe pe hm) q
theorem t_val (q : wE X e σ H fun z H3 => ∃ k, z = .bl k ∧ QT k H3) (he : ∀ whole, isTrue e X.env whole = (do let v ← whole; standAt e.pos; holding [v] (truthy v)) := by intro _; rfl) : wT X e σ H QT := t_of (pt_val pe he) q
theorem t_not (q : wT X a σ H fun k H1 => QT (!k) H1) : wT X (.UnaryOp .Not a pos) σ H QT := t_of (pt_not pt) q
theorem t_w (q : wW X e σ H QT) : wT X e σ H QT := t_of pw.pt q
theorem w_and1 (q : wT X a σ H QT) : wW X (.BoolOp .And [a] pos) σ H QT := w_of (pw_and1 pt) q
theorem w_or1 (q : wT X a σ H QT) : wW X (.BoolOp .Or [a] pos) σ H QT := w_of (pw_or1 pt) q
theorem w_and (q : wT X a σ H fun k H1 => if k = true then wW X (.BoolOp .And (b :: rest) pos) σ H1 QT else QT false H1) : wW X (.BoolOp .And (a :: b :: rest) pos) σ H QT := w_of (pw_and pt pw) q
theorem w_or (q : wT X a σ H fun k H1 => if k = true then QT true H1 else wW X (.BoolOp .Or (b :: rest) pos) σ H1 QT) : wW X (.BoolOp .Or (a :: b :: rest) pos) σ H QT := w_of (pw_or pt pw) q
theorem e_one {op} (q : wE X a σ H Q) : wE X (.BoolOp op [a] pos) σ H Q := e_of (pe_one pe) q
theorem e_and (q : wE X a σ H fun x H1 => ∃ k, x = .bl k ∧ if k = true then wE X (.BoolOp .And (b :: rest) pos) σ H1 Q else Q (.bl false) H1) : wE X (.BoolOp .And (a :: b :: rest) pos) σ H Q := e_of (pe_and pe pe) q
theorem e_or (q : wE X a σ H fun x H1 => ∃ k, x = .bl k ∧ if k = true then Q (.bl true) H1 else wE X (.BoolOp .Or (b :: rest) pos) σ H1 Q) : wE X (.BoolOp .Or (a :: b :: rest) pos) σ H Q := e_of (pe_or pe pe) q
theorem e_not (q : wE X a σ H fun x H1 => ∃ k, x = .bl k ∧ Q (.bl (!k)) H1) : wE X (.UnaryOp .Not a pos) σ H Q := e_of (pe_not pe) q
theorem e_ifExp (q : wT X c σ H fun k H1 => if k = true then wE X a σ H1 Q else wE X b σ H1 Q) : wE X (.IfExp c a b pos) σ H Q := e_of (pe_ifExp pt pe pe) q
theorem e_ix (q : wE X a σ H fun x H1 => wE X b σ H1 fun y H2 => wIx X x y H2 Q) (hs : PlainIx b := by intro _ _; rfl) : wE X (.Subscript a b pos) σ H Q := e_of (pe_ix ixr pe pe hs) q
theorem e_fld {f : Str} (q : wE X e σ H fun x H1 => ∃ a C dx fs v, x = .ref a ∧ H1 a = some (.ins C dx fs) ∧ Cls X.K C ∧ NoAttr X.K C f ∧ fs.lookup f = some v ∧ Q v H1) (hb : attributeBase e f X.env (eval e X.env) = eval e X.env := by rfl) : wE X (.Attribute e f pos) σ H Q := e_of (pe_fld pe hb) q
theorem a_nil {QA : List V → Hp → Prop} (q : QA [] H) : wA X [] σ H QA := a_of pa_nil q
theorem a_cons {QA : List V → Hp → Prop} (q : wE X e σ H fun x H1 => wA X es σ H1 fun xs H2 => QA (x :: xs) H2) (hs : starEach (e :: es) X.env = (false, eval e X.env) :: starEach es X.env := by rfl) : wA X (e :: es) σ H QA := a_of (pa_cons pe pa hs) q
theorem e_tup {k} (q : wA X es σ H fun xs H1 => xs.length ≤ sizeLine ∧ ∀ p H2, Same H1 H2 → H1 p = none → H2 p = some (.tup xs) → Q (.ref p) H2) : wE X (.Tuple es k pos) σ H Q :=
  e_of (pe_tup pa) (a_mono q fun xs H1 z => ⟨z.1, fun p np => z.2 p _ (fun b o eo => by rw [upd_ne (ne_of_none eo np)]; exact eo) np upd_same⟩)
theorem e_lst (q : wA X es σ H fun xs H1 => xs.length ≤ sizeLine ∧ ∀ p H2, Same H1 H2 → H1 p = none → H2 p = some (.lst xs) → Q (.ref p) H2) : wE X (.List es pos) σ H Q :=
  e_of (pe_lst pa) (a_mono q fun xs H1 z => ⟨z.1, fun p np => z.2 p _ (fun b o eo => by rw [upd_ne (ne_of_none eo np)]; exact eo) np upd_same⟩)
/-! ### calls -/
/-- a def of the module that no exception leaves -/
structure Fn (P : Program) (w : World) (K : PySem.W.Frag) (mg : Str → Option Value) (base : Heap) (k : Nat) (x : Str) (sp : Sp) : Prop where
  ex : ∃ (f : Addr) (fd : FuncData) (ps : List Str), FnOk P w K mg base CX0 k f fd ps sp ∧ mg x = some (.ref f) ∧ PySem.W.keepIn K (.ref f) = true ∧ Binds K fd ps []
theorem e_call {g : Nat} {k n : Nat} {x : Str} {sp : Sp} (F : Fn X.prog X.w X.K X.mg X.base k x sp) (hr : Room n X.A) (hk : k ≤ n) (q : wA X (e :: es) σ H fun vs H1 => sp vs H1 Q E0) (I : In X N G sc := by assumption) (hG : At G g x := by repeat (first | with_reducible apply At.z | with_reducible apply At.s))
    (he : starEach (e :: es) X.env = (false, eval e X.env) :: starEach es X.env := by rfl) (hpl : (backTo pos (starEach es X.env)).any (·.1) = false := by rfl) : wE X (.Call (.Name x p0) (e :: es) [] pos) σ H Q := by
  obtain ⟨f, fd, ps, F0, hm, hkp, hb⟩ := F.ex
  refine e_of (pe_call F0 (hr.mono hk) (I.g hG) hm hkp hb .nil pass0 pa (I.gd hG) he hpl) ?_
  show wA X (e :: es) σ H fun vs H1 => sp (vs ++ []) H1 Q E0
  simp only [List.append_nil]
  exact q
theorem e_call0 {g : Nat} {k n : Nat} {x : Str} {sp : Sp} (F : Fn X.prog X.w X.K X.mg X.base k x sp) (hr : Room n X.A) (hk : k ≤ n) (q : sp [] H Q E0) (I : In X N G sc := by assumption) (hG : At G g x := by repeat (first | with_reducible apply At.z | with_reducible apply At.s)) : wE X (.Call (.Name x p0) [] [] pos) σ H Q := by
  obtain ⟨f, fd, ps, F0, hm, hkp, hb⟩ := F.ex
  exact e_of (pe_call0 F0 (hr.mono hk) (I.g hG) hm hkp hb .nil pass0 (I.gd hG)) q
theorem e_callB {g : Nat} {x : Str} {id : String} (hm : X.mg x = none) (hv : bootBuiltins x = some (.builtin id)) (q : wA X (e :: es) σ H fun vs H1 => wC X (.builtin id) vs H1 Q) (I : In X N G sc := by assumption) (hG : At G g x := by repeat (first | with_reducible apply At.z | with_reducible apply At.s))
    (he : starEach (e :: es) X.env = (false, eval e X.env) :: starEach es X.env := by rfl) (hpl : (backTo pos (starEach es X.env)).any (·.1) = false := by rfl) : wE X (.Call (.Name x p0) (e :: es) [] pos) σ H Q := e_of (pe_callB cr (I.g hG) hm hv pa (I.gn hG) (I.gd hG) he hpl) q
theorem e_callTy {g : Nat} {x : Str} {T : String} (hm : X.mg x = none) (hv : bootBuiltins x = some (.type T)) (q : wA X (e :: es) σ H fun vs H1 => wC X (.type T) vs H1 Q) (I : In X N G sc := by assumption) (hG : At G g x := by repeat (first | with_reducible apply At.z | with_reducible apply At.s))
    (he : starEach (e :: es) X.env = (false, eval e X.env) :: starEach es X.env := by rfl) (hpl : (backTo pos (starEach es X.env)).any (·.1) = false := by rfl) : wE X (.Call (.Name x p0) (e :: es) [] pos) σ H Q := e_of (pe_callTy cr (I.g hG) hm hv pa (I.gn hG) (I.gd hG) he hpl) q
theorem e_glob {g : Nat} {x : Str} {v : V} {u : Value} (hm : X.mg x = some u) (r : RelV v u) (q : Q v H) (I : In X N G sc := by assumption) (hG : At G g x := by repeat (first | with_reducible apply At.z | with_reducible apply At.s)) : wE X (.Name x pos) σ H Q := e_of (pe_glob (I.g hG) hm r (I.gd hG)) q
theorem e_bltn {g : Nat} {x : Str} {v : V} {u : Value} (hm : X.mg x = none) (hv : bootBuiltins x = some u) (r : RelV v u) (q : Q v H) (I : In X N G sc := by assumption) (hG : At G g x := by repeat (first | with_reducible apply At.z | with_reducible apply At.s)) : wE X (.Name x pos) σ H Q := e_of (pe_bltn (I.g hG) hm hv r (I.gn hG) (I.gd hG)) q
/-- a method of a class that no exception leaves -/
structure Mt (P : Program) (w : World) (K : PySem.W.Frag) (mg : Str → Option Value) (base : Heap) (k : Nat) (C : Addr) (m : Str) (sp : Sp) : Prop where
  ex : ∃ (f : Addr) (fd : FuncData) (ps : List Str), FnOk P w K mg base CX0 k f fd ps sp ∧ Meth K C m f ∧ Binds K fd ps [] ∧ Cls K C
theorem e_meth {k n : Nat} {o : Expr} {m : Str} {C : Addr} {apos : Pos} {pl : Sem Bool} {sp : Sp} (F : Mt X.prog X.w X.K X.mg X.base k C m sp) (hr : Room n X.A) (hk : k ≤ n)
    (q : wE X o σ H fun x H1 => ∃ a dx fs, x = .ref a ∧ H1 a = some (.ins C dx fs) ∧ fs.lookup m = none ∧ wA X (e :: es) σ H1 fun vs H2 => sp (x :: vs) H2 Q E0)
    (hst : starEach (e :: es) X.env = (false, eval e X.env) :: starEach es X.env := by rfl) (hpl : (backTo pos (starEach es X.env)).any (·.1) = false := by rfl)
    (ht : eval (.Call (.Attribute o m apos) (e :: es) [] pos) X.env = (do let ov ← eval o X.env; standAt apos.atName; let (f, first) ← holding [ov] (getMethod ov m pl); callWith pos f first (backTo pos (starEach (e :: es) X.env)) (backToKw pos (keywordEach [] X.env))) := by rfl) :
    wE X (.Call (.Attribute o m apos) (e :: es) [] pos) σ H Q := by
  obtain ⟨f, fd, ps, F0, M, hb, c⟩ := F.ex
  refine e_of (pe_meth (pl := pl) pe c M F0 (hr.mono hk) hb .nil pass0 pa hst hpl ht) ?_
  show wE X o σ H fun x H1 => ∃ a dx fs, x = .ref a ∧ H1 a = some (.ins C dx fs) ∧ fs.lookup m = none ∧ wA X (e :: es) σ H1 fun vs H2 => sp (x :: (vs ++ [])) H2 Q E0
  simp only [List.append_nil]
  exact q
theorem e_meth0 {k n : Nat} {o : Expr} {m : Str} {C : Addr} {apos : Pos} {pl : Sem Bool} {sp : Sp} (F : Mt X.prog X.w X.K X.mg X.base k C m sp) (hr : Room n X.A) (hk : k ≤ n)
    (q : wE X o σ H fun x H1 => ∃ a dx fs, x = .ref a ∧ H1 a = some (.ins C dx fs) ∧ fs.lookup m = none ∧ sp [x] H1 Q E0)
    (ht : eval (.Call (.Attribute o m apos) [] [] pos) X.env = (do let ov ← eval o X.env; standAt apos.atName; let (f, first) ← holding [ov] (getMethod ov m pl); callWith pos f first (backTo pos (starEach [] X.env)) (backToKw pos (keywordEach [] X.env))) := by rfl) :
    wE X (.Call (.Attribute o m apos) [] [] pos) σ H Q := by
  obtain ⟨f, fd, ps, F0, M, hb, c⟩ := F.ex
  exact e_of (pe_meth0 (pl := pl) pe c M F0 (hr.mono hk) hb .nil pass0 ht) q
/-- an own class whose __init__ no exception leaves -/
structure Kl (P : Program) (w : World) (K : PySem.W.Frag) (mg : Str → Option Value) (base : Heap) (k : Nat) (x : Str) (C : Addr) (sp : Sp) : Prop where
  ex : ∃ (f : Addr) (fd : FuncData) (ps : List Str), FnOk P w K mg base CX0 k f fd ps sp ∧ mg x = some (.ref C) ∧ Mk K C f ∧ Binds K fd ps []
theorem e_make {g : Nat} {k n : Nat} {x : Str} {C : Addr} {sp : Sp} (F : Kl X.prog X.w X.K X.mg X.base k x C sp) (hr : Room n X.A) (hk : k + 1 ≤ n)
    (q : wA X (e :: es) σ H fun vs H1 => ∀ x dx, H1 x = none → H1 dx = none → dx ≠ x → sp (.ref x :: vs) (upd (upd H1 dx (.own x)) x (.ins C dx [])) (fun v H2 => v = .non ∧ Q (.ref x) H2) E0)
    (I : In X N G sc := by assumption) (hG : At G g x := by repeat (first | with_reducible apply At.z | with_reducible apply At.s)) (he : starEach (e :: es) X.env = (false, eval e X.env) :: starEach es X.env := by rfl) (hpl : (backTo pos (starEach es X.env)).any (·.1) = false := by rfl) : wE X (.Call (.Name x p0) (e :: es) [] pos) σ H Q := by
  obtain ⟨f, fd, ps, F0, hm, M, hb⟩ := F.ex
  refine e_of (pe_make M F0 (hr.mono hk) (I.g hG) hm hb .nil pass0 pa (I.gd hG) he hpl) ?_
  show wA X (e :: es) σ H fun vs H1 => ∀ x dx, H1 x = none → H1 dx = none → dx ≠ x → sp (.ref x :: (vs ++ [])) (upd (upd H1 dx (.own x)) x (.ins C dx [])) (fun v H2 => v = .non ∧ Q (.ref x) H2) E0
  simp only [List.append_nil]
  exact q
end
/-! ### values -/
section
variable {X : Cx} {H : Hp} {Q : VK} {i j : Int} {σ : L2.St} {D : Ends}
theorem o_add (q : Q (.int (i + j)) H) : wB X .Add (.int i) (.int j) H Q := b_of op_add ⟨i, j, rfl, rfl, q⟩
theorem o_sub (q : Q (.int (i - j)) H) : wB X .Sub (.int i) (.int j) H Q := b_of op_sub ⟨i, j, rfl, rfl, q⟩
theorem o_mul (c : CMul i j) (q : Q (.int (i * j)) H) : wB X .Mult (.int i) (.int j) H Q := b_of op_mul ⟨i, j, rfl, rfl, c, q⟩
theorem o_mod (c : 0 < j) (q : Q (.int (i % j)) H) : wB X .Mod (.int i) (.int j) H Q := b_of op_mod ⟨i, j, rfl, rfl, c, q⟩
theorem o_fdiv (c : 0 < j ∧ j < 1073741824) (q : Q (.int (i / j)) H) : wB X .FloorDiv (.int i) (.int j) H Q := b_of op_fdiv ⟨i, j, rfl, rfl, c, q⟩
theorem o_pow (c : CPow i j) (q : Q (.int (i ^ j.toNat)) H) : wB X .Pow (.int i) (.int j) H Q := b_of op_pow ⟨i, j, rfl, rfl, c, q⟩
theorem o_lt (q : Q (.bl (decide (i < j))) H) : wK X .Lt (.int i) (.int j) H Q := k_of op_lt ⟨i, j, rfl, rfl, q⟩
theorem o_le (q : Q (.bl (decide (i ≤ j))) H) : wK X .LtE (.int i) (.int j) H Q := k_of op_le ⟨i, j, rfl, rfl, q⟩
theorem o_gt (q : Q (.bl (decide (j < i))) H) : wK X .Gt (.int i) (.int j) H Q := k_of op_gt ⟨i, j, rfl, rfl, q⟩
theorem o_ge (q : Q (.bl (decide (j ≤ i))) H) : wK X .GtE (.int i) (.int j) H Q := k_of op_ge ⟨i, j, rfl, rfl, q⟩
theorem dint {i j : Int} : decide (V.int i = V.int j) = decide (i = j) := by simp
theorem dbl {i j : Bool} : decide (V.bl i = V.bl j) = decide (i = j) := by simp
theorem dstr {i j : Str} : decide (V.str i = V.str j) = decide (i = j) := by simp
theorem o_eqI (q : Q (.bl (decide (i = j))) H) : wK X .Eq (.int i) (.int j) H Q := k_of op_eq ⟨rfl, dint ▸ q⟩
theorem o_neI (q : Q (.bl (!decide (i = j))) H) : wK X .NotEq (.int i) (.int j) H Q := k_of op_ne ⟨rfl, dint ▸ q⟩
theorem o_eqB {i j : Bool} (q : Q (.bl (decide (i = j))) H) : wK X .Eq (.bl i) (.bl j) H Q := k_of op_eq ⟨rfl, dbl ▸ q⟩
theorem o_neB {i j : Bool} (q : Q (.bl (!decide (i = j))) H) : wK X .NotEq (.bl i) (.bl j) H Q := k_of op_ne ⟨rfl, dbl ▸ q⟩
theorem o_eqS {i j : Str} (q : Q (.bl (decide (i = j))) H) : wK X .Eq (.str i) (.str j) H Q := k_of op_eq ⟨rfl, dstr ▸ q⟩
theorem o_neS {i j : Str} (q : Q (.bl (!decide (i = j))) H) : wK X .NotEq (.str i) (.str j) H Q := k_of op_ne ⟨rfl, dstr ▸ q⟩
/-- a pair of ints beside a text -/
theorem o_eqPS {n : Nat} {a : Addr} {u v : Int} {z : Str} (hr : Room n X.A) (h : H a = some (.tup [.int u, .int v])) (hz : SeqAt.shaped (.str z) = true) (q : Q (.bl false) H) : wK X .Eq (.ref a) (.str z) H Q :=
  k_of (op_eqD hr.units) ⟨.tuple [.int u, .int v], .str z, .tup (SqT.of h) (.cons (.int u) (.cons (.int v) .nil)), .str z, rfl, hz, q⟩
theorem ix_l {a : Addr} {xs : List V} {v : V} (h : SqL X.K H a xs) (e : atI xs i = some v) (q : Q v H) : wIx X (.ref a) (.int i) H Q := ix_of ix_list ⟨a, xs, i, v, rfl, rfl, h, e, q⟩
theorem ix_t {a : Addr} {xs : List V} {v : V} (h : SqT X.K H a xs) (e : atI xs i = some v) (q : Q v H) : wIx X (.ref a) (.int i) H Q := ix_of ix_tup ⟨a, xs, i, v, rfl, rfl, h, e, q⟩
theorem set_l {a : Addr} {xs : List V} {v : V} {k : Nat} {QH : Hp → Prop} (h : H a = some (.lst xs)) (e : ixN xs.length i = some k) (q : QH (upd H a (.lst (xs.set k v)))) : wSet X (.ref a) (.int i) v H QH := set_of set_list ⟨a, xs, i, k, rfl, rfl, h, e, q⟩
theorem c_int (q : Q (.int i) H) : wC X (.type "int") [.int i] H Q := c_of call_int1 (.inl ⟨i, rfl, q⟩)
theorem c_abs (q : Q (.int (if i < 0 then -i else i)) H) : wC X (.builtin "abs") [.int i] H Q := c_of call_abs ⟨i, rfl, q⟩
theorem c_max (hc : X.calm = true) (q : Q (.int (if j > i then j else i)) H) : wC X (.builtin "max") [.int i, .int j] H Q := c_of (call_max2 hc) ⟨i, j, rfl, q⟩
theorem c_min (hc : X.calm = true) (q : Q (.int (if j < i then j else i)) H) : wC X (.builtin "min") [.int i, .int j] H Q := c_of (call_min2 hc) ⟨i, j, rfl, q⟩
theorem c_lenL {a : Addr} {xs : List V} (h : SqL X.K H a xs) (q : Q (.int xs.length) H) : wC X (.builtin "len") [.ref a] H Q := c_of call_len_seq ⟨a, xs, rfl, .inl h, q⟩
theorem c_lenT {a : Addr} {xs : List V} (h : SqT X.K H a xs) (q : Q (.int xs.length) H) : wC X (.builtin "len") [.ref a] H Q := c_of call_len_seq ⟨a, xs, rfl, .inr h, q⟩
theorem c_isi {x c : V} {t u : Value} {b : Bool} (ty : TyX X.K H x t) (k : ClsV c u) (e : PySem.W.kitOne X.K t u = some b) (q : Q (.bl b) H) : wC X (.builtin "isinstance") [x, c] H Q := c_of call_isi ⟨x, c, t, u, b, rfl, k, ty, e, q⟩
theorem c_isiT {x : V} {tp : Addr} {cs : List V} {t : Value} {us : List Value} {b : Bool} (ty : TyX X.K H x t) (h : H tp = some (.tup cs)) (k : Paired ClsV cs us) (e : PySem.W.kitAny X.K t us = some b) (q : Q (.bl b) H) : wC X (.builtin "isinstance") [x, .ref tp] H Q :=
  c_of call_isiT ⟨x, tp, cs, t, us, b, rfl, h, k, ty, e, q⟩
theorem ty_non : TyX X.K H .non (.type "NoneType") := .base .non
theorem ty_bl {b : Bool} : TyX X.K H (.bl b) (.type "bool") := .base (.bl b)
theorem ty_int : TyX X.K H (.int i) (.type "int") := .base (.int i)
theorem ty_str {z : Str} : TyX X.K H (.str z) (.type "str") := .base (.str z)
theorem ty_tup {a : Addr} {xs : List V} (h : H a = some (.tup xs)) : TyX X.K H (.ref a) (.type "tuple") := .base (.tup h)
theorem ty_lst {a : Addr} {xs : List V} (h : H a = some (.lst xs)) : TyX X.K H (.ref a) (.type "list") := .base (.lst h)
theorem two_ty {a b : String} : Paired ClsV [.ty a, .ty b] [.type a, .type b] := .cons (.ty a) (.cons (.ty b) .nil)
theorem kit2 {K : PySem.W.Frag} {t a b : String} {x y : Bool} (h1 : kitB t a = some x) (h2 : kitB t b = some y) : PySem.W.kitAny K (.type t) [.type a, .type b] = some (x || y) := by
  cases x with
  | true => exact kitAny_cons (kit_ty h1) (fun z => nomatch z) fun _ => rfl
  | false =>
    refine kitAny_cons (kit_ty h1) (fun _ => ?_) (fun z => nomatch z)
    cases y with
    | true => exact kitAny_cons (kit_ty h2) (fun z => nomatch z) fun _ => rfl
    | false => exact kitAny_cons (kit_ty h2) (fun _ => rfl) (fun z => nomatch z)
theorem kb_int_tuple : kitB "int" "tuple" = some false := by decide +kernel
theorem kb_int_list : kitB "int" "list" = some false := by decide +kernel
theorem kb_int_int : kitB "int" "int" = some true := by decide +kernel
theorem kb_int_bool : kitB "int" "bool" = some false := by decide +kernel
theorem kb_int_str : kitB "int" "str" = some false := by decide +kernel
theorem kb_tuple_tuple : kitB "tuple" "tuple" = some true := by decide +kernel
theorem kb_tuple_list : kitB "tuple" "list" = some false := by decide +kernel
theorem kb_tuple_str : kitB "tuple" "str" = some false := by decide +kernel
theorem kb_tuple_int : kitB "tuple" "int" = some false := by decide +kernel
theorem kb_tuple_bool : kitB "tuple" "bool" = some false := by decide +kernel
theorem kb_list_tuple : kitB "list" "tuple" = some false := by decide +kernel
theorem kb_list_list : kitB "list" "list" = some true := by decide +kernel
theorem kb_list_str : kitB "list" "str" = some false := by decide +kernel
theorem kb_list_int : kitB "list" "int" = some false := by decide +kernel
theorem kb_list_bool : kitB "list" "bool" = some false := by decide +kernel
theorem kb_bool_bool : kitB "bool" "bool" = some true := by decide +kernel
theorem kb_bool_int : kitB "bool" "int" = some true := by decide +kernel
theorem kb_bool_str : kitB "bool" "str" = some false := by decide +kernel
theorem kb_bool_tuple : kitB "bool" "tuple" = some false := by decide +kernel
theorem kb_bool_list : kitB "bool" "list" = some false := by decide +kernel
theorem kb_str_str : kitB "str" "str" = some true := by decide +kernel
theorem kb_str_bool : kitB "str" "bool" = some false := by decide +kernel
theorem kb_str_int : kitB "str" "int" = some false := by decide +kernel
theorem kb_str_tuple : kitB "str" "tuple" = some false := by decide +kernel
theorem kb_str_list : kitB "str" "list" = some false := by decide +kernel
theorem kb_non_bool : kitB "NoneType" "bool" = some false := by decide +kernel
theorem kb_non_int : kitB "NoneType" "int" = some false := by decide +kernel
theorem kb_non_str : kitB "NoneType" "str" = some false := by decide +kernel
theorem kb_non_tuple : kitB "NoneType" "tuple" = some false := by decide +kernel
theorem kb_non_list : kitB "NoneType" "list" = some false := by decide +kernel
theorem b_int : bootBuiltins "int" = some (.type "int") := by decide +kernel
theorem b_bool : bootBuiltins "bool" = some (.type "bool") := by decide +kernel
theorem b_str : bootBuiltins "str" = some (.type "str") := by decide +kernel
theorem b_tuple : bootBuiltins "tuple" = some (.type "tuple") := by decide +kernel
theorem b_list : bootBuiltins "list" = some (.type "list") := by decide +kernel
theorem b_isi : bootBuiltins "isinstance" = some (.builtin "isinstance") := by decide +kernel
theorem b_len : bootBuiltins "len" = some (.builtin "len") := by decide +kernel
theorem b_abs : bootBuiltins "abs" = some (.builtin "abs") := by decide +kernel
theorem b_max : bootBuiltins "max" = some (.builtin "max") := by decide +kernel
theorem b_min : bootBuiltins "min" = some (.builtin "min") := by decide +kernel
/-! ### loops -/
theorem s_forR {nx : L2.St → Hp → Prop} {rt : VK} {bk ct : L2.St → Hp → Prop} {g : Nat} {N G : List Str} {sc : Scope} {x : Str} {i : Nat} {a : Expr} {body : List Stmt} {px p cp pos : Pos} (hm : X.mg "range" = none)
    (q : wE X a σ H fun v H1 => ∃ n : Nat, v = .int n ∧ n < 2 ^ 62 ∧ ∃ Pv : Nat → L2.St → Hp → Prop, Pv 0 σ H1 ∧ (∀ k σ H, k < n → Pv k σ H → wL X body ⟨Pv (k + 1), rt, nx, Pv (k + 1)⟩ (σ.set i (some (.int (k : Int)))) H) ∧ ∀ σ H, Pv n σ H → nx σ H)
    (I : In X N G sc := by assumption) (hc : X.calm = true := by rfl) (hA : At N i x := by repeat (first | with_reducible apply At.z | with_reducible apply At.s))
    (hG : At G g ("range" : Str) := by repeat (first | with_reducible apply At.z | with_reducible apply At.s)) (hs : starEach [a] X.env = [(false, eval a X.env)] := by rfl) (hs2 : ∀ z, foldedSetIterable (.Call (.Name "range" p) [a] [] cp) X.env z = pure z := by intro _; rfl)
    (hs1 : starEach (a :: []) X.env = (false, eval a X.env) :: starEach [] X.env := by rfl) :
    wS X (.For (.Name x px) (.Call (.Name "range" p) [a] [] cp) body [] pos) ⟨nx, rt, bk, ct⟩ σ H := by
  refine s_of (ps_for I.never hc (pi_range1 (I.g hG) hm (pa_cons pe pa_nil hs1) hs) (pg_name I.nd (I.hi hA) (I.loc hA) I.f) pl hs2) (e_mono q fun v H1 q1 => ?_)
  obtain ⟨n, rfl, hn, Pv, h0, hb, hd⟩ := q1
  refine ⟨(n : Int), rfl, by omega, by omega, ?_⟩
  rw [Int.toNat_natCast]
  refine for_range (n := n) Pv h0 (fun k σ H hk p => ?_) hd
  rw [Int.zero_add]
  exact hb k σ H hk p
theorem s_forL {nx : L2.St → Hp → Prop} {rt : VK} {bk ct : L2.St → Hp → Prop} {N G : List Str} {sc : Scope} {x : Str} {i : Nat} {a : Expr} {body : List Stmt} {px pos : Pos}
    (q : wE X a σ H fun v H1 => ∃ ad xs, v = .ref ad ∧ SqL X.K H1 ad xs ∧ ∃ Pv : Nat → L2.St → Hp → Prop, Pv 0 σ H1 ∧ (∀ k σ H, k ≤ xs.length → Pv k σ H → SqL X.K H ad xs) ∧ (∀ k y σ H, xs[k]? = some y → Pv k σ H → wL X body ⟨Pv (k + 1), rt, nx, Pv (k + 1)⟩ (σ.set i (some y)) H) ∧ ∀ σ H, Pv xs.length σ H → nx σ H)
    (I : In X N G sc := by assumption) (hc : X.calm = true := by rfl) (hA : At N i x := by repeat (first | with_reducible apply At.z | with_reducible apply At.s))
    (hs2 : ∀ z, foldedSetIterable a X.env z = pure z := by intro _; rfl) :
    wS X (.For (.Name x px) a body [] pos) ⟨nx, rt, bk, ct⟩ σ H := by
  refine s_of (ps_for I.never hc (pi_list pe) (pg_name I.nd (I.hi hA) (I.loc hA) I.f) pl hs2) (e_mono q fun v H1 q1 => ?_)
  obtain ⟨ad, xs, rfl, hl, Pv, h0, hk, hb, hd⟩ := q1
  exact ⟨ad, rfl, ⟨xs, hl⟩, for_list Pv h0 hk hb hd⟩
theorem s_forT {nx : L2.St → Hp → Prop} {rt : VK} {bk ct : L2.St → Hp → Prop} {N G : List Str} {sc : Scope} {x : Str} {i : Nat} {a : Expr} {body : List Stmt} {px pos : Pos}
    (q : wE X a σ H fun v H1 => ∃ ad xs, v = .ref ad ∧ SqT X.K H1 ad xs ∧ ∃ Pv : Nat → L2.St → Hp → Prop, Pv 0 σ H1 ∧ (∀ k σ H, k ≤ xs.length → Pv k σ H → SqT X.K H ad xs) ∧ (∀ k y σ H, xs[k]? = some y → Pv k σ H → wL X body ⟨Pv (k + 1), rt, nx, Pv (k + 1)⟩ (σ.set i (some y)) H) ∧ ∀ σ H, Pv xs.length σ H → nx σ H)
    (I : In X N G sc := by assumption) (hc : X.calm = true := by rfl) (hA : At N i x := by repeat (first | with_reducible apply At.z | with_reducible apply At.s))
    (hs2 : ∀ z, foldedSetIterable a X.env z = pure z := by intro _; rfl) :
    wS X (.For (.Name x px) a body [] pos) ⟨nx, rt, bk, ct⟩ σ H := by
  refine s_of (ps_for I.never hc (pi_tup pe) (pg_name I.nd (I.hi hA) (I.loc hA) I.f) pl hs2) (e_mono q fun v H1 q1 => ?_)
  obtain ⟨ad, xs, rfl, hl, Pv, h0, hk, hb, hd⟩ := q1
  exact ⟨ad, rfl, ⟨xs, hl⟩, for_tup Pv h0 hk hb hd⟩
/-! ### an own operator of an own class -/
theorem op_own {op : Operator} {k n : Nat} {C f : Addr} {fd : FuncData} {pn : List Str} {sp : Sp} (F : FnOk X.prog X.w X.K X.mg X.base CX0 k f fd pn sp) (hs : PySem.W.findIn X.K (.ref C) (PySem.dunder op.info.2) = some (some (.ref f))) (hf : PySem.W.isFn X.K (.ref f) = true)
    (hc : PySem.W.selfFirst X.K C = true) (hb : Binds X.K fd pn []) (hr : Room n X.A) (hk : k ≤ n) :
    OpR X (binaryOp op) (fun x y H Q => ∃ a b dx dy fs gs, x = .ref a ∧ y = .ref b ∧ H a = some (.ins C dx fs) ∧ H b = some (.ins C dy gs) ∧ sp [x, y] H (fun v H' => (∃ p, v = .ref p) ∧ Q v H') E0) := by
  intro pins s σ H x y u v Q I rx ry h
  obtain ⟨a, b, dx, dy, fs, gs, rfl, rfl, ha, hb', hsp⟩ := h
  cases rx
  cases ry
  obtain ⟨mA, J, _⟩ := ins_get I.hok ha
  obtain ⟨mB, J', _⟩ := ins_get I.hok hb'
  obtain ⟨od, J, _⟩ := J.look
  obtain ⟨od', J', _⟩ := J'.look
  obtain ⟨m, hF⟩ := I.fr
  refine PySem.W.binop_K hF I.ok.mod.kin J J'.type hc hs hf ?_
  refine wpAny_mono (run_fn (E := E0) F (hr.mono hk) hb .nil pass0 I (show Vals [V.ref a, V.ref b] [Value.ref a, Value.ref b] from .cons rfl (.cons rfl .nil)) (by rw [List.append_nil]; exact hsp)) (fun w s' z => ?_) fun _ _ z => z
  obtain ⟨v', H', I', rz, ⟨p, rfl⟩, q⟩ := z
  cases rz
  exact ⟨.ref p, H', I', rfl, q⟩
structure Op2 (P : Program) (w : World) (K : PySem.W.Frag) (mg : Str → Option Value) (base : Heap) (k : Nat) (C : Addr) (op : Operator) (sp : Sp) : Prop where
  ex : ∃ (f : Addr) (fd : FuncData) (pn : List Str), FnOk P w K mg base CX0 k f fd pn sp ∧ PySem.W.findIn K (.ref C) (PySem.dunder op.info.2) = some (some (.ref f)) ∧ PySem.W.isFn K (.ref f) = true ∧ PySem.W.selfFirst K C = true ∧ Binds K fd pn []
theorem o_own {op : Operator} {k n : Nat} {C a b dx dy : Addr} {fs gs : List (Str × V)} {sp : Sp} (F : Op2 X.prog X.w X.K X.mg X.base k C op sp) (hr : Room n X.A) (hk : k ≤ n) (ha : H a = some (.ins C dx fs)) (hb : H b = some (.ins C dy gs))
    (q : sp [.ref a, .ref b] H (fun v H' => (∃ p, v = .ref p) ∧ Q v H') E0) : wB X op (.ref a) (.ref b) H Q := by
  obtain ⟨f, fd, pn, G, hs, hf, hc, hb'⟩ := F.ex
  exact b_of (op_own G hs hf hc hb' hr hk) ⟨a, b, dx, dy, fs, gs, rfl, rfl, ha, hb, q⟩
end
/-! ### heaps -/
/-- all but a stays -/
def But (a : Addr) (H H' : Hp) : Prop := ∀ b o, b ≠ a → H b = some o → H' b = some o
theorem But.refl {a : Addr} {H : Hp} : But a H H := fun _ _ _ h => h
theorem But.trans {a : Addr} {H H1 H2 : Hp} (x : But a H H1) (y : But a H1 H2) : But a H H2 := fun b o n h => y b o n (x b o n h)
theorem But.of {a : Addr} {H H1 : Hp} (x : Same H H1) : But a H H1 := fun b o _ h => x b o h
theorem But.upd {a : Addr} {H H1 : Hp} {o : HO} (x : But a H H1) : But a H (L2.upd H1 a o) := fun b u n h => by
  rw [upd_ne n]
  exact x b u n h
theorem But.tup {a p : Addr} {H H1 : Hp} {l xs : List V} (x : But a H H1) (ha : H a = some (.lst l)) (hp : H p = some (.tup xs)) : H1 p = some (.tup xs) := x p _ (ne_of hp ha (by intro z; cases z)) hp
theorem But.ins {a p C dx : Addr} {H H1 : Hp} {l : List V} {fs : List (Str × V)} (x : But a H H1) (ha : H a = some (.lst l)) (hp : H p = some (.ins C dx fs)) : H1 p = some (.ins C dx fs) := x p _ (ne_of hp ha (by intro z; cases z)) hp
theorem But.frz {a p : Addr} {H H1 : Hp} {l : List V} {o : Obj} {u : HO} (x : But a H H1) (ha : H a = some (.lst l)) (hp : H p = some (.frz o u)) : H1 p = some (.frz o u) := x p _ (ne_of hp ha (by intro z; cases z)) hp
section
variable {P : Program} {w : World} {K : PySem.W.Frag} {mg : Str → Option Value} {base : Heap}
/-- a def of the module where the top has left it -/
structure Top (K : PySem.W.Frag) (mg : Str → Option Value) (x : Str) (st : Stmt) : Prop where
  ex : ∃ (f : Addr) (fd : FuncData), Fun K x x st f fd ∧ mg x = some (.ref f)
theorem top_mk {h : Heap} {x : Str} {st : Stmt} {f : Addr} {oc : Value} {od an : Option Addr} {osl : Array (Option Value)} {kV doc pm cdv ct : Value} (X : K.In h) (G : h.Ns mainGlobals mg) (a : PySem.W.nsIn K mainGlobals x = some (some (.ref f)))
    (l : K.lookup f = some ⟨oc, od, .func (PySem.W.fnOf x x (defArgs st) (defBody st) (defScope st) .none kV doc pm an cdv ct), osl⟩) (c : PySem.W.codeIn K cdv x = true) (k : PySem.W.keepIn K (.ref f) = true) : Top K mg x st :=
  ⟨f, _, fun_mk l c k, PySem.W.mg_of X G a⟩
theorem fn_ok {x : Str} {st : Stmt} {N G ps : List Str} {k : Nat} {sp : Sp} (T : Top K mg x st) (S : FnScope N ps (defScope st)) (O : ScOk N G (defScope st)) (len : ∀ vs H Q E, sp vs H Q E → vs.length = ps.length)
    (hb : ∀ (kV doc pm : Value) (an : Option Addr) (cdv ct : Value) (us : List Value), us.length = ps.length → bindArgs (PySem.W.fnOf x x (defArgs st) (defBody st) (defScope st) .none kV doc pm an cdv ct) ⟨us, []⟩ = pure (ps.zip us))
    (hbody : ∀ (f : Addr) (cdv : Value) (A : Around) (outer : List Env) (s : Shared) (H : Hp) (vs : List V) (Q : VK) (E : XK), Room k (A.deeper (envOfC x (defScope st) s.heap.objs.size f cdv)) → sp vs H Q E → In (cxOf CX0 P w K mg base N x (defScope st) f cdv A outer s H E).nox N G (defScope st) →
      wL (cxOf CX0 P w K mg base N x (defScope st) f cdv A outer s H E).nox (defBody st) { nx := fun _ H' => Q .non H', rt := Q } (start N vs) H) : Fn P w K mg base (k + 1) x sp := by
  obtain ⟨f, fd, F, hm⟩ := T.ex
  exact ⟨f, fd, ps, F.ok S len (fun cdv A outer s H vs Q E hr h => ⟨_, pl, hbody f cdv A outer s H vs Q E hr h ⟨O, ⟨[], (List.append_nil _).symm⟩, S.nd, rfl, rfl, PassesOwn.never⟩⟩), hm, F.kp, F.binds hb⟩
/-- a method where the top has left it -/
structure TopM (K : PySem.W.Frag) (C : Addr) (x qual : Str) (st : Stmt) : Prop where
  ex : ∃ (f : Addr) (fd : FuncData), Fun K x qual st f fd ∧ PySem.W.findIn K (.ref C) x = some (some (.ref f)) ∧ PySem.W.isFn K (.ref f) = true
theorem topM_mk {x qual : Str} {st : Stmt} {C f : Addr} {oc : Value} {od an : Option Addr} {osl : Array (Option Value)} {kV doc pm cdv ct : Value} (a : PySem.W.findIn K (.ref C) x = some (some (.ref f))) (i : PySem.W.isFn K (.ref f) = true)
    (l : K.lookup f = some ⟨oc, od, .func (PySem.W.fnOf x qual (defArgs st) (defBody st) (defScope st) .none kV doc pm an cdv ct), osl⟩) (c : PySem.W.codeIn K cdv qual = true) (k : PySem.W.keepIn K (.ref f) = true) : TopM K C x qual st :=
  ⟨f, _, fun_mk l c k, a, i⟩
theorem me_ok {x qual : Str} {C : Addr} {st : Stmt} {N G ps : List Str} {k : Nat} {sp : Sp} (T : TopM K C x qual st) (S : FnScope N ps (defScope st)) (O : ScOk N G (defScope st)) (len : ∀ vs H Q E, sp vs H Q E → vs.length = ps.length)
    (hb : ∀ (kV doc pm : Value) (an : Option Addr) (cdv ct : Value) (us : List Value), us.length = ps.length → bindArgs (PySem.W.fnOf x qual (defArgs st) (defBody st) (defScope st) .none kV doc pm an cdv ct) ⟨us, []⟩ = pure (ps.zip us))
    (hbody : ∀ (f : Addr) (cdv : Value) (A : Around) (outer : List Env) (s : Shared) (H : Hp) (vs : List V) (Q : VK) (E : XK), Room k (A.deeper (envOfC qual (defScope st) s.heap.objs.size f cdv)) → sp vs H Q E → In (cxOf CX0 P w K mg base N qual (defScope st) f cdv A outer s H E).nox N G (defScope st) →
      wL (cxOf CX0 P w K mg base N qual (defScope st) f cdv A outer s H E).nox (defBody st) { nx := fun _ H' => Q .non H', rt := Q } (start N vs) H) :
    ∃ (f : Addr) (fd : FuncData), FnOk P w K mg base CX0 (k + 1) f fd ps sp ∧ Binds K fd ps [] ∧ PySem.W.findIn K (.ref C) x = some (some (.ref f)) ∧ PySem.W.isFn K (.ref f) = true ∧ PySem.W.keepIn K (.ref f) = true := by
  obtain ⟨f, fd, F, hf, hi⟩ := T.ex
  exact ⟨f, fd, F.ok S len (fun cdv A outer s H vs Q E hr h => ⟨_, pl, hbody f cdv A outer s H vs Q E hr h ⟨O, ⟨[], (List.append_nil _).symm⟩, S.nd, rfl, rfl, PassesOwn.never⟩⟩), F.binds hb, hf, hi, F.kp⟩
end
/-- a bool test that is decided by a fact -/
theorem ifT {c A B : Prop} [Decidable c] (hc : c) (h : A) : if decide c = true then A else B := by
  rw [decide_eq_true hc]
  exact iteT h
theorem ifF {c A B : Prop} [Decidable c] (hc : ¬ c) (h : B) : if decide c = true then A else B := by
  rw [decide_eq_false hc]
  exact iteF h
theorem if2 {c A B : Prop} [Decidable c] (h1 : c → A) (h2 : ¬ c → B) : if decide c = true then A else B := by
  by_cases h : c
  · exact ifT h (h1 h)
  · exact ifF h (h2 h)
theorem ite_t {c : Bool} {A B : Prop} (hc : c = true) (h : A) : if c = true then A else B := by
  rw [hc]
  exact iteT h
theorem ite_f {c : Bool} {A B : Prop} (hc : c = false) (h : B) : if c = true then A else B := by
  rw [hc]
  exact iteF h
section
variable {P : Program} {w : World} {K : PySem.W.Frag} {mg : Str → Option Value} {base : Heap}
theorem run_ok {x qual : Str} {st : Stmt} {N G ps : List Str} {k : Nat} {sp : Sp} {f : Addr} {fd : FuncData} (F : Fun K x qual st f fd) (S : FnScope N ps (defScope st)) (O : ScOk N G (defScope st)) (len : ∀ vs H Q E, sp vs H Q E → vs.length = ps.length)
    (hbody : ∀ (f : Addr) (cdv : Value) (A : Around) (outer : List Env) (s : Shared) (H : Hp) (vs : List V) (Q : VK) (E : XK), Room k (A.deeper (envOfC qual (defScope st) s.heap.objs.size f cdv)) → sp vs H Q E → In (cxOf CX0 P w K mg base N qual (defScope st) f cdv A outer s H E).nox N G (defScope st) →
      wL (cxOf CX0 P w K mg base N qual (defScope st) f cdv A outer s H E).nox (defBody st) { nx := fun _ H' => Q .non H', rt := Q } (start N vs) H) : FnOk P w K mg base CX0 (k + 1) f fd ps sp :=
  F.ok S len (fun cdv A outer s H vs Q E hr h => ⟨_, pl, hbody f cdv A outer s H vs Q E hr h ⟨O, ⟨[], (List.append_nil _).symm⟩, S.nd, rfl, rfl, PassesOwn.never⟩⟩)
end
end Wk

/-! My own layer, errors: an own class of errors with fields, raised, caught, asked. -/
namespace Wk
open PySem PySem.Spec PyProof.Rows L2
section
variable {X : Cx} {N G : List Str} {sc : Scope} {e o : Expr} {es : List Expr} {σ : L2.St} {H : Hp} {Q : VK} {pos p0 np : Pos}
theorem o_isN {x : V} (q : Q (.bl (decide (x = .non))) H) : wK X .Is x .non H Q := k_of op_isN ⟨rfl, q⟩
theorem o_nisB {a b : Bool} (q : Q (.bl (!decide (a = b))) H) : wK X .IsNot (.bl a) (.bl b) H Q := k_of op_isnot_bl ⟨a, b, rfl, rfl, q⟩
/-- a def of the module that may raise -/
structure FnX (P : Program) (w : World) (K : PySem.W.Frag) (mg : Str → Option Value) (base : Heap) (k : Nat) (x : Str) (sp : Sp) : Prop where
  ex : ∃ (f : Addr) (fd : FuncData) (ps : List Str), FnOk P w K mg base (L2.CX P w) k f fd ps sp ∧ mg x = some (.ref f) ∧ PySem.W.keepIn K (.ref f) = true ∧ Binds K fd ps []
theorem e_callX {g k n : Nat} {x : Str} {sp : Sp} {W : WX} (F : FnX X.prog X.w X.K X.mg X.base k x sp) (tk : Takes X W) (hr : Room n X.A) (hk : k ≤ n) (q : wA X (e :: es) σ H fun vs H1 => sp vs H1 Q (fun cls d H' => W cls d σ H'))
    (I : In X N G sc := by assumption) (hG : At G g x := by repeat (first | with_reducible apply At.z | with_reducible apply At.s)) (he : starEach (e :: es) X.env = (false, eval e X.env) :: starEach es X.env := by rfl) (hpl : (backTo pos (starEach es X.env)).any (·.1) = false := by rfl) :
    wE X (.Call (.Name x p0) (e :: es) [] pos) σ H Q := by
  obtain ⟨f, fd, ps, F0, hm, hkp, hb⟩ := F.ex
  refine e_of (pe_callSD (E := fun σ cls d H' => W cls d σ H') F0 (hr.mono hk) (I.g hG) hm hkp hb .nil (fun σ => passAt tk σ) pa (I.gd hG) he hpl) ?_
  show wA X (e :: es) σ H fun vs H1 => sp (vs ++ []) H1 Q (fun cls d H' => W cls d σ H')
  simp only [List.append_nil]
  exact q
/-- an own class of errors whose __init__ stores its one argument in the field f -/
def sp1 (C : Addr) (f : Str) : Sp := fun vs H Q _ => ∃ (a : Addr) (v : V), vs = [.ref a, v] ∧ H a = some (exo a C none) ∧ ∀ dx, H dx = none → dx ≠ a → Q .non (upd (upd H dx (exd dx [(f, v)])) a (exo a C (some dx)))
structure Er (P : Program) (w : World) (K : PySem.W.Frag) (mg : Str → Option Value) (base : Heap) (x : Str) (C : Addr) (f : Str) : Prop where
  o : OexC K C
  mgC : mg x = some (.ref C)
  ex : ∃ (fI : Addr) (fd : FuncData) (ps : List Str), FnOk P w K mg base CX0 1 fI fd ps (sp1 C f) ∧ PySem.W.findIn K (.ref C) "__init__" = some (some (.ref fI)) ∧ PySem.W.typeIn K (.ref fI) = some (.type "function") ∧ Binds K fd ps []
/-- self.f = e of an error that is being made -/
theorem s_ost {nx : L2.St → Hp → Prop} {rt : VK} {bk ct : L2.St → Hp → Prop} {f : Str} {value : Expr} {pos' : Pos} (q : wE X value σ H fun y H1 => wE X o σ H1 fun x H2 => ∃ a C : Addr, x = .ref a ∧ OexC X.K C ∧ PySem.W.findIn X.K (.ref C) f = some none ∧ H2 a = some (exo a C none) ∧ ∀ dx, H2 dx = none → dx ≠ a → nx σ (upd (upd H2 dx (exd dx [(f, y)])) a (exo a C (some dx))))
    (hs : swapsWith value (some (.Attribute o f pos')) pos.line X.env = pure false := by rfl) : wS X (.Assign [.Attribute o f pos'] value pos) ⟨nx, rt, bk, ct⟩ σ H :=
  s_of (ps_ost pe pe hs) (e_mono q fun y H1 z => e_mono z fun x H2 ⟨a, C, h1, h2, h3, h4, h5⟩ => ⟨a, C, h1, h2, h3, .inl ⟨h4, h5⟩⟩)
/-- raise C(e) -/
theorem s_raise1 {nx : L2.St → Hp → Prop} {rt : VK} {bk ct : L2.St → Hp → Prop} {g n : Nat} {x f : Str} {C : Addr} {W : WX} {pos' : Pos} (R : Er X.prog X.w X.K X.mg X.base x C f) (tk : Takes X W) (hr : Room n X.A) (hn : 2 ≤ n)
    (q : wE X e σ H fun v H1 => ∀ d H', Same H1 H' → H1 d = none → H' d = some (.xd [(f, v)]) → W (.ref C) (some d) σ H')
    (I : In X N G sc := by assumption) (hG : At G g x := by repeat (first | with_reducible apply At.z | with_reducible apply At.s)) (hc : X.calm = true := by rfl)
    (he : starEach (e :: []) X.env = (false, eval e X.env) :: starEach [] X.env := by rfl) (hpl : (backTo pos (starEach [] X.env)).any (·.1) = false := by rfl) :
    wS X (.Raise (some (.Call (.Name x p0) [e] [] pos)) none pos') ⟨nx, rt, bk, ct⟩ σ H := by
  obtain ⟨fI, fd, ps, F0, hi, ht, hb⟩ := R.ex
  refine s_of (ps_raise hc tk (pmk_oex R.o hi ht F0 (hr.mono hn) hb .nil pass0 (I.g hG) R.mgC pa (I.gd hG) he hpl)) ?_
  refine a_cons (e_mono q fun v H1 z => a_nil ⟨by show 1 ≤ 1000; decide, fun a na => ?_⟩) he
  refine ⟨a, v, rfl, upd_same, fun dx nd ne => ⟨rfl, dx, [(f, v)], upd_same, ?_, ?_, ?_⟩⟩
  · rw [upd_ne ne, upd_same]
  · rw [upd_ne ne] at nd
    exact nd
  · refine z dx _ (fun b u hb => ?_) (by rw [upd_ne ne] at nd; exact nd) upd_same
    have h1 : b ≠ a := ne_of_none hb na
    have h2 : b ≠ dx := ne_of_none hb (by rw [upd_ne ne] at nd; exact nd)
    rw [upd_ne h2, del_ne h1, upd_ne h1, upd_ne h2, upd_ne h1]
    exact hb
/-- the suite of an except clause -/
def tsS (X : Cx) (N G : List Str) (sc : Scope) (sts : List Stmt) : Addr → Value → Option Addr → TS := fun a cls d D σ H => ∀ (oe : Obj) (pn : List (Addr × Obj)), Zc cls d oe → (∃ vs, oe.data = .fields vs) → In (X.suite a ((a, oe) :: pn)) N G sc → wL (X.suite a ((a, oe) :: pn)) sts D σ H
theorem In.tr (I : In X N G sc) {pn : List (Addr × Obj)} {xe : Value → Shared → Prop} (h : PassesOwn (model X.prog X.w) X.A X.env xe) : In (X.tr pn xe) N G sc := ⟨I.ok, I.n, I.nd, I.sc, I.fn, h⟩
theorem In.suite (I : In X N G sc) {a : Addr} {pn : List (Addr × Obj)} : In (X.suite a pn) N G sc := ⟨I.ok, I.n, I.nd, I.sc, I.fn, PassesOwn.never⟩
/-- try: body, except x as n: suite -/
theorem s_tryAs {nx : L2.St → Hp → Prop} {rt : VK} {bk ct : L2.St → Hp → Prop} {i g : Nat} {x n : Str} {c : Value} {body suite : List Stmt} {b0 : Stmt} {pos' : Pos} {Wout : WX} (hm : X.mg x = some c) (tk : Takes X Wout)
    (q : ∀ (pn : List (Addr × Obj)) (xe : Value → Shared → Prop), Takes (X.tr pn xe) (wAs X.K c i (tsS X N G sc (b0 :: suite)) Wout ⟨nx, rt, bk, ct⟩) → In (X.tr pn xe) N G sc → wL (X.tr pn xe) body ⟨nx, rt, bk, ct⟩ σ H)
    (I : In X N G sc := by assumption) (hA : At N i n := by repeat (first | with_reducible apply At.z | with_reducible apply At.s)) (hG : At G g x := by repeat (first | with_reducible apply At.z | with_reducible apply At.s))
    (hln : X.env.kindOf n = some .local := by rfl) (hs : X.stack = X.env :: X.outer := by rfl) (hf : X.env.frame = some X.env.locals := by rfl) :
    wS X (.Try body [.ExceptHandler (some (.Name x np)) (some n) (b0 :: suite) pos'] [] [] pos) ⟨nx, rt, bk, ct⟩ σ H :=
  s_of (ps_try_as (tb := fun W D σ H => ∀ (pn : List (Addr × Obj)) (xe : Value → Shared → Prop), Takes (X.tr pn xe) W → In (X.tr pn xe) N G sc → wL (X.tr pn xe) body D σ H) hs hf I.nd (I.hi hA) hln ⟨I.g hG, I.gd hG, .inl hm⟩ tk
    (fun W pn xe tk' po => ⟨fun pins s σ H D Iv h => pl.run pins s σ H D Iv (h pn xe tk' (I.tr po))⟩)
    (fun a oe cls d pn hz hd => ⟨fun pins s σ H D Iv h => pl.run pins s σ H D Iv (h oe pn hz hd I.suite)⟩)) q
/-- what the class D must say, so that isinstance asks its errors rightly -/
structure EcC (K : PySem.W.Frag) (D : Addr) : Prop where
  cl : (PySem.W.clsIn K D).isSome = true
  hg : PySem.W.findIn K (.ref D) "__getattribute__" = some (some (.builtin "BaseException.__getattribute__"))
  hk : PySem.W.findIn K (.ref D) "__getattr__" = some none
  hs : PySem.W.subIn K (.ref D) (.type "BaseException") = some true
  ha : PySem.W.findIn K (.ref D) "__class__" = some (some (.builtin "object.__class__"))
  hn : PySem.W.specialIn K (.builtin "object.__class__") "__get__" = some (some (.builtin "getset_descriptor.__get__"))
  ht : PySem.W.takesIn K (.builtin "object.__class__") = some true
  hm : PySem.W.mroIn K D (.type "object") = some true
/-- the caught error at a stands as an instance -/
theorem inst_of {pins : List (Addr × Obj)} {s : Shared} {a D : Addr} {d : Option Addr} {oe : Obj} {pn : List (Addr × Obj)} {fs : List (Str × V)} (I : Inv (X.suite a ((a, oe) :: pn)) pins σ H s) (hz : Zc (.ref D) d oe) (hf : ∃ vs, oe.data = .fields vs)
    (hd : ∀ dd, d = some dd → H dd = some (.xd fs)) : ∃ od, PySem.W.InstAt s.heap a oe D od := by
  obtain ⟨hget, _⟩ := I.pin (a, oe) (List.mem_append.mpr (.inl List.mem_cons_self))
  obtain ⟨vs, hv⟩ := hf
  have nc : PySem.W.notCls oe := by unfold PySem.W.notCls; rw [hv] <;> trivial
  cases d with
  | none => exact ⟨none, hget, hz.1, nc, by rw [hz.2]; trivial⟩
  | some dd =>
    obtain ⟨mA, hns, _⟩ := (show ObjOk X.prog X.w H s.heap dd (.xd fs) from I.hok dd _ (hd dd rfl))
    obtain ⟨od, ho, _⟩ := lookIn_ns hns
    exact ⟨some od, hget, hz.1, nc, by rw [hz.2]; exact ho⟩
theorem c_isE {a D : Addr} {d : Option Addr} {oe : Obj} {pn : List (Addr × Obj)} {fs : List (Str × V)} {c : V} {cv : Value} {b : Bool} (C : EcC X.K D) (hz : Zc (.ref D) d oe) (hf : ∃ vs, oe.data = .fields vs) (hd : ∀ dd, d = some dd → H dd = some (.xd fs))
    (k : ClsV c cv) (e : PySem.W.kitOne X.K (.ref D) cv = some b) (q : Q (.bl b) H) : wC (X.suite a ((a, oe) :: pn)) (.builtin "isinstance") [.ref a, c] H Q := by
  unfold wC
  intro pins s σ us I r
  obtain ⟨u1, u2, rfl, r1, r2⟩ := vals2 r
  cases (show u1 = Value.ref a from r1)
  have ec := k.eq r2
  subst ec
  obtain ⟨od, J⟩ := inst_of I hz hf hd
  exact PySem.W.kia_one (PySem.W.kitx_exc (od := od) C.cl C.hg C.hk C.hs C.ha C.hn C.ht C.hm) I.kIn J e (fun z => nomatch z) fun tk => ⟨.bl b, H, I.tok tk, rfl, q⟩
theorem c_isET {a D tp : Addr} {d : Option Addr} {oe : Obj} {pn : List (Addr × Obj)} {fs : List (Str × V)} {cs : List V} {us' : List Value} {b : Bool} (C : EcC X.K D) (hz : Zc (.ref D) d oe) (hf : ∃ vs, oe.data = .fields vs) (hd : ∀ dd, d = some dd → H dd = some (.xd fs))
    (hT : H tp = some (.tup cs)) (k : Paired ClsV cs us') (e : PySem.W.kitAny X.K (.ref D) us' = some b) (q : Q (.bl b) H) : wC (X.suite a ((a, oe) :: pn)) (.builtin "isinstance") [.ref a, .ref tp] H Q := by
  unfold wC
  intro pins s σ us I r
  obtain ⟨u1, u2, rfl, r1, r2⟩ := vals2 r
  cases (show u1 = Value.ref a from r1)
  cases (show u2 = Value.ref tp from r2)
  obtain ⟨od, J⟩ := inst_of I hz hf hd
  obtain ⟨_, its, rv, o, h1, h2, n, h3⟩ := (show ObjOk X.prog X.w H s.heap tp (.tup cs) from I.hok tp _ hT)
  have e3 := ClsV.all k rv
  subst e3
  obtain ⟨oc, odd, dt, sl⟩ := o
  simp only at h2 h3
  subst h2 h3
  exact PySem.W.kia_tup (PySem.W.kitx_exc (od := od) C.cl C.hg C.hk C.hs C.ha C.hn C.ht C.hm) I.kIn J h1 e (fun z => nomatch z) fun tk => ⟨.bl b, H, I.tok tk, rfl, q⟩
/-- e.f of the caught error -/
theorem e_xf {a C : Addr} {oe : Obj} {d : Option Addr} {pn : List (Addr × Obj)} {f : Str} (T : XfC X.K C) (hno : PySem.W.findIn X.K (.ref C) f = some none) (hz : Zc (.ref C) d oe) (hf : ∃ vs, oe.data = .fields vs)
    (q : wE (X.suite a ((a, oe) :: pn)) e σ H fun x H1 => x = .ref a ∧ ∃ (dd : Addr) (fs : List (Str × V)) (v : V), d = some dd ∧ H1 dd = some (.xd fs) ∧ fs.lookup f = some v ∧ Q v H1) (hb : attributeBase e f X.env (eval e X.env) = eval e X.env := by rfl) :
    wE (X.suite a ((a, oe) :: pn)) (.Attribute e f pos) σ H Q := e_of (pe_xf T hno hz hf pe hb) (e_mono q fun x H1 z => ⟨z.1, rfl, z.2⟩)
end
section
variable {P : Program} {w : World} {K : PySem.W.Frag} {mg : Str → Option Value} {base : Heap}
theorem fn_okX {x : Str} {st : Stmt} {N G ps : List Str} {k : Nat} {sp : Sp} (T : Top K mg x st) (S : FnScope N ps (defScope st)) (O : ScOk N G (defScope st)) (len : ∀ vs H Q E, sp vs H Q E → vs.length = ps.length)
    (hb : ∀ (kV doc pm : Value) (an : Option Addr) (cdv ct : Value) (us : List Value), us.length = ps.length → bindArgs (PySem.W.fnOf x x (defArgs st) (defBody st) (defScope st) .none kV doc pm an cdv ct) ⟨us, []⟩ = pure (ps.zip us))
    (hbody : ∀ (f : Addr) (cdv : Value) (A : Around) (outer : List Env) (s : Shared) (H : Hp) (vs : List V) (Q : VK) (E : XK), Room k (A.deeper (envOfC x (defScope st) s.heap.objs.size f cdv)) → sp vs H Q E → In (cxOf (L2.CX P w) P w K mg base N x (defScope st) f cdv A outer s H E) N G (defScope st) →
      Takes (cxOf (L2.CX P w) P w K mg base N x (defScope st) f cdv A outer s H E) (fun cls d _ H => E cls d H) →
      wL (cxOf (L2.CX P w) P w K mg base N x (defScope st) f cdv A outer s H E) (defBody st) { nx := fun _ H' => Q .non H', rt := Q } (start N vs) H) : FnX P w K mg base (k + 1) x sp := by
  obtain ⟨f, fd, F, hm⟩ := T.ex
  exact ⟨f, fd, ps, F.okX S len (fun cdv A outer s H vs Q E hr h => ⟨_, pl, hbody f cdv A outer s H vs Q E hr h ⟨O, ⟨[], (List.append_nil _).symm⟩, S.nd, rfl, rfl, passes_of rfl⟩ (takes_of rfl rfl rfl rfl)⟩), hm, F.kp, F.binds hb⟩
end
end Wk

/-! My own layer, errors whose context is None: raised where nothing is handled, so that defs may be called in the suite that catches them. -/
namespace Wk
open PySem PySem.Spec PyProof.Rows L2
section
variable {X : Cx} {N G : List Str} {sc : Scope} {e o : Expr} {es : List Expr} {σ : L2.St} {H : Hp} {Q : VK} {pos p0 np : Pos}
/-- C(e) of a class whose __init__ stores one field: the made error's fields are known -/
theorem pmkN {n : Nat} {x f : Str} {C : Addr} (R : Er X.prog X.w X.K X.mg X.base x C f) (hr : Room n X.A) (hn : 2 ≤ n) (hg : Gl X x) (hdb : (x == ("__debug__" : Str)) = false)
    (he : starEach (e :: []) X.env = (false, eval e X.env) :: starEach [] X.env) (hpl : (backTo pos (starEach [] X.env)).any (·.1) = false) :
    L2N.PMk X (.Call (.Name x p0) [e] [] pos) (fun σ H Q => wE X e σ H fun v H1 => ∀ d H', Same H1 H' → H1 d = none → H' d = some (.xd [(f, v)]) → Q (.ref C) (some d) H') := by
  intro pins s σ H Q I h
  obtain ⟨fI, fd, ps, F0, hi, ht, hb⟩ := R.ex
  obtain ⟨_, _, _, _, bm, _, _, _, _, _, _, _, _, _, _, hC, hbm⟩ := R.o.cls
  refine wpAny_Call_Name_kw (ld_glob I hg R.mgC ?_ hdb)
  refine PySem.W.callWith_K (h₀ := X.base) I.ok.mod.kin R.o.kC (thn ((pa_cons pe pa_nil he).run pos pins s σ H (fun vs H1 => ∃ v, vs = [v] ∧ ∀ d H', Same H1 H' → H1 d = none → H' d = some (.xd [(f, v)]) → Q (.ref C) (some d) H') I (e_mono h fun v H1 z => ⟨v, rfl, z⟩)) fun us s1 ⟨vs, H1, I1, r1, v, ev, q1⟩ => ⟨I1.kIn, ?_⟩) he hpl
  subst ev
  show wpAny _ _ (call (.ref C) us) _ _ _
  obtain ⟨hp, g, dr, tk, os⟩ := s1
  have hget0 : ((hp.push (PySem.W.kdv_tup us)).push (PySem.HandSPX.excO C hp.objs.size)).get? (hp.objs.size + 1) = some (PySem.HandSPX.excO C hp.objs.size) := by heap_get
  let a := hp.objs.size + 1
  have na : H1 a = none := I1.hok.fresh (Nat.le_succ _)
  let hp2 := (hp.push (PySem.W.kdv_tup us)).push (PySem.HandSPX.excO C hp.objs.size)
  have kk : ∀ b o, hp.get? b = some o → hp2.get? b = some o := fun b o z => Heap.get?_push_of_some _ (Heap.get?_push_of_some _ z)
  have hget : hp2.get? a = some (PySem.HandSPX.excO C hp.objs.size) := hget0
  have I2 : Inv X pins σ (upd H1 a (exo a C none)) ⟨hp2, g, dr, tk, os⟩ := I1.laid (t' := tk) (h' := hp2) kk (Nat.le_succ _) (exo_ok hget)
  have r2 : Vals (V.ref a :: [v]) (Value.ref a :: us) := .cons rfl r1
  have lu : us.length = 1 := r1.length.symm
  -- what __init__ is asked for
  have hq : sp1 C f [.ref a, v] (upd H1 a (exo a C none)) (fun w H2 => w = .non ∧ ∃ d, H2 a = some (exo a C (some d)) ∧ H2 d = some (exd d [(f, v)]) ∧ H1 d = none ∧ Q (.ref C) (some d) (upd (del H2 a) d (.xd [(f, v)]))) (fun _ _ _ => False) := by
    refine ⟨a, v, rfl, upd_same, fun dx nd ne => ⟨rfl, dx, upd_same, by rw [upd_ne ne, upd_same], by rw [upd_ne ne] at nd; exact nd, ?_⟩⟩
    rw [upd_ne ne] at nd
    refine q1 dx _ (fun b u hb => ?_) nd upd_same
    have h1 : b ≠ a := ne_of_none hb na
    have h2 : b ≠ dx := ne_of_none hb nd
    rw [upd_ne h2, del_ne h1, upd_ne h1, upd_ne h2, upd_ne h1]
    exact hb
  have lp : (Value.ref a :: us).length = ps.length := by
    have z1 := r2.length
    rw [F0.len _ _ _ _ hq] at z1
    exact z1.symm
  have bind : BindsTo ⟨hp2, g, dr, tk, os⟩ fd ⟨Value.ref a :: us, []⟩ (ps.zip (Value.ref a :: us)) := by
    have z1 := hb ⟨hp2, g, dr, tk, os⟩ (Value.ref a :: us) I2.kIn (by rw [List.append_nil]; exact lp)
    rwa [List.append_nil] at z1
  have room : Room 1 (X.A.under (.builtin "type.__call__" ⟨.ref C :: us, []⟩)) := (hr.mono hn).make C us []
  have go := F0.run _ X.stack _ _ ⟨Value.ref a :: us, []⟩ (Value.ref a :: us) [V.ref a, v] _ (fun _ _ _ => False) room (I2.env0.make C us []) bind r2 hq
  refine wpAny_call (PySem.HandSPX.call_own F.excBase_ValueError (fun Y => PySem.HandSPX.refsVE_contains Y bm hbm) (I1.kIn _ _ hC) (PySem.W.looks_findIn I1.kIn hi) (fun self => PySem.W.bind_fn I1.kIn self ht) (by rw [lu, sizeLine_eq]; decide) (codeAny_mono go fun r s' back => ?_))
  cases r with
  | error er => exact False.elim back
  | ok fl =>
    cases fl with
    | ret u =>
      obtain ⟨w, H2, o2, b2, un2, ok2, rw2, ew, d, ea, ed, nd1, q2⟩ := back
      subst ew
      obtain ⟨h2, g2, d2, t2, os'⟩ := s'
      obtain ⟨t0, Gh, J, kG, ge, hoe, nH⟩ := mk_end0 (d2 := d2) (t2 := t2) I1 (Nat.le_succ _) kk un2 ok2 o2 b2 ea ed nd1
      refine ⟨rw2, a, _, #[.ref t0, .none, .none, .none, .bool false, .none], ⟨Gh, g2, d2, t2, os'⟩, _, .ref C, some d, rfl, J, kG, ge, hoe, ⟨rfl, rfl, ?_⟩, rfl, rfl, nH, rfl, b2, raises_own R.o.exC R.o.tyC, q2⟩
      intro vs z
      cases z
      rfl
    | next => exact False.elim back
    | brk => exact False.elim back
    | cont => exact False.elim back

theorem e_dict (q : ∀ p H2, Same H H2 → H p = none → H2 p = some (.dK []) → Q (.ref p) H2) : wE X (.Dict [] [] pos) σ H Q :=
  e_of pe_dnewK fun p np => q p _ (fun b u eo => by rw [upd_ne (ne_of_none eo np)]; exact eo) np upd_same
theorem e_neg {a : Expr} (q : wE X a σ H fun x H1 => ∃ i, x = .int i ∧ Q (.int (-i)) H1) : wE X (.UnaryOp .USub a pos) σ H Q := e_of (pe_un un_neg pe) q
theorem o_cat {l b : Addr} {xs zs : List V} (h1 : H l = some (.lst xs)) (h2 : H b = some (.lst zs)) (hz : xs.length + zs.length ≤ sizeLine) (q : ∀ p H2, Same H H2 → H2 p = some (.lst (xs ++ zs)) → Q (.ref p) H2) : wB X .Add (.ref l) (.ref b) H Q :=
  b_of op_cat ⟨l, b, xs, zs, rfl, rfl, h1, h2, hz, fun p np => q p _ (fun c u eo => by rw [upd_ne (ne_of_none eo np)]; exact eo) upd_same⟩
theorem c_str {i : Int} (hl : i.natAbs.log2 < 1920) (q : Q (.str (toString i)) H) : wC X (.type "str") [.int i] H Q := c_of call_str_int ⟨i, rfl, hl, q⟩
theorem o_isB {a b : Bool} (q : Q (.bl (decide (a = b))) H) : wK X .Is (.bl a) (.bl b) H Q := k_of op_is_bl ⟨a, b, rfl, rfl, q⟩
/-- raise C(e), where nothing is handled -/
theorem s_raiseN {nx : L2.St → Hp → Prop} {rt : VK} {bk ct : L2.St → Hp → Prop} {g n : Nat} {x f : Str} {C : Addr} {W : WX} {pos' : Pos} (R : Er X.prog X.w X.K X.mg X.base x C f) (tk : L2N.Takes X W) (hr : Room n X.A) (hn : 2 ≤ n)
    (q : wE X e σ H fun v H1 => ∀ d H', Same H1 H' → H1 d = none → H' d = some (.xd [(f, v)]) → W (.ref C) (some d) σ H')
    (I : In X N G sc := by assumption) (hG : At G g x := by repeat (first | with_reducible apply At.z | with_reducible apply At.s)) (hc : X.calm = true := by rfl)
    (he : starEach (e :: []) X.env = (false, eval e X.env) :: starEach [] X.env := by rfl) (hpl : (backTo pos (starEach [] X.env)).any (·.1) = false := by rfl) :
    wS X (.Raise (some (.Call (.Name x p0) [e] [] pos)) none pos') ⟨nx, rt, bk, ct⟩ σ H :=
  s_of (L2N.ps_raise hc tk (pmkN R hr hn (I.g hG) (I.gd hG) he hpl)) q
/-- a def of the module that may raise so -/
structure FnN (P : Program) (w : World) (K : PySem.W.Frag) (mg : Str → Option Value) (base : Heap) (k : Nat) (x : Str) (sp : Sp) : Prop where
  ex : ∃ (f : Addr) (fd : FuncData) (ps : List Str), FnOk P w K mg base (L2N.CX P w) k f fd ps sp ∧ mg x = some (.ref f) ∧ PySem.W.keepIn K (.ref f) = true ∧ Binds K fd ps []
theorem e_callN {g k n : Nat} {x : Str} {sp : Sp} {W : WX} (F : FnN X.prog X.w X.K X.mg X.base k x sp) (tk : L2N.Takes X W) (hr : Room n X.A) (hk : k ≤ n) (q : wA X (e :: es) σ H fun vs H1 => sp vs H1 Q (fun cls d H' => W cls d σ H'))
    (I : In X N G sc := by assumption) (hG : At G g x := by repeat (first | with_reducible apply At.z | with_reducible apply At.s)) (he : starEach (e :: es) X.env = (false, eval e X.env) :: starEach es X.env := by rfl) (hpl : (backTo pos (starEach es X.env)).any (·.1) = false := by rfl) :
    wE X (.Call (.Name x p0) (e :: es) [] pos) σ H Q := by
  obtain ⟨f, fd, ps, F0, hm, hkp, hb⟩ := F.ex
  refine e_of (pe_callSD (E := fun σ cls d H' => W cls d σ H') F0 (hr.mono hk) (I.g hG) hm hkp hb .nil (fun σ => L2N.passAt tk σ) pa (I.gd hG) he hpl) ?_
  show wA X (e :: es) σ H fun vs H1 => sp (vs ++ []) H1 Q (fun cls d H' => W cls d σ H')
  simp only [List.append_nil]
  exact q
/-- the suite of an except clause that catches such an error -/
def tsN (X : Cx) (N G : List Str) (sc : Scope) (sts : List Stmt) : Addr → Value → Option Addr → TS := fun a cls d D σ H => ∀ (oe : Obj) (pn : List (Addr × Obj)), Zc cls d oe → (∃ vs, oe.data = .fields vs) → In (X.suite a ((a, oe) :: pn)) N G sc → L2H.HotC (X.suite a ((a, oe) :: pn)) → wL (X.suite a ((a, oe) :: pn)) sts D σ H
theorem s_tryN {nx : L2.St → Hp → Prop} {rt : VK} {bk ct : L2.St → Hp → Prop} {i g : Nat} {x n : Str} {c : Value} {body suite : List Stmt} {b0 : Stmt} {pos' : Pos} {Wout : WX} (hm : X.mg x = some c) (tk : L2N.Takes X Wout)
    (q : ∀ (pn : List (Addr × Obj)) (xe : Value → Shared → Prop), L2N.Takes (X.tr pn xe) (wAs X.K c i (tsN X N G sc (b0 :: suite)) Wout ⟨nx, rt, bk, ct⟩) → In (X.tr pn xe) N G sc → wL (X.tr pn xe) body ⟨nx, rt, bk, ct⟩ σ H)
    (I : In X N G sc := by assumption) (hA : At N i n := by repeat (first | with_reducible apply At.z | with_reducible apply At.s)) (hG : At G g x := by repeat (first | with_reducible apply At.z | with_reducible apply At.s))
    (hln : X.env.kindOf n = some .local := by rfl) (hs : X.stack = X.env :: X.outer := by rfl) (hf : X.env.frame = some X.env.locals := by rfl) :
    wS X (.Try body [.ExceptHandler (some (.Name x np)) (some n) (b0 :: suite) pos'] [] [] pos) ⟨nx, rt, bk, ct⟩ σ H :=
  s_of (L2N.ps_try_as (tb := fun W D σ H => ∀ (pn : List (Addr × Obj)) (xe : Value → Shared → Prop), L2N.Takes (X.tr pn xe) W → In (X.tr pn xe) N G sc → wL (X.tr pn xe) body D σ H) hs hf I.nd (I.hi hA) hln ⟨I.g hG, I.gd hG, .inl hm⟩ tk
    (fun W pn xe tk' po => ⟨fun pins s σ H D Iv h => pl.run pins s σ H D Iv (h pn xe tk' (I.tr po))⟩)
    (fun a oe cls d pn hz hd => ⟨fun pins s σ H D Iv h => pl.run pins s σ H D Iv (h oe pn hz.zc hd I.suite (by
      obtain ⟨vs, hv⟩ := hd
      exact ⟨(a, oe), ⟨rfl, vs, hv, hz.2.2 vs hv⟩, List.mem_cons_self⟩))⟩)) q
theorem takesN0 : L2N.Takes X (fun _ _ _ _ => False) := fun _ _ x => by
  obtain ⟨_, _, _, _, _, _, _, _, _, _, _, _, _, _, _, _, z⟩ := x
  exact z.elim
/-- a def that is called where an error is handled -/
structure FnHt (P : Program) (w : World) (K : PySem.W.Frag) (mg : Str → Option Value) (base : Heap) (k : Nat) (x : Str) (sp : Sp) : Prop where
  ex : ∃ (f : Addr) (fd : FuncData) (ps : List Str), L2H.FnH P w K mg base CX0 k f fd ps sp ∧ mg x = some (.ref f) ∧ PySem.W.keepIn K (.ref f) = true ∧ Binds K fd ps []
theorem e_callH {g k n : Nat} {x : Str} {sp : Sp} (F : FnHt X.prog X.w X.K X.mg X.base k x sp) (hr : L2H.RoomH n X.A) (hk : k ≤ n) (hh : L2H.HotC X) (q : wA X (e :: es) σ H fun vs H1 => sp vs H1 Q E0)
    (I : In X N G sc := by assumption) (hG : At G g x := by repeat (first | with_reducible apply At.z | with_reducible apply At.s)) (he : starEach (e :: es) X.env = (false, eval e X.env) :: starEach es X.env := by rfl) (hpl : (backTo pos (starEach es X.env)).any (·.1) = false := by rfl) :
    wE X (.Call (.Name x p0) (e :: es) [] pos) σ H Q := by
  obtain ⟨f, fd, ps, F0, hm, hkp, hb⟩ := F.ex
  exact e_of (L2H.pe_callH (E := fun _ => E0) F0 (hr.mono hk) hh (I.g hG) hm hkp hb (fun σ pins H s e s' I z => z.elim) pa (I.gd hG) he hpl) q
end
section
variable {P : Program} {w : World} {K : PySem.W.Frag} {mg : Str → Option Value} {base : Heap}
theorem fn_okN {x : Str} {st : Stmt} {N G ps : List Str} {k : Nat} {sp : Sp} (T : Top K mg x st) (S : FnScope N ps (defScope st)) (O : ScOk N G (defScope st)) (len : ∀ vs H Q E, sp vs H Q E → vs.length = ps.length)
    (hb : ∀ (kV doc pm : Value) (an : Option Addr) (cdv ct : Value) (us : List Value), us.length = ps.length → bindArgs (PySem.W.fnOf x x (defArgs st) (defBody st) (defScope st) .none kV doc pm an cdv ct) ⟨us, []⟩ = pure (ps.zip us))
    (hbody : ∀ (f : Addr) (cdv : Value) (A : Around) (outer : List Env) (s : Shared) (H : Hp) (vs : List V) (Q : VK) (E : XK), Room k (A.deeper (envOfC x (defScope st) s.heap.objs.size f cdv)) → sp vs H Q E → In (cxOf (L2N.CX P w) P w K mg base N x (defScope st) f cdv A outer s H E) N G (defScope st) →
      L2N.Takes (cxOf (L2N.CX P w) P w K mg base N x (defScope st) f cdv A outer s H E) (fun cls d _ H => E cls d H) →
      wL (cxOf (L2N.CX P w) P w K mg base N x (defScope st) f cdv A outer s H E) (defBody st) { nx := fun _ H' => Q .non H', rt := Q } (start N vs) H) : FnN P w K mg base (k + 1) x sp := by
  obtain ⟨f, fd, F, hm⟩ := T.ex
  obtain ⟨oc, od, kV, doc, pm, an, cdv, ct, osl, rfl, lk, hcd⟩ := id F.ex
  exact ⟨f, _, ps, fn_of lk hcd S len (fun A outer s H vs Q E hr h => ⟨_, pl, hbody f cdv A outer s H vs Q E hr h ⟨O, ⟨[], (List.append_nil _).symm⟩, S.nd, rfl, rfl, passes_of rfl⟩ (L2N.takes_of rfl rfl rfl rfl)⟩), hm, F.kp, F.binds hb⟩
theorem fn_okH {x : Str} {st : Stmt} {N G ps : List Str} {k : Nat} {sp : Sp} (T : Top K mg x st) (S : FnScope N ps (defScope st)) (O : ScOk N G (defScope st)) (len : ∀ vs H Q E, sp vs H Q E → vs.length = ps.length)
    (hb : ∀ (kV doc pm : Value) (an : Option Addr) (cdv ct : Value) (us : List Value), us.length = ps.length → bindArgs (PySem.W.fnOf x x (defArgs st) (defBody st) (defScope st) .none kV doc pm an cdv ct) ⟨us, []⟩ = pure (ps.zip us))
    (hbody : ∀ (f : Addr) (cdv : Value) (A : Around) (outer : List Env) (s : Shared) (H : Hp) (vs : List V) (Q : VK) (E : XK) (p : Addr × Obj), L2H.RoomH k (A.deeper (envOfC x (defScope st) s.heap.objs.size f cdv)) → sp vs H Q E → In (L2H.cxH CX0 P w K mg base N x (defScope st) f cdv A outer s H E p).nox N G (defScope st) →
      wL (L2H.cxH CX0 P w K mg base N x (defScope st) f cdv A outer s H E p).nox (defBody st) { nx := fun _ H' => Q .non H', rt := Q } (start N vs) H) : FnHt P w K mg base (k + 1) x sp := by
  obtain ⟨f, fd, F, hm⟩ := T.ex
  obtain ⟨oc, od, kV, doc, pm, an, cdv, ct, osl, rfl, lk, hcd⟩ := id F.ex
  exact ⟨f, _, ps, L2H.fn_ofH lk hcd S len (fun A outer s H vs Q E p hot hr h => ⟨_, PSs.nox pl, hbody f cdv A outer s H vs Q E p hr h ⟨O, ⟨[], (List.append_nil _).symm⟩, S.nd, rfl, rfl, PassesOwn.never⟩⟩), hm, F.kp, F.binds hb⟩
end
end Wk

/-! My own layer, texts: chains of comparisons, order and length of texts, a sign of a text, a loop over a text. -/
namespace Wk
open PySem PySem.Spec PyProof.Rows L2
section
variable {X : Cx} {N G : List Str} {sc : Scope} {a b c e : Expr} {es : List Expr} {σ : L2.St} {H : Hp} {Q : VK} {pos : Pos} {QT : Bool → Hp → Prop}
theorem e_chain {op op' : CmpOp} (q : wE X a σ H fun x H1 => wE X b σ H1 fun y H2 => wK X op x y H2 fun z H3 => ∃ k, z = .bl k ∧ (if k = true then wE X c σ H3 fun w H4 => wK X op' y w H4 Q else Q (.bl false) H3)) (hm : lastMarks [op, op'] [b, c] = false := by with_unfolding_all rfl) :
    wE X (.Compare a [op, op'] [b, c] pos) σ H Q := e_of (pe_chain opk opk pe pe pe hm) q
theorem t_chain {op op' : CmpOp} (q : wE X a σ H fun x H1 => wE X b σ H1 fun y H2 => wK X op x y H2 fun z H3 => ∃ k, z = .bl k ∧ (if k = true then wE X c σ H3 fun w H4 => wK X op' y w H4 fun z H5 => ∃ k, z = .bl k ∧ QT k H5 else ∃ k, V.bl false = .bl k ∧ QT k H3)) (hm : lastMarks [op, op'] [b, c] = false := by with_unfolding_all rfl) :
    wT X (.Compare a [op, op'] [b, c] pos) σ H QT := t_of (pt_chain opk opk pe pe pe hm) q
/-- one sign -/
abbrev sg (c : Nat) : Str := ⟨#[c]⟩
theorem lt1 (c d : Nat) : (([c] : List Nat) < [d]) ↔ c < d := by
  constructor
  · intro h
    cases h with
    | rel h => exact h
    | cons h => cases h
  · exact fun h => .rel h
theorem o_le1 {c d : Nat} (q : Q (.bl (decide (c ≤ d))) H) : wK X .LtE (.str (sg c)) (.str (sg d)) H Q := by
  refine k_of op_le_str ⟨sg c, sg d, rfl, rfl, ?_⟩
  have e1 : (!decide (([d] : List Nat) < [c])) = decide (c ≤ d) := by
    by_cases h : c ≤ d
    · have h2 : ¬ (([d] : List Nat) < [c]) := fun z => absurd ((lt1 d c).mp z) (by omega)
      rw [decide_eq_true h, decide_eq_false h2]
      rfl
    · have h2 : ([d] : List Nat) < [c] := (lt1 d c).mpr (by omega)
      rw [decide_eq_false h, decide_eq_true h2]
      rfl
  show Q (.bl (!decide (([d] : List Nat) < [c]))) H
  rw [e1]
  exact q
theorem c_lenS {z : Str} (h : z.length ≤ sizeLine) (q : Q (.int (z.length : Int)) H) : wC X (.builtin "len") [.str z] H Q := c_of call_len ⟨.str z, z.length, rfl, ⟨h, rfl⟩, q⟩
theorem ix_s {z : Str} {i : Int} {c : Nat} (h : z.length ≤ sizeLine) (e : atI z.cps.toList i = some c) (q : Q (.str (sg c)) H) : wIx X (.str z) (.int i) H Q := ix_of ix_str ⟨z, i, c, rfl, rfl, h, e, q⟩
theorem s_forS {nx : L2.St → Hp → Prop} {rt : VK} {bk ct : L2.St → Hp → Prop} {x : Str} {i : Nat} {body : List Stmt} {px : Pos}
    (q : wE X a σ H fun v H1 => ∃ z : Str, v = .str z ∧ ∃ Pv : Nat → L2.St → Hp → Prop, Pv 0 σ H1 ∧ (∀ k c σ H, z.cps[k]? = some c → Pv k σ H → wL X body ⟨Pv (k + 1), rt, nx, Pv (k + 1)⟩ (σ.set i (some (.str (sg c)))) H) ∧ ∀ σ H, Pv z.cps.size σ H → nx σ H)
    (I : In X N G sc := by assumption) (hc : X.calm = true := by rfl) (hA : At N i x := by repeat (first | with_reducible apply At.z | with_reducible apply At.s)) (hs2 : ∀ z, foldedSetIterable a X.env z = pure z := by intro _; rfl) :
    wS X (.For (.Name x px) a body [] pos) ⟨nx, rt, bk, ct⟩ σ H := by
  refine s_of (ps_for I.never hc (pi_str pe) (pg_name I.nd (I.hi hA) (I.loc hA) I.f) pl hs2) (e_mono q fun v H1 q1 => ?_)
  obtain ⟨z, rfl, Pv, h0, hb, hd⟩ := q1
  refine ⟨z, rfl, fun k m σ H => m = z.cps.size - k ∧ k ≤ z.cps.size ∧ Pv k σ H, ⟨z.cps.size, by simp, Nat.zero_le _, h0⟩, ?_⟩
  rintro k m σ H ⟨rfl, hk, p⟩
  by_cases hlt : k < z.cps.size
  · refine .inr ⟨hlt, Pv (k + 1), fun σ' H' p' => ⟨z.cps.size - (k + 1), by omega, rfl, hlt, p'⟩, fun y H' hy => ?_⟩
    obtain ⟨rfl, c, hc', rfl⟩ := hy
    exact hb k c σ _ hc' p
  · have e : k = z.cps.size := by omega
    subst e
    exact .inl ⟨Nat.le_refl _, hd σ H p⟩
end
end Wk

/-! My own layer, comprehensions with their own names, and ground terms: what only makes new objects, over facts that last. -/
namespace Wk
open PySem PySem.Spec PyProof.Rows L2
section
variable {P : Program} {w : World} {K : PySem.W.Frag} {mg : Str → Option Value} {base : Heap}
/-- a def with further slots C for the names of its comprehensions -/
theorem fn_okC {x : Str} {st : Stmt} {N C G ps : List Str} {k : Nat} {sp : Sp} (T : Top K mg x st) (S : FnScope (N ++ C) ps (defScope st)) (O : ScOk N G (defScope st)) (len : ∀ vs H Q E, sp vs H Q E → vs.length = ps.length)
    (hb : ∀ (kV doc pm : Value) (an : Option Addr) (cdv ct : Value) (us : List Value), us.length = ps.length → bindArgs (PySem.W.fnOf x x (defArgs st) (defBody st) (defScope st) .none kV doc pm an cdv ct) ⟨us, []⟩ = pure (ps.zip us))
    (hbody : ∀ (f : Addr) (cdv : Value) (A : Around) (outer : List Env) (s : Shared) (H : Hp) (vs : List V) (Q : VK) (E : XK), Room k (A.deeper (envOfC x (defScope st) s.heap.objs.size f cdv)) → sp vs H Q E → In (cxOf CX0 P w K mg base (N ++ C) x (defScope st) f cdv A outer s H E).nox N G (defScope st) →
      wL (cxOf CX0 P w K mg base (N ++ C) x (defScope st) f cdv A outer s H E).nox (defBody st) { nx := fun _ H' => Q .non H', rt := Q } (start (N ++ C) vs) H) : Fn P w K mg base (k + 1) x sp := by
  obtain ⟨f, fd, F, hm⟩ := T.ex
  exact ⟨f, fd, ps, F.ok S len (fun cdv A outer s H vs Q E hr h => ⟨_, pl, hbody f cdv A outer s H vs Q E hr h ⟨O, ⟨C, rfl⟩, S.nd, rfl, rfl, PassesOwn.never⟩⟩), hm, F.kp, F.binds hb⟩
end
/-! ### blocks -/
instance visDec {sc : Scope} {x : Str} : Decidable (Vis sc x) := inferInstanceAs (Decidable (_ ∨ _))
/-- the names of a comprehension's block: the seen ones with their slots, the global ones, its own at slot i -/
structure BkOk (N : List Str) (Vn : List (Nat × Str)) (G : List Str) (i : Nat) (x : Str) (sc scope : Scope) : Prop where
  lo : ∀ p ∈ Vn, N[p.1]? = some p.2 ∧ Vis (relS scope sc) p.2 ∧ (p.2 == ("__debug__" : Str)) = false ∧ (p.2 == ("__classdict__" : Str)) = false
  gl : ∀ x ∈ G, (relS scope sc).names.lookup x = some .globalImplicit ∧ (x == ("__debug__" : Str)) = false ∧ x ≠ "__name__"
  own : N[i]? = some x ∧ (relS scope sc).names.lookup x = some .local
  blk : blkC N sc scope [(x, i)] = true
structure InB (X : Cx) (Vn : List (Nat × Str)) (G : List Str) : Prop where
  nd : X.N.Nodup
  lo : ∀ p ∈ Vn, X.N[p.1]? = some p.2 ∧ Vis X.env.scope p.2 ∧ (p.2 == ("__debug__" : Str)) = false ∧ (p.2 == ("__classdict__" : Str)) = false
  gl : ∀ x ∈ G, Gl X x ∧ (x == ("__debug__" : Str)) = false ∧ x ≠ "__name__"
abbrev Bk (X : Cx) (s : Shared) (H : Hp) (scope : Scope) (C : Addr) (cl : List (Str × Addr)) (fp : List Addr) : Cx := X.blk s H scope (compEnvC scope cl C X.env) fp
section
variable {X : Cx} {e a b c elt : Expr} {es rest : List Expr} {σ : L2.St} {H : Hp} {Q : VK} {pos p0 : Pos} {N G G' : List Str} {Vn : List (Nat × Str)} {sc scope : Scope}
theorem rel_eq (h : X.env.scope = sc) (C : Addr) (cl : List (Str × Addr)) : (compEnvC scope cl C X.env).scope = relS scope sc := by
  subst h
  rfl
theorem BkOk.inB {i : Nat} {x : Str} (B : BkOk X.N Vn G' i x sc scope) (I : In X N G sc) (s : Shared) (H : Hp) (C : Addr) (cl : List (Str × Addr)) (fp : List Addr) : InB (Bk X s H scope C cl fp) Vn G' := by
  have e : (compEnvC scope cl C X.env).scope = relS scope sc := rel_eq I.sc C cl
  refine ⟨I.nd, fun p hp => ?_, fun y hy => ?_⟩
  · obtain ⟨h1, h2, h3, h4⟩ := B.lo p hp
    exact ⟨h1, by show Vis (compEnvC scope cl C X.env).scope p.2; rw [e]; exact h2, h3, h4⟩
  · obtain ⟨h1, h2, h3⟩ := B.gl y hy
    exact ⟨by show (compEnvC scope cl C X.env).scope.names.lookup y = _; rw [e]; exact h1, h2, h3⟩
theorem BkOk.pg {i : Nat} {x : Str} {px : Pos} (B : BkOk X.N Vn G' i x sc scope) (I : In X N G sc) (s : Shared) (H : Hp) (C : Addr) (cl : List (Str × Addr)) (fp : List Addr) : PG (Bk X s H scope C cl fp) (.Name x px) (gName i) := by
  have e : (compEnvC scope cl C X.env).scope = relS scope sc := rel_eq I.sc C cl
  have l : (Bk X s H scope C cl fp).env.scope.names.lookup x = some .local := by
    show (compEnvC scope cl C X.env).scope.names.lookup x = _
    rw [e]
    exact B.own.2
  exact pg_name I.nd B.own.1 (.inl l) (.inr l)
theorem BkOk.ok {i : Nat} {x : Str} (B : BkOk X.N Vn G' i x sc scope) (I : In X N G sc) : BlkOk X.N X.env.scope scope [(x, i)] := by
  rw [I.sc]
  exact blkOk_by B.blk
theorem InB.g (I : InB X Vn G) {i : Nat} {x : Str} (h : At G i x) : Gl X x := (I.gl x h.mem).1
theorem InB.gd (I : InB X Vn G) {i : Nat} {x : Str} (h : At G i x) : (x == ("__debug__" : Str)) = false := (I.gl x h.mem).2.1
theorem InB.gn (I : InB X Vn G) {i : Nat} {x : Str} (h : At G i x) : x ≠ "__name__" := (I.gl x h.mem).2.2
theorem b_var {j i : Nat} {x : Str} {v : V} (q : Q v H) (I : InB X Vn G := by assumption) (hA : At Vn j (i, x) := by repeat (first | with_reducible apply At.z | with_reducible apply At.s)) (hσ : σ[i]? = some (some v) := by exact rfl) : wE X (.Name x pos) σ H Q :=
  e_of (pe_var (I.lo _ hA.mem).1 (I.lo _ hA.mem).2.1 (I.lo _ hA.mem).2.2.1 (I.lo _ hA.mem).2.2.2) ⟨v, hσ, q⟩
theorem b_call {g : Nat} {k n : Nat} {x : Str} {sp : Sp} (F : Fn X.prog X.w X.K X.mg X.base k x sp) (hr : Room n X.A) (hk : k ≤ n) (q : wA X (e :: es) σ H fun vs H1 => sp vs H1 Q E0) (I : InB X Vn G := by assumption) (hG : At G g x := by repeat (first | with_reducible apply At.z | with_reducible apply At.s))
    (he : starEach (e :: es) X.env = (false, eval e X.env) :: starEach es X.env := by rfl) (hpl : (backTo pos (starEach es X.env)).any (·.1) = false := by rfl) : wE X (.Call (.Name x p0) (e :: es) [] pos) σ H Q := by
  obtain ⟨f, fd, ps, F0, hm, hkp, hb⟩ := F.ex
  refine e_of (pe_call F0 (hr.mono hk) (I.g hG) hm hkp hb .nil pass0 pa (I.gd hG) he hpl) ?_
  show wA X (e :: es) σ H fun vs H1 => sp (vs ++ []) H1 Q E0
  simp only [List.append_nil]
  exact q
theorem b_callB {g : Nat} {x : Str} {id : String} (hm : X.mg x = none) (hv : bootBuiltins x = some (.builtin id)) (q : wA X (e :: es) σ H fun vs H1 => wC X (.builtin id) vs H1 Q) (I : InB X Vn G := by assumption) (hG : At G g x := by repeat (first | with_reducible apply At.z | with_reducible apply At.s))
    (he : starEach (e :: es) X.env = (false, eval e X.env) :: starEach es X.env := by rfl) (hpl : (backTo pos (starEach es X.env)).any (·.1) = false := by rfl) : wE X (.Call (.Name x p0) (e :: es) [] pos) σ H Q := e_of (pe_callB cr (I.g hG) hm hv pa (I.gn hG) (I.gd hG) he hpl) q
theorem b_glob {g : Nat} {x : Str} {v : V} {u : Value} (hm : X.mg x = some u) (r : RelV v u) (q : Q v H) (I : InB X Vn G := by assumption) (hG : At G g x := by repeat (first | with_reducible apply At.z | with_reducible apply At.s)) : wE X (.Name x pos) σ H Q := e_of (pe_glob (I.g hG) hm r (I.gd hG)) q
theorem wipe1 (σ : L2.St) (i : Nat) : wipe σ [i] = σ.set i none := rfl
theorem wipe_set (σ : L2.St) (i : Nat) (v : L2.V) : wipe ((wipe σ [i]).set i (some v)) [i] = wipe σ [i] := by
  simp [wipe1, List.set_set]
/-- what the turns of a comprehension ask: over range(n) -/
def LcR (X : Cx) (Vn : List (Nat × Str)) (G' : List Str) (elt : Expr) (scope : Scope) (i n : Nat) (D : Addr) (σ : L2.St) (H1 : Hp) (Qd : Hp → Prop) : Prop := ∃ Pv : Nat → Hp → Prop, Pv 0 (upd H1 D (.lst [])) ∧
  (∀ k H2, k < n → Pv k H2 → ∀ s0 H0 C cl fp, InB (Bk X s0 H0 scope C cl fp) Vn G' → wE (Bk X s0 H0 scope C cl fp) elt ((wipe σ [i]).set i (some (.int (k : Int)))) H2 fun y H4 => ∃ acc, H4 D = some (.lst acc) ∧ acc.length < sizeLine ∧ Pv (k + 1) (upd H4 D (.lst (acc ++ [y])))) ∧
  ∀ H2, Pv n H2 → Qd H2
/-- .. over a list that stays -/
def LcL (X : Cx) (Vn : List (Nat × Str)) (G' : List Str) (elt : Expr) (scope : Scope) (i : Nat) (ad : Addr) (xs : List L2.V) (D : Addr) (σ : L2.St) (H1 : Hp) (Qd : Hp → Prop) : Prop := ∃ Pv : Nat → Hp → Prop, Pv 0 (upd H1 D (.lst [])) ∧ (∀ k H2, k ≤ xs.length → Pv k H2 → SqL X.K H2 ad xs) ∧
  (∀ k x H2, xs[k]? = some x → Pv k H2 → ∀ s0 H0 C cl fp, InB (Bk X s0 H0 scope C cl fp) Vn G' → wE (Bk X s0 H0 scope C cl fp) elt ((wipe σ [i]).set i (some x)) H2 fun y H4 => ∃ acc, H4 D = some (.lst acc) ∧ acc.length < sizeLine ∧ Pv (k + 1) (upd H4 D (.lst (acc ++ [y])))) ∧
  ∀ H2, Pv xs.length H2 → Qd H2
/-- the turn's reading, where the block may run anywhere -/
@[irreducible] def wBk (X : Cx) (Vn : List (Nat × Str)) (G' : List Str) (elt : Expr) (scope : Scope) : TE := fun σ H Q => ∀ s0 H0 C cl fp, InB (Bk X s0 H0 scope C cl fp) Vn G' → wE (Bk X s0 H0 scope C cl fp) elt σ H Q
theorem pe_bk {s0 : Shared} {H0 : Hp} {C : Addr} {cl : List (Str × Addr)} {fp : List Addr} (I : InB (Bk X s0 H0 scope C cl fp) Vn G') : PE (Bk X s0 H0 scope C cl fp) elt (wBk X Vn G' elt scope) :=
  ⟨fun pins s σ H Q Iv h => by unfold wBk at h; exact pe.run pins s σ H Q Iv (h s0 H0 C cl fp I)⟩
theorem lcR_of {i n : Nat} {D : Addr} {H1 : Hp} {Qd : Hp → Prop} (q : LcR X Vn G' elt scope i n D σ H1 Qd) : ∃ W : Nat → Nat → Hp → Prop, (∃ m, W 0 m (upd H1 D (.lst []))) ∧ ∀ k m H, W k m H →
    ((Itr 0 n).stop k H ∧ Qd H) ∨ ((Itr 0 n).go k H ∧ ∃ Nx : Hp → Prop, (∀ H', Nx H' → ∃ m', m' < m ∧ W (k + 1) m' H') ∧ ∀ x H', (Itr 0 n).yld k H x H' → gName i x (wipe σ [i]) H' fun σ2 H2 => wipe σ2 [i] = wipe σ [i] ∧ tYes σ2 H2 fun b H3 =>
      if b = true then wBk X Vn G' elt scope σ2 H3 fun y H4 => ∃ acc, H4 D = some (.lst acc) ∧ acc.length < sizeLine ∧ Nx (upd H4 D (.lst (acc ++ [y]))) else Nx H3) := by
  obtain ⟨Pv, h0, hs, hd⟩ := q
  refine lc_range Pv h0 (fun k H hk p => ?_) hd
  refine ⟨wipe_set σ i _, ?_⟩
  unfold tYes
  refine iteT ?_
  unfold wBk
  intro s0 H0 C cl fp I
  rw [Int.zero_add]
  exact hs k H hk p s0 H0 C cl fp I
theorem lcL_of {i : Nat} {ad : Addr} {xs : List L2.V} {D : Addr} {H1 : Hp} {Qd : Hp → Prop} (q : LcL X Vn G' elt scope i ad xs D σ H1 Qd) : ∃ W : Nat → Nat → Hp → Prop, (∃ m, W 0 m (upd H1 D (.lst []))) ∧ ∀ k m H, W k m H →
    ((Itl X.K ad).stop k H ∧ Qd H) ∨ ((Itl X.K ad).go k H ∧ ∃ Nx : Hp → Prop, (∀ H', Nx H' → ∃ m', m' < m ∧ W (k + 1) m' H') ∧ ∀ x H', (Itl X.K ad).yld k H x H' → gName i x (wipe σ [i]) H' fun σ2 H2 => wipe σ2 [i] = wipe σ [i] ∧ tYes σ2 H2 fun b H3 =>
      if b = true then wBk X Vn G' elt scope σ2 H3 fun y H4 => ∃ acc, H4 D = some (.lst acc) ∧ acc.length < sizeLine ∧ Nx (upd H4 D (.lst (acc ++ [y]))) else Nx H3) := by
  obtain ⟨Pv, h0, hl, hs, hd⟩ := q
  refine lc_list Pv h0 hl (fun k x H hk p => ?_) hd
  refine ⟨wipe_set σ i _, ?_⟩
  unfold tYes
  refine iteT ?_
  unfold wBk
  intro s0 H0 C cl fp I
  exact hs k x H hk p s0 H0 C cl fp I
/-- [elt for x in range(a)] -/
theorem e_lcR {i g : Nat} {x : Str} {px p cp : Pos} (B : BkOk X.N Vn G' i x sc scope) (hm : X.mg "range" = none)
    (q : wE X a σ H fun v H1 => ∃ n : Nat, v = .int n ∧ n < 2 ^ 62 ∧ ∀ D, H1 D = none → LcR X Vn G' elt scope i n D σ H1 fun H2 => Q (.ref D) H2)
    (I : In X N G sc := by assumption) (hc : X.calm = true := by rfl) (hG : At G g ("range" : Str) := by repeat (first | with_reducible apply At.z | with_reducible apply At.s)) (hs : starEach [a] X.env = [(false, eval a X.env)] := by rfl) (hs2 : ∀ z, foldedSetIterable (.Call (.Name "range" p) [a] [] cp) X.env z = pure z := by intro _; rfl)
    (hs1 : starEach (a :: []) X.env = (false, eval a X.env) :: starEach [] X.env := by rfl) :
    wE X (.ListComp elt [⟨.Name x px, .Call (.Name "range" p) [a] [] cp, [], 0⟩] scope pos) σ H Q := by
  refine e_of (pe_lc (own := [(x, i)]) (g := gName i) (tt := tYes) (te := wBk X Vn G' elt scope) hc I.nd (pi_range1 (I.g hG) hm (pa_cons pe pa_nil hs1) hs) (B.ok I) (fun s H C cl fp => B.pg I s H C cl fp) (fun _ _ _ _ _ => pts_nil) (fun s H C cl fp => pe_bk (B.inB I s H C cl fp)) hs2) (e_mono q fun v H1 q1 => ?_)
  obtain ⟨n, rfl, hn, q2⟩ := q1
  refine ⟨(n : Int), rfl, by omega, by omega, ?_⟩
  rw [Int.toNat_natCast]
  exact fun D hD => lcR_of (q2 D hD)
/-- [elt for x in a], a list -/
theorem e_lcL {i : Nat} {x : Str} {px : Pos} (B : BkOk X.N Vn G' i x sc scope)
    (q : wE X a σ H fun v H1 => ∃ ad xs, v = .ref ad ∧ SqL X.K H1 ad xs ∧ ∀ D, H1 D = none → LcL X Vn G' elt scope i ad xs D σ H1 fun H2 => Q (.ref D) H2)
    (I : In X N G sc := by assumption) (hc : X.calm = true := by rfl) (hs2 : ∀ z, foldedSetIterable a X.env z = pure z := by intro _; rfl) :
    wE X (.ListComp elt [⟨.Name x px, a, [], 0⟩] scope pos) σ H Q := by
  refine e_of (pe_lc (own := [(x, i)]) (g := gName i) (tt := tYes) (te := wBk X Vn G' elt scope) hc I.nd (pi_list pe) (B.ok I) (fun s H C cl fp => B.pg I s H C cl fp) (fun _ _ _ _ _ => pts_nil) (fun s H C cl fp => pe_bk (B.inB I s H C cl fp)) hs2) (e_mono q fun v H1 q1 => ?_)
  obtain ⟨ad, xs, rfl, hl, q2⟩ := q1
  exact ⟨ad, rfl, ⟨xs, hl⟩, fun D hD => lcL_of (q2 D hD)⟩
theorem s_lcR {nx : L2.St → Hp → Prop} {rt : VK} {bk ct : L2.St → Hp → Prop} {i j g : Nat} {x y : Str} {px py p cp spos : Pos} (B : BkOk X.N Vn G' i x sc scope) (hm : X.mg "range" = none)
    (q : wE X a σ H fun v H1 => ∃ n : Nat, v = .int n ∧ n < 2 ^ 62 ∧ ∀ D, H1 D = none → LcR X Vn G' elt scope i n D σ H1 fun H2 => nx (σ.set j (some (.ref D))) H2)
    (I : In X N G sc := by assumption) (hc : X.calm = true := by rfl) (hA : At N j y := by repeat (first | with_reducible apply At.z | with_reducible apply At.s)) (hG : At G g ("range" : Str) := by repeat (first | with_reducible apply At.z | with_reducible apply At.s))
    (hk : X.env.scope.kind = .function := by rfl) (hy : X.env.scope.names.lookup y = some .local := by rfl) (hl : (py.line == pos.line) = true := by rfl) (ha : (scope.names.any fun (n, k) => n == y && (k == .local || k == .cell)) = false := by decide +kernel)
    (hs : starEach [a] X.env = [(false, eval a X.env)] := by rfl) (hs2 : ∀ z, foldedSetIterable (.Call (.Name "range" p) [a] [] cp) X.env z = pure z := by intro _; rfl) (hs1 : starEach (a :: []) X.env = (false, eval a X.env) :: starEach [] X.env := by rfl) :
    wS X (.Assign [.Name y py] (.ListComp elt [⟨.Name x px, .Call (.Name "range" p) [a] [] cp, [], 0⟩] scope pos) spos) ⟨nx, rt, bk, ct⟩ σ H := by
  refine s_of (ps_setLc (own := [(x, i)]) (g := gName i) (tt := tYes) (te := wBk X Vn G' elt scope) hc I.nd (I.hi hA) hy (sw_true hk hy hl ha) (pi_range1 (I.g hG) hm (pa_cons pe pa_nil hs1) hs) (B.ok I) (fun s H C cl fp => B.pg I s H C cl fp) (fun _ _ _ _ _ => pts_nil) (fun s H C cl fp => pe_bk (B.inB I s H C cl fp)) hs2) (e_mono q fun v H1 q1 => ?_)
  obtain ⟨n, rfl, hn, q2⟩ := q1
  refine ⟨(n : Int), rfl, by omega, by omega, ?_⟩
  rw [Int.toNat_natCast]
  exact fun D hD => lcR_of (q2 D hD)
theorem s_lcL {nx : L2.St → Hp → Prop} {rt : VK} {bk ct : L2.St → Hp → Prop} {i j : Nat} {x y : Str} {px py spos : Pos} (B : BkOk X.N Vn G' i x sc scope)
    (q : wE X a σ H fun v H1 => ∃ ad xs, v = .ref ad ∧ SqL X.K H1 ad xs ∧ ∀ D, H1 D = none → LcL X Vn G' elt scope i ad xs D σ H1 fun H2 => nx (σ.set j (some (.ref D))) H2)
    (I : In X N G sc := by assumption) (hc : X.calm = true := by rfl) (hA : At N j y := by repeat (first | with_reducible apply At.z | with_reducible apply At.s))
    (hk : X.env.scope.kind = .function := by rfl) (hy : X.env.scope.names.lookup y = some .local := by rfl) (hl : (py.line == pos.line) = true := by rfl) (ha : (scope.names.any fun (n, k) => n == y && (k == .local || k == .cell)) = false := by decide +kernel) (hs2 : ∀ z, foldedSetIterable a X.env z = pure z := by intro _; rfl) :
    wS X (.Assign [.Name y py] (.ListComp elt [⟨.Name x px, a, [], 0⟩] scope pos) spos) ⟨nx, rt, bk, ct⟩ σ H := by
  refine s_of (ps_setLc (own := [(x, i)]) (g := gName i) (tt := tYes) (te := wBk X Vn G' elt scope) hc I.nd (I.hi hA) hy (sw_true hk hy hl ha) (pi_list pe) (B.ok I) (fun s H C cl fp => B.pg I s H C cl fp) (fun _ _ _ _ _ => pts_nil) (fun s H C cl fp => pe_bk (B.inB I s H C cl fp)) hs2) (e_mono q fun v H1 q1 => ?_)
  obtain ⟨ad, xs, rfl, hl, q2⟩ := q1
  exact ⟨ad, rfl, ⟨xs, hl⟩, fun D hD => lcL_of (q2 D hD)⟩
end
/-! ### ground terms: they make new objects and change none -/
abbrev Rl := Hp → L2.V → Prop
class Lasts (Γ : Hp → Prop) : Prop where
  up : ∀ H H', Same H H' → Γ H → Γ H'
class LastR (R : Rl) : Prop where
  up : ∀ H H' v, Same H H' → R H v → R H' v
def All2 : List Rl → Hp → List L2.V → Prop
  | [], _, vs => vs = []
  | R :: Rs, H, vs => ∃ v us, vs = v :: us ∧ R H v ∧ All2 Rs H us
@[irreducible] def Ev (X : Cx) (e : Expr) (σ : L2.St) (H : Hp) (R : Rl) : Prop := ∀ Q : VK, (∀ v H', Same H H' → R H' v → Q v H') → wE X e σ H Q
@[irreducible] def EvA (X : Cx) (es : List Expr) (σ : L2.St) (H : Hp) (Rs : List Rl) : Prop := ∀ Q : List L2.V → Hp → Prop, (∀ vs H', Same H H' → All2 Rs H' vs → Q vs H') → wA X es σ H Q
/-- a promise of a def that makes new objects alone -/
def spG {α : Type} (A : α → List Rl) (R : α → Rl) : Sp := fun vs H Q _ => ∃ x, All2 (A x) H vs ∧ ∀ v H', Same H H' → R x H' v → Q v H'
section
variable {X : Cx} {e a b c : Expr} {es : List Expr} {σ : L2.St} {H : Hp} {Q : VK} {pos p0 : Pos} {N G : List Str} {sc : Scope} {R R1 R2 : Rl} {Rs : List Rl}
theorem ev_e (h : Ev X e σ H R) (q : ∀ v H', Same H H' → R H' v → Q v H') : wE X e σ H Q := by unfold Ev at h; exact h Q q
theorem ev_of (h : ∀ Q : VK, (∀ v H', Same H H' → R H' v → Q v H') → wE X e σ H Q) : Ev X e σ H R := by unfold Ev; exact h
theorem ev_a {QA : List L2.V → Hp → Prop} (h : EvA X es σ H Rs) (q : ∀ vs H', Same H H' → All2 Rs H' vs → QA vs H') : wA X es σ H QA := by unfold EvA at h; exact h QA q
theorem ev_up {H0 : Hp} (h : Ev X e σ H R) : Ev X e σ H R := h
theorem g_var {i : Nat} {x : Str} {v : V} (r : R H v) (I : In X N G sc := by assumption) (hA : At N i x := by repeat (first | with_reducible apply At.z | with_reducible apply At.s)) (hσ : σ[i]? = some (some v) := by exact rfl) : Ev X (.Name x pos) σ H R :=
  ev_of fun Q q => e_var (q v H (Same.refl H) r) I hA hσ
theorem g_nil : EvA X [] σ H [] := by unfold EvA; exact fun Q q => a_nil (q [] H (Same.refl H) rfl)
theorem g_cons [LastR R] (h1 : Ev X e σ H R) (h2 : ∀ H', Same H H' → EvA X es σ H' Rs) (hs : starEach (e :: es) X.env = (false, eval e X.env) :: starEach es X.env := by rfl) : EvA X (e :: es) σ H (R :: Rs) := by
  unfold EvA
  exact fun Q q => a_cons (ev_e h1 fun v H1 s1 r1 => ev_a (h2 H1 s1) fun vs H2 s2 r2 => q (v :: vs) H2 (s1.trans s2) ⟨v, vs, rfl, LastR.up H1 H2 v s2 r1, r2⟩) hs
theorem g_call {α : Type} {A : α → List Rl} {R : α → Rl} {g k n : Nat} {x : Str} {z : α} (F : Fn X.prog X.w X.K X.mg X.base k x (spG A R)) (hr : Room n X.A) (hk : k ≤ n) (h : EvA X (e :: es) σ H (A z)) (I : In X N G sc := by assumption) (hG : At G g x := by repeat (first | with_reducible apply At.z | with_reducible apply At.s))
    (he : starEach (e :: es) X.env = (false, eval e X.env) :: starEach es X.env := by rfl) (hpl : (backTo pos (starEach es X.env)).any (·.1) = false := by rfl) : Ev X (.Call (.Name x p0) (e :: es) [] pos) σ H (R z) :=
  ev_of fun Q q => e_call F hr hk (ev_a h fun vs H1 s1 r1 => ⟨z, r1, fun v H2 s2 r2 => q v H2 (s1.trans s2) r2⟩) I hG he hpl
theorem g_test {QT : Bool → Hp → Prop} (h : Ev X e σ H fun _ v => v = .bl true) (q : ∀ H', Same H H' → QT true H') (he : ∀ whole, isTrue e X.env whole = (do let v ← whole; standAt e.pos; holding [v] (truthy v)) := by intro _; rfl) : wT X e σ H QT :=
  t_val (ev_e h fun v H' s r => by
    cases (show v = .bl true from r)
    exact ⟨true, rfl, q H' s⟩) he
/-- if not a or not b: return False -/
theorem s_no2 {nx : L2.St → Hp → Prop} {rt : VK} {bk ct : L2.St → Hp → Prop} {body : List Stmt} {p1 p2 p3 p4 : Pos} (h1 : Ev X a σ H fun _ v => v = .bl true) (h2 : ∀ H', Same H H' → Ev X b σ H' fun _ v => v = .bl true) (q : ∀ H', Same H H' → nx σ H')
    (he : ∀ whole, isTrue a X.env whole = (do let v ← whole; standAt a.pos; holding [v] (truthy v)) := by intro _; rfl) (he2 : ∀ whole, isTrue b X.env whole = (do let v ← whole; standAt b.pos; holding [v] (truthy v)) := by intro _; rfl) :
    wS X (.If (.BoolOp .Or [.UnaryOp .Not a p1, .UnaryOp .Not b p2] p3) body [] p4) ⟨nx, rt, bk, ct⟩ σ H := by
  refine s_if (t_w (w_or (t_not (g_test h1 (fun H1 s1 => ?_) he))))
  refine iteF (w_or1 (t_not (g_test (h2 H1 s1) (fun H2 s2 => ?_) he2)))
  exact iteF (l_nil (q H2 (s1.trans s2)))
theorem s_no1 {nx : L2.St → Hp → Prop} {rt : VK} {bk ct : L2.St → Hp → Prop} {body : List Stmt} {p1 p4 : Pos} (h1 : Ev X a σ H fun _ v => v = .bl true) (q : ∀ H', Same H H' → nx σ H')
    (he : ∀ whole, isTrue a X.env whole = (do let v ← whole; standAt a.pos; holding [v] (truthy v)) := by intro _; rfl) :
    wS X (.If (.UnaryOp .Not a p1) body [] p4) ⟨nx, rt, bk, ct⟩ σ H := by
  refine s_if (t_not (g_test h1 (fun H1 s1 => ?_) he))
  exact iteF (l_nil (q H1 s1))
theorem g_and2 (h1 : Ev X a σ H fun _ v => v = .bl true) (h2 : ∀ H', Same H H' → Ev X b σ H' fun _ v => v = .bl true) : Ev X (.BoolOp .And [a, b] pos) σ H fun _ v => v = .bl true :=
  ev_of fun Q q => e_and (ev_e h1 fun v H1 s1 r1 => by
    cases (show v = .bl true from r1)
    exact ⟨true, rfl, iteT (e_one (ev_e (h2 H1 s1) fun v H2 s2 r2 => q v H2 (s1.trans s2) r2))⟩)
theorem g_and3 (h1 : Ev X a σ H fun _ v => v = .bl true) (h2 : ∀ H', Same H H' → Ev X b σ H' fun _ v => v = .bl true) (h3 : ∀ H', Same H H' → Ev X c σ H' fun _ v => v = .bl true) : Ev X (.BoolOp .And [a, b, c] pos) σ H fun _ v => v = .bl true :=
  ev_of fun Q q => e_and (ev_e h1 fun v H1 s1 r1 => by
    cases (show v = .bl true from r1)
    refine ⟨true, rfl, iteT (e_and (ev_e (h2 H1 s1) fun v H2 s2 r2 => ?_))⟩
    cases (show v = .bl true from r2)
    exact ⟨true, rfl, iteT (e_one (ev_e (h3 H2 (s1.trans s2)) fun v H3 s3 r3 => q v H3 ((s1.trans s2).trans s3) r3))⟩)
end
section
variable {X : Cx} {H : Hp} {Q : VK} {i j : Int}
theorem o_mulW (c : CMulW i j) (q : Q (.int (i * j)) H) : wB X .Mult (.int i) (.int j) H Q := b_of op_mulW ⟨i, j, rfl, rfl, c, q⟩
end
end Wk
namespace Wk
open PySem PySem.Spec
/-- the value of a return or of an assignment, a comprehension's scope -/
def valE : Stmt → Expr
  | .Return (some e) _ => e
  | .Assign _ e _ => e
  | .Expr e _ => e
  | _ => .Name "" ⟨0, 0, 0, 0⟩
def lcSc : Expr → Scope
  | .ListComp _ _ sc _ => sc
  | _ => { kind := .function, names := [], isGenerator := false, isCoroutine := false }
end Wk
namespace Wk
open PySem PySem.Spec PyProof.Rows L2
section
variable {X : Cx} {c e : Expr} {body : List Stmt} {σ : L2.St} {H : Hp} {pos : Pos} {N G : List Str} {sc : Scope} {QT QT' : Bool → Hp → Prop}
theorem t_mono (q : wT X c σ H QT) (h : ∀ b H1, QT b H1 → QT' b H1) : wT X c σ H QT' := by
  unfold wT at q ⊢
  exact fun pins s I => wpAny_mono (q pins s I) (fun _ _ ⟨H1, I1, z⟩ => ⟨H1, I1, h _ _ z⟩) fun _ _ z => z
theorem s_while {nx : L2.St → Hp → Prop} {rt : VK} {bk ct : L2.St → Hp → Prop} (Pv : L2.St → Hp → Prop) (μ : L2.St → Hp → Nat) (h0 : Pv σ H)
    (hs : ∀ σ H, Pv σ H → wT X c σ H fun b H1 => if b = true then wL X body ⟨fun σ' H' => Pv σ' H' ∧ μ σ' H' < μ σ H, rt, nx, fun σ' H' => Pv σ' H' ∧ μ σ' H' < μ σ H⟩ σ H1 else nx σ H1)
    (I : In X N G sc := by assumption) : wS X (.While c body [] pos) ⟨nx, rt, bk, ct⟩ σ H :=
  s_of (ps_while I.never pt pl) (while_by Pv μ h0 hs fun _ _ _ _ h q => t_mono q h)
end
end Wk
namespace Wk
open PySem PySem.Spec PyProof.Rows L2
section
variable {X : Cx} {o e : Expr} {σ : L2.St} {H : Hp} {Q : VK} {pos apos : Pos}
/-- o.append(e) -/
theorem e_app (q : wE X o σ H fun x H1 => ∃ l xs0, x = .ref l ∧ SqL X.K H1 l xs0 ∧ wE X e σ H1 fun y H2 => ∃ xs, H2 l = some (.lst xs) ∧ xs.length < sizeLine ∧ Q .non (upd H2 l (.lst (xs ++ [y]))))
    (hbase : attributeBase o "append" X.env (eval o X.env) = eval o X.env := by rfl)
    (hfew : ((backTo pos (starEach (e :: []) X.env)).all (fun x => !x.1) && (backToKw pos (keywordEach [] X.env)).all (fun x => x.1.isSome)
      && decide ((e :: []).length + ([] : List Keyword).length + (if ([] : List Keyword).isEmpty then 0 else 1) < 30)) = true := by rfl)
    (hline : (apos.endLine == pos.line) = true := by rfl) (hs : starEach (e :: []) X.env = (false, eval e X.env) :: starEach [] X.env := by rfl) (hplain : (backTo pos (starEach [] X.env)).any (·.1) = false := by rfl) :
    wE X (.Call (.Attribute o "append" apos) [e] [] pos) σ H Q := by
  refine e_of (pe_bm PySem.F.plainAttrs_list PySem.F.slot_list_append PySem.F.type_list_append mt_append pe (pa_cons pe pa_nil hs) hbase hfew hline hs hplain) (e_mono q fun x H1 z => ?_)
  obtain ⟨l, xs0, rfl, hl, z⟩ := z
  refine ⟨.inl ⟨rfl, _, hl⟩, e_mono z fun y H2 z2 => ?_⟩
  obtain ⟨xs, h1, h2, h3⟩ := z2
  exact ⟨l, xs, y, rfl, rfl, h1, h2, h3⟩
end
end Wk
namespace Wk
open PySem PySem.Spec PyProof.Rows L2
theorem All2.len {Rs : List Rl} {H : Hp} : ∀ {vs : List L2.V}, All2 Rs H vs → vs.length = Rs.length := by
  induction Rs with
  | nil => intro vs h; cases (show vs = [] from h); rfl
  | cons R Rs ih => intro vs h; obtain ⟨v, us, rfl, _, h⟩ := h; simp [ih h]
end Wk
namespace Wk
open PySem PySem.Spec PyProof.Rows L2
/-- from the heap H on -/
def EvS (X : Cx) (e : Expr) (σ : L2.St) (H : Hp) (R : Rl) : Prop := ∀ H', Same H H' → Ev X e σ H' R
def EvSA (X : Cx) (es : List Expr) (σ : L2.St) (H : Hp) (Rs : List Rl) : Prop := ∀ H', Same H H' → EvA X es σ H' Rs
abbrev IsT : Rl := fun _ v => v = .bl true
section
variable {X : Cx} {e a b c : Expr} {es : List Expr} {σ : L2.St} {H H0 : Hp} {Q : VK} {pos p0 : Pos} {N G : List Str} {sc : Scope} {R R1 R2 : Rl} {Rs : List Rl}
theorem EvS.up {H1 : Hp} (h : EvS X e σ H R) (s : Same H H1) : EvS X e σ H1 R := fun H' t => h H' (s.trans t)
theorem EvS.get (h : EvS X e σ H R) (q : ∀ v H', Same H H' → R H' v → Q v H') : wE X e σ H Q := ev_e (h H (Same.refl H)) q
theorem gs_var [LastR R] {i : Nat} {x : Str} {v : L2.V} (r : R H v) (I : In X N G sc := by assumption) (hA : At N i x := by repeat (first | with_reducible apply At.z | with_reducible apply At.s)) (hσ : σ[i]? = some (some v) := by exact rfl) : EvS X (.Name x pos) σ H R :=
  fun H' s => g_var (LastR.up H H' v s r) I hA hσ
theorem gs_int {i : Int} {j} : EvS X (.Constant (.int i) j pos) σ H (fun _ v => v = .int i) := fun H' _ => ev_of fun Q q => e_int (q _ H' (Same.refl H') rfl)
theorem gs_nil : EvSA X [] σ H [] := fun _ _ => g_nil
theorem gs_cons [LastR R] (h1 : EvS X e σ H R) (h2 : EvSA X es σ H Rs) (hs : starEach (e :: es) X.env = (false, eval e X.env) :: starEach es X.env := by rfl) : EvSA X (e :: es) σ H (R :: Rs) := fun H' s => g_cons (h1 H' s) (fun H2 s2 => h2 H2 (s.trans s2)) hs
theorem gs_call {α : Type} {A : α → List Rl} {R : α → Rl} {g k n : Nat} {x : Str} {z : α} (F : Fn X.prog X.w X.K X.mg X.base k x (spG A R)) (hr : Room n X.A) (hk : k ≤ n) (h : EvSA X (e :: es) σ H (A z)) (I : In X N G sc := by assumption) (hG : At G g x := by repeat (first | with_reducible apply At.z | with_reducible apply At.s))
    (he : starEach (e :: es) X.env = (false, eval e X.env) :: starEach es X.env := by rfl) (hpl : (backTo pos (starEach es X.env)).any (·.1) = false := by rfl) : EvS X (.Call (.Name x p0) (e :: es) [] pos) σ H (R z) := fun H' s => g_call F hr hk (h H' s) I hG he hpl
/-- if not a or not b: return False; both hold -/
theorem s_nn {nx : L2.St → Hp → Prop} {rt : VK} {bk ct : L2.St → Hp → Prop} {body : List Stmt} {p1 p2 p3 p4 : Pos} (s0 : Same H0 H) (h1 : EvS X a σ H0 IsT) (h2 : EvS X b σ H0 IsT) (q : ∀ H', Same H0 H' → nx σ H')
    (he : ∀ whole, isTrue a X.env whole = (do let v ← whole; standAt a.pos; holding [v] (truthy v)) := by intro _; rfl) (he2 : ∀ whole, isTrue b X.env whole = (do let v ← whole; standAt b.pos; holding [v] (truthy v)) := by intro _; rfl) :
    wS X (.If (.BoolOp .Or [.UnaryOp .Not a p1, .UnaryOp .Not b p2] p3) body [] p4) ⟨nx, rt, bk, ct⟩ σ H := s_no2 (h1 H s0) (fun H1 s1 => h2 H1 (s0.trans s1)) (fun H1 s1 => q H1 (s0.trans s1)) he he2
theorem s_n {nx : L2.St → Hp → Prop} {rt : VK} {bk ct : L2.St → Hp → Prop} {body : List Stmt} {p1 p4 : Pos} (s0 : Same H0 H) (h1 : EvS X a σ H0 IsT) (q : ∀ H', Same H0 H' → nx σ H')
    (he : ∀ whole, isTrue a X.env whole = (do let v ← whole; standAt a.pos; holding [v] (truthy v)) := by intro _; rfl) :
    wS X (.If (.UnaryOp .Not a p1) body [] p4) ⟨nx, rt, bk, ct⟩ σ H := s_no1 (h1 H s0) (fun H1 s1 => q H1 (s0.trans s1)) he
theorem gs_and2 (h1 : EvS X a σ H IsT) (h2 : EvS X b σ H IsT) : EvS X (.BoolOp .And [a, b] pos) σ H IsT := fun H' s => g_and2 (h1 H' s) fun H2 s2 => h2 H2 (s.trans s2)
theorem gs_and3 (h1 : EvS X a σ H IsT) (h2 : EvS X b σ H IsT) (h3 : EvS X c σ H IsT) : EvS X (.BoolOp .And [a, b, c] pos) σ H IsT := fun H' s => g_and3 (h1 H' s) (fun H2 s2 => h2 H2 (s.trans s2)) fun H2 s2 => h3 H2 (s.trans s2)
theorem s_let {nx : L2.St → Hp → Prop} {rt : VK} {bk ct : L2.St → Hp → Prop} {i : Nat} {x : Str} {pos' : Pos} (s0 : Same H0 H) (h : EvS X e σ H0 R) (q : ∀ v H', Same H0 H' → R H' v → nx (σ.set i (some v)) H')
    (I : In X N G sc := by assumption) (hA : At N i x := by repeat (first | with_reducible apply At.z | with_reducible apply At.s)) (hs : swapsWith e (some (.Name x pos')) pos.line X.env = pure false := by rfl) :
    wS X (.Assign [.Name x pos'] e pos) ⟨nx, rt, bk, ct⟩ σ H := s_set ((h.up s0).get fun v H' s r => q v H' (s0.trans s) r) I hA hs
theorem s_retS {nx : L2.St → Hp → Prop} {rt : VK} {bk ct : L2.St → Hp → Prop} (s0 : Same H0 H) (h : EvS X e σ H0 R) (q : ∀ v H', Same H0 H' → R H' v → rt v H') : wS X (.Return (some e) pos) ⟨nx, rt, bk, ct⟩ σ H := s_ret ((h.up s0).get fun v H' s r => q v H' (s0.trans s) r)
end
end Wk

/-! My own layer, more: defs with loops where an error is handled, a keyword-only parameter with a default, insert. -/
namespace Wk
open PySem PySem.Spec PyProof.Rows L2
section
variable {P : Program} {w : World} {K : PySem.W.Frag} {mg : Str → Option Value} {base : Heap}
theorem fn_okH2 {x : Str} {st : Stmt} {N G ps : List Str} {k : Nat} {sp : Sp} (T : Top K mg x st) (S : FnScope N ps (defScope st)) (O : ScOk N G (defScope st)) (len : ∀ vs H Q E, sp vs H Q E → vs.length = ps.length)
    (hb : ∀ (kV doc pm : Value) (an : Option Addr) (cdv ct : Value) (us : List Value), us.length = ps.length → bindArgs (PySem.W.fnOf x x (defArgs st) (defBody st) (defScope st) .none kV doc pm an cdv ct) ⟨us, []⟩ = pure (ps.zip us))
    (hbody : ∀ (f : Addr) (cdv : Value) (A : Around) (outer : List Env) (s : Shared) (H : Hp) (vs : List L2.V) (Q : VK) (E : XK) (p : Addr × Obj), L2H.RoomH k (A.deeper (envOfC x (defScope st) s.heap.objs.size f cdv)) → sp vs H Q E → In (L2H.cxH CX0 P w K mg base N x (defScope st) f cdv A outer s H E p).nox N G (defScope st) →
      L2H.HotC (L2H.cxH CX0 P w K mg base N x (defScope st) f cdv A outer s H E p).nox →
      wL (L2H.cxH CX0 P w K mg base N x (defScope st) f cdv A outer s H E p).nox (defBody st) { nx := fun _ H' => Q .non H', rt := Q } (start N vs) H) : FnHt P w K mg base (k + 1) x sp := by
  obtain ⟨f, fd, F, hm⟩ := T.ex
  obtain ⟨oc, od, kV, doc, pm, an, cdv, ct, osl, rfl, lk, hcd⟩ := id F.ex
  exact ⟨f, _, ps, L2H.fn_ofH lk hcd S len (fun A outer s H vs Q E p hot hr h => ⟨_, PSs.nox pl, hbody f cdv A outer s H vs Q E p hr h ⟨O, ⟨[], (List.append_nil _).symm⟩, S.nd, rfl, rfl, PassesOwn.never⟩ ⟨p, ⟨hot.1, hot.2⟩, List.mem_cons_self⟩⟩), hm, F.kp, F.binds hb⟩
end
section
variable {X : Cx} {N G : List Str} {sc : Scope} {a e v o : Expr} {es : List Expr} {σ : L2.St} {H : Hp} {Q : VK} {pos p0 kpos apos : Pos}
theorem s_forRH {nx : L2.St → Hp → Prop} {rt : VK} {bk ct : L2.St → Hp → Prop} {g : Nat} {x : Str} {i : Nat} {body : List Stmt} {px p cp : Pos} (hm : X.mg "range" = none) (hot : L2H.HotC X)
    (q : wE X a σ H fun v H1 => ∃ n : Nat, v = .int n ∧ n < 2 ^ 62 ∧ ∃ Pv : Nat → L2.St → Hp → Prop, Pv 0 σ H1 ∧ (∀ k σ H, k < n → Pv k σ H → wL X body ⟨Pv (k + 1), rt, nx, Pv (k + 1)⟩ (σ.set i (some (.int (k : Int)))) H) ∧ ∀ σ H, Pv n σ H → nx σ H)
    (I : In X N G sc := by assumption) (hA : At N i x := by repeat (first | with_reducible apply At.z | with_reducible apply At.s))
    (hG : At G g ("range" : Str) := by repeat (first | with_reducible apply At.z | with_reducible apply At.s)) (hs : starEach [a] X.env = [(false, eval a X.env)] := by rfl) (hs2 : ∀ z, foldedSetIterable (.Call (.Name "range" p) [a] [] cp) X.env z = pure z := by intro _; rfl)
    (hs1 : starEach (a :: []) X.env = (false, eval a X.env) :: starEach [] X.env := by rfl) :
    wS X (.For (.Name x px) (.Call (.Name "range" p) [a] [] cp) body [] pos) ⟨nx, rt, bk, ct⟩ σ H := by
  refine s_of (L2H.ps_forH I.never hot (L2H.pi_range1H (I.g hG) hm (pa_cons pe pa_nil hs1) hs) (pg_name I.nd (I.hi hA) (I.loc hA) I.f) pl hs2) (e_mono q fun v H1 q1 => ?_)
  obtain ⟨n, rfl, hn, Pv, h0, hb, hd⟩ := q1
  refine ⟨(n : Int), rfl, by omega, by omega, ?_⟩
  rw [Int.toNat_natCast]
  refine for_range (n := n) Pv h0 (fun k σ H hk p => ?_) hd
  rw [Int.zero_add]
  exact hb k σ H hk p
/-- a def with one keyword-only parameter kw and its default d, that may raise -/
structure FnKw (P : Program) (w : World) (K : PySem.W.Frag) (mg : Str → Option Value) (base : Heap) (k : Nat) (x kw : Str) (m : Nat) (d : L2.V) (sp : Sp) : Prop where
  ex : ∃ (f : Addr) (fd : FuncData) (ps : List Str), FnOk P w K mg base (L2N.CX P w) k f fd ps sp ∧ mg x = some (.ref f) ∧ PySem.W.keepIn K (.ref f) = true ∧ (∃ ds, Vals [d] ds ∧ Binds K fd ps ds) ∧ ∃ g, KBn K fd ps m [kw] g (fun vs zs => vs ++ zs)
theorem e_callD {g k n m : Nat} {x kw : Str} {d : L2.V} {sp : Sp} {W : WX} (F : FnKw X.prog X.w X.K X.mg X.base k x kw m d sp) (tk : L2N.Takes X W) (hr : Room n X.A) (hk : k ≤ n) (q : wA X (e :: es) σ H fun vs H1 => sp (vs ++ [d]) H1 Q (fun cls d H' => W cls d σ H'))
    (I : In X N G sc := by assumption) (hG : At G g x := by repeat (first | with_reducible apply At.z | with_reducible apply At.s)) (he : starEach (e :: es) X.env = (false, eval e X.env) :: starEach es X.env := by rfl) (hpl : (backTo pos (starEach es X.env)).any (·.1) = false := by rfl) :
    wE X (.Call (.Name x p0) (e :: es) [] pos) σ H Q := by
  obtain ⟨f, fd, ps, F0, hm, hkp, ⟨ds, hd, hb⟩, _⟩ := F.ex
  exact e_of (pe_callSD (E := fun σ cls d H' => W cls d σ H') F0 (hr.mono hk) (I.g hG) hm hkp hb hd (fun σ => L2N.passAt tk σ) pa (I.gd hG) he hpl) q
theorem e_callK {g k n m : Nat} {x kw : Str} {d : L2.V} {sp : Sp} {W : WX} (F : FnKw X.prog X.w X.K X.mg X.base k x kw m d sp) (tk : L2N.Takes X W) (hr : Room n X.A) (hk : k ≤ n) (q : wA X (e :: es) σ H fun vs H1 => wE X v σ H1 fun z H2 => vs.length = m ∧ sp (vs ++ [z]) H2 Q (fun cls d H' => W cls d σ H'))
    (I : In X N G sc := by assumption) (hG : At G g x := by repeat (first | with_reducible apply At.z | with_reducible apply At.s))
    (hall : (backToKw pos (keywordEach [⟨some kw, v, kpos⟩] X.env)).all (·.1.isSome) = true := by rfl) (hks : (backToKw pos (keywordEach [⟨some kw, v, kpos⟩] X.env)).filterMap (·.1) = [kw] := by rfl)
    (he : starEach (e :: es) X.env = (false, eval e X.env) :: starEach es X.env := by rfl) (hpl : ((backTo pos (starEach (e :: es) X.env)).any (·.1) || (backToKw pos (keywordEach [⟨some kw, v, kpos⟩] X.env)).any (·.1.isNone)) = false := by rfl) :
    wE X (.Call (.Name x p0) (e :: es) [⟨some kw, v, kpos⟩] pos) σ H Q := by
  obtain ⟨f, fd, ps, F0, hm, hkp, _, g0, hb⟩ := F.ex
  unfold wE
  intro pins s I0
  refine wpAny_Call_Name_kw (ld_glob I0 (I.g hG) hm ?_ (I.gd hG))
  refine PySem.W.callWith_KW (h₀ := X.base) I0.ok.mod.kin hkp hall (thn (pa.run pos pins s σ H _ I0 q) fun us s1 ⟨vs, H1, I1, r, q1⟩ => ?_) hpl he
  refine thn ((pk_cons pe pk_nil).run pos pins s1 σ H1 (fun zs H2 => ∃ z, zs = [z] ∧ vs.length = m ∧ sp (vs ++ [z]) H2 Q (fun cls d H' => W cls d σ H')) I1 (e_mono q1 fun z H2 z2 => ⟨z, rfl, z2⟩)) fun ws s2 ⟨zs, H2, I2, rz, z, ez, l1, q2⟩ => ⟨I2.kIn, ?_⟩
  subst ez
  rw [hks]
  have r2 := hb.rel r rz
  have l2 : ws.length = [kw].length := rz.length.symm
  refine wpAny_call (codeAny_mono (F0.run X.A X.stack s2 H2 ⟨us, [kw].zip ws⟩ (g0 us ws) (vs ++ [z]) Q (fun cls d H' => W cls d σ H') (hr.mono hk) I2.env0 (hb.to s2 us ws I2.kIn (r.length.symm.trans l1) l2) r2 q2) fun r s' hq => ?_)
  cases r with
  | error e => exact L2N.passAt tk σ pins H2 s2 e s' I2 hq
  | ok fl =>
    cases fl with
    | ret u => exact I2.after hq
    | next => exact False.elim hq
    | brk => exact False.elim hq
    | cont => exact False.elim hq
/-- o.insert(0, v) and its like -/
theorem e_ins {i : Expr} (q : wE X o σ H fun x H1 => ∃ l xs0, x = .ref l ∧ SqL X.K H1 l xs0 ∧ wE X i σ H1 fun j H2 => wE X e σ H2 fun y H3 => ∃ n : Int, ∃ xs, j = .int n ∧ H3 l = some (.lst xs) ∧ xs.length < sizeLine ∧ 0 ≤ n ∧ n < 2 ^ 63 ∧ Q .non (upd H3 l (.lst (xs.take n.toNat ++ [y] ++ xs.drop n.toNat))))
    (hbase : attributeBase o "insert" X.env (eval o X.env) = eval o X.env := by rfl)
    (hfew : ((backTo pos (starEach (i :: [e]) X.env)).all (fun x => !x.1) && (backToKw pos (keywordEach [] X.env)).all (fun x => x.1.isSome)
      && decide ((i :: [e]).length + ([] : List Keyword).length + (if ([] : List Keyword).isEmpty then 0 else 1) < 30)) = true := by rfl)
    (hline : (apos.endLine == pos.line) = true := by rfl) (hs : starEach (i :: [e]) X.env = (false, eval i X.env) :: starEach [e] X.env := by rfl) (hs2 : starEach (e :: []) X.env = (false, eval e X.env) :: starEach [] X.env := by rfl) (hplain : (backTo pos (starEach [e] X.env)).any (·.1) = false := by rfl) :
    wE X (.Call (.Attribute o "insert" apos) [i, e] [] pos) σ H Q := by
  refine e_of (pe_bm PySem.F.plainAttrs_list PySem.F.slot_list_insert PySem.F.type_list_insert mt_insert pe (pa_cons pe (pa_cons pe pa_nil hs2) hs) hbase hfew hline hs hplain) (e_mono q fun x H1 z => ?_)
  obtain ⟨l, xs0, rfl, hl, z⟩ := z
  refine ⟨.inl ⟨rfl, _, hl⟩, e_mono z fun j H2 z2 => e_mono z2 fun y H3 z3 => ?_⟩
  obtain ⟨n, xs, rfl, h1, h2, h3, h4, h5⟩ := z3
  exact ⟨l, xs, n, y, rfl, rfl, h1, h2, h3, h4, h5⟩
end
end Wk
namespace Wk
open PySem PySem.Spec PyProof.Rows L2
section
variable {X : Cx} {N G : List Str} {sc : Scope} {a b e v o i : Expr} {es : List Expr} {σ : L2.St} {H : Hp} {Q : VK} {QT : Bool → Hp → Prop} {pos p0 p2 apos : Pos}
theorem t_tru (q : wE X a σ H fun x H' => ∃ k, TruV X.K x H' k ∧ QT k H') (he : ∀ whole, isTrue a X.env whole = (do let v ← whole; standAt a.pos; holding [v] (truthy v)) := by intro _; rfl) : wT X a σ H QT := t_of (pt_truth pe he) q
theorem tru_l {K : PySem.W.Frag} {l : Addr} {xs : List L2.V} (h : H l = some (.lst xs)) : TruV K (.ref l) H (!xs.isEmpty) := .inl ⟨xs, SqL.of h, rfl⟩
/-- o.pop() -/
theorem e_pop (q : wE X o σ H fun x H1 => ∃ l xs y, x = .ref l ∧ H1 l = some (.lst (xs ++ [y])) ∧ Q y (upd H1 l (.lst xs)))
    (hbase : attributeBase o "pop" X.env (eval o X.env) = eval o X.env := by rfl) (hline : (apos.endLine == pos.line) = true := by rfl) : wE X (.Call (.Attribute o "pop" apos) [] [] pos) σ H Q := by
  refine e_of (pe_bm0 PySem.F.plainAttrs_list PySem.F.slot_list_pop PySem.F.type_list_pop mt_pop pe hbase hline) (e_mono q fun x H1 z => ?_)
  obtain ⟨l, xs, y, rfl, h1, h2⟩ := z
  refine ⟨.inl ⟨rfl, _, SqL.of h1⟩, l, _, y, rfl, rfl, h1, by simp, ?_⟩
  rw [List.dropLast_concat]
  exact h2
theorem e_slL0 {r : L2.V → Option Int → Option Int → Hp → VK → Prop} (hr : SlR X r) (q : wE X e σ H fun x H1 => wE X a σ H1 fun y H2 => ∃ j, y = .int j ∧ r x (some j) none H2 Q) : wE X (.Subscript e (.Slice (some a) none none p2) pos) σ H Q :=
  e_of (pe_slice hr pe (po_some pe) po_none) (e_mono q fun x H1 z => e_mono z fun y H2 ⟨j, e, z2⟩ => ⟨j, e, z2⟩)
theorem e_slL1 {r : L2.V → Option Int → Option Int → Hp → VK → Prop} (hr : SlR X r) (q : wE X e σ H fun x H1 => wE X b σ H1 fun y H2 => ∃ j, y = .int j ∧ r x none (some j) H2 Q) : wE X (.Subscript e (.Slice none (some b) none p2) pos) σ H Q :=
  e_of (pe_slice hr pe po_none (po_some pe)) (e_mono q fun x H1 z => e_mono z fun y H2 ⟨j, e, z2⟩ => ⟨j, e, z2⟩)
theorem s_dput {nx : L2.St → Hp → Prop} {rt : VK} {bk ct : L2.St → Hp → Prop} {pos' : Pos} (hu : X.A.units + 1 < cLine) (q : wE X v σ H fun v H1 => wE X o σ H1 fun x H2 => wE X i σ H2 fun y H3 => ∃ a H4, x = .ref a ∧ DPut H3 a y v H4 ∧ nx σ H4)
    (hs : swapsWith v (some (.Subscript o i pos')) pos.line X.env = pure false := by rfl) : wS X (.Assign [.Subscript o i pos'] v pos) ⟨nx, rt, bk, ct⟩ σ H := s_of (ps_dput hu pe pe pe hs) q
theorem c_listD {p : Addr} {kvs : List (Key × L2.V)} (hc : X.calm = true) (h : H p = some (.dK kvs)) (q : ∀ l H2, Same H H2 → H2 l = some (.lst (kvs.map fun kv => kV kv.1)) → Q (.ref l) H2) : wC X (.type "list") [.ref p] H Q :=
  c_of (call_list_dK hc) ⟨p, kvs, rfl, h, fun l np => q l _ (fun c u eo => by rw [upd_ne (ne_of_none eo np)]; exact eo) upd_same⟩
theorem c_listL {p : Addr} {xs : List L2.V} (h : H p = some (.lst xs)) (q : ∀ l H2, Same H H2 → H l = none → H2 l = some (.lst xs) → Q (.ref l) H2) : wC X (.type "list") [.ref p] H Q :=
  c_of call_list_of ⟨p, xs, rfl, .inl (SqL.of h), fun l np => q l _ (fun c u eo => by rw [upd_ne (ne_of_none eo np)]; exact eo) np upd_same⟩
end
end Wk
namespace Wk
open PySem PySem.Spec PyProof.Rows L2
section
variable {X : Cx} {c e : Expr} {body : List Stmt} {σ : L2.St} {H : Hp} {pos : Pos} {N G : List Str} {sc : Scope}
theorem s_whileN {nx : L2.St → Hp → Prop} {rt : VK} {bk ct : L2.St → Hp → Prop} (Pv : Nat → L2.St → Hp → Prop) (n0 : Nat) (h0 : Pv n0 σ H)
    (hs : ∀ n σ H, Pv n σ H → wT X c σ H fun b H1 => if b = true then wL X body ⟨fun σ' H' => ∃ m, m < n ∧ Pv m σ' H', rt, nx, fun σ' H' => ∃ m, m < n ∧ Pv m σ' H'⟩ σ H1 else nx σ H1)
    (I : In X N G sc := by assumption) : wS X (.While c body [] pos) ⟨nx, rt, bk, ct⟩ σ H := by
  refine s_of (ps_while I.never pt pl) ⟨Pv, ⟨n0, h0⟩, fun n σ H p => ?_⟩
  refine t_mono (hs n σ H p) fun b H1 q => ?_
  cases b with
  | true => exact ⟨fun σ' H' => ∃ m, m < n ∧ Pv m σ' H', fun σ' H' z => z, q⟩
  | false => exact q
end
end Wk
namespace Wk
open PySem PySem.Spec PyProof.Rows L2
/-- a block with two own names -/
structure BkOk2 (N : List Str) (V : List (Nat × Str)) (G : List Str) (i j : Nat) (x y : Str) (sc scope : Scope) : Prop where
  lo : ∀ p ∈ V, N[p.1]? = some p.2 ∧ Vis (relS scope sc) p.2 ∧ (p.2 == ("__debug__" : Str)) = false ∧ (p.2 == ("__classdict__" : Str)) = false
  gl : ∀ x ∈ G, (relS scope sc).names.lookup x = some .globalImplicit ∧ (x == ("__debug__" : Str)) = false ∧ x ≠ "__name__"
  own : N[i]? = some x ∧ (relS scope sc).names.lookup x = some .local
  own2 : N[j]? = some y ∧ (relS scope sc).names.lookup y = some .local
  ne : i ≠ j
  blk : blkC N sc scope [(x, i), (y, j)] = true
section
variable {X : Cx} {e a b c elt : Expr} {es rest : List Expr} {σ : L2.St} {H : Hp} {Q : VK} {pos p0 : Pos} {N G G' : List Str} {Vn : List (Nat × Str)} {sc scope : Scope}
theorem BkOk2.inB {i j : Nat} {x y : Str} (B : BkOk2 X.N Vn G' i j x y sc scope) (I : In X N G sc) (s : Shared) (H : Hp) (C : Addr) (cl : List (Str × Addr)) (fp : List Addr) : InB (Bk X s H scope C cl fp) Vn G' := by
  have e : (compEnvC scope cl C X.env).scope = relS scope sc := rel_eq I.sc C cl
  refine ⟨I.nd, fun p hp => ?_, fun y hy => ?_⟩
  · obtain ⟨h1, h2, h3, h4⟩ := B.lo p hp
    exact ⟨h1, by show Vis (compEnvC scope cl C X.env).scope p.2; rw [e]; exact h2, h3, h4⟩
  · obtain ⟨h1, h2, h3⟩ := B.gl y hy
    exact ⟨by show (compEnvC scope cl C X.env).scope.names.lookup y = _; rw [e]; exact h1, h2, h3⟩
def gT2 (K : PySem.W.Frag) (i j : Nat) : TG := fun v σ H Q => ∃ a u w, v = .ref a ∧ SqT K H a [u, w] ∧ Q ((σ.set i (some u)).set j (some w)) H
theorem BkOk2.pg {i j : Nat} {x y : Str} {px py pt : Pos} {k : Nat} (B : BkOk2 X.N Vn G' i j x y sc scope) (hc : X.calm = true) (I : In X N G sc) (s : Shared) (H : Hp) (C : Addr) (cl : List (Str × Addr)) (fp : List Addr) : PG (Bk X s H scope C cl fp) (.Tuple [.Name x px, .Name y py] k pt) (gT2 X.K i j) := by
  have e : (compEnvC scope cl C X.env).scope = relS scope sc := rel_eq I.sc C cl
  have l : (Bk X s H scope C cl fp).env.scope.names.lookup x = some .local := by
    show (compEnvC scope cl C X.env).scope.names.lookup x = _
    rw [e]
    exact B.own.2
  have l2 : (Bk X s H scope C cl fp).env.scope.names.lookup y = some .local := by
    show (compEnvC scope cl C X.env).scope.names.lookup y = _
    rw [e]
    exact B.own2.2
  refine ⟨fun pins s σ H v u Q I0 r h => ?_⟩
  obtain ⟨ad, u1, w1, rfl, hq, q⟩ := h
  exact (pg_tup (X := Bk X _ _ scope C cl fp) hc (pgs_cons (pg_name I.nd B.own.1 (.inl l) (.inr l)) (pgs_cons (pg_name I.nd B.own2.1 (.inl l2) (.inr l2)) pgs_nil))).run pins s σ H _ u Q I0 r ⟨ad, [u1, w1], rfl, hq, rfl, u1, [w1], rfl, w1, [], rfl, rfl, q⟩
theorem BkOk2.ok {i j : Nat} {x y : Str} (B : BkOk2 X.N Vn G' i j x y sc scope) (I : In X N G sc) : BlkOk X.N X.env.scope scope [(x, i), (y, j)] := by
  rw [I.sc]
  exact blkOk_by B.blk
theorem wipe2 (σ : L2.St) (i j : Nat) : wipe σ [i, j] = (σ.set j none).set i none := rfl
theorem wipe_set2 (σ : L2.St) {i j : Nat} (h : i ≠ j) (u w : L2.V) : wipe (((wipe σ [i, j]).set i (some u)).set j (some w)) [i, j] = wipe σ [i, j] := by
  rw [wipe2, wipe2]
  apply List.ext_getElem?
  intro k
  by_cases h1 : i = k
  · subst h1
    simp [List.getElem?_set, h.symm]
  · by_cases h2 : j = k
    · subst h2
      simp [List.getElem?_set, h1]
    · simp [List.getElem?_set, h1, h2]
/-- [elt for x, y in a], a list of pairs -/
def LcL2 (X : Cx) (Vn : List (Nat × Str)) (G' : List Str) (elt : Expr) (scope : Scope) (i j : Nat) (ad : Addr) (xs : List L2.V) (D : Addr) (σ : L2.St) (H1 : Hp) (Qd : Hp → Prop) : Prop := ∃ Pv : Nat → Hp → Prop, Pv 0 (upd H1 D (.lst [])) ∧ (∀ k H2, k ≤ xs.length → Pv k H2 → SqL X.K H2 ad xs) ∧
  (∀ k x H2, xs[k]? = some x → Pv k H2 → ∃ t u w, x = .ref t ∧ SqT X.K H2 t [u, w] ∧ ∀ s0 H0 C cl fp, InB (Bk X s0 H0 scope C cl fp) Vn G' → wE (Bk X s0 H0 scope C cl fp) elt (((wipe σ [i, j]).set i (some u)).set j (some w)) H2 fun y H4 => ∃ acc, H4 D = some (.lst acc) ∧ acc.length < sizeLine ∧ Pv (k + 1) (upd H4 D (.lst (acc ++ [y])))) ∧
  ∀ H2, Pv xs.length H2 → Qd H2
theorem pe_bk2 {i j : Nat} {x y : Str} {s0 : Shared} {H0 : Hp} {C : Addr} {cl : List (Str × Addr)} {fp : List Addr} (I : InB (Bk X s0 H0 scope C cl fp) Vn G') : PE (Bk X s0 H0 scope C cl fp) elt (wBk X Vn G' elt scope) := pe_bk I
theorem lcL2_of {i j : Nat} (hij : i ≠ j) {ad : Addr} {xs : List L2.V} {D : Addr} {H1 : Hp} {Qd : Hp → Prop} (q : LcL2 X Vn G' elt scope i j ad xs D σ H1 Qd) : ∃ W : Nat → Nat → Hp → Prop, (∃ m, W 0 m (upd H1 D (.lst []))) ∧ ∀ k m H, W k m H →
    ((Itl X.K ad).stop k H ∧ Qd H) ∨ ((Itl X.K ad).go k H ∧ ∃ Nx : Hp → Prop, (∀ H', Nx H' → ∃ m', m' < m ∧ W (k + 1) m' H') ∧ ∀ x H', (Itl X.K ad).yld k H x H' → gT2 X.K i j x (wipe σ [i, j]) H' fun σ2 H2 => wipe σ2 [i, j] = wipe σ [i, j] ∧ tYes σ2 H2 fun b H3 =>
      if b = true then wBk X Vn G' elt scope σ2 H3 fun y H4 => ∃ acc, H4 D = some (.lst acc) ∧ acc.length < sizeLine ∧ Nx (upd H4 D (.lst (acc ++ [y]))) else Nx H3) := by
  obtain ⟨Pv, h0, hl, hs, hd⟩ := q
  refine lc_list Pv h0 hl (fun k x H hk p => ?_) hd
  obtain ⟨t, u, w, rfl, hq, z⟩ := hs k x H hk p
  refine ⟨t, u, w, rfl, hq, wipe_set2 σ hij u w, ?_⟩
  unfold tYes
  refine iteT ?_
  unfold wBk
  intro s0 H0 C cl fp I
  exact z s0 H0 C cl fp I
theorem e_lcL2 {i j : Nat} {x y : Str} {px py pt : Pos} {kt : Nat} (B : BkOk2 X.N Vn G' i j x y sc scope)
    (q : wE X a σ H fun v H1 => ∃ ad xs, v = .ref ad ∧ SqL X.K H1 ad xs ∧ ∀ D, H1 D = none → LcL2 X Vn G' elt scope i j ad xs D σ H1 fun H2 => Q (.ref D) H2)
    (I : In X N G sc := by assumption) (hc : X.calm = true := by rfl) (hs2 : ∀ z, foldedSetIterable a X.env z = pure z := by intro _; rfl) :
    wE X (.ListComp elt [⟨.Tuple [.Name x px, .Name y py] kt pt, a, [], 0⟩] scope pos) σ H Q := by
  refine e_of (pe_lc (own := [(x, i), (y, j)]) (g := gT2 X.K i j) (tt := tYes) (te := wBk X Vn G' elt scope) hc I.nd (pi_list pe) (B.ok I) (fun s H C cl fp => B.pg hc I s H C cl fp) (fun _ _ _ _ _ => pts_nil) (fun s H C cl fp => pe_bk (B.inB I s H C cl fp)) hs2) (e_mono q fun v H1 q1 => ?_)
  obtain ⟨ad, xs, rfl, hl, q2⟩ := q1
  exact ⟨ad, rfl, ⟨xs, hl⟩, fun D hD => lcL2_of B.ne (q2 D hD)⟩
end
end Wk
namespace Wk
open PySem PySem.Spec PyProof.Rows L2
section
variable {P : Program} {w : World} {K : PySem.W.Frag} {mg : Str → Option Value} {base : Heap}
/-- a def of the module with one keyword-only default -/
structure TopK (K : PySem.W.Frag) (mg : Str → Option Value) (x : Str) (st : Stmt) (kw : Str) (d : L2.V) : Prop where
  ex : ∃ (f : Addr) (fd : FuncData), FunD K x x (defArgs st) (defBody st) (defScope st) [] [(kw, d)] f fd ∧ mg x = some (.ref f)
theorem topK_mk {h : Heap} {x kw : Str} {d : L2.V} {u : Value} {st : Stmt} {f D : Addr} {oc : Value} {od an : Option Addr} {osl : Array (Option Value)} {doc pm cdv ct : Value} (X : K.In h) (G : h.Ns mainGlobals mg) (a : PySem.W.nsIn K mainGlobals x = some (some (.ref f)))
    (l : K.lookup f = some ⟨oc, od, .func (PySem.W.fnOf x x (defArgs st) (defBody st) (defScope st) .none (.ref D) doc pm an cdv ct), osl⟩) (c : PySem.W.codeIn K cdv x = true) (k : PySem.W.keepIn K (.ref f) = true)
    (hd : PySem.W.nsIn K D kw = some (some u)) (r : RelV d u) : TopK K mg x st kw d :=
  ⟨f, _, ⟨⟨oc, od, .none, .ref D, doc, pm, an, cdv, ct, osl, rfl, l, c, .inl ⟨rfl, rfl⟩, .inr ⟨D, rfl, fun q hq => by
    simp only [List.mem_singleton] at hq
    subst hq
    exact ⟨u, hd, r⟩⟩⟩, k⟩, PySem.W.mg_of X G a⟩
theorem fn_okKw {x kw : Str} {d : L2.V} {st : Stmt} {N G : List Str} {p1 p2 : Str} {k : Nat} {sp : Sp} (T : TopK K mg x st kw d) (S : FnScope N [p1, p2, kw] (defScope st)) (O : ScOk N G (defScope st)) (len : ∀ vs H Q E, sp vs H Q E → vs.length = 3)
    (hb : ∀ (D : Addr) (doc pm : Value) (an : Option Addr) (cdv ct : Value) (a b u : Value), KwChain D [(kw, u)] (bindArgs (PySem.W.fnOf x x (defArgs st) (defBody st) (defScope st) .none (.ref D) doc pm an cdv ct) ⟨[a, b], []⟩) [(p1, a), (p2, b), (kw, u)])
    (hb2 : ∀ (kV doc pm : Value) (an : Option Addr) (cdv ct : Value) (a b u : Value), bindArgs (PySem.W.fnOf x x (defArgs st) (defBody st) (defScope st) .none kV doc pm an cdv ct) ⟨[a, b], [(kw, u)]⟩ = pure [(p1, a), (p2, b), (kw, u)])
    (hbody : ∀ (f : Addr) (cdv : Value) (A : Around) (outer : List Env) (s : Shared) (H : Hp) (vs : List L2.V) (Q : VK) (E : XK), Room k (A.deeper (envOfC x (defScope st) s.heap.objs.size f cdv)) → sp vs H Q E → In (cxOf (L2N.CX P w) P w K mg base N x (defScope st) f cdv A outer s H E) N G (defScope st) →
      L2N.Takes (cxOf (L2N.CX P w) P w K mg base N x (defScope st) f cdv A outer s H E) (fun cls d _ H => E cls d H) →
      wL (cxOf (L2N.CX P w) P w K mg base N x (defScope st) f cdv A outer s H E) (defBody st) { nx := fun _ H' => Q .non H', rt := Q } (start N vs) H) : FnKw P w K mg base (k + 1) x kw 2 d sp := by
  obtain ⟨f, fd, F, hm⟩ := T.ex
  have hbd := FunD.binds0 (ps := [p1, p2, kw]) F 2 (by simp) rfl (fun D doc pm an cdv ct us ks l1 l2 => by
    match us, ks, l1, l2 with
    | [a, b], [u], _, _ => exact hb D doc pm an cdv ct a b u)
  obtain ⟨oc, od, dV, kV, doc, pm, an, cdv, ct, osl, rfl, lk, hcd, hD, hK⟩ := id F.ex
  obtain rfl : dV = .none := by
    rcases hD with ⟨_, h⟩ | ⟨h, _⟩
    · exact h
    · exact absurd rfl h
  refine ⟨f, _, [p1, p2, kw], fn_of lk hcd S len (fun A outer s H vs Q E hr h => ⟨_, pl, hbody f cdv A outer s H vs Q E hr h ⟨O, ⟨[], (List.append_nil _).symm⟩, S.nd, rfl, rfl, passes_of rfl⟩ (L2N.takes_of rfl rfl rfl rfl)⟩), hm, F.kp, ?_, fun us ws => us ++ ws, ⟨fun s us ws _ l1 l2 => ?_, fun r1 r2 => r1.append r2⟩⟩
  · obtain ⟨ds, h1, h2⟩ := hbd
    exact ⟨ds, h1, h2⟩
  · match us, ws, l1, l2 with
    | [a, b], [u], _, _ => exact .of_eq (hb2 kV doc pm an cdv ct a b u)
end
end Wk

set_option maxHeartbeats 4000000
/-! My own layer: sorted(set(xs)) of a list of texts. -/
namespace Wk
open PySem PySem.Spec PyProof.Rows L2
/-- one more text, if it is new -/
def addL (l : List Str) (z : Str) : List Str := if z ∈ l then l else l ++ [z]
def txE (e : Int × Value) : Str := strOf e.2
def TxE (w : World) (e : Int × Value) : Prop := ∃ z tk, e.2 = Value.str z tk ∧ e.1 = hashStr w z
/-- the set of the texts L -/
def SetTx (w : World) (h : Heap) (a : Addr) (L : List Str) : Prop :=
  ∃ ob es ep tb, h.get? a = some ob ∧ ob.ExactSet ∧ ob.data = .set es ep tb ∧ (∀ e ∈ es.toList, TxE w e) ∧ (es.toList.map txE).Perm L ∧ L.Nodup ∧
    es.size < scanBound ∧ tb.fits es.size = true ∧ Ris tb.place.toList ∧ (w.params.followText "set-order" = true ∨ tb.led = true)
section
variable {P : Program} {w : World} {h h' : Heap} {a : Addr} {L : List Str}
theorem SetTx.moves (R : SetTx w h a L) (k : ∀ o, h.get? a = some o → h'.get? a = some o) : SetTx w h' a L := by
  obtain ⟨ob, es, ep, tb, g1, rest⟩ := R
  exact ⟨ob, es, ep, tb, k ob g1, rest⟩
theorem tx_elems {l : List (Int × Value)} (g : ∀ e ∈ l, TxE w e) : ElemsOf (PySem.strKind P w) l := fun e m => by
  obtain ⟨z, tk, e1, e2⟩ := g e m
  refine ⟨⟨z, by rw [e1]; exact strKind_is P w z tk, e2⟩, ?_⟩
  rw [e1]
  rfl
theorem tx_is {e : Int × Value} (g : TxE w e) (z : Str) : (PySem.strKind P w).is z e.2 = true ↔ txE e = z := by
  obtain ⟨y, tk, e1, _⟩ := g
  have e2 : txE e = y := by unfold txE; rw [e1]; rfl
  rw [e2, e1]
  constructor
  · intro q
    obtain ⟨u, eu⟩ := Value.isStrOf_shape (x := z) (show Value.isStrOf z (.str y tk) = true from q)
    injection eu
  · rintro rfl
    exact strKind_is P w y tk
theorem tx_mem {l : List (Int × Value)} (g : ∀ e ∈ l, TxE w e) (z : Str) : z ∈ l.map txE ↔ ∃ e ∈ l, (PySem.strKind P w).is z e.2 = true := by
  rw [List.mem_map]
  exact ⟨fun ⟨e, m, q⟩ => ⟨e, m, (tx_is (g e m) z).2 q⟩, fun ⟨e, m, q⟩ => ⟨e, m, (tx_is (g e m) z).1 q⟩⟩
theorem tx_fresh (ho : h.get? a = some { cls := .type "set", dict := none, data := .set #[] 0 (.fresh 0 0 (!w.params.followText "set-order")) }) : SetTx w h a [] := by
  refine ⟨_, #[], 0, _, ho, ⟨rfl, rfl, rfl⟩, rfl, (fun e m => by simp at m), .refl _, List.nodup_nil, by decide, rfl, List.Pairwise.nil, ?_⟩
  show _ ∨ (!w.params.followText "set-order") = true
  cases w.params.followText "set-order" with
  | false => exact .inr rfl
  | true => exact .inl rfl
end
section
variable {P : Program} {w : World} {A : Around} {E : Value → Shared → Prop} {s : Shared} {a : Addr} {L : List Str}
theorem tx_tail {g : Bool → Sem Unit} (hg : ∀ (b : Bool) (s1 : Shared) (Q1 : Unit → Shared → Prop), Q1 () s1 → wpAny (model P w) A (g b) Q1 E s1)
    {ob : Obj} {es : Array (Int × Value)} {ep : Nat} {tb : SetTable} (g0 : s.heap.get? a = some ob) (gx : ob.ExactSet) (gd : ob.data = .set es ep tb)
    {fs : Array (Int × Value)} {t2 : SetTable} {M : List Str} (g1 : ∀ e ∈ fs.toList, TxE w e) (pm1 : (fs.toList.map txE).Perm M) (nd1 : M.Nodup)
    (b1 : fs.size < scanBound) (f1 : t2.fits fs.size = true) (r1 : Ris t2.place.toList) (l1 : w.params.followText "set-order" = true ∨ t2.led = true) {wd : Bool} {R : Option Bool → Shared → Prop}
    (hR : ∀ h1, Heap.SameBut a s.heap h1 → SetTx w h1 a M → R (some true) { s with heap := h1 }) :
    wpAny (model P w) A (do
        storeSet a fs t2
        if (!wd && t2.tooFull) = true then do
            g (relayAll t2 fs (SetTable.grown fs.size)).2.2
            storeSet a (relayAll t2 fs (SetTable.grown fs.size)).1 (relayAll t2 fs (SetTable.grown fs.size)).2.1
            pure (some true)
          else pure (some true)) R E s := by
  refine wpAny_bind (wpAny_storeSet_of g0 gd ?_ (fits_of_scanBound b1))
  have g02 := store_at (es' := fs) (t' := t2) g0 gd
  have sb := Heap.SameBut.update s.heap a (Obj.putSet fs t2)
  split
  · have pm := relayAll_perm t2 fs (SetTable.grown fs.size)
    have f3 := relayAll_fits t2 fs (SetTable.grown fs.size)
    have r3 := relayAll_ris t2 fs (SetTable.grown fs.size)
    have l3 := relayAll_led t2 fs (SetTable.grown fs.size)
    generalize relayAll t2 fs (SetTable.grown fs.size) = Z at pm f3 r3 l3 ⊢
    obtain ⟨gs, t3, gave⟩ := Z
    dsimp only at pm f3 r3 l3 ⊢
    have zs : gs.size = fs.size := by rw [← Array.length_toList, pm.length_eq, Array.length_toList]
    have b2 : gs.size < scanBound := zs ▸ b1
    refine wpAny_bind (hg _ _ _ (wpAny_bind (wpAny_storeSet_of g02 rfl ?_ (fits_of_scanBound b2))))
    have g03 := store_at (es' := gs) (t' := t3) g02 rfl
    refine wpAny_pure (hR _ (sb.trans (Heap.SameBut.update _ a _)) ⟨_, gs, _, t3, g03, gx, rfl, fun e m => g1 e (pm.mem_iff.mp m), (pm.map txE).trans pm1, nd1, b2, f3, r3, ?_⟩)
    rw [l3]
    exact l1
  · exact wpAny_pure (hR _ sb ⟨_, fs, _, t2, g02, gx, rfl, g1, pm1, nd1, b1, f1, r1, l1⟩)
theorem addL_in {z : Str} (m : z ∈ L) : addL L z = L := if_pos m
theorem addL_new {z : Str} (m : z ∉ L) : addL L z = L ++ [z] := if_neg m
theorem tx_add {z : Str} {tk : Tok} {Q : Bool → Shared → Prop} (R : SetTx w s.heap a L) (room : L.length + 1 < scanBound)
    (hQ : ∀ (b : Bool) h1, Heap.SameBut a s.heap h1 → SetTx w h1 a (addL L z) → Q b { s with heap := h1 }) :
    wpAny (model P w) A (setAddHashed a (.str z tk) ((PySem.strKind P w).hash z)) Q E s := by
  obtain ⟨ob, es, ep, tb, g0, gx, gd, g, pm0, nd, bb, ff, rr, ll⟩ := R
  have hkey : (PySem.strKind P w).is z (.str z tk) = true := strKind_is P w z tk
  have hsc : (Value.str z tk).scannable = true := rfl
  have hel : ElemsOf (PySem.strKind P w) es.toList := tx_elems g
  unfold setAddHashed setAddHashedIn
  refine wpAny_holding (wpAny_bind (wpAny_setState_of g0 gd ff ?_))
  dsimp only
  rw [byScan_of hsc bb hel]
  simp only [↓reduceIte]
  unfold setAddByScan
  refine wpAny_bind (wpAny_bind (wpAny_rule (wpAny_bind (wpAny_setScan_of hkey g0 gd ff hel ?_))))
  cases fi : List.findIdx? (fun e => (PySem.strKind P w).is z e.2) es.toList with
  | some j =>
    dsimp only
    obtain ⟨hj, pj, _⟩ := List.findIdx?_eq_some_iff_getElem.mp fi
    have m : z ∈ L := pm0.mem_iff.mp ((tx_mem (P := P) g z).2 ⟨es.toList[j], List.getElem_mem hj, pj⟩)
    refine wpAny_pure (wpAny_pure (hQ _ s.heap (Heap.SameBut.refl a s.heap) ?_))
    rw [addL_in m]
    exact ⟨ob, es, ep, tb, g0, gx, gd, g, pm0, nd, bb, ff, rr, ll⟩
  | none =>
    dsimp only
    have nz : z ∉ L := fun m => by
      obtain ⟨e, me, q⟩ := (tx_mem (P := P) g z).1 (pm0.mem_iff.mpr m)
      have c := List.findIdx?_eq_none_iff.mp fi e me
      rw [q] at c
      cases c
    have hgw : ∀ (b : Bool) {s1 : Shared} {Q1 : Unit → Shared → Prop}, Q1 () s1 → wpAny (model P w) A (match b with | true => rule "set.scan.the-table-gave-way" | false => pure ()) Q1 E s1 :=
      fun b s1 Q1 q => by cases b <;> first | exact wpAny_pure q | exact wpAny_rule q
    have pm := layNew_perm tb es ((PySem.strKind P w).hash z) (.str z tk)
    have f1 := layNew_fits tb es ((PySem.strKind P w).hash z) (.str z tk)
    have r1 := layNew_ris tb es ((PySem.strKind P w).hash z) (.str z tk) rr
    have l1 := layNew_led tb es ((PySem.strKind P w).hash z) (.str z tk)
    generalize layNew tb es ((PySem.strKind P w).hash z) (.str z tk) = Z at pm f1 r1 l1 ⊢
    obtain ⟨fs, t1, wd, gave⟩ := Z
    dsimp only at pm f1 r1 l1 ⊢
    rw [Array.toList_push] at pm
    have pk : (fs.toList.map txE).Perm (addL L z) := by
      rw [addL_new nz]
      refine (pm.map txE).trans ?_
      rw [List.map_append]
      exact pm0.append_right _
    have g1 : ∀ e ∈ fs.toList, TxE w e := fun e m => by
      rcases List.mem_append.mp (pm.mem_iff.mp m) with y | y
      · exact g e y
      · rw [List.mem_singleton.mp y]
        exact ⟨z, tk, rfl, rfl⟩
    have nd1 : (addL L z).Nodup := by
      rw [addL_new nz]
      exact List.nodup_append.mpr ⟨nd, by simp, fun x hx y hy e => by rw [List.mem_singleton] at hy; subst hy; subst e; exact nz hx⟩
    have zs : fs.size = L.length + 1 := by
      have q := pk.length_eq
      rw [addL_new nz, List.length_map, List.length_append, Array.length_toList] at q
      exact q
    have b1 : fs.size < scanBound := by rw [zs]; exact room
    have led : w.params.followText "set-order" = true ∨ t1.led = true := by rw [l1]; exact ll
    refine wpAny_bind (hgw _ ?_)
    split
    · refine wpAny_bind ?_
      rw [hashByValue_scannable 8 hsc]
      refine wpAny_pure (tx_tail ?_ g0 gx gd g1 pk nd1 b1 ?_ ?_ ?_ ?_)
      · intro b s1 Q1 q; cases b <;> first | exact wpAny_pure q | exact wpAny_rule q
      · first | (split <;> first | exact f1 | exact SetTable.fits_plain_off f1) | exact f1
      · first | (split <;> exact r1 rr) | exact r1 rr | (split <;> exact r1) | exact r1
      · first | (split <;> exact led) | exact led
      · intro h1 sb r; dsimp only; exact wpAny_pure (hQ true h1 sb r)
    · refine wpAny_bind (wpAny_pure ?_)
      simp only [↓reduceIte]
      refine tx_tail ?_ g0 gx gd g1 pk nd1 b1 f1 ?_ led ?_
      · intro b s1 Q1 q; cases b <;> first | exact wpAny_pure q | exact wpAny_rule q
      · first | exact r1 | exact r1 rr
      · intro h1 sb r; dsimp only; exact wpAny_pure (hQ true h1 sb r)
end
section
variable {P : Program} {w : World} {A : Around} {E : Value → Shared → Prop} {s : Shared}
def uniqL (zs : List Str) : List Str := zs.foldl addL []
theorem uniqL_snoc (zs : List Str) (z : Str) : uniqL (zs ++ [z]) = addL (uniqL zs) z := by unfold uniqL; rw [List.foldl_append]; rfl
theorem addL_len (l : List Str) (z : Str) : (addL l z).length ≤ l.length + 1 := by unfold addL; split <;> simp
theorem foldL_len : ∀ (zs l : List Str), (zs.foldl addL l).length ≤ l.length + zs.length
  | [], l => by simp
  | z :: zs, l => by
    have h1 := foldL_len zs (addL l z)
    have h2 := addL_len l z
    simp only [List.foldl_cons, List.length_cons]
    omega
theorem uniqL_len (zs : List Str) : (uniqL zs).length ≤ zs.length := by
  have h := foldL_len zs []
  simpa [uniqL] using h
theorem tx_loop {I : Addr} {fp wr : List Addr} {G : Array GenState → Array GenState → Prop} {n : Nat} {Pv : Nat → Value → Prop} {St : Nat → Shared → Prop} {R : Result → Shared → Prop}
    (W : WalksS P w A.in1 I fp wr G n Pv St) (D : Addr) (dfp : D ∉ fp) (zs : List Str) (en : n = zs.length) (hb : zs.length + 1 < scanBound) (hv : ∀ i v, Pv i v → ∃ z t, zs[i]? = some z ∧ v = .str z t) :
    ∀ (k i : Nat) (s : Shared), n - i = k → i ≤ n → St i s → SetTx w s.heap D (uniqL (zs.take i)) →
      (∀ s1, Moved (D :: wr) G s s1 → SetTx w s1.heap D (uniqL zs) → R (.ok (.ret .none)) s1) →
      codeAny (model P w) A (.builtin "set.update.loop" ⟨[.ref D, .ref I], []⟩) R s := by
  have dwr : D ∉ wr := fun m => dfp (W.sub _ m)
  have more : ∀ b ∈ wr, b ∈ D :: wr := fun b m => List.mem_cons_of_mem _ m
  intro k
  induction k with
  | zero =>
    intro i s ek hi st hD hR
    obtain rfl : i = n := by omega
    refine codeAny_builtin PyProof.Rows.F.entry_set_update_loop ?_
    rw [Around.under_plainId PyProof.Rows.F.plain_set_update_loop _]
    show wpAny _ A.in1 (pyNext (.ref I) >>= _) _ _ s
    refine wpAny_bind (W.done s _ _ st fun s1 mv => ?_)
    show wpAny _ A.in1 (ret Value.none) _ _ s1
    rw [List.take_of_length_le (by omega)] at hD
    exact wpAny_pure (hR s1 (mv.mono more) (hD.moves fun o e => mv.heap D o dwr e))
  | succ k ih =>
    intro i s ek hi st hD hR
    have lt : i < n := by omega
    refine codeAny_builtin PyProof.Rows.F.entry_set_update_loop ?_
    rw [Around.under_plainId PyProof.Rows.F.plain_set_update_loop _]
    show wpAny _ A.in1 (pyNext (.ref I) >>= _) _ _ s
    refine wpAny_bind (W.item i s _ _ lt st fun v s1 hp st1 mv => ?_)
    obtain ⟨z, t, hz, rfl⟩ := hv i v hp
    have hD1 : SetTx w s1.heap D (uniqL (zs.take i)) := hD.moves fun o e => mv.heap D o dwr e
    show wpAny _ A.in1 (holding [Value.str z t] (setAdd D (.str z t)) >>= _) _ _ s1
    refine wpAny_bind (wpAny_holding ?_)
    unfold setAdd
    refine wpAny_holding (wpAny_bind ((PySem.strKind P w).pyHash (k := z) (strKind_is _ _ _ _) ?_))
    have hl := uniqL_len (zs.take i)
    rw [List.length_take] at hl
    refine tx_add (s := { s1 with toks := s1.toks + 1 }) hD1 (by omega) fun b h1 sb hD2 => ?_
    rw [← uniqL_snoc, show zs.take i ++ [z] = zs.take (i + 1) by rw [List.take_add_one, hz]; rfl] at hD2
    refine wpAny_pure ⟨plainId_quiet PyProof.Rows.F.plain_set_update_loop _, ih (i + 1) _ (by omega) lt (W.frame _ s1 _ _ st1 (Nat.le_succ _) fun b m o e => ?_) hD2 fun s2 mv2 hD3 => ?_⟩
    · rw [sb.2 b (fun q : b = D => dfp (q ▸ m))]
      exact e
    · refine hR s2 (Moved.trans W.gtrans ((mv.mono more).then_heap (Nat.le_succ _) fun b o m e => ?_) mv2) hD3
      rw [sb.2 b (fun q : b = D => m (by rw [q]; exact List.mem_cons_self))]
      exact e
def freshSet (w : World) : Obj := { cls := .type "set", dict := none, data := .set #[] 0 (.fresh 0 0 (!w.params.followText "set-order")) }
theorem call_setTx {l : Addr} {items : Array Value} (zs : List Str) {Q : Value → Shared → Prop} (hh : A.handled = none) (hl : s.heap.IsList l items) (hit : StrsAre items.toList zs) (hb : zs.length + 1 < scanBound)
    (h : ∀ (h1 : Heap) (tk : Nat), SetTx w h1 s.heap.objs.size (uniqL zs) → (∀ b o, s.heap.get? b = some o → h1.get? b = some o) → Q (.ref s.heap.objs.size) { s with heap := h1, toks := tk }) :
    wpAny (model P w) A (call (.type "set") [.ref l]) Q E s := by
  have hisz : items.size = zs.length := by rw [← StrsAre.len_eq hit, Array.length_toList]
  obtain ⟨c, tl, hmro⟩ := PySem.F.called_set.mro
  have hmade := PySem.F.called_set.made
  have hsub := PySem.F.called_set.sub
  refine wpAny_call (codeAny_of_tree ?_)
  show wpAny _ _ (callAny (.type "set") _) _ _ _
  refine wpAny_pure ⟨Code.quiet_builtin _ (by decide +kernel), codeAny_builtin PySem.F.entry_type_call ?_⟩
  rw [Around.under_plain (weight_type_call_type "set" [.ref l] []) rfl]
  have h1 := PySem.F.called_set.notType
  have h2 := PySem.F.called_set.canCreate
  have hct := PySem.F.typeCall_set_1 (.ref l)
  repeat (any_goals (first | assumption | wp_step))
  refine codeAny_mono (code_set_led1 (.ref l) (E := E) (Q₁ := fun ov s1 => ov = .ref s.heap.objs.size ∧ s1 = { s with heap := s.heap.push (freshSet w) }) ⟨rfl, rfl⟩) fun r s1 hr => ?_
  cases r with
  | error e => exact hr
  | ok fl =>
    cases fl with
    | ret ov =>
      obtain ⟨rfl, rfl⟩ := hr
      have gS : (s.heap.push (freshSet w)).get? s.heap.objs.size = some (freshSet w) := Heap.get?_push_size _ rfl
      have gT : Shared.TypeIs { s with heap := s.heap.push (freshSet w) } (.ref s.heap.objs.size) "set" := ⟨_, gS, rfl⟩
      have hli := PySem.F.called_set.init.lookup
      have hbi := PySem.F.called_set.init.bind (.ref s.heap.objs.size)
      repeat (any_goals (first | assumption | wp_step))
      refine codeAny_mono (codeAny_call_builtin (R := wants (fun r s2 => r = .none ∧ ∃ h1 tk, s2 = { s with heap := h1, toks := tk } ∧ SetTx w h1 s.heap.objs.size (uniqL zs) ∧
          (∀ b o, s.heap.get? b = some o → h1.get? b = some o)) E) PySem.F.called_set.init.plain PySem.F.entry_set_init (check_set_init_1 gT ?_)) fun r2 s2 hr2 => ?_
      · obtain ⟨ol, hol, hcl, nl, hdl⟩ := hl
        obtain ⟨ocls, odict, odata, oslots⟩ := ol
        simp only at hcl hdl
        subst hcl; subst hdl
        have hol1 : (s.heap.push (freshSet w)).get? l = some { cls := .type "list", dict := odict, data := .seq items nl, slots := oslots } := Heap.get?_push_of_some _ hol
        have hsls := PySem.F.sub_list_set
        have hslf := PySem.F.sub_list_frozenset
        have hne : (Value.type "list" == Value.type "dict") = false := by decide
        have hl1 : (s.heap.push (freshSet w)).IsList l items := ⟨_, hol1, rfl, nl, rfl⟩
        unfold Builtin.«set.__init__» noKeywords Builtin.Frozenset.updateFrom
        generalize hPI : pyIter = PI
        wp_walk
        subst hPI
        refine wpAny_pyIter_list hl1 ?_
        refine wpAny_bind (wpAny_runValue ?_)
        have hlS : l < s.heap.objs.size := Heap.lt_size hol
        have hh3 : A.in1.in1.in1.handled = none := by simp [hh]
        have hneI : l ≠ (s.heap.push (freshSet w)).objs.size := by
          rw [Heap.size_push]; exact Nat.ne_of_lt (Nat.lt_succ_of_lt hlS)
        have hSf : s.heap.objs.size ∉ [(s.heap.push (freshSet w)).objs.size, l] := by
          rw [Heap.size_push]; simp only [List.mem_cons, List.mem_singleton, List.not_mem_nil, or_false, not_or]
          exact ⟨Nat.ne_of_lt (Nat.lt_succ_self _), Nat.ne_of_gt hlS⟩
        have hval : ∀ (i : Nat) (v : Value), items[i]? = some v → ∃ z t, zs[i]? = some z ∧ v = .str z t := fun i v hv => by
          have hi : i < zs.length := by rw [← hisz]; exact (Array.getElem?_eq_some_iff.mp hv).1
          obtain ⟨t, e⟩ := SS.strs_at hit i v (by rw [Array.getElem?_toList]; exact hv)
          refine ⟨zs[i], t, List.getElem?_eq_getElem hi, ?_⟩
          rw [e, List.getD_eq_getElem?_getD, List.getElem?_eq_getElem hi] <;> rfl
        refine tx_loop ((Walks.list hh3 _ l hneI items).toS) s.heap.objs.size hSf zs hisz hb hval (items.size - 0) 0 _ (by omega) (Nat.zero_le _)
          ⟨⟨_, Heap.get?_push_size _ rfl, rfl, rfl⟩, (hl1.push _)⟩ (tx_fresh (Heap.get?_push_of_some _ gS)) fun s3 hm hD => ?_
        obtain ⟨h3, g3, d3, tk3, os3⟩ := s3
        obtain rfl : g3 = s.gens := hm.gens
        obtain rfl : d3 = s.drawn := hm.drawn
        obtain rfl : os3 = s.os := hm.os
        show wpAny _ _ _ _ _ _
        refine wpAny_pure ?_
        show wpAny _ _ (ret Value.none) _ _ _
        refine wpAny_pure ⟨rfl, h3, tk3, rfl, hD, fun b o e => ?_⟩
        have hb0 : b < s.heap.objs.size := Heap.lt_size e
        refine hm.heap b o ?_ (Heap.get?_push_of_some _ (Heap.get?_push_of_some _ e))
        simp only [List.mem_cons, List.mem_singleton, List.not_mem_nil, or_false, not_or]
        exact ⟨Nat.ne_of_lt hb0, by rw [Heap.size_push]; exact Nat.ne_of_lt (Nat.lt_succ_of_lt hb0)⟩
      · cases r2 with
        | error e => exact hr2
        | ok fl2 =>
          cases fl2 with
          | ret r =>
            obtain ⟨rfl, h3, tk, rfl, hD, hk⟩ := hr2
            repeat (any_goals (first | assumption | wp_step))
            exact h _ _ hD hk
          | _ => exact hr2.elim
    | _ => exact hr.elim
end
end Wk

set_option maxHeartbeats 4000000
/-! My own layer: sorted of a set of texts, tuple(reversed(t)) of a tuple. -/
namespace Wk
open PySem PySem.Spec PyProof.Rows L2
section
variable {P : Program} {w : World} {A : Around} {E : Value → Shared → Prop} {s : Shared} {a : Addr} {L : List Str}
theorem sorted_setTx {Q : Value → Shared → Prop} (R : SetTx w s.heap a L) (hh : A.handled = none) (h64 : L.length < 64)
    (hQ : ∀ s1 p (out : Array Value) (c : Nat) (ys : List Str), (∀ b o, s.heap.get? b = some o → s1.heap.get? b = some o) → s1.gens = s.gens → s1.os = s.os → s.heap.objs.size ≤ p →
      s1.heap.get? p = some (seqObj "list" out c) → StrsAre out.toList ys → ys.Perm L → sortedS ys = true → Q (.ref p) s1) :
    wpAny (model P w) A (call (.builtin "sorted") [.ref a]) Q E s := by
  obtain ⟨ob, es, ep, tb, g0, gx, gd, g, pm0, nd, bb, ff, rr, ll⟩ := R
  refine Calls.call_function_entry kind_sorted plain_sorted entry_sorted (args_sorted1 _) ?_
  unfold Builtin.«sorted»
  refine wpAny_bind (m := checkCount "sorted" 1 1 _) (wpAny_pure ?_)
  refine wpAny_bind (collect_set (A := A.in1) hh ⟨ob, g0, gx.1, gd⟩ ff bb rr ll fun s1 vs k1 hz g1 o1 pm => ?_)
  have hI : StrsAre vs (vs.map strOf) := strsAre_map vs fun v hv => by
    obtain ⟨e, he, q⟩ := List.mem_map.mp (pm.mem_iff.mp hv)
    obtain ⟨z, tk, e1, _⟩ := g e he
    exact ⟨z, tk, q ▸ e1⟩
  have pk : (vs.map strOf).Perm L := by
    have q := pm.map strOf
    rw [List.map_map] at q
    exact q.trans pm0
  have hvl : vs.length = L.length := by have q := pk.length_eq; rwa [List.length_map] at q
  refine wpAny_bind (wpAny_newList ?_ (by rw [hvl, sizeLine_eq]; omega))
  have hoL : (s1.heap.push (seqObj "list" vs.toArray 0)).get? s1.heap.objs.size = some (seqObj "list" vs.toArray 0) := Heap.get?_push_size _ rfl
  refine wpAny_bind (wpAny_holding (wpAny_call_entry slot_list_sort ⟨_, hoL, rfl⟩ entry_list_sort (list_sort_treeK strKind_oneLt hoL hI.keysOf
    (fun v1 v2 rest e => keyKind_strs (ss := vs.map strOf) (by rw [← e]; exact hI)) (by rw [hvl]; exact h64) fun st hp hs => ⟨_, rfl, ?_⟩) (args_list_sort _)))
  obtain ⟨ys, y1, y2, y3⟩ := sorted_out_str hI hp hs
  obtain ⟨c, hc⟩ := sortedHeap_at (vs := vs) (out := (arrOf st).map (·.2)) hoL
  refine wpAny_pure ⟨_, rfl, hQ _ s1.heap.objs.size _ c ys (fun b u e => ?_) g1 o1 hz hc y1 (y2.trans pk) y3⟩
  have q := k1 b u e
  have lt := Heap.lt_size q
  show (sortedHeap (s1.heap.push (seqObj "list" vs.toArray 0)) s1.heap.objs.size vs ((arrOf st).map (·.2))).get? b = some u
  rw [sortedHeap_old (Nat.ne_of_lt lt) (by rw [size_push']; exact Nat.lt_succ_of_lt lt)]
  exact Heap.get?_push_of_some _ q
end
/-- the set of the texts L at a -/
def SetTO (w : World) (a : Addr) (L : List Str) : HO := .ext fun h => SetTx w h a L
section
variable {X : Cx}
theorem setTO_ok {w : World} {P : Program} {H : Hp} {h : Heap} {a : Addr} {L : List Str} (R : SetTx w h a L) : ObjOk P w H h a (SetTO w a L) := by
  have ⟨o, _, _, _, ho, _⟩ := R
  exact ⟨R, ⟨o, ho⟩, fun _ _ p k => SetTx.moves p k⟩
def rSetOfTx (w : World) (K : PySem.W.Frag) : List V → Hp → VK → Prop := fun xs H Q => ∃ (l : Addr) (zs : List Str), xs = [V.ref l] ∧ SqL K H l (zs.map V.str) ∧ zs.length + 1 < scanBound ∧ ∀ p, H p = none → Q (.ref p) (upd H p (SetTO w p (uniqL zs)))
theorem cr_setOfTx (hc : X.calm = true) : CallR X (.type "set") (rSetOfTx X.w X.K) := by
  intro pins s σ H xs us Q I r h
  obtain ⟨l, zs, rfl, hq, hb, q⟩ := h
  rw [Vals.ref1 r]
  obtain ⟨its, rv, pl, hz⟩ := I.list hq
  refine call_setTx zs (I.ok.hd hc) pl.isList (by simpa using strsAre_of rv) hb fun h1 tk hD k => ?_
  exact ⟨.ref _, upd H s.heap.objs.size (SetTO X.w s.heap.objs.size (uniqL zs)), I.laid (t' := tk) k (Nat.le_refl _) (setTO_ok hD), rfl, q _ (I.hok.fresh (Nat.le_refl _))⟩
def rSortedTx (w : World) : List V → Hp → VK → Prop := fun vs H Q => ∃ (a : Addr) (L : List Str), vs = [V.ref a] ∧ H a = some (SetTO w a L) ∧ L.length < 64 ∧
  ∀ (ys : List Str) (p : Addr), ys.Perm L → sortedS ys = true → H p = none → Q (.ref p) (upd H p (.lst (ys.map V.str)))
theorem cr_sortedTx (hc : X.calm = true) : CallR X (.builtin "sorted") (rSortedTx X.w) := by
  intro pins s σ H vs us Q I r h
  obtain ⟨a, L, rfl, ha, h64, q⟩ := h
  have R : SetTx X.w s.heap a L := (I.hok a _ ha).1
  rw [Vals.ref1 r]
  refine sorted_setTx R (I.ok.hd hc) h64 fun s1 p out c ys k g o hp hg hi pm hs => ?_
  have hlen : (ys.map V.str).length ≤ sizeLine := by rw [List.length_map, pm.length_eq, sizeLine_eq]; omega
  have hn : H p = none := I.hok.fresh hp
  have J : Inv X pins σ (upd H p (.lst (ys.map V.str))) { s with heap := s1.heap, gens := s1.gens, drawn := s1.drawn, toks := s1.toks } :=
    I.call (ch := []) (Un.laid k hp hn) (I.hok.laid k hp ⟨hlen, out.toList, c, vals_of_strs hi, hg⟩) (by rw [g]; exact I.bare) (fun _ z => nomatch z)
  have e : s1 = { s with heap := s1.heap, gens := s1.gens, drawn := s1.drawn, toks := s1.toks } := by
    cases s1
    cases s
    cases o
    rfl
  rw [e]
  exact ⟨.ref p, _, J, rfl, q ys p pm hs hn⟩
end
end Wk

set_option maxHeartbeats 4000000
/-! My own layer: tuple(reversed(t)) of a tuple. -/
namespace Wk
open PySem PySem.Spec PyProof.Rows L2 RT
theorem nolen_rt : typeLookup (.type "reversed") "__len__" = pure none := by rw [typeLookup_type, builtinLookup_eq_fast]; kernel_rfl
theorem hint_rt : typeLookup (.type "reversed") "__length_hint__" = pure (some (.builtin "reversed.__length_hint__")) := by rw [typeLookup_type, builtinLookup_eq_fast]; kernel_rfl
theorem slot_rt_hint : Slot "reversed" "__length_hint__" "reversed.__length_hint__" :=
  .of (owner := "reversed") (n := "__length_hint__") (by rw [typeLookup_type, builtinLookup_eq_fast]; kernel_rfl) (by decide +kernel) (by decide +kernel) (by decide +kernel)
    (by first | exact .inl (by decide +kernel) | exact .inr (by decide +kernel)) (by rw [isSubtype_type]; kernel_rfl)
theorem entry_rt_hint : entryFor table "reversed.__length_hint__" = some Builtin.«reversed.__length_hint__» := entryFor_of_tree (by kernel_rfl)
theorem args_rt_hint (a : Value) : argsOk "reversed.__length_hint__" ⟨[a], []⟩ := by
  unfold argsOk; rw [signature?_of (id := "reversed.__length_hint__") (n := ['_', '_', 't', 'n', 'i', 'h', '_', 'h', 't', 'g', 'n', 'e', 'l', '_', '_']) (o := ['d', 'e', 's', 'r', 'e', 'v', 'e', 'r']) (by kernel_rfl) owner_rt]; kernel_rfl
theorem bind_rt_hint (x : Value) : bindSpecial (.builtin "reversed.__length_hint__") x = pure (.builtin "reversed.__length_hint__", [x]) := by
  unfold bindSpecial
  rw [show typeOf (.builtin "reversed.__length_hint__") = pure (.type "method_descriptor") from by kernel_rfl]
  rfl
section
variable {prog : Program} {w : World} {A : Around} {E : Value → Shared → Prop} {s : Shared}
theorem walks_rt (hh : A.handled = none) (it t : Addr) (ne : t ≠ it) (items : Array Value) (hz : items.size ≤ sizeLine) :
    Walks prog w A it [it, t] [it] items.size (fun i v => items[items.size - 1 - i]? = some v) (fun i h => i ≤ items.size ∧ IsRt h it t ((items.size : Int) - 1 - (i : Int)) ∧ IsTup h t items) where
  sub := fun b m => by simp at m; simp [m]
  frame := fun _ _ _ x k => ⟨x.1, x.2.1.at fun o e => k it (by simp) o e, let ⟨o, e, z⟩ := x.2.2; ⟨o, k t (by simp) o e, z⟩⟩
  item := fun i s Q E hi x hQ => by
    have e1 : (items.size : Int) - 1 - (i : Int) = ((items.size - 1 - i : Nat) : Int) := by omega
    have hit := x.2.1
    rw [e1] at hit
    have hx : items[items.size - 1 - i]? = some (items[items.size - 1 - i]'(by omega)) := Array.getElem?_eq_getElem (by omega)
    refine next_rt_item hit x.2.2 hx hz fun h1 st sb => ?_
    have e2 : ((items.size - 1 - i : Nat) : Int) - 1 = (items.size : Int) - 1 - ((i + 1 : Nat) : Int) := by omega
    rw [e2] at st
    exact hQ _ h1 _ hx ⟨hi, st, let ⟨o, eo, z⟩ := x.2.2; ⟨o, (sb.2 t ne).trans eo, z⟩⟩ fun b o nb eo => sb.extBut b o (fun q => nb (by simp [q])) eo
  done := fun s Q E x hQ => by
    have e1 : (items.size : Int) - 1 - (items.size : Int) = -1 := by omega
    have hit := x.2.1
    rw [e1] at hit
    exact next_rt_end hh hit fun h1 he => hQ h1 s.toks fun b o nb eo => he b o (fun q => nb (by simp [q])) eo
  self := fun _ _ _ _ x hQ => iter_rt x.2.1 hQ
theorem call_rt_hint {it t : Addr} {items : Array Value} {Q : Value → Shared → Prop} (hit : IsRt s.heap it t ((items.size : Int) - 1)) (ht : IsTup s.heap t items) (hz : items.size ≤ sizeLine)
    (hQ : ∀ tk u, Q (.int items.size tk) { s with toks := u }) : wpAny (model prog w) A (call (.builtin "reversed.__length_hint__") [.ref it]) Q E s := by
  obtain ⟨o, ho, hc, hd⟩ := id hit
  have z2 := hz
  rw [sizeLine_eq] at z2
  refine wpAny_call_entry slot_rt_hint hit.typeIs entry_rt_hint ?_ (args_rt_hint _)
  unfold Builtin.«reversed.__length_hint__»
  refine wpAny_bind (wpAny_of_eq (a := Value.ref it) rfl ?_)
  try dsimp only
  refine wpAny_bind (wpAny_field ho hd (x := .ref t) rfl ?_)
  try dsimp only
  have nn : (Value.ref t == Value.none) = false := by
    first | rfl | exact beq_eq_false_iff_ne.mpr (fun z => nomatch z)
  rw [nn]
  simp only [Bool.false_eq_true, ↓reduceIte]
  refine wpAny_bind (len_tuple ht (by omega) ?_)
  refine wpAny_bind (wpAny_of_eq (a := some ((items.size : Nat) : Int)) rfl ?_)
  try dsimp only
  refine wpAny_bind (wpAny_field (s := { s with toks := s.toks + 1 + 1 }) ho hd (x := rawInt ((items.size : Int) - 1)) rfl ?_)
  show wpAny _ _ (if (items.size : Int) < (items.size : Int) - 1 + 1 then _ else _) _ _ _
  rw [if_neg (by omega)]
  have e1 : (items.size : Int) - 1 + 1 = items.size := by omega
  show wpAny _ _ (retInt ((items.size : Int) - 1 + 1)) _ _ _
  rw [e1]
  unfold retInt
  refine wpAny_bind (wpAny_mkInt ?_)
  exact wpAny_pure ⟨_, rfl, hQ _ _⟩
theorem collect_rt {it t : Addr} {items : Array Value} {Q : List Value → Shared → Prop} (hh : A.handled = none) (hit : IsRt s.heap it t ((items.size : Int) - 1)) (ht : IsTup s.heap t items) (ne : t ≠ it) (hz : items.size ≤ sizeLine)
    (hQ : ∀ (h1 : Heap) (tk : Nat) (acc : Array Value), (∀ b o, b ≠ it → s.heap.get? b = some o → h1.get? b = some o) → ItemsOf (fun i v => items[items.size - 1 - i]? = some v) acc items.size → Q acc.toList { s with heap := h1, toks := tk }) :
    wpAny (model prog w) A (collect (.ref it)) Q E s := by
  have W := (walks_rt (prog := prog) (w := w) (A := A.in1) hh it t ne items hz).toS
  obtain ⟨oi, hoi, _⟩ := id hit
  obtain ⟨ot, hot, _⟩ := id ht
  have nSi : s.heap.objs.size ≠ it := Nat.ne_of_gt (Heap.lt_size hoi)
  have nSt : s.heap.objs.size ≠ t := Nat.ne_of_gt (Heap.lt_size hot)
  have nSf : s.heap.objs.size ∉ [it, t] := by simp only [List.mem_cons, List.not_mem_nil, or_false, not_or]; exact ⟨nSi, nSt⟩
  unfold collect
  refine wpAny_bind (wpAny_runValue (codeAny_builtin F.entry_proto_collect ?_))
  rw [Around.under_plainId F.plain_proto_collect _]
  show wpAny _ A.in1 (newList [] >>= fun l' => again (.builtin "list.__iadd__" ⟨[l', .ref it], []⟩)) _ _ s
  refine wpAny_bind (wpAny_newObj_type ?_)
  refine wpAny_pure ⟨plainId_quiet F.plain_list_iadd _, codeAny_builtin F.entry_list_iadd ?_⟩
  rw [Around.under_plainId F.plain_list_iadd _]
  have gS : (s.heap.push { cls := .type "list", data := .seq ([] : List Value).toArray }).get? s.heap.objs.size = some { cls := .type "list", data := .seq ([] : List Value).toArray } := Heap.get?_push_size _ rfl
  have hit1 : IsRt (s.heap.push { cls := .type "list", data := .seq ([] : List Value).toArray }) it t ((items.size : Int) - 1) := hit.at fun o e => Heap.get?_push_of_some _ e
  have ht1 : IsTup (s.heap.push { cls := .type "list", data := .seq ([] : List Value).toArray }) t items := let ⟨o, e, z⟩ := ht; ⟨o, Heap.get?_push_of_some _ e, z⟩
  have hT : ({ s with heap := s.heap.push { cls := .type "list", data := .seq ([] : List Value).toArray } } : Shared).TypeIs (.ref it) "reversed" := IsRt.typeIs (s := { s with heap := s.heap.push { cls := .type "list", data := .seq ([] : List Value).toArray } }) hit1
  have q1 : Builtin.List.listSameRef (.ref s.heap.objs.size) (.ref it) = false := by simp [Builtin.List.listSameRef, nSi]
  show wpAny _ A.in1 (Builtin.List.listExtendWith (.ref s.heap.objs.size) (.ref it) (.ref s.heap.objs.size)) _ _ _
  unfold Builtin.List.listExtendWith
  refine wpAny_bind (wpAny_typeOf hT ?_)
  rw [if_neg (by rw [q1]; decide)]
  refine wpAny_bind (iter_rt (s := { s with heap := s.heap.push { cls := .type "list", data := .seq ([] : List Value).toArray } }) hit1 ?_)
  refine wpAny_bind (wpAny_holding ?_)
  unfold Builtin.List.listLengthHint
  refine wpAny_bind (wpAny_specialOf hT nolen_rt ?_)
  show wpAny _ A.in1 (specialOf (Value.ref it) (Str.ofString "__length_hint__") >>= _) _ _ _
  refine wpAny_bind (wpAny_specialOf hT hint_rt ?_)
  generalize hid : ("reversed.__length_hint__" : String) = id0
  wp_delta
  rw [show splitId id0 = some ("reversed", "__length_hint__") from by subst hid; decide +kernel]
  subst hid
  refine wpAny_bind (wpAny_isInstance (b := true) hT (by rw [isSubtype_type]; kernel_rfl) ?_)
  simp only [Bool.not_true, Bool.false_eq_true, ↓reduceIte]
  rw [if_neg (by decide +kernel)]
  refine wpAny_bind (wpAny_rule ?_)
  refine wpAny_bind (wpAny_of_eq (bind_rt_hint _) ?_)
  dsimp only
  have hh1 : A.in1.handled = none := hh
  refine wpAny_bind (wpAny_attempt (call_rt_hint hit1 ht1 hz fun tk u => ?_))
  have ea : asInt? (Value.int ((items.size : Nat) : Int) tk) = pure (some ((items.size : Nat) : Int)) := rfl
  simp only [ea, pure_bind]
  have z2 := hz
  rw [sizeLine_eq] at z2
  have f1 : Builtin.List.listFitsIndex ((items.size : Nat) : Int) = true := by
    unfold Builtin.List.listFitsIndex
    simp only [Bool.and_eq_true, decide_eq_true_eq]
    omega
  have f2 : ¬ (((items.size : Nat) : Int) < 0) := by omega
  have f3 : Builtin.List.listTooLong ((items.size : Nat) : Int).toNat = false := by
    unfold Builtin.List.listTooLong
    simp only [Int.toNat_natCast, decide_eq_false_iff_not]
    omega
  rw [f1]
  simp only [Bool.not_true, Bool.false_eq_true, ↓reduceIte]
  rw [if_neg f2, f3]
  simp only [Bool.false_eq_true, ↓reduceIte]
  refine wpAny_pure ?_
  have e0 : ((items.size : Nat) : Int) - 1 - ((0 : Nat) : Int) = (items.size : Int) - 1 := by omega
  split
  · refine wpAny_bind (wpAny_rule ?_)
    refine wpAny_bind ?_
    show wpAny _ A.in1 (updateSeq s.heap.objs.size (·.push .none) >>= fun _ => updateSeq s.heap.objs.size (·.pop)) _ _ _
    refine wpAny_bind (wpAny_updateSeq gS rfl ?_ (by rw [sizeLine_eq]; decide) (by rw [sizeLine_eq]; decide))
    have gS3 := Heap.get?_update_self (Obj.mapSeq (·.push Value.none)) gS rfl
    refine wpAny_updateSeq gS3 rfl ?_ (by rw [sizeLine_eq]; decide) (by rw [sizeLine_eq]; decide)
    have gS4 := Heap.get?_update_self (Obj.mapSeq (·.pop)) gS3 rfl
    have oth : ∀ b o, b ≠ s.heap.objs.size → (s.heap.push { cls := .type "list", data := .seq ([] : List Value).toArray }).get? b = some o → (((s.heap.push { cls := .type "list", data := .seq ([] : List Value).toArray }).update s.heap.objs.size (Obj.mapSeq (·.push Value.none))).update s.heap.objs.size (Obj.mapSeq (·.pop))).get? b = some o :=
      fun b o nb e => (Heap.get?_update_other _ _ (Ne.symm nb)).trans ((Heap.get?_update_other _ _ (Ne.symm nb)).trans e)
    refine wpAny_pure ⟨plainId_quiet F.plain_extend_loop _, codeAny_extend_loopS W hz _ nSf _ items.size 0 _ _ _ rfl (Nat.zero_le _) ⟨Nat.zero_le _, ?_, ?_⟩ gS4 (ItemsOf.nil _) fun s1 acc c1 hm hS1 hacc => ?_⟩
    · rw [e0]
      exact hit1.at fun o e => oth it o nSi.symm e
    · exact let ⟨o, e, z⟩ := ht1; ⟨o, oth t o nSt.symm e, z⟩
    · show wpAny _ A (load s.heap.objs.size >>= _) _ _ s1
      refine wpAny_bind (wpAny_load hS1 (wpAny_pure ?_))
      rw [Moved.eq_with hm]
      refine hQ s1.heap s1.toks acc (fun b o nb e => ?_) hacc
      have lt := Heap.lt_size e
      refine hm.heap b o (fun mm => ?_) (oth b o (Nat.ne_of_lt lt) (Heap.get?_push_of_some _ e))
      rcases List.mem_cons.mp mm with e' | mm
      · exact absurd lt (by rw [e']; exact Nat.lt_irrefl _)
      · exact nb (List.mem_singleton.mp mm)
  · have oth : ∀ b o, b ≠ s.heap.objs.size → (s.heap.push { cls := .type "list", data := .seq ([] : List Value).toArray }).get? b = some o → (s.heap.push { cls := .type "list", data := .seq ([] : List Value).toArray }).get? b = some o := fun b o _ e => e
    refine wpAny_pure ⟨plainId_quiet F.plain_extend_loop _, codeAny_extend_loopS W hz _ nSf _ items.size 0 _ _ _ rfl (Nat.zero_le _) ⟨Nat.zero_le _, ?_, ?_⟩ gS (ItemsOf.nil _) fun s1 acc c1 hm hS1 hacc => ?_⟩
    · rw [e0]
      exact hit1.at fun o e => oth it o nSi.symm e
    · exact let ⟨o, e, z⟩ := ht1; ⟨o, oth t o nSt.symm e, z⟩
    · show wpAny _ A (load s.heap.objs.size >>= _) _ _ s1
      refine wpAny_bind (wpAny_load hS1 (wpAny_pure ?_))
      rw [Moved.eq_with hm]
      refine hQ s1.heap s1.toks acc (fun b o nb e => ?_) hacc
      have lt := Heap.lt_size e
      refine hm.heap b o (fun mm => ?_) (oth b o (Nat.ne_of_lt lt) (Heap.get?_push_of_some _ e))
      rcases List.mem_cons.mp mm with e' | mm
      · exact absurd lt (by rw [e']; exact Nat.lt_irrefl _)
      · exact nb (List.mem_singleton.mp mm)
theorem code_tuple_rt {it t : Addr} {items : Array Value} {Q1 : Value → Shared → Prop} (hh : A.handled = none) (hit : IsRt s.heap it t ((items.size : Int) - 1)) (ht : IsTup s.heap t items) (ne : t ≠ it) (hz : items.size ≤ sizeLine)
    (hq : ∀ (h1 : Heap) (tk : Nat) (acc : Array Value), (∀ b o, b ≠ it → s.heap.get? b = some o → h1.get? b = some o) → ItemsOf (fun i v => items[items.size - 1 - i]? = some v) acc items.size →
      Q1 (.ref h1.objs.size) { s with heap := h1.push { cls := .type "tuple", data := .seq acc }, toks := tk }) :
    codeAny (model prog w) A (.call (.builtin "tuple.__new__") ⟨[.type "tuple", .ref it], []⟩) (wants Q1 E) s := by
  refine codeAny_of_tree ?_
  show wpAny _ A.in1 (do checkBuiltinCall "tuple.__new__" ⟨[.type "tuple", .ref it], []⟩; again (.builtin "tuple.__new__" ⟨[.type "tuple", .ref it], []⟩)) _ _ s
  refine wpAny_bind (wpAny_of_eq (F.newCall_tuple_1 _) (wpAny_pure ⟨plainId_quiet F.plain_tuple_new _, codeAny_builtin F.entry_tuple_new ?_⟩))
  rw [Around.under_plainId F.plain_tuple_new _]
  have hsub := sub_tuple_self
  have hinit := init_tuple_lookup
  have hmh := madeHere_tuple
  have hTI : s.TypeIs (.ref it) "reversed" := hit.typeIs
  have hh1 : A.in1.handled = none := hh
  wp_walk using wpAny_typeOf hTI, collect_rt (A := A.in1) hh1 hit ht ne hz
  intro h1 tk acc k hacc
  show wpAny _ _ (Builtin.Tuple.tupleExact acc.toList.toArray >>= fun v => ret v) _ _ _
  unfold Builtin.Tuple.tupleExact
  refine wpAny_bind (wpAny_newObj_type ?_ (by show acc.toList.toArray.size ≤ sizeLine; simp only [Array.toArray_toList]; rw [hacc.1]; exact hz))
  refine wpAny_pure ?_
  have e : acc.toList.toArray = acc := by simp
  rw [e]
  exact hq h1 tk acc k hacc
theorem call_tuple_rt {it t : Addr} {items : Array Value} {Q : Value → Shared → Prop} (hh : A.handled = none) (hit : IsRt s.heap it t ((items.size : Int) - 1)) (ht : IsTup s.heap t items) (ne : t ≠ it) (hz : items.size ≤ sizeLine)
    (hQ : ∀ (h1 : Heap) (tk : Nat) (acc : Array Value), (∀ b o, b ≠ it → s.heap.get? b = some o → h1.get? b = some o) → ItemsOf (fun i v => items[items.size - 1 - i]? = some v) acc items.size →
      Q (.ref h1.objs.size) { s with heap := h1.push { cls := .type "tuple", data := .seq acc }, toks := tk }) :
    wpAny (model prog w) A (call (.type "tuple") [.ref it]) Q E s := by
  refine callType_codes (Q₁ := fun ov s1 => s1.TypeIs ov "tuple" ∧ Q ov s1) F.called_tuple (F.typeCall_tuple_1 _) F.entry_object_init
    (code_tuple_rt (A := A.in1) hh hit ht ne hz fun h1 tk acc k hacc => ⟨⟨_, Heap.get?_push_size _ rfl, rfl⟩, hQ h1 tk acc k hacc⟩) fun ov s1 z => ?_
  exact ⟨z.1, F.args_object_init_2 ov _, object_init_meets F.called_tuple.init.lookup F.called_tuple.made (by decide) prog w A.in1 _ s1 ⟨z.1, rfl, z.2⟩⟩
end
section
variable {X : Cx}
/-- tuple(reversed(x)), x a tuple -/
def tTupRt (K : PySem.W.Frag) (te : TE) : TE := fun σ H Q => te σ H fun v H1 => ∃ (a : Addr) (xs : List V), v = .ref a ∧ SqT K H1 a xs ∧ ∀ q, H1 q = none → Q (.ref q) (upd H1 q (.tup xs.reverse))
theorem pe_tupRt {e : Expr} {te : TE} {p p2 pos pos2 : Pos} (hc : X.calm = true) (hg : Gl X "tuple") (hm : X.mg "tuple" = none) (hg2 : Gl X "reversed") (hm2 : X.mg "reversed" = none) (he : PE X e te)
    (hs : starEach [e] X.env = (false, eval e X.env) :: starEach [] X.env := by rfl)
    (hs2 : starEach [.Call (.Name "reversed" p2) [e] [] pos2] X.env = (false, eval (.Call (.Name "reversed" p2) [e] [] pos2) X.env) :: starEach [] X.env := by rfl) :
    PE X (.Call (.Name "tuple" p) [.Call (.Name "reversed" p2) [e] [] pos2] [] pos) (tTupRt X.K te) := by
  refine ⟨fun pins s σ H Q I h => ?_⟩
  refine Call_ (ld_blt I hg hm boot_tuple (PyProof.Rows.callWith_type1 (args_cons (Call_ (ld_blt I hg2 hm2 PyProof.Rows.boot_reversed (PyProof.Rows.callWith_type1 (args_cons (thn (he.run pins s σ H _ I h) fun u s1 ⟨v, H1, I1, r1, q1⟩ => args_nil ?_) hs) hs rfl))) hs2) hs2 rfl))
  obtain ⟨a, xs, ev, hq, q⟩ := q1
  subst ev
  obtain rfl : u = Value.ref a := r1
  obtain ⟨its, rv, p1, hz⟩ := I1.tuple hq
  have hn : its.toArray.size ≤ sizeLine := by rw [List.size_toArray, ← rv.length]; exact hz
  have hn2 := hn
  rw [sizeLine_eq] at hn2
  refine call_reversed_tup p1 (fun A E Q k => len_tuple p1 (by omega) k) (args_nil ?_)
  have I1' : Inv X pins σ H1 { s1 with toks := s1.toks + 1 + 1 } := I1.tok _
  have k0 : ∀ b o, s1.heap.get? b = some o → (s1.heap.push (rtObj a ((its.toArray.size : Int) - 1))).get? b = some o := fun b o e => Heap.get?_push_of_some _ e
  have I2 : Inv X pins σ H1 { s1 with heap := s1.heap.push (rtObj a ((its.toArray.size : Int) - 1)), toks := s1.toks + 1 + 1 } := I1.kept (t' := s1.toks + 1 + 1) k0
  obtain ⟨f0, f1, f2, f3, f4, f5⟩ := I1.fpOk (H' := H1) (b := s1.heap.objs.size) (Nat.le_refl _) (I1.hok.fresh (Nat.le_refl _))
  obtain ⟨ol, hol, hol2⟩ := id p1
  have ne : a ≠ s1.heap.objs.size := Nat.ne_of_lt (Heap.lt_size hol)
  refine call_tuple_rt (s := { s1 with heap := s1.heap.push (rtObj a ((its.toArray.size : Int) - 1)), toks := s1.toks + 1 + 1 }) (I1.ok.hd hc) ⟨_, Heap.get?_push_size _ rfl, rfl, rfl⟩ ⟨ol, k0 _ _ hol, hol2⟩ ne hn fun h1 tk acc hk hi => ?_
  have I3 : Inv X pins σ H1 { s1 with heap := h1, toks := tk } := I2.turned (t' := tk) (fun b o nb e => hk b o nb e) f0 f1 f3 f4 f5
  refine ⟨.ref h1.objs.size, upd H1 h1.objs.size (.tup xs.reverse), I3.laid (t' := tk) (fun c o e => Heap.get?_push_of_some _ e) (Nat.le_refl _) (show ObjOk X.prog X.w _ _ _ (.tup xs.reverse) from ⟨by rw [List.length_reverse]; exact hz, acc.toList, vals_rev rv hi, ?_⟩), rfl, q _ (I3.hok.fresh (Nat.le_refl _))⟩
  rw [Array.toArray_toList]
  exact IsTup.new _ _
end
end Wk

set_option maxHeartbeats 4000000
/-! My own layer: comprehensions with a test, over a list and over a dict; dict comprehensions; dicts; loops over tuples of three. -/
namespace Wk
open PySem PySem.Spec PyProof.Rows L2
section
variable {X : Cx} {e a b c elt kx vx : Expr} {es rest : List Expr} {σ : L2.St} {H : Hp} {Q : VK} {pos p0 : Pos} {N G G' : List Str} {Vn : List (Nat × Str)} {sc scope : Scope}
@[irreducible] def wBkT (X : Cx) (Vn : List (Nat × Str)) (G' : List Str) (c : Expr) (scope : Scope) : TT := fun σ H Q => ∀ s0 H0 C cl fp, InB (Bk X s0 H0 scope C cl fp) Vn G' → wT (Bk X s0 H0 scope C cl fp) c σ H Q
theorem pts_bk {s0 : Shared} {H0 : Hp} {C : Addr} {cl : List (Str × Addr)} {fp : List Addr} (I : InB (Bk X s0 H0 scope C cl fp) Vn G') : PTs (Bk X s0 H0 scope C cl fp) [c] (wBkT X Vn G' c scope) :=
  pts_one ⟨fun pins s σ H Q Iv h => by unfold wBkT at h; exact pt.run pins s σ H Q Iv (h s0 H0 C cl fp I)⟩
/-- what the turns ask where there is a test -/
def Turn1 (X : Cx) (Vn : List (Nat × Str)) (G' : List Str) (elt c : Expr) (scope : Scope) (i : Nat) (D : Addr) (σ : L2.St) (x : L2.V) (H2 : Hp) (Nx : Hp → Prop) : Prop :=
  ∀ s0 H0 C cl fp, InB (Bk X s0 H0 scope C cl fp) Vn G' → wT (Bk X s0 H0 scope C cl fp) c ((wipe σ [i]).set i (some x)) H2 fun b H3 =>
    if b = true then ∀ s0 H0 C cl fp, InB (Bk X s0 H0 scope C cl fp) Vn G' → wE (Bk X s0 H0 scope C cl fp) elt ((wipe σ [i]).set i (some x)) H3 fun y H4 => ∃ acc, H4 D = some (.lst acc) ∧ acc.length < sizeLine ∧ Nx (upd H4 D (.lst (acc ++ [y]))) else Nx H3
theorem turn1_of {i : Nat} {D : Addr} {x : L2.V} {H2 : Hp} {Nx : Hp → Prop} (q : Turn1 X Vn G' elt c scope i D σ x H2 Nx) : gName i x (wipe σ [i]) H2 fun σ2 H3 => wipe σ2 [i] = wipe σ [i] ∧ wBkT X Vn G' c scope σ2 H3 fun b H4 =>
    if b = true then wBk X Vn G' elt scope σ2 H4 fun y H5 => ∃ acc, H5 D = some (.lst acc) ∧ acc.length < sizeLine ∧ Nx (upd H5 D (.lst (acc ++ [y]))) else Nx H4 := by
  refine ⟨wipe_set σ i _, ?_⟩
  unfold wBkT
  intro s0 H0 C cl fp I
  refine t_mono (q s0 H0 C cl fp I) fun b H4 z => ?_
  cases b with
  | true =>
    unfold wBk
    exact iteT z
  | false => exact iteF z
def LcLf (X : Cx) (Vn : List (Nat × Str)) (G' : List Str) (elt c : Expr) (scope : Scope) (i : Nat) (ad : Addr) (xs : List L2.V) (D : Addr) (σ : L2.St) (H1 : Hp) (Qd : Hp → Prop) : Prop := ∃ Pv : Nat → Hp → Prop, Pv 0 (upd H1 D (.lst [])) ∧ (∀ k H2, k ≤ xs.length → Pv k H2 → SqL X.K H2 ad xs) ∧
  (∀ k x H2, xs[k]? = some x → Pv k H2 → Turn1 X Vn G' elt c scope i D σ x H2 (Pv (k + 1))) ∧ ∀ H2, Pv xs.length H2 → Qd H2
def LcDf (X : Cx) (Vn : List (Nat × Str)) (G' : List Str) (elt c : Expr) (scope : Scope) (i : Nat) (d : Addr) (o : Obj) (kvs : List (Key × L2.V)) (D : Addr) (σ : L2.St) (H1 : Hp) (Qd : Hp → Prop) : Prop := ∃ Pv : Nat → Hp → Prop, Pv 0 (upd H1 D (.lst [])) ∧ (∀ k H2, k ≤ kvs.length → Pv k H2 → H2 d = some (.frz o (.dK kvs))) ∧
  (∀ k y v H2, kvs[k]? = some (y, v) → Pv k H2 → Turn1 X Vn G' elt c scope i D σ (kV y) H2 (Pv (k + 1))) ∧ ∀ H2, Pv kvs.length H2 → Qd H2
theorem lcLf_of {i : Nat} {ad : Addr} {xs : List L2.V} {D : Addr} {H1 : Hp} {Qd : Hp → Prop} (q : LcLf X Vn G' elt c scope i ad xs D σ H1 Qd) : ∃ W : Nat → Nat → Hp → Prop, (∃ m, W 0 m (upd H1 D (.lst []))) ∧ ∀ k m H, W k m H →
    ((Itl X.K ad).stop k H ∧ Qd H) ∨ ((Itl X.K ad).go k H ∧ ∃ Nx : Hp → Prop, (∀ H', Nx H' → ∃ m', m' < m ∧ W (k + 1) m' H') ∧ ∀ x H', (Itl X.K ad).yld k H x H' → gName i x (wipe σ [i]) H' fun σ2 H2 => wipe σ2 [i] = wipe σ [i] ∧ wBkT X Vn G' c scope σ2 H2 fun b H3 =>
      if b = true then wBk X Vn G' elt scope σ2 H3 fun y H4 => ∃ acc, H4 D = some (.lst acc) ∧ acc.length < sizeLine ∧ Nx (upd H4 D (.lst (acc ++ [y]))) else Nx H3) := by
  obtain ⟨Pv, h0, hl, hs, hd⟩ := q
  exact lc_list Pv h0 hl (fun k x H hk p => turn1_of (hs k x H hk p)) hd
theorem lcDf_of {i : Nat} {d : Addr} {o : Obj} {kvs : List (Key × L2.V)} {D : Addr} {H1 : Hp} {Qd : Hp → Prop} (q : LcDf X Vn G' elt c scope i d o kvs D σ H1 Qd) : ∃ W : Nat → Nat → Hp → Prop, (∃ m, W 0 m (upd H1 D (.lst []))) ∧ ∀ k m H, W k m H →
    ((Itk d o kvs).stop k H ∧ Qd H) ∨ ((Itk d o kvs).go k H ∧ ∃ Nx : Hp → Prop, (∀ H', Nx H' → ∃ m', m' < m ∧ W (k + 1) m' H') ∧ ∀ x H', (Itk d o kvs).yld k H x H' → gName i x (wipe σ [i]) H' fun σ2 H2 => wipe σ2 [i] = wipe σ [i] ∧ wBkT X Vn G' c scope σ2 H2 fun b H3 =>
      if b = true then wBk X Vn G' elt scope σ2 H3 fun y H4 => ∃ acc, H4 D = some (.lst acc) ∧ acc.length < sizeLine ∧ Nx (upd H4 D (.lst (acc ++ [y]))) else Nx H3) := by
  obtain ⟨Pv, h0, hl, hs, hd⟩ := q
  refine ⟨fun k m H => m = kvs.length - k ∧ k ≤ kvs.length ∧ Pv k H, ⟨kvs.length, rfl, Nat.zero_le _, h0⟩, ?_⟩
  rintro k m H ⟨rfl, hk, p⟩
  have fz := hl k H hk p
  by_cases lt : k < kvs.length
  · refine .inr ⟨⟨fz, lt⟩, Pv (k + 1), fun H' p' => ⟨kvs.length - (k + 1), by omega, rfl, lt, p'⟩, fun x H' y => ?_⟩
    obtain ⟨rfl, ky, v, hkv, rfl⟩ := y
    exact turn1_of (hs k ky v _ hkv p)
  · have ek : k = kvs.length := by omega
    subst ek
    exact .inl ⟨⟨fz, Nat.le_refl _⟩, hd H p⟩
theorem e_lcLf {i : Nat} {x : Str} {px : Pos} (B : BkOk X.N Vn G' i x sc scope)
    (q : wE X a σ H fun v H1 => ∃ ad xs, v = .ref ad ∧ SqL X.K H1 ad xs ∧ ∀ D, H1 D = none → LcLf X Vn G' elt c scope i ad xs D σ H1 fun H2 => Q (.ref D) H2)
    (I : In X N G sc := by assumption) (hc : X.calm = true := by rfl) (hs2 : ∀ z, foldedSetIterable a X.env z = pure z := by intro _; rfl) :
    wE X (.ListComp elt [⟨.Name x px, a, [c], 0⟩] scope pos) σ H Q := by
  refine e_of (pe_lc (own := [(x, i)]) (g := gName i) (tt := wBkT X Vn G' c scope) (te := wBk X Vn G' elt scope) hc I.nd (pi_list pe) (B.ok I) (fun s H C cl fp => B.pg I s H C cl fp) (fun s H C cl fp => pts_bk (B.inB I s H C cl fp)) (fun s H C cl fp => pe_bk (B.inB I s H C cl fp)) hs2) (e_mono q fun v H1 q1 => ?_)
  obtain ⟨ad, xs, rfl, hl, q2⟩ := q1
  exact ⟨ad, rfl, ⟨xs, hl⟩, fun D hD => lcLf_of (q2 D hD)⟩
theorem s_lcLf {nx : L2.St → Hp → Prop} {rt : VK} {bk ct : L2.St → Hp → Prop} {i j : Nat} {x y : Str} {px py spos : Pos} (B : BkOk X.N Vn G' i x sc scope)
    (q : wE X a σ H fun v H1 => ∃ ad xs, v = .ref ad ∧ SqL X.K H1 ad xs ∧ ∀ D, H1 D = none → LcLf X Vn G' elt c scope i ad xs D σ H1 fun H2 => nx (σ.set j (some (.ref D))) H2)
    (I : In X N G sc := by assumption) (hc : X.calm = true := by rfl) (hA : At N j y := by repeat (first | with_reducible apply At.z | with_reducible apply At.s))
    (hk : X.env.scope.kind = .function := by rfl) (hy : X.env.scope.names.lookup y = some .local := by rfl) (hl : (py.line == pos.line) = true := by rfl) (ha : (scope.names.any fun (n, k) => n == y && (k == .local || k == .cell)) = false := by decide +kernel) (hs2 : ∀ z, foldedSetIterable a X.env z = pure z := by intro _; rfl) :
    wS X (.Assign [.Name y py] (.ListComp elt [⟨.Name x px, a, [c], 0⟩] scope pos) spos) ⟨nx, rt, bk, ct⟩ σ H := by
  refine s_of (ps_setLc (own := [(x, i)]) (g := gName i) (tt := wBkT X Vn G' c scope) (te := wBk X Vn G' elt scope) hc I.nd (I.hi hA) hy (sw_true hk hy hl ha) (pi_list pe) (B.ok I) (fun s H C cl fp => B.pg I s H C cl fp) (fun s H C cl fp => pts_bk (B.inB I s H C cl fp)) (fun s H C cl fp => pe_bk (B.inB I s H C cl fp)) hs2) (e_mono q fun v H1 q1 => ?_)
  obtain ⟨ad, xs, rfl, hl, q2⟩ := q1
  exact ⟨ad, rfl, ⟨xs, hl⟩, fun D hD => lcLf_of (q2 D hD)⟩
/-- [elt for x in d if c], d a dict that stands at ad -/
theorem e_lcDf {i : Nat} {x : Str} {px : Pos} {ad : Addr} {kvs : List (Key × L2.V)} (B : BkOk X.N Vn G' i x sc scope) (hd : H ad = some (.dK kvs))
    (q : ∀ o, wE X a σ (upd H ad (.frz o (.dK kvs))) fun v H1 => v = .ref ad ∧ H1 ad = some (.frz o (.dK kvs)) ∧ ∀ D, H1 D = none → LcDf X Vn G' elt c scope i ad o kvs D σ H1 fun H2 => H2 ad = some (.frz o (.dK kvs)) ∧ Q (.ref D) (upd H2 ad (.dK kvs)))
    (I : In X N G sc := by assumption) (hc : X.calm = true := by rfl) (hs2 : ∀ z, foldedSetIterable a X.env z = pure z := by intro _; rfl) :
    wE X (.ListComp elt [⟨.Name x px, a, [c], 0⟩] scope pos) σ H Q := by
  refine e_of (pe_lock (pe_lc (own := [(x, i)]) (g := gName i) (tt := wBkT X Vn G' c scope) (te := wBk X Vn G' elt scope) hc I.nd (pi_keys pe) (B.ok I) (fun s H C cl fp => B.pg I s H C cl fp) (fun s H C cl fp => pts_bk (B.inB I s H C cl fp)) (fun s H C cl fp => pe_bk (B.inB I s H C cl fp)) hs2)) ?_
  refine ⟨ad, .dK kvs, hd, trivial, fun o => e_mono (q o) fun v H1 q1 => ?_⟩
  obtain ⟨rfl, h1, q2⟩ := q1
  exact ⟨ad, o, rfl, .inl ⟨kvs, h1, fun D hD => lcDf_of (q2 D hD)⟩⟩
end
end Wk
namespace Wk
open PySem PySem.Spec PyProof.Rows L2
section
variable {X : Cx} {e a b c elt kx vx o : Expr} {es rest : List Expr} {σ : L2.St} {H : Hp} {Q : VK} {pos p0 apos : Pos} {N G G' : List Str} {Vn : List (Nat × Str)} {sc scope : Scope}
theorem sw_trueD {gs : List Comprehension} {py : Pos} {y : Str} {l : Nat} {env : Env} (hk : env.scope.kind = .function) (hy : env.scope.names.lookup y = some .local) (hl : (py.line == pos.line) = true)
    (ha : (scope.names.any fun (n, k) => n == y && (k == .local || k == .cell)) = false) : swapsWith (.DictComp kx vx gs scope pos) (some (.Name y py)) l env = pure true := by
  have ky : env.kindOf y = some .local := hy
  have hb : env.blockKind = .function := by unfold Env.blockKind; rw [hk]; rfl
  unfold swapsWith
  simp only [hb, ky, ha, Expr.pos, hl]
  rfl
theorem ps_setDc {i : Nat} {y : Str} {py : Pos} {tg iter : Expr} {ifs : List Expr} {own : List (Str × Nat)} {spos : Pos} {wi : TI} {g : TG} {tt : TT} {tk tv : TE} (hc : X.calm = true) (hN : X.N.Nodup) (hy : X.N[i]? = some y) (hyl : X.env.scope.names.lookup y = some .local)
    (hsw : swapsWith (.DictComp kx vx [⟨tg, iter, ifs, 0⟩] scope pos) (some (.Name y py)) spos.line X.env = pure true) (hi : PI X tg iter wi) (ok : BlkOk X.N X.env.scope scope own)
    (hg : ∀ (s : Shared) (H : Hp) (C : Addr) (cl : List (Str × Addr)) (fp : List Addr), PG (X.blk s H scope (compEnvC scope cl C X.env) fp) tg g) (ht : ∀ (s : Shared) (H : Hp) (C : Addr) (cl : List (Str × Addr)) (fp : List Addr), PTs (X.blk s H scope (compEnvC scope cl C X.env) fp) ifs tt)
    (hkx : ∀ (s : Shared) (H : Hp) (C : Addr) (cl : List (Str × Addr)) (fp : List Addr), PE (X.blk s H scope (compEnvC scope cl C X.env) fp) kx tk)
    (hvx : ∀ (s : Shared) (H : Hp) (C : Addr) (cl : List (Str × Addr)) (fp : List Addr), PE (X.blk s H scope (compEnvC scope cl C X.env) fp) vx tv) (hs : ∀ x, foldedSetIterable iter X.env x = pure x) :
    PS X (.Assign [.Name y py] (.DictComp kx vx [⟨tg, iter, ifs, 0⟩] scope pos) spos) (tAsg (tDc wi g tt tk tv (own.map (·.2))) (gName i)) := by
  refine ⟨fun pins s σ H D I h => ?_⟩
  rw [exec_Assign_Name_used _ _ _ _ hsw]
  refine wpAny_bind (wpAny_standAt (wpAny_bind ?_))
  show wpAny _ X.A (do let _ ← comprehension (.DictComp kx vx [⟨tg, iter, ifs, 0⟩] scope pos) scope X.env (firstIterPos [⟨tg, iter, ifs, 0⟩] pos) newDict false (eval iter X.env) (some (assign (.Name y py) X.env))) _ _ s
  have h : tDc wi g tt tk tv (own.map (·.2)) σ H (fun x H1 => gName i x σ H1 D.nx) := h
  refine wpAny_bind (thn (dc_core (Qf := fun _ s' => SP X pins D .next s') hc hN I hi ok hg ht hkx hvx hs h fun L C s' m H' I' q hn f => ?_) fun _ s' hq => wpAny_pure (wpAny_pure hq))
  show wpAny _ _ (assign (.Name y py) X.env (.ref L)) _ _ _
  refine wpAny_assign_Name (store_ok2 (v := V.ref L) I' hN hy (.inl hyl) rfl (fun s2 I2 ⟨ad, sb, had⟩ => ?_) (.inr hyl))
  obtain ⟨f0, f1, f2, f3, f4, f5⟩ := f
  have nC : C ≠ ad := by
    rcases had with z | z
    · rw [z]; exact f1
    · exact fun e => f4 y ad z e.symm
  exact ⟨m, hn.sameBut sb nC, fun h3 sb3 => ⟨_, H', I2.turned (t' := s2.toks) (fun b o hb e => (sb3.2 b hb).trans e) f0 f1 f3 f4 f5, q⟩⟩
/-- d = {k: v for x in a}, a a list that stays -/
def DcL (X : Cx) (Vn : List (Nat × Str)) (G' : List Str) (kx vx : Expr) (scope : Scope) (i : Nat) (ad : Addr) (xs : List L2.V) (D : Addr) (σ : L2.St) (H1 : Hp) (Qd : Hp → Prop) : Prop := ∃ Pv : Nat → Hp → Prop, Pv 0 (upd H1 D (.dK [])) ∧ (∀ k H2, k ≤ xs.length → Pv k H2 → SqL X.K H2 ad xs) ∧
  (∀ k x H2, xs[k]? = some x → Pv k H2 → ∀ s0 H0 C cl fp, InB (Bk X s0 H0 scope C cl fp) Vn G' → wE (Bk X s0 H0 scope C cl fp) kx ((wipe σ [i]).set i (some x)) H2 fun y H3 => ∀ s0 H0 C cl fp, InB (Bk X s0 H0 scope C cl fp) Vn G' →
    wE (Bk X s0 H0 scope C cl fp) vx ((wipe σ [i]).set i (some x)) H3 fun z H4 => ∃ kvs ky, y = kV ky ∧ H4 D = some (.dK kvs) ∧ kvs.length < sizeLine ∧ Pv (k + 1) (upd H4 D (.dK (putK kvs ky z)))) ∧
  ∀ H2, Pv xs.length H2 → Qd H2
theorem dcL_of {i : Nat} {ad : Addr} {xs : List L2.V} {D : Addr} {H1 : Hp} {Qd : Hp → Prop} (q : DcL X Vn G' kx vx scope i ad xs D σ H1 Qd) : ∃ W : Nat → Nat → Hp → Prop, (∃ m, W 0 m (upd H1 D (.dK []))) ∧ ∀ k m H, W k m H →
    ((Itl X.K ad).stop k H ∧ Qd H) ∨ ((Itl X.K ad).go k H ∧ ∃ Nx : Hp → Prop, (∀ H', Nx H' → ∃ m', m' < m ∧ W (k + 1) m' H') ∧ ∀ x H', (Itl X.K ad).yld k H x H' → gName i x (wipe σ [i]) H' fun σ2 H2 => wipe σ2 [i] = wipe σ [i] ∧ tYes σ2 H2 fun b H3 =>
      if b = true then wBk X Vn G' kx scope σ2 H3 fun y H4 => wBk X Vn G' vx scope σ2 H4 fun z H5 => ∃ kvs k, y = kV k ∧ H5 D = some (.dK kvs) ∧ kvs.length < sizeLine ∧ Nx (upd H5 D (.dK (putK kvs k z))) else Nx H3) := by
  obtain ⟨Pv, h0, hl, hs, hd⟩ := q
  refine ⟨fun k m H => m = xs.length - k ∧ k ≤ xs.length ∧ Pv k H, ⟨xs.length, rfl, Nat.zero_le _, h0⟩, ?_⟩
  rintro k m H ⟨rfl, hk, p⟩
  have sq := hl k H hk p
  by_cases lt : k < xs.length
  · refine .inr ⟨⟨xs, xs[k], sq, by simp [lt]⟩, Pv (k + 1), fun H' p' => ⟨xs.length - (k + 1), by omega, rfl, lt, p'⟩, fun x H' y => ?_⟩
    obtain ⟨rfl, y⟩ := y
    refine ⟨wipe_set σ i _, ?_⟩
    unfold tYes
    refine iteT ?_
    unfold wBk
    intro s0 H0 C cl fp I
    exact hs k x _ (y xs sq) p s0 H0 C cl fp I
  · have ek : k = xs.length := by omega
    subst ek
    exact .inl ⟨⟨xs, sq, Nat.le_refl _⟩, hd H p⟩
theorem s_dcL {nx : L2.St → Hp → Prop} {rt : VK} {bk ct : L2.St → Hp → Prop} {i j : Nat} {x y : Str} {px py spos : Pos} (B : BkOk X.N Vn G' i x sc scope)
    (q : wE X a σ H fun v H1 => ∃ ad xs, v = .ref ad ∧ SqL X.K H1 ad xs ∧ ∀ D, H1 D = none → DcL X Vn G' kx vx scope i ad xs D σ H1 fun H2 => nx (σ.set j (some (.ref D))) H2)
    (I : In X N G sc := by assumption) (hc : X.calm = true := by rfl) (hA : At N j y := by repeat (first | with_reducible apply At.z | with_reducible apply At.s))
    (hk : X.env.scope.kind = .function := by rfl) (hy : X.env.scope.names.lookup y = some .local := by rfl) (hl : (py.line == pos.line) = true := by rfl) (ha : (scope.names.any fun (n, k) => n == y && (k == .local || k == .cell)) = false := by decide +kernel) (hs2 : ∀ z, foldedSetIterable a X.env z = pure z := by intro _; rfl) :
    wS X (.Assign [.Name y py] (.DictComp kx vx [⟨.Name x px, a, [], 0⟩] scope pos) spos) ⟨nx, rt, bk, ct⟩ σ H := by
  refine s_of (ps_setDc (own := [(x, i)]) (g := gName i) (tt := tYes) (tk := wBk X Vn G' kx scope) (tv := wBk X Vn G' vx scope) hc I.nd (I.hi hA) hy (sw_trueD hk hy hl ha) (pi_list pe) (B.ok I) (fun s H C cl fp => B.pg I s H C cl fp) (fun _ _ _ _ _ => pts_nil) (fun s H C cl fp => pe_bk (B.inB I s H C cl fp)) (fun s H C cl fp => pe_bk (B.inB I s H C cl fp)) hs2) (e_mono q fun v H1 q1 => ?_)
  obtain ⟨ad, xs, rfl, hl, q2⟩ := q1
  exact ⟨ad, rfl, ⟨xs, hl⟩, fun D hD => dcL_of (q2 D hD)⟩
theorem e_dcL {i : Nat} {x : Str} {px : Pos} (B : BkOk X.N Vn G' i x sc scope)
    (q : wE X a σ H fun v H1 => ∃ ad xs, v = .ref ad ∧ SqL X.K H1 ad xs ∧ ∀ D, H1 D = none → DcL X Vn G' kx vx scope i ad xs D σ H1 fun H2 => Q (.ref D) H2)
    (I : In X N G sc := by assumption) (hc : X.calm = true := by rfl) (hs2 : ∀ z, foldedSetIterable a X.env z = pure z := by intro _; rfl) :
    wE X (.DictComp kx vx [⟨.Name x px, a, [], 0⟩] scope pos) σ H Q := by
  refine e_of (pe_dc (own := [(x, i)]) (g := gName i) (tt := tYes) (tk := wBk X Vn G' kx scope) (tv := wBk X Vn G' vx scope) hc I.nd (pi_list pe) (B.ok I) (fun s H C cl fp => B.pg I s H C cl fp) (fun _ _ _ _ _ => pts_nil) (fun s H C cl fp => pe_bk (B.inB I s H C cl fp)) (fun s H C cl fp => pe_bk (B.inB I s H C cl fp)) hs2) (e_mono q fun v H1 q1 => ?_)
  obtain ⟨ad, xs, rfl, hl, q2⟩ := q1
  exact ⟨ad, rfl, ⟨xs, hl⟩, fun D hD => dcL_of (q2 D hD)⟩
/-- for x, y, z in t, a tuple of triples -/
theorem s_forT3 {nx : L2.St → Hp → Prop} {rt : VK} {bk ct : L2.St → Hp → Prop} {x y z : Str} {i j k : Nat} {body : List Stmt} {px py pz pt : Pos} {kk : Nat}
    (q : wE X a σ H fun v H1 => ∃ ad xs, v = .ref ad ∧ SqT X.K H1 ad xs ∧ ∃ Pv : Nat → L2.St → Hp → Prop, Pv 0 σ H1 ∧ (∀ n σ H, n ≤ xs.length → Pv n σ H → SqT X.K H ad xs) ∧
      (∀ n u σ H, xs[n]? = some u → Pv n σ H → ∃ t u1 u2 u3, u = .ref t ∧ SqT X.K H t [u1, u2, u3] ∧ wL X body ⟨Pv (n + 1), rt, nx, Pv (n + 1)⟩ (((σ.set i (some u1)).set j (some u2)).set k (some u3)) H) ∧ ∀ σ H, Pv xs.length σ H → nx σ H)
    (I : In X N G sc := by assumption) (hc : X.calm = true := by rfl) (hA : At N i x := by repeat (first | with_reducible apply At.z | with_reducible apply At.s)) (hB : At N j y := by repeat (first | with_reducible apply At.z | with_reducible apply At.s)) (hC : At N k z := by repeat (first | with_reducible apply At.z | with_reducible apply At.s))
    (hs2 : ∀ z, foldedSetIterable a X.env z = pure z := by intro _; rfl) :
    wS X (.For (.Tuple [.Name x px, .Name y py, .Name z pz] kk pt) a body [] pos) ⟨nx, rt, bk, ct⟩ σ H := by
  refine s_of (ps_for I.never hc (pi_tup pe) (pg_tup hc (pgs_cons (pg_name I.nd (I.hi hA) (I.loc hA) I.f) (pgs_cons (pg_name I.nd (I.hi hB) (I.loc hB) I.f) (pgs_cons (pg_name I.nd (I.hi hC) (I.loc hC) I.f) pgs_nil)))) pl hs2) (e_mono q fun v H1 q1 => ?_)
  obtain ⟨ad, xs, rfl, hl, Pv, h0, hk, hb, hd⟩ := q1
  refine ⟨ad, rfl, ⟨xs, hl⟩, for_tup Pv h0 hk (fun n u σ H hu p => ?_) hd⟩
  obtain ⟨t, u1, u2, u3, rfl, hq, z⟩ := hb n u σ H hu p
  exact ⟨t, [u1, u2, u3], rfl, hq, rfl, u1, [u2, u3], rfl, u2, [u3], rfl, u3, [], rfl, rfl, z⟩
end
end Wk

set_option maxHeartbeats 4000000
/-! My own layer: dicts, membership, least and greatest of a list, and the like. -/
namespace Wk
open PySem PySem.Spec PyProof.Rows L2
section
variable {X : Cx} {e a b c f o i : Expr} {es rest : List Expr} {σ : L2.St} {H : Hp} {Q : VK} {pos p0 apos : Pos} {N G G' : List Str} {Vn : List (Nat × Str)} {sc scope : Scope} {n : Nat}
theorem e_dg (hr : Room n X.A) (q : wE X o σ H fun x H1 => wE X i σ H1 fun y H2 => ∃ a v, x = .ref a ∧ DGet H2 a y (some v) ∧ Q v H2) (hs : NoSl i := by intro _ _; rfl) : wE X (.Subscript o i pos) σ H Q := e_of (pe_dget (hu_of hr) pe pe hs) q
theorem dg_k {ad : Addr} {kvs : List (Key × L2.V)} {z : Str} {v : L2.V} (h : H ad = some (.dK kvs)) (e : valV kvs (Sum.inr z) = some v) : DGet H ad (.str z) (some v) := by
  have g := DGet.k (k := (Sum.inr z : Key)) h
  rw [e] at g
  exact g
theorem dg_f {ad : Addr} {ob : Obj} {kvs : List (Key × L2.V)} {z : Str} {v : L2.V} (h : H ad = some (.frz ob (.dK kvs))) (e : valV kvs (Sum.inr z) = some v) : DGet H ad (.str z) (some v) :=
  .inl ⟨kvs, Sum.inr z, .inr ⟨ob, h⟩, rfl, e.symm⟩
theorem e_dget2 (hr : Room n X.A) (q : wE X o σ H fun x H1 => ∃ a, x = .ref a ∧ IsD H1 a ∧ wE X e σ H1 fun y H2 => wE X f σ H2 fun z H3 => ∃ o, DGet H3 a y o ∧ Q (o.getD z) H3)
    (m : M2 X o "get" apos e f pos := by exact ⟨rfl, rfl, rfl, rfl⟩) : wE X (.Call (.Attribute o "get" apos) [e, f] [] pos) σ H Q := e_of (pe_dget2 (hu_of hr) pe pe pe m) q
theorem e_dnew (q : ∀ p, H p = none → Q (.ref p) (upd H p (.dK []))) : wE X (.Dict [] [] pos) σ H Q := e_of pe_dnewK q
theorem o_in {x : L2.V} {p : Addr} {xs : List L2.V} (h : SqL X.K H p xs) (hx : flatV x = true) (hs : xs.all flatV = true) (q : Q (.bl (inV x xs)) H) : wK X .In x (.ref p) H Q := k_of op_in_seq ⟨p, xs, rfl, .inl h, hx, hs, q⟩
theorem o_nin {x : L2.V} {p : Addr} {xs : List L2.V} (h : SqL X.K H p xs) (hx : flatV x = true) (hs : xs.all flatV = true) (q : Q (.bl (!inV x xs)) H) : wK X .NotIn x (.ref p) H Q := k_of op_notIn_seq ⟨p, xs, rfl, .inl h, hx, hs, q⟩
theorem o_inS {c : Nat} {z : Str} (q : Q (.bl (decide (c ∈ z.cps.toList))) H) : wK X .In (.str ⟨#[c]⟩) (.str z) H Q := k_of op_in_sign ⟨c, z, rfl, rfl, q⟩
theorem c_minL {p : Addr} {ns : List Int} (hc : X.calm = true) (h : SqL X.K H p (ns.map V.int)) (h0 : 0 < ns.length) {m0 : Int} (h1 : m0 ∈ ns) (h2 : ∀ y ∈ ns, m0 ≤ y) (q : Q (.int m0) H) : wC X (.builtin "min") [.ref p] H Q :=
  c_of (cr_min hc) ⟨p, ns, rfl, h, h0, fun m hm hle => by
    have e : m = m0 := Int.le_antisymm (hle m0 h1) (h2 m hm)
    rw [e]
    exact q⟩
theorem c_maxL {p : Addr} {ns : List Int} (hc : X.calm = true) (h : SqL X.K H p (ns.map V.int)) (h0 : 0 < ns.length) {m0 : Int} (h1 : m0 ∈ ns) (h2 : ∀ y ∈ ns, y ≤ m0) (q : Q (.int m0) H) : wC X (.builtin "max") [.ref p] H Q :=
  c_of (cr_max hc) ⟨p, ns, rfl, h, h0, fun m hm hle => by
    have e : m = m0 := Int.le_antisymm (h2 m hm) (hle m0 h1)
    rw [e]
    exact q⟩
theorem c_setTx {l : Addr} {zs : List Str} (hc : X.calm = true) (h : SqL X.K H l (zs.map V.str)) (hb : zs.length + 1 < scanBound) (q : ∀ p, H p = none → Q (.ref p) (upd H p (SetTO X.w p (uniqL zs)))) : wC X (.type "set") [.ref l] H Q := c_of (cr_setOfTx hc) ⟨l, zs, rfl, h, hb, q⟩
theorem c_sortedTx {p : Addr} {L : List Str} (hc : X.calm = true) (h : H p = some (SetTO X.w p L)) (h64 : L.length < 64) (q : ∀ (ys : List Str) (l : Addr) H2, ys.Perm L → sortedS ys = true → Same H H2 → H l = none → H2 l = some (.lst (ys.map V.str)) → Q (.ref l) H2) : wC X (.builtin "sorted") [.ref p] H Q :=
  c_of (cr_sortedTx hc) ⟨p, L, rfl, h, h64, fun ys l pm hs np => q ys l _ pm hs (fun b o eo => by rw [upd_ne (ne_of_none eo np)]; exact eo) np upd_same⟩
theorem c_sortedL {p : Addr} {zs : List Str} (h : SqL X.K H p (zs.map V.str)) (h64 : zs.length < 64) (q : ∀ (ys : List Str) (l : Addr) H2, ys.Perm zs → sortedS ys = true → Same H H2 → H l = none → H2 l = some (.lst (ys.map V.str)) → Q (.ref l) H2) : wC X (.builtin "sorted") [.ref p] H Q :=
  c_of cr_sortedS ⟨p, zs, rfl, h, h64, fun ys l pm hs np => q ys l _ pm hs (fun b o eo => by rw [upd_ne (ne_of_none eo np)]; exact eo) np upd_same⟩
theorem c_tupL {p : Addr} {xs : List L2.V} (h : SqL X.K H p xs) (q : ∀ l H2, Same H H2 → H l = none → H2 l = some (.tup xs) → Q (.ref l) H2) : wC X (.type "tuple") [.ref p] H Q :=
  c_of call_tuple_of ⟨p, xs, rfl, .inl ⟨h, fun l np => q l _ (fun b o eo => by rw [upd_ne (ne_of_none eo np)]; exact eo) np upd_same⟩⟩
theorem c_strI {k : Int} (h : k.natAbs.log2 < 1920) (q : Q (.str (toString k)) H) : wC X (.type "str") [.int k] H Q := c_of call_str_int ⟨k, rfl, h, q⟩
theorem c_intB {k : Bool} (q : Q (.int (if k then 1 else 0)) H) : wC X (.type "int") [.bl k] H Q := c_of call_int1 (.inr ⟨k, rfl, q⟩)
theorem e_tupRev {g1 g2 : Nat} {p p2 pos2 : Pos} (hm : X.mg "tuple" = none) (hm2 : X.mg "reversed" = none) (q : wE X e σ H fun v H1 => ∃ (a : Addr) (xs : List L2.V), v = .ref a ∧ SqT X.K H1 a xs ∧ ∀ q H2, Same H1 H2 → H1 q = none → H2 q = some (.tup xs.reverse) → Q (.ref q) H2)
    (I : In X N G sc := by assumption) (hc : X.calm = true := by rfl) (hG : At G g1 ("tuple" : Str) := by repeat (first | with_reducible apply At.z | with_reducible apply At.s)) (hG2 : At G g2 ("reversed" : Str) := by repeat (first | with_reducible apply At.z | with_reducible apply At.s))
    (hs : starEach [e] X.env = (false, eval e X.env) :: starEach [] X.env := by rfl) (hs2 : starEach [.Call (.Name "reversed" p2) [e] [] pos2] X.env = (false, eval (.Call (.Name "reversed" p2) [e] [] pos2) X.env) :: starEach [] X.env := by rfl) :
    wE X (.Call (.Name "tuple" p) [.Call (.Name "reversed" p2) [e] [] pos2] [] pos) σ H Q :=
  e_of (pe_tupRt hc (I.g hG) hm (I.g hG2) hm2 pe hs hs2) (e_mono q fun v H1 ⟨a, xs, ev, hq, z⟩ => ⟨a, xs, ev, hq, fun l np => z l _ (fun b o eo => by rw [upd_ne (ne_of_none eo np)]; exact eo) np upd_same⟩)
theorem e_clear (q : wE X o σ H fun x H1 => ∃ l xs, x = .ref l ∧ H1 l = some (.lst xs) ∧ Q .non (upd H1 l (.lst [])))
    (hbase : attributeBase o "clear" X.env (eval o X.env) = eval o X.env := by rfl) (hline : (apos.endLine == pos.line) = true := by rfl) : wE X (.Call (.Attribute o "clear" apos) [] [] pos) σ H Q := by
  refine e_of (pe_bm0 PySem.F.plainAttrs_list PySem.F.slot_list_clear PySem.F.type_list_clear mt_clear pe hbase hline) (e_mono q fun x H1 z => ?_)
  obtain ⟨l, xs, rfl, h1, h2⟩ := z
  exact ⟨.inl ⟨rfl, _, SqL.of h1⟩, l, xs, rfl, rfl, h1, h2⟩
theorem b_callTy {g : Nat} {x : Str} {T : String} (hm : X.mg x = none) (hv : bootBuiltins x = some (.type T)) (q : wA X (e :: es) σ H fun vs H1 => wC X (.type T) vs H1 Q) (I : InB X Vn G := by assumption) (hG : At G g x := by repeat (first | with_reducible apply At.z | with_reducible apply At.s))
    (he : starEach (e :: es) X.env = (false, eval e X.env) :: starEach es X.env := by rfl) (hpl : (backTo pos (starEach es X.env)).any (·.1) = false := by rfl) : wE X (.Call (.Name x p0) (e :: es) [] pos) σ H Q := e_of (pe_callTy cr (I.g hG) hm hv pa (I.gn hG) (I.gd hG) he hpl) q
theorem b_bltn {g : Nat} {x : Str} {v : L2.V} {u : Value} (hm : X.mg x = none) (hv : bootBuiltins x = some u) (r : RelV v u) (q : Q v H) (I : InB X Vn G := by assumption) (hG : At G g x := by repeat (first | with_reducible apply At.z | with_reducible apply At.s)) : wE X (.Name x pos) σ H Q := e_of (pe_bltn (I.g hG) hm hv r (I.gn hG) (I.gd hG)) q
theorem o_eqD {x y : L2.V} {d e : PyData} (hr : Room n X.A) (h1 : Dp X.K H x d) (h2 : Dp X.K H y e) (s1 : SeqAt.shaped d = true) (s2 : SeqAt.shaped e = true) (q : Q (.bl (PyData.eqv d e)) H) : wK X .Eq x y H Q := k_of (op_eqD hr.units) ⟨d, e, h1, h2, s1, s2, q⟩
theorem o_neD {x y : L2.V} {d e : PyData} (hr : Room n X.A) (h1 : Dp X.K H x d) (h2 : Dp X.K H y e) (s1 : SeqAt.shaped d = true) (s2 : SeqAt.shaped e = true) (q : Q (.bl (!PyData.eqv d e)) H) : wK X .NotEq x y H Q := k_of (op_neD hr.units) ⟨d, e, h1, h2, s1, s2, q⟩
theorem b_set : bootBuiltins "set" = some (.type "set") := by decide +kernel
theorem b_sorted : bootBuiltins "sorted" = some (.builtin "sorted") := by decide +kernel
theorem ixr_d (hu : X.A.units + 1 < cLine) : IxR X (fun x y H Q => ∃ a v, x = .ref a ∧ DGet H a y (some v) ∧ Q v H) := by
  intro value slice pins s σ H x y v u Q I rx ry h hs
  obtain ⟨ad, z, rfl, g, q⟩ := h
  cases rx
  have hT := dict_typeIs I g
  unfold subscriptTail
  refine wpAny_bind ?_
  rw [getitemInPython_of_ne hT.not_modules]
  refine wpAny_bind (wpAny_specialOf hT PySem.F.slot_dict_getitem.lookup ?_)
  have fin : wpAny (model X.prog X.w) X.A (subscripted slice false (.ref ad) u) (fun r s3 => wpAny (model X.prog X.w) X.A (letTemporaryGo value (.ref ad) r >>= fun _ => pure r) (EP X pins σ Q) X.xe s3) X.xe s := by
    rw [hs]
    refine wpAny_operating (d_getItem hu I g ry fun w2 s2 I2 r2 => wpAny_bind (wpAny_letTemporaryGo (wpAny_pure ?_)))
    exact ⟨z, H, I2, r2, q⟩
  first
    | exact wpAny_pure (wpAny_bind fin)
    | exact wpAny_bind fin
    | exact wpAny_pure fin
theorem ix_d {x y : L2.V} (hr : Room n X.A) (q : ∃ a v, x = .ref a ∧ DGet H a y (some v) ∧ Q v H) : wIx X x y H Q := ix_of (ixr_d (hu_of hr)) q
end
end Wk

set_option maxHeartbeats 4000000
/-! My own layer: dicts of the module's top, comprehensions over a tuple with a test, slices of tuples, xs[::-1], extend, reversed, displayed dicts, copies and == of dicts, walks over a dict. -/
namespace Wk
open PySem PySem.Spec PyProof.Rows L2
/-- a dict of the module's top, its keys ints and texts -/
def KDict (w : World) (K : PySem.W.Frag) (D : Addr) (kvs : List (Key × L2.V)) : Prop := ∃ (o : Obj) (vs : List (Key × Value)), K.lookup D = some o ∧ KV kvs vs ∧ ∀ P, PySem.Obj.IsDictOf (mixKind P w) o vs
theorem pairs_mk {P : Program} {w : World} : ∀ (ts : List (Str × Tok × Value)), Pairs (mixKind P w) (ts.map fun x => (⟨hashStr w x.1, .str x.1 x.2.1, x.2.2⟩ : DictEntry)) (ts.map fun x => ((Sum.inr x.1 : Key), x.2.2))
  | [] => .nil
  | t :: ts => .cons (mixKind_str P w _ _) rfl (pairs_mk ts)
theorem kdict_mk {w : World} {K : PySem.W.Frag} {D : Addr} {o : Obj} {n : Nat} {kvs : List (Key × L2.V)} (ts : List (Str × Tok × Value)) (l : K.lookup D = some o) (hx : o.ExactDict) (hd : o.data = .dict (ts.map fun x => (⟨hashStr w x.1, .str x.1 x.2.1, x.2.2⟩ : DictEntry)).toArray n)
    (hk : KV kvs (ts.map fun x => ((Sum.inr x.1 : Key), x.2.2))) (nd : (ts.map (·.1)).Nodup) : KDict w K D kvs := by
  refine ⟨o, _, l, hk, fun P => ⟨_, n, hx, hd, ?_, ?_, ?_⟩⟩
  · intro e he
    obtain ⟨t, ht, rfl⟩ := List.mem_map.mp (List.mem_toArray.mp he)
    exact ⟨Sum.inr t.1, mixKind_str P w _ _, rfl⟩
  · rw [List.toList_toArray]
    exact pairs_mk ts
  · rw [List.map_map]
    have e : (ts.map ((fun x : Key × Value => x.1) ∘ fun x : Str × Tok × Value => ((Sum.inr x.1 : Key), x.2.2))) = (ts.map (·.1)).map Sum.inr := by rw [List.map_map]; rfl
    rw [e]
    exact List.pairwise_map.mpr (List.Pairwise.imp (fun h e => h (Sum.inr.inj e)) nd)
section
variable {X : Cx} {e a b c elt : Expr} {es rest : List Expr} {σ : L2.St} {H : Hp} {Q : VK} {pos p0 : Pos} {N G G' : List Str} {Vn : List (Nat × Str)} {sc scope : Scope}
theorem ixr_kd : IxR X (fun x y H Q => ∃ a kvs z v, x = .ref a ∧ y = .str z ∧ KDict X.w X.K a kvs ∧ valV kvs (Sum.inr z) = some v ∧ Q v H) := by
  intro value slice pins s σ H x y v u Q I rx ry h hs
  obtain ⟨ad, kvs, z, v0, rfl, rfl, ⟨o, vs, hl, hkv, hd⟩, hv, q⟩ := h
  cases rx
  have dd : s.heap.DictOf (mixKind X.prog X.w) ad vs := Heap.dictOf_iff.mpr ⟨o, I.kIn ad o hl, hd X.prog⟩
  have hT := dd.typeIs
  unfold subscriptTail
  refine wpAny_bind ?_
  rw [getitemInPython_of_ne hT.not_modules]
  refine wpAny_bind (wpAny_specialOf hT PySem.F.slot_dict_getitem.lookup ?_)
  obtain ⟨w', hw, rw'⟩ := RelO.some_of (v := v0) (o := valueAt vs (Sum.inr z)) (by rw [← hv]; exact hkv.val (Sum.inr z))
  have fin : wpAny (model X.prog X.w) X.A (subscripted slice false (.ref ad) u) (fun r s3 => wpAny (model X.prog X.w) X.A (letTemporaryGo value (.ref ad) r >>= fun _ => pure r) (EP X pins σ Q) X.xe s3) X.xe s := by
    rw [hs]
    refine wpAny_operating (wpAny_getItem_of (knd := mixKind X.prog X.w) (k := (Sum.inr z : Key)) (kV_is (k := Sum.inr z) ry) dd.mapOf hw ?_)
    refine wpAny_bind (wpAny_letTemporaryGo (wpAny_pure ?_))
    exact ⟨v0, H, I.tok _, rw', q⟩
  first
    | exact wpAny_pure (wpAny_bind fin)
    | exact wpAny_bind fin
    | exact wpAny_pure fin
theorem ix_kd {D : Addr} {kvs : List (Key × L2.V)} {z : Str} {v : L2.V} (h : KDict X.w X.K D kvs) (e : valV kvs (Sum.inr z) = some v) (q : Q v H) : wIx X (.ref D) (.str z) H Q := ix_of ixr_kd ⟨D, kvs, z, v, rfl, rfl, h, e, q⟩
theorem o_inT {x : L2.V} {p : Addr} {xs : List L2.V} (h : SqT X.K H p xs) (hx : flatV x = true) (hs : xs.all flatV = true) (q : Q (.bl (inV x xs)) H) : wK X .In x (.ref p) H Q := k_of op_in_seq ⟨p, xs, rfl, .inr h, hx, hs, q⟩
theorem o_catA {p r : Addr} {xs ys : List L2.V} (h1 : H p = some (.tup xs)) (h2 : H r = some (.tup ys)) (hz : xs.length + ys.length ≤ 200000) (q : ∀ t H2, Same H H2 → H2 t = some (.tup (xs ++ ys)) → Q (.ref t) H2) : wB X .Add (.ref p) (.ref r) H Q := by
  refine b_of op_catA ⟨p, r, xs, ys, rfl, rfl, SqT.of h1, SqT.of h2, by show _ ≤ 2 ^ 24; omega, fun e => ?_, fun _ e => ?_, fun _ _ t ht => ?_⟩
  · subst e
    exact q r H (Same.refl H) h2
  · subst e
    refine q p H (Same.refl H) ?_
    rw [List.append_nil]
    exact h1
  · exact q t _ (fun c u eo => by rw [upd_ne (ne_of_none eo ht)]; exact eo) upd_same
theorem cut_hi {xs ys : List L2.V} : cutV (xs ++ ys) none (some (xs.length : Int)) = xs := by
  unfold cutV
  rw [HT.sIx_none, HT.sIx_nat, List.length_append, Nat.min_eq_left (by omega), List.drop_zero, Nat.sub_zero, List.take_left]
theorem cut_lo {xs ys : List L2.V} : cutV (xs ++ ys) (some (xs.length : Int)) none = ys := by
  unfold cutV
  rw [HT.sIx_none, HT.sIx_nat, List.length_append, Nat.min_eq_left (by omega), List.drop_left, Nat.add_sub_cancel_left, List.take_length]
/-- t[:k] of t = xs ++ ys, k the length of xs -/
theorem e_tHi (q : wE X e σ H fun x H1 => wE X b σ H1 fun y H2 => ∃ p xs ys, x = .ref p ∧ y = .int (xs.length : Int) ∧ H2 p = some (.tup (xs ++ ys)) ∧ ∀ t H3, Same H2 H3 → H3 t = some (.tup xs) → Q (.ref t) H3) {p2 : Pos} : wE X (.Subscript e (.Slice none (some b) none p2) pos) σ H Q := by
  refine e_slL1 sl_tupA (e_mono q fun x H1 z => e_mono z fun y H2 ⟨p, xs, ys, ex, ey, ht, q⟩ => ⟨_, ey, p, xs ++ ys, ex, SqT.of ht, fun hw => ?_, fun _ t nt => ?_⟩)
  · refine q p H2 (Same.refl H2) ?_
    have e : xs ++ ys = xs := by
      have h2 := hw.2
      rw [HT.sIx_nat, List.length_append] at h2
      have : ys = [] := by
        cases ys with
        | nil => rfl
        | cons y ys => simp only [List.length_cons] at h2; omega
      rw [this, List.append_nil]
    rw [e] at ht
    exact ht
  · refine q t _ (fun c u eo => by rw [upd_ne (ne_of_none eo nt)]; exact eo) ?_
    rw [cut_hi]
    exact upd_same
theorem e_tLo (q : wE X e σ H fun x H1 => wE X a σ H1 fun y H2 => ∃ p xs ys, x = .ref p ∧ y = .int (xs.length : Int) ∧ H2 p = some (.tup (xs ++ ys)) ∧ ∀ t H3, Same H2 H3 → H3 t = some (.tup ys) → Q (.ref t) H3) {p2 : Pos} : wE X (.Subscript e (.Slice (some a) none none p2) pos) σ H Q := by
  refine e_slL0 sl_tupA (e_mono q fun x H1 z => e_mono z fun y H2 ⟨p, xs, ys, ex, ey, ht, q⟩ => ⟨_, ey, p, xs ++ ys, ex, SqT.of ht, fun hw => ?_, fun _ t nt => ?_⟩)
  · refine q p H2 (Same.refl H2) ?_
    have e : xs ++ ys = ys := by
      have h2 := hw.1
      rw [HT.sIx_nat, List.length_append] at h2
      have : xs = [] := by
        cases xs with
        | nil => rfl
        | cons y xs => simp only [List.length_cons] at h2; omega
      rw [this, List.nil_append]
    rw [e] at ht
    exact ht
  · refine q t _ (fun c u eo => by rw [upd_ne (ne_of_none eo nt)]; exact eo) ?_
    rw [cut_lo]
    exact upd_same
theorem e_rev {k : Nat} {p1 p2 p3 : Pos} (q : wE X e σ H fun x H1 => ∃ p xs, x = .ref p ∧ SqL X.K H1 p xs ∧ ∀ t H2, Same H1 H2 → H1 t = none → H2 t = some (.lst xs.reverse) → Q (.ref t) H2) : wE X (.Subscript e (.Slice none none (some (.UnaryOp .USub (.Constant (.int 1) k p1) p2)) p3) pos) σ H Q :=
  e_of (pe_revL pe) (e_mono q fun x H1 ⟨p, xs, ex, h, q⟩ => ⟨p, xs, ex, h, fun t nt => q t _ (fun c u eo => by rw [upd_ne (ne_of_none eo nt)]; exact eo) nt upd_same⟩)
theorem e_ext {o : Expr} {apos : Pos} (q : wE X o σ H fun x H1 => ∃ l xs0, x = .ref l ∧ SqL X.K H1 l xs0 ∧ wE X e σ H1 fun y H2 => ∃ r xs zs, y = .ref r ∧ H2 l = some (.lst xs) ∧ H2 r = some (.lst zs) ∧ xs.length + zs.length ≤ 200000 ∧ Q .non (upd H2 l (.lst (xs ++ zs))))
    (hbase : attributeBase o "extend" X.env (eval o X.env) = eval o X.env := by rfl)
    (hfew : ((backTo pos (starEach (e :: []) X.env)).all (fun x => !x.1) && (backToKw pos (keywordEach [] X.env)).all (fun x => x.1.isSome)
      && decide ((e :: []).length + ([] : List Keyword).length + (if ([] : List Keyword).isEmpty then 0 else 1) < 30)) = true := by rfl)
    (hline : (apos.endLine == pos.line) = true := by rfl) (hs : starEach (e :: []) X.env = (false, eval e X.env) :: starEach [] X.env := by rfl) (hplain : (backTo pos (starEach [] X.env)).any (·.1) = false := by rfl) :
    wE X (.Call (.Attribute o "extend" apos) [e] [] pos) σ H Q := by
  refine e_of (pe_bm PySem.F.plainAttrs_list PySem.F.slot_list_extend PySem.F.type_list_extend mt_extend pe (pa_cons pe pa_nil hs) hbase hfew hline hs hplain) (e_mono q fun x H1 z => ?_)
  obtain ⟨l, xs0, rfl, hl, z⟩ := z
  refine ⟨.inl ⟨rfl, _, hl⟩, e_mono z fun y H2 z2 => ?_⟩
  obtain ⟨r, xs, zs, rfl, h1, h2, h3, h4⟩ := z2
  exact ⟨l, r, xs, zs, rfl, rfl, h1, h2, by show _ ≤ 2 ^ 24; omega, h4⟩
theorem c_dict {p : Addr} {kvs : List (Key × L2.V)} (h : H p = some (.dK kvs)) (q : ∀ t H2, Same H H2 → H t = none → H2 t = some (.dK kvs) → Q (.ref t) H2) : wC X (.type "dict") [.ref p] H Q :=
  c_of call_dictD ⟨p, kvs, rfl, .inl h, fun t nt => q t _ (fun c u eo => by rw [upd_ne (ne_of_none eo nt)]; exact eo) nt upd_same⟩
theorem c_listT {p : Addr} {xs : List L2.V} (h : H p = some (.tup xs)) (q : ∀ l H2, Same H H2 → H l = none → H2 l = some (.lst xs) → Q (.ref l) H2) : wC X (.type "list") [.ref p] H Q :=
  c_of call_list_of ⟨p, xs, rfl, .inr (SqT.of h), fun l np => q l _ (fun c u eo => by rw [upd_ne (ne_of_none eo np)]; exact eo) np upd_same⟩
theorem c_listDn {p : Addr} {kvs : List (Key × L2.V)} (hc : X.calm = true) (h : H p = some (.dK kvs)) (q : ∀ l H2, Same H H2 → H l = none → H2 l = some (.lst (kvs.map fun kv => kV kv.1)) → Q (.ref l) H2) : wC X (.type "list") [.ref p] H Q :=
  c_of (call_list_dK hc) ⟨p, kvs, rfl, h, fun l np => q l _ (fun c u eo => by rw [upd_ne (ne_of_none eo np)]; exact eo) np upd_same⟩
theorem o_eqDt {n : Nat} {p r : Addr} {ks ls : List (Key × L2.V)} (hr : Room n X.A) (h1 : H p = some (.dK ks)) (h2 : H r = some (.dK ls)) (hl : ks.length = ls.length) (hv : ∀ p ∈ ks, valV ls p.1 = some p.2 ∧ flatB p.2 = true) (q : Q (.bl true) H) : wK X .Eq (.ref p) (.ref r) H Q :=
  k_of (op_eq_dictA (by have := hr.units; omega)) ⟨p, r, ks, ls, rfl, rfl, h1, h2, hl, hv, q⟩
/-- {k: v} and {k: v, k2: v2} -/
theorem e_d1 {k v : Expr} (q : ∀ p, H p = none → wE X k σ (upd H p (.dK [])) fun x H1 => wE X v σ H1 fun y H2 => H2 p = some (.dK []) ∧ ∃ z, x = .str z ∧ Q (.ref p) (upd H2 p (.dK [(Sum.inr z, y)]))) : wE X (.Dict [some k] [v] pos) σ H Q := by
  refine e_of (pe_disp (pps_cons pe pe pps_nil) rfl rfl (by simp) (by simp)) fun p np => e_mono (q p np) fun x H1 q1 => e_mono q1 fun y H2 q2 => ?_
  obtain ⟨h, z, rfl, q3⟩ := q2
  exact ⟨h, [(Sum.inr z, y)], rfl, by simp, q3⟩
theorem e_d2 {k v k2 v2 : Expr} (q : ∀ p, H p = none → wE X k σ (upd H p (.dK [])) fun x H1 => wE X v σ H1 fun y H2 => wE X k2 σ H2 fun x2 H3 => wE X v2 σ H3 fun y2 H4 => H4 p = some (.dK []) ∧ ∃ z z2, x = .str z ∧ x2 = .str z2 ∧ z ≠ z2 ∧ Q (.ref p) (upd H4 p (.dK [(Sum.inr z, y), (Sum.inr z2, y2)]))) :
    wE X (.Dict [some k, some k2] [v, v2] pos) σ H Q := by
  refine e_of (pe_disp (pps_cons pe pe (pps_cons pe pe pps_nil)) rfl rfl (by simp) (by simp)) fun p np => e_mono (q p np) fun x H1 q1 => e_mono q1 fun y H2 q2 => e_mono q2 fun x2 H3 q3 => e_mono q3 fun y2 H4 q4 => ?_
  obtain ⟨h, z, z2, rfl, rfl, ne, q5⟩ := q4
  refine ⟨h, [(Sum.inr z, y), (Sum.inr z2, y2)], rfl, by simp, ?_⟩
  have e : mergeK [] [((Sum.inr z : Key), y), (Sum.inr z2, y2)] = [(Sum.inr z, y), (Sum.inr z2, y2)] := by
    show putK (putK [] (Sum.inr z) y) (Sum.inr z2) y2 = _
    unfold putK
    simp [ne]
  rw [e]
  exact q5
/-- for x in reversed(xs), xs a list -/
theorem s_forRv {nx : L2.St → Hp → Prop} {rt : VK} {bk ct : L2.St → Hp → Prop} {g : Nat} {x : Str} {i : Nat} {body : List Stmt} {px p cp pos : Pos} (hm : X.mg "reversed" = none)
    (q : wE X a σ H fun v H1 => ∃ ad xs, v = .ref ad ∧ SqL X.K H1 ad xs ∧ ∃ Pv : Nat → L2.St → Hp → Prop, Pv 0 σ H1 ∧ (∀ k σ H, k ≤ xs.length → Pv k σ H → SqL X.K H ad xs) ∧ (∀ k y σ H, xs.reverse[k]? = some y → Pv k σ H → wL X body ⟨Pv (k + 1), rt, nx, Pv (k + 1)⟩ (σ.set i (some y)) H) ∧ ∀ σ H, Pv xs.length σ H → nx σ H)
    (I : In X N G sc := by assumption) (hc : X.calm = true := by rfl) (hA : At N i x := by repeat (first | with_reducible apply At.z | with_reducible apply At.s)) (hG : At G g ("reversed" : Str) := by repeat (first | with_reducible apply At.z | with_reducible apply At.s))
    (hs : starEach [a] X.env = (false, eval a X.env) :: starEach [] X.env := by rfl) (hs2 : ∀ z, foldedSetIterable (.Call (.Name "reversed" p) [a] [] cp) X.env z = pure z := by intro _; rfl) :
    wS X (.For (.Name x px) (.Call (.Name "reversed" p) [a] [] cp) body [] pos) ⟨nx, rt, bk, ct⟩ σ H := by
  refine s_of (ps_for I.never hc (RT.pi_revA (I.g hG) hm pe hs) (pg_name I.nd (I.hi hA) (I.loc hA) I.f) pl hs2) (e_mono q fun v H1 q1 => ?_)
  obtain ⟨ad, xs, rfl, hl, Pv, h0, hk, hb, hd⟩ := q1
  refine ⟨ad, xs, rfl, .inl ⟨hl, fun k m σ H => m = xs.length - k ∧ k ≤ xs.length ∧ Pv k σ H, ⟨xs.length, by simp, Nat.zero_le _, h0⟩, ?_⟩⟩
  rintro k m σ H ⟨rfl, hi, p⟩
  have q := hk k σ H hi p
  by_cases hlt : k < xs.length
  · refine .inr ⟨⟨hlt, xs, xs[xs.length - 1 - k]'(by omega), q, by simp⟩, Pv (k + 1), fun σ' H' p' => ⟨xs.length - (k + 1), by omega, rfl, hlt, p'⟩, fun x H' y => ?_⟩
    obtain ⟨e, y⟩ := y
    subst e
    refine hb k x σ _ ?_ p
    rw [List.getElem?_reverse hlt]
    exact y xs q
  · have e : k = xs.length := by omega
    subst e
    exact .inl ⟨Nat.le_refl _, hd σ H p⟩
/-- for x in d, d a dict that stands at ad -/
theorem s_forD {nx : L2.St → Hp → Prop} {rt : VK} {bk ct : L2.St → Hp → Prop} {x : Str} {i : Nat} {body : List Stmt} {px pos : Pos} {ad : Addr} {kvs : List (Key × L2.V)} (h : H ad = some (.dK kvs))
    (q : ∀ o, wE X a σ (upd H ad (.frz o (.dK kvs))) fun v H1 => v = .ref ad ∧ H1 ad = some (.frz o (.dK kvs)) ∧ ∃ Pv : Nat → L2.St → Hp → Prop, Pv 0 σ H1 ∧ (∀ k σ H, k ≤ kvs.length → Pv k σ H → H ad = some (.frz o (.dK kvs))) ∧
      (∀ k y v σ H, kvs[k]? = some (y, v) → Pv k σ H → wL X body ⟨Pv (k + 1), fun v H' => H' ad = some (.frz o (.dK kvs)) ∧ rt v (upd H' ad (.dK kvs)), fun σ' H' => H' ad = some (.frz o (.dK kvs)) ∧ nx σ' (upd H' ad (.dK kvs)), Pv (k + 1)⟩ (σ.set i (some (kV y))) H) ∧ ∀ σ H, Pv kvs.length σ H → nx σ (upd H ad (.dK kvs)))
    (I : In X N G sc := by assumption) (hc : X.calm = true := by rfl) (hA : At N i x := by repeat (first | with_reducible apply At.z | with_reducible apply At.s)) (hs2 : ∀ z, foldedSetIterable a X.env z = pure z := by intro _; rfl) :
    wS X (.For (.Name x px) a body [] pos) ⟨nx, rt, bk, ct⟩ σ H := by
  refine s_of (ps_lock (ps_for I.never hc (pi_keys pe) (pg_name I.nd (I.hi hA) (I.loc hA) I.f) pl hs2)) ?_
  refine ⟨ad, .dK kvs, h, trivial, fun o => e_mono (q o) fun v H1 q1 => ?_⟩
  obtain ⟨rfl, h1, Pv, h0, hk, hb, hd⟩ := q1
  refine ⟨ad, o, rfl, .inl ⟨kvs, h1, fun k m σ H => m = kvs.length - k ∧ k ≤ kvs.length ∧ Pv k σ H, ⟨kvs.length, by simp, Nat.zero_le _, h0⟩, ?_⟩⟩
  rintro k m σ H ⟨rfl, hi, p⟩
  have q := hk k σ H hi p
  by_cases hlt : k < kvs.length
  · refine .inr ⟨⟨q, hlt⟩, Pv (k + 1), fun σ' H' p' => ⟨kvs.length - (k + 1), by omega, rfl, hlt, p'⟩, fun x H' y => ?_⟩
    obtain ⟨rfl, ky, v, hkv, rfl⟩ := y
    exact hb k ky v σ _ hkv p
  · have e : k = kvs.length := by omega
    subst e
    exact .inl ⟨⟨q, Nat.le_refl _⟩, q, hd σ H p⟩
/-- [elt for x in t if c], t a tuple -/
def LcTf (X : Cx) (Vn : List (Nat × Str)) (G' : List Str) (elt c : Expr) (scope : Scope) (i : Nat) (ad : Addr) (xs : List L2.V) (D : Addr) (σ : L2.St) (H1 : Hp) (Qd : Hp → Prop) : Prop := ∃ Pv : Nat → Hp → Prop, Pv 0 (upd H1 D (.lst [])) ∧ (∀ k H2, k ≤ xs.length → Pv k H2 → SqT X.K H2 ad xs) ∧
  (∀ k x H2, xs[k]? = some x → Pv k H2 → Turn1 X Vn G' elt c scope i D σ x H2 (Pv (k + 1))) ∧ ∀ H2, Pv xs.length H2 → Qd H2
theorem e_lcTf {i : Nat} {x : Str} {px : Pos} (B : BkOk X.N Vn G' i x sc scope)
    (q : wE X a σ H fun v H1 => ∃ ad xs, v = .ref ad ∧ SqT X.K H1 ad xs ∧ ∀ D, H1 D = none → LcTf X Vn G' elt c scope i ad xs D σ H1 fun H2 => Q (.ref D) H2)
    (I : In X N G sc := by assumption) (hc : X.calm = true := by rfl) (hs2 : ∀ z, foldedSetIterable a X.env z = pure z := by intro _; rfl) :
    wE X (.ListComp elt [⟨.Name x px, a, [c], 0⟩] scope pos) σ H Q := by
  refine e_of (pe_lc (own := [(x, i)]) (g := gName i) (tt := wBkT X Vn G' c scope) (te := wBk X Vn G' elt scope) hc I.nd (pi_tup pe) (B.ok I) (fun s H C cl fp => B.pg I s H C cl fp) (fun s H C cl fp => pts_bk (B.inB I s H C cl fp)) (fun s H C cl fp => pe_bk (B.inB I s H C cl fp)) hs2) (e_mono q fun v H1 q1 => ?_)
  obtain ⟨ad, xs, rfl, hl, q2⟩ := q1
  refine ⟨ad, rfl, ⟨xs, hl⟩, fun D hD => ?_⟩
  obtain ⟨Pv, h0, hk, hs, hd⟩ := q2 D hD
  exact lc_tup Pv h0 hk (fun k x H hx p => turn1_of (hs k x H hx p)) hd
/-- y = [elt for x in range(a) if c] -/
def LcRf (X : Cx) (Vn : List (Nat × Str)) (G' : List Str) (elt c : Expr) (scope : Scope) (i n : Nat) (D : Addr) (σ : L2.St) (H1 : Hp) (Qd : Hp → Prop) : Prop := ∃ Pv : Nat → Hp → Prop, Pv 0 (upd H1 D (.lst [])) ∧
  (∀ k H2, k < n → Pv k H2 → Turn1 X Vn G' elt c scope i D σ (.int (k : Int)) H2 (Pv (k + 1))) ∧ ∀ H2, Pv n H2 → Qd H2
theorem lcRf_of {i n : Nat} {D : Addr} {H1 : Hp} {Qd : Hp → Prop} (q : LcRf X Vn G' elt c scope i n D σ H1 Qd) : ∃ W : Nat → Nat → Hp → Prop, (∃ m, W 0 m (upd H1 D (.lst []))) ∧ ∀ k m H, W k m H →
    ((Itr 0 n).stop k H ∧ Qd H) ∨ ((Itr 0 n).go k H ∧ ∃ Nx : Hp → Prop, (∀ H', Nx H' → ∃ m', m' < m ∧ W (k + 1) m' H') ∧ ∀ x H', (Itr 0 n).yld k H x H' → gName i x (wipe σ [i]) H' fun σ2 H2 => wipe σ2 [i] = wipe σ [i] ∧ wBkT X Vn G' c scope σ2 H2 fun b H3 =>
      if b = true then wBk X Vn G' elt scope σ2 H3 fun y H4 => ∃ acc, H4 D = some (.lst acc) ∧ acc.length < sizeLine ∧ Nx (upd H4 D (.lst (acc ++ [y]))) else Nx H3) := by
  obtain ⟨Pv, h0, hs, hd⟩ := q
  refine lc_range Pv h0 (fun k H hk p => ?_) hd
  rw [Int.zero_add]
  exact turn1_of (hs k H hk p)
theorem s_lcRf {nx : L2.St → Hp → Prop} {rt : VK} {bk ct : L2.St → Hp → Prop} {i j g : Nat} {x y : Str} {px py p cp spos : Pos} (B : BkOk X.N Vn G' i x sc scope) (hm : X.mg "range" = none)
    (q : wE X a σ H fun v H1 => ∃ n : Nat, v = .int n ∧ n < 2 ^ 62 ∧ ∀ D, H1 D = none → LcRf X Vn G' elt c scope i n D σ H1 fun H2 => nx (σ.set j (some (.ref D))) H2)
    (I : In X N G sc := by assumption) (hc : X.calm = true := by rfl) (hA : At N j y := by repeat (first | with_reducible apply At.z | with_reducible apply At.s)) (hG : At G g ("range" : Str) := by repeat (first | with_reducible apply At.z | with_reducible apply At.s))
    (hk : X.env.scope.kind = .function := by rfl) (hy : X.env.scope.names.lookup y = some .local := by rfl) (hl : (py.line == pos.line) = true := by rfl) (ha : (scope.names.any fun (n, k) => n == y && (k == .local || k == .cell)) = false := by decide +kernel)
    (hs : starEach [a] X.env = [(false, eval a X.env)] := by rfl) (hs2 : ∀ z, foldedSetIterable (.Call (.Name "range" p) [a] [] cp) X.env z = pure z := by intro _; rfl) (hs1 : starEach (a :: []) X.env = (false, eval a X.env) :: starEach [] X.env := by rfl) :
    wS X (.Assign [.Name y py] (.ListComp elt [⟨.Name x px, .Call (.Name "range" p) [a] [] cp, [c], 0⟩] scope pos) spos) ⟨nx, rt, bk, ct⟩ σ H := by
  refine s_of (ps_setLc (own := [(x, i)]) (g := gName i) (tt := wBkT X Vn G' c scope) (te := wBk X Vn G' elt scope) hc I.nd (I.hi hA) hy (sw_true hk hy hl ha) (pi_range1 (I.g hG) hm (pa_cons pe pa_nil hs1) hs) (B.ok I) (fun s H C cl fp => B.pg I s H C cl fp) (fun s H C cl fp => pts_bk (B.inB I s H C cl fp)) (fun s H C cl fp => pe_bk (B.inB I s H C cl fp)) hs2) (e_mono q fun v H1 q1 => ?_)
  obtain ⟨n, rfl, hn, q2⟩ := q1
  refine ⟨(n : Int), rfl, by omega, by omega, ?_⟩
  rw [Int.toNat_natCast]
  exact fun D hD => lcRf_of (q2 D hD)
end
end Wk

set_option maxHeartbeats 4000000
/-! My own layer: a walk over zip(a, b), each of the two a list or a tuple. -/
namespace Wk
open PySem PySem.Spec PyProof.Rows L2
/-- what stands on one side of a zip -/
inductive Side where
  | l | t
def Side.con : Side → Heap → Addr → Array Value → Prop
  | .l => fun h a xs => h.IsList a xs
  | .t => fun h a xs => h.IsTuple a xs
def Side.itr : Side → Heap → Addr → Addr → Nat → Prop
  | .l => fun h it a i => h.IsListIter it a i
  | .t => fun h it a i => h.IsTupleIter it a i
def Side.ob : Side → Addr → Obj
  | .l => fun a => { cls := .type "list_iterator", data := .fields #[.ref a, .int 0 0] }
  | .t => fun a => { cls := .type "tuple_iterator", data := .fields #[.ref a, .int 0 0] }
def Side.sq (K : PySem.W.Frag) : Side → Hp → Addr → List V → Prop
  | .l => SqL K
  | .t => SqT K
theorem Side.begins (c : Side) (a : Addr) (xs : Array Value) : Begins (.ref a) (c.ob a) fun h => c.con h a xs := by
  cases c with
  | l => exact begins_list a xs
  | t => exact begins_tuple a xs
theorem Side.draws {P : Program} {w : World} {A : Around} (c : Side) (hh : A.handled = none) (it a : Addr) (ne : a ≠ it) (xs : Array Value) : Draws P w A it [it, a] xs.size (fun i v => xs[i]? = some v) (fun i h => c.itr h it a i ∧ c.con h a xs) := by
  cases c with
  | l => exact Draws.list hh it a ne xs
  | t => exact Draws.tuple hh it a ne xs
theorem Side.own {X : Cx} {pins : List (Addr × Obj)} {σ : L2.St} {H : Hp} {s : Shared} {a : Addr} {xs : List V} (I : Inv X pins σ H s) (c : Side) (h : c.sq X.K H a xs) : ∃ its : List Value, Vals xs its ∧ c.con s.heap a its.toArray := by
  cases c with
  | l => obtain ⟨its, r, p, _⟩ := I.list h; exact ⟨its, r, p.isList⟩
  | t => obtain ⟨its, r, p, _⟩ := I.tuple h; exact ⟨its, r, p⟩
theorem Side.inj {X : Cx} {pins : List (Addr × Obj)} {σ : L2.St} {H : Hp} {s : Shared} {a : Addr} {xs ys : List V} (I : Inv X pins σ H s) (c : Side) (h : c.sq X.K H a xs) (h' : c.sq X.K H a ys) : xs = ys := by
  cases c with
  | l => exact I.list_inj h h'
  | t => exact I.tuple_inj h h'
theorem Side.up {h h' : Heap} {it a : Addr} {i : Nat} (c : Side) (x : c.itr h it a i) (k : ∀ o, h.get? it = some o → h'.get? it = some o) : c.itr h' it a i := by
  cases c with
  | l => exact x.at k
  | t => exact x.at k
theorem Side.nocell {h : Heap} {it a : Addr} {i : Nat} (c : Side) (x : c.itr h it a i) : ∃ o, h.get? it = some o ∧ ∀ v, o.data ≠ .cell v := by
  cases c with
  | l => obtain ⟨o, e, _, d⟩ := x; exact ⟨o, e, fun v q => by rw [d] at q; cases q⟩
  | t => obtain ⟨o, e, _, d⟩ := x; exact ⟨o, e, fun v q => by rw [d] at q; cases q⟩
theorem Side.start {h : Heap} {it a : Addr} (c : Side) (e : h.get? it = some (c.ob a)) : c.itr h it a 0 := by
  cases c with
  | l => exact ⟨_, e, rfl, rfl⟩
  | t => exact ⟨_, e, rfl, rfl⟩
theorem Side.lt {h : Heap} {a : Addr} {xs : Array Value} (c : Side) (x : c.con h a xs) : a < h.objs.size := by
  cases c with
  | l => obtain ⟨o, e, _⟩ := x; exact Heap.lt_size e
  | t => obtain ⟨o, e, _⟩ := x; exact Heap.lt_size e
/-- pairs out of the two sides, as they stand at each turn -/
def ItM (K : PySem.W.Frag) (c d : Side) (a b : Addr) : It :=
  ⟨fun i H => ∃ (xs ys : List V) (x y : V), c.sq K H a xs ∧ d.sq K H b ys ∧ xs[i]? = some x ∧ ys[i]? = some y,
    fun i H v H' => ∃ T x y, v = .ref T ∧ H T = none ∧ H' = upd H T (.tup [x, y]) ∧ (∀ xs, c.sq K H a xs → xs[i]? = some x) ∧ ∀ ys, d.sq K H b ys → ys[i]? = some y,
    fun i H => ∃ xs ys : List V, c.sq K H a xs ∧ d.sq K H b ys ∧ i ≤ xs.length ∧ i ≤ ys.length ∧ (i = xs.length ∨ i = ys.length)⟩
theorem turn_zipM {P : Program} {w : World} {K : PySem.W.Frag} {es : List Expr} {kk : Nat} {tp : Pos} {c d : Side} {a b z TI TO i1 i2 : Addr} (S : ZipSep2 z TI TO i1 i2 [i1, a] [i2, b]) (na : a ≠ i1) (nb : b ≠ i2) :
    Turn P w K (.Tuple es kk tp) (ItM K c d a b) [z, TI, TO, i1, i2] z (fun i h => IsZip h z TI TO .none ∧ IsTupOf2 h TI (.ref i1) (.ref i2) ∧ (∃ u v, IsTupOf2 h TO u v) ∧ c.itr h i1 a i ∧ d.itr h i2 b i) where
  mem := List.mem_cons_self ..
  obj := fun i h ⟨q1, q2, ⟨u, v, q3⟩, q4, q5⟩ e he => by
    simp only [List.mem_cons, List.not_mem_nil, or_false] at he
    rcases he with rfl | rfl | rfl | rfl | rfl
    · exact ⟨_, q1, fun _ r => nomatch r⟩
    · exact ⟨_, q2, fun _ r => nomatch r⟩
    · exact ⟨_, q3, fun _ r => nomatch r⟩
    · exact c.nocell q4
    · exact d.nocell q5
  keep := fun i h h' ⟨q1, q2, ⟨u, v, q3⟩, q4, q5⟩ kp => ⟨kp z (by simp) _ q1, kp TI (by simp) _ q2, ⟨u, v, kp TO (by simp) _ q3⟩, c.up q4 (kp i1 (by simp)), d.up q5 (kp i2 (by simp))⟩
  item := by
    intro X hP hw hK hc i pins s σ H E I fpk ⟨q1, q2, ⟨u, v, q3⟩, q4, q5⟩ ⟨xs, ys, x, y, sx, sy, ex, ey⟩
    subst hP hw hK
    obtain ⟨us, rus, cx⟩ := c.own I sx
    obtain ⟨vs, rvs, cy⟩ := d.own I sy
    obtain ⟨g, eg, rg⟩ := rus.get ex
    obtain ⟨g2, eg2, rg2⟩ := rvs.get ey
    have hh : X.A.in1.handled = none := I.ok.hd hc
    refine wpAny_pyNext_zipD2_item S (c.draws hh i1 a na us.toArray) (d.draws hh i2 b nb vs.toArray) q1 q2 q3 ⟨q4, cx⟩ ⟨q5, cy⟩ ?_ ?_ fun x1 x2 h1 tk p1 p2 n1 n2 n3 n4 n5 _ n7 => ?_
    · rw [List.size_toArray]; exact (List.getElem?_eq_some_iff.mp eg).1
    · rw [List.size_toArray]; exact (List.getElem?_eq_some_iff.mp eg2).1
    rw [List.getElem?_toArray, eg] at p1
    rw [List.getElem?_toArray, eg2] at p2
    cases p1
    cases p2
    have zl : z < s.heap.objs.size := Heap.lt_size q1
    refine ⟨_, rfl, wpAny_letOwnedTupleGo_zip (s := { s with heap := h1, toks := tk }) n1 fun h2 m1 sb => ?_⟩
    have tup2 : h2.get? s.heap.objs.size = some { cls := .type "tuple", data := .seq #[g, g2] } := (sb.2 _ (Nat.ne_of_gt zl)).trans n5
    have I1 : Inv X pins σ (upd H s.heap.objs.size (.tup [x, y])) { s with heap := h2, toks := tk } := by
      refine I.turnedNew (t' := tk) (ch := [z, TI, TO, i1, i2]) (fun e o hb q => ?_) fpk (Nat.le_refl _) ⟨by show 2 ≤ 2 ^ 24; decide, [g, g2], .cons rg (.cons rg2 .nil), ⟨_, tup2, rfl, _, rfl⟩⟩
      simp only [List.mem_cons, List.not_mem_nil, or_false, not_or] at hb
      exact (sb.2 e hb.1).trans (n7 e o hb.1 hb.2.2.1 hb.2.2.2.1 hb.2.2.2.2 q)
    have up : ∀ {e : Addr} {o : Obj}, e ≠ z → h1.get? e = some o → h2.get? e = some o := fun ne q => (sb.2 _ ne).trans q
    refine ⟨.ref s.heap.objs.size, _, I1, rfl, ⟨_, x, y, rfl, I.hok.fresh (Nat.le_refl _), rfl, fun l hl => by rw [c.inj I hl sx]; exact ex, fun l hl => by rw [d.inj I hl sy]; exact ey⟩,
      ⟨m1, up S.TIz (n7 TI _ S.TIz S.TITO S.TIi1 S.TIi2 q2), ⟨g, g2, up S.TOz n2⟩, c.up n3.1 fun o q => up (Ne.symm S.zi1) q, d.up n4.1 fun o q => up (Ne.symm S.zi2) q⟩, fun e he => ?_⟩
    rw [upd_ne]
    · exact (fpk e he).1
    · have : e < s.heap.objs.size := by
        simp only [List.mem_cons, List.not_mem_nil, or_false] at he
        rcases he with rfl | rfl | rfl | rfl | rfl
        · exact zl
        · exact Heap.lt_size q2
        · exact Heap.lt_size q3
        · obtain ⟨o, eo, _⟩ := c.nocell q4; exact Heap.lt_size eo
        · obtain ⟨o, eo, _⟩ := d.nocell q5; exact Heap.lt_size eo
      exact Nat.ne_of_lt this
  done := by
    intro X hP hw hK hc i pins s σ H E I fpk ⟨q1, q2, ⟨u, v, q3⟩, q4, q5⟩ ⟨xs, ys, sx, sy, l1, l2, le⟩
    subst hP hw hK
    obtain ⟨us, rus, cx⟩ := c.own I sx
    obtain ⟨vs, rvs, cy⟩ := d.own I sy
    have g1 := rus.length
    have g2 := rvs.length
    have hh : X.A.in1.handled = none := I.ok.hd hc
    refine wpAny_pyNext_zipD2_end S (c.draws hh i1 a na us.toArray) (d.draws hh i2 b nb vs.toArray) q1 q2 q3 ⟨q4, cx⟩ ⟨q5, cy⟩ (by rw [List.size_toArray]; omega) (by rw [List.size_toArray]; omega) (by rw [List.size_toArray, List.size_toArray]; omega) fun h1 tk kp => ⟨rfl, ?_⟩
    refine I.turnedL (t' := tk) (ch := [z, TI, TO, i1, i2]) (fun e o hb q => ?_) fpk
    simp only [List.mem_cons, List.not_mem_nil, or_false, not_or] at hb
    exact kp e o hb.1 hb.2.2.1 hb.2.2.2.1 hb.2.2.2.2 q
  self := fun A i s Q E st h => wpAny_pyIter_zip st.1 h
/-- zip(e, e2) -/
def iZipM (K : PySem.W.Frag) (c d : Side) (ta : TA) : TI := fun σ H R => ta σ H fun vs H1 => ∃ a b xs ys, vs = [.ref a, .ref b] ∧ c.sq K H1 a xs ∧ d.sq K H1 b ys ∧ R (ItM K c d a b) H1
theorem pi_zipM {X : Cx} {e e2 : Expr} {ta : TA} {p pos tp : Pos} {es : List Expr} {kk : Nat} {c d : Side} (hg : Gl X "zip") (hm : X.mg "zip" = none) (ha : PA X [e, e2] ta)
    (hs : starEach [e, e2] X.env = (false, eval e X.env) :: starEach [e2] X.env := by rfl) (hpl : (backTo pos (starEach [e2] X.env)).any (·.1) = false := by rfl) :
    PI X (.Tuple es kk tp) (.Call (.Name "zip" p) [e, e2] [] pos) (iZipM X.K c d ta) := by
  refine ⟨fun pins s σ H R I h => Call_ (ld_blt I hg hm PyProof.Rows.boot_zip (PyProof.Rows.callWith_type1 (thn (ha.run pos pins s σ H _ I h) fun us s1 ⟨vs, H1, I1, r1, a, b, xs, ys, ev, sx, sy, q⟩ => ?_) hs hpl))⟩
  subst ev
  obtain ⟨u, v, rfl, ru, rv⟩ : ∃ u v, us = [u, v] ∧ RelV (.ref a) u ∧ RelV (.ref b) v := by
    cases r1 with
    | cons r t => cases t with
      | cons r' t => cases t; exact ⟨_, _, rfl, r, r'⟩
  cases ru
  cases rv
  obtain ⟨ws, rw1, cx⟩ := c.own I1 sx
  obtain ⟨zs, rw2, cy⟩ := d.own I1 sy
  have la := c.lt cx
  have lb := d.lt cy
  generalize hN : s1.heap.objs.size = N at la lb
  have nw : ∀ e ∈ [N + 4, N + 2, N + 3, N, N + 1], FpOk X pins H1 e := fun e he => by
    have hle : s1.heap.objs.size ≤ e := by
      rw [hN]
      simp only [List.mem_cons, List.not_mem_nil, or_false] at he
      rcases he with z | z | z | z | z <;> (rw [z]; first | exact Nat.le_refl _ | exact Nat.le_add_right _ _)
    exact I1.fpOk hle (I1.hok.fresh hle)
  refine zip_begins2 (c.begins a ws.toArray) (d.begins b zs.toArray) cx cy fun h1 g1 g2 g3 g4 g5 _ kp => wpAny_pyIter_zip g1 ?_
  rw [hN] at g1 g2 g3 g4 g5 ⊢
  have S : ZipSep2 (N + 4) (N + 2) (N + 3) N (N + 1) [N, a] [N + 1, b] := zip_sep2 (fun e he => by rw [List.mem_singleton.mp he]; exact la) (fun e he => by rw [List.mem_singleton.mp he]; exact lb)
  exact ⟨N + 4, [N + 4, N + 2, N + 3, N, N + 1], _, ItM X.K c d a b, H1, rfl, I1.kept (t' := s1.toks) kp, turn_zipM S (Nat.ne_of_lt la) (Nat.ne_of_lt (Nat.lt_succ_of_lt lb)), ⟨g1, g2, ⟨_, _, g3⟩, c.start g4, d.start g5⟩, nw, q⟩
section
variable {X : Cx} {e a b : Expr} {σ : L2.St} {H : Hp} {N G : List Str} {sc : Scope}
/-- for x, y in zip(a, b): both sides stay while the loop goes -/
theorem s_forZ {nx : L2.St → Hp → Prop} {rt : VK} {bk ct : L2.St → Hp → Prop} (c d : Side) {g : Nat} {x y : Str} {i j : Nat} {body : List Stmt} {px py pt p cp pos : Pos} {kk : Nat} (hm : X.mg "zip" = none)
    (q : wE X a σ H fun v H1 => wE X b σ H1 fun u H2 => ∃ va vb xs ys, v = .ref va ∧ u = .ref vb ∧ c.sq X.K H2 va xs ∧ d.sq X.K H2 vb ys ∧ ∃ Pv : Nat → L2.St → Hp → Prop, Pv 0 σ H2 ∧ (∀ k σ H, k ≤ min xs.length ys.length → Pv k σ H → c.sq X.K H va xs ∧ d.sq X.K H vb ys) ∧
      (∀ k u1 u2 T σ H, xs[k]? = some u1 → ys[k]? = some u2 → Pv k σ H → H T = none → wL X body ⟨Pv (k + 1), rt, nx, Pv (k + 1)⟩ ((σ.set i (some u1)).set j (some u2)) (upd H T (.tup [u1, u2]))) ∧ ∀ σ H, Pv (min xs.length ys.length) σ H → nx σ H)
    (I : In X N G sc := by assumption) (hc : X.calm = true := by rfl) (hA : At N i x := by repeat (first | with_reducible apply At.z | with_reducible apply At.s)) (hB : At N j y := by repeat (first | with_reducible apply At.z | with_reducible apply At.s))
    (hG : At G g ("zip" : Str) := by repeat (first | with_reducible apply At.z | with_reducible apply At.s)) (hs : starEach [a, b] X.env = (false, eval a X.env) :: starEach [b] X.env := by rfl) (hpl : (backTo cp (starEach [b] X.env)).any (·.1) = false := by rfl)
    (hs1 : starEach (b :: []) X.env = (false, eval b X.env) :: starEach [] X.env := by rfl) (hs2 : ∀ z, foldedSetIterable (.Call (.Name "zip" p) [a, b] [] cp) X.env z = pure z := by intro _; rfl) :
    wS X (.For (.Tuple [.Name x px, .Name y py] kk pt) (.Call (.Name "zip" p) [a, b] [] cp) body [] pos) ⟨nx, rt, bk, ct⟩ σ H := by
  refine s_of (ps_for I.never hc (pi_zipM (c := c) (d := d) (I.g hG) hm (pa_cons pe (pa_cons pe pa_nil hs1) hs) hs hpl) (pg_tup hc (pgs_cons (pg_name I.nd (I.hi hA) (I.loc hA) I.f) (pgs_cons (pg_name I.nd (I.hi hB) (I.loc hB) I.f) pgs_nil))) pl hs2) (e_mono q fun v H1 q1 => e_mono q1 fun u H2 q2 => ?_)
  obtain ⟨va, vb, xs, ys, rfl, rfl, sx, sy, Pv, h0, hk, hb, hd⟩ := q2
  refine ⟨va, vb, xs, ys, rfl, sx, sy, fun k m σ H => m = min xs.length ys.length - k ∧ k ≤ min xs.length ys.length ∧ Pv k σ H, ⟨_, rfl, Nat.zero_le _, h0⟩, ?_⟩
  rintro k m σ H ⟨rfl, hle, pv⟩
  obtain ⟨tx, ty⟩ := hk k σ H hle pv
  by_cases lt : k < min xs.length ys.length
  · have l1 : k < xs.length := by omega
    have l2 : k < ys.length := by omega
    refine .inr ⟨⟨xs, ys, xs[k], ys[k], tx, ty, List.getElem?_eq_getElem l1, List.getElem?_eq_getElem l2⟩, Pv (k + 1), fun σ' H' p' => ⟨_, by omega, rfl, lt, p'⟩, fun w H' yl => ?_⟩
    obtain ⟨T, u1, u2, rfl, nT, rfl, y1, y2⟩ := yl
    exact ⟨T, [u1, u2], rfl, SqT.of upd_same, rfl, u1, [u2], rfl, u2, [], rfl, rfl, hb k u1 u2 T σ H (y1 xs tx) (y2 ys ty) pv nT⟩
  · have ek : k = min xs.length ys.length := by omega
    subst ek
    refine .inl ⟨⟨xs, ys, tx, ty, by omega, by omega, by omega⟩, hd σ H pv⟩
/-- [elt for x in range(a) if c], as a value -/
theorem e_lcRf {X : Cx} {elt c a : Expr} {σ : L2.St} {H : Hp} {Q : VK} {pos : Pos} {N G G' : List Str} {Vn : List (Nat × Str)} {sc scope : Scope} {i g : Nat} {x : Str} {px p cp : Pos} (B : BkOk X.N Vn G' i x sc scope) (hm : X.mg "range" = none)
    (q : wE X a σ H fun v H1 => ∃ n : Nat, v = .int n ∧ n < 2 ^ 62 ∧ ∀ D, H1 D = none → LcRf X Vn G' elt c scope i n D σ H1 fun H2 => Q (.ref D) H2)
    (I : In X N G sc := by assumption) (hc : X.calm = true := by rfl) (hG : At G g ("range" : Str) := by repeat (first | with_reducible apply At.z | with_reducible apply At.s))
    (hs : starEach [a] X.env = [(false, eval a X.env)] := by rfl) (hs2 : ∀ z, foldedSetIterable (.Call (.Name "range" p) [a] [] cp) X.env z = pure z := by intro _; rfl) (hs1 : starEach (a :: []) X.env = (false, eval a X.env) :: starEach [] X.env := by rfl) :
    wE X (.ListComp elt [⟨.Name x px, .Call (.Name "range" p) [a] [] cp, [c], 0⟩] scope pos) σ H Q := by
  refine e_of (pe_lc (own := [(x, i)]) (g := gName i) (tt := wBkT X Vn G' c scope) (te := wBk X Vn G' elt scope) hc I.nd (pi_range1 (I.g hG) hm (pa_cons pe pa_nil hs1) hs) (B.ok I) (fun s H C cl fp => B.pg I s H C cl fp) (fun s H C cl fp => pts_bk (B.inB I s H C cl fp)) (fun s H C cl fp => pe_bk (B.inB I s H C cl fp)) hs2) (e_mono q fun v H1 q1 => ?_)
  obtain ⟨n, rfl, hn, q2⟩ := q1
  refine ⟨(n : Int), rfl, by omega, by omega, ?_⟩
  rw [Int.toNat_natCast]
  exact fun D hD => lcRf_of (q2 D hD)
/-- for x in reversed(range(a)) -/
theorem s_forRR {X : Cx} {a : Expr} {σ : L2.St} {H : Hp} {N G : List Str} {sc : Scope} {nx : L2.St → Hp → Prop} {rt : VK} {bk ct : L2.St → Hp → Prop} {g g2 : Nat} {x : Str} {i : Nat} {body : List Stmt} {px p p2 cp cp2 pos : Pos} (hm : X.mg "reversed" = none) (hm2 : X.mg "range" = none)
    (q : wE X a σ H fun v H1 => ∃ n : Nat, v = .int n ∧ n < 2 ^ 62 ∧ ∃ Pv : Nat → L2.St → Hp → Prop, Pv 0 σ H1 ∧ (∀ k σ H, k < n → Pv k σ H → wL X body ⟨Pv (k + 1), rt, nx, Pv (k + 1)⟩ (σ.set i (some (.int ((n - 1 - k : Nat) : Int)))) H) ∧ ∀ σ H, Pv n σ H → nx σ H)
    (I : In X N G sc := by assumption) (hc : X.calm = true := by rfl) (hA : At N i x := by repeat (first | with_reducible apply At.z | with_reducible apply At.s))
    (hG : At G g ("reversed" : Str) := by repeat (first | with_reducible apply At.z | with_reducible apply At.s)) (hG2 : At G g2 ("range" : Str) := by repeat (first | with_reducible apply At.z | with_reducible apply At.s))
    (hs : starEach [.Call (.Name "range" p2) [a] [] cp2] X.env = (false, eval (.Call (.Name "range" p2) [a] [] cp2) X.env) :: starEach [] X.env := by rfl) (hs1 : starEach [a] X.env = (false, eval a X.env) :: starEach [] X.env := by rfl)
    (hs2 : ∀ z, foldedSetIterable (.Call (.Name "reversed" p) [.Call (.Name "range" p2) [a] [] cp2] [] cp) X.env z = pure z := by intro _; rfl) :
    wS X (.For (.Name x px) (.Call (.Name "reversed" p) [.Call (.Name "range" p2) [a] [] cp2] [] cp) body [] pos) ⟨nx, rt, bk, ct⟩ σ H := by
  refine s_of (ps_for I.never hc (pi_revR (I.g hG) hm (prg_1 (I.g hG2) hm2 pe hs1) hs) (pg_name I.nd (I.hi hA) (I.loc hA) I.f) pl hs2) (e_mono q fun v H1 q1 => ?_)
  obtain ⟨n, rfl, hn, Pv, h0, hb, hd⟩ := q1
  refine ⟨(n : Int), rfl, by omega, by omega, by omega, by omega, ?_⟩
  rw [show ((n : Int) - 0).toNat = n by omega]
  refine for_rangeC (n := n) Pv h0 (fun k σ H hk pv => ?_) hd
  rw [show (0 : Int) + ((n : Nat) : Int) - 1 + ((k : Nat) : Int) * (-1) = ((n - 1 - k : Nat) : Int) by omega]
  exact hb k σ H hk pv
end
end Wk

set_option maxHeartbeats 4000000
/-! My own layer: list(zip(a, b)), whose pairs the list holds. -/
namespace Wk
open PySem PySem.Spec PyProof.Rows L2
section
variable {prog : Program} {w : World} {A : Around} {E : Value → Shared → Prop} {s : Shared} {z TI TO T i1 i2 : Addr} {fa fb : List Addr} {n1 n2 i : Nat} {Pa Pb : Nat → Value → Prop} {Sa Sb : Nat → Heap → Prop} {fl : Bool} {oT : Obj}
/-- a turn of a zip whose last tuple is still held -/
theorem zh_item {Q : Value → Shared → Prop} (Z : ZipSep2 z TI TO i1 i2 fa fb) (Da : Draws prog w A i1 fa n1 Pa Sa) (Db : Draws prog w A i2 fb n2 Pb Sb)
    (hz : IsZipHeld s.heap z TI TO T fl) (hT : s.heap.get? T = some oT) (hI : IsTupOf2 s.heap TI (.ref i1) (.ref i2)) (ta : Sa i s.heap) (tb : Sb i s.heap) (la : i < n1) (lb : i < n2)
    (k : ∀ x y g tk, Pa i x → Pb i y → IsZipHeld g z TI TO T true → Sa (i + 1) g → Sb (i + 1) g → IsTupOf2 g s.heap.objs.size x y → g.objs.size = s.heap.objs.size + 1 →
      (∀ e o, e ≠ z → e ≠ i1 → e ≠ i2 → s.heap.get? e = some o → g.get? e = some o) → Q (.ref s.heap.objs.size) { s with heap := g, toks := tk }) :
    wpAny (model prog w) A (Builtin.«zip.__next__» ⟨[.ref z], []⟩) (fun r s' => ∃ v, r = .done (.ret v) ∧ Q v s') E s := by
  obtain ⟨h0, gn, dr, t0, os⟩ := s
  show wpAny _ A (field (.ref z) 2 >>= _) _ E _
  refine wpAny_bind (wpAny_field hz rfl (x := Value.bool false) rfl ?_)
  show wpAny _ A (field (.ref z) 3 >>= _) _ E _
  refine wpAny_bind (wpAny_field hz rfl (x := Value.ref TI) rfl ?_)
  refine wpAny_bind (wpAny_seqItems (s := ⟨h0, gn, dr, t0, os⟩) hI rfl ?_)
  show wpAny _ A (Builtin.SmallTypes.ownedTupleIsFree (.ref z) >>= _) _ E _
  refine wpAny_bind (wpAny_tupleHeld_zip (s := ⟨h0, gn, dr, t0, os⟩) hz hT fun h1 z1 b1 => ?_)
  replace b1 : Heap.SameBut z h0 h1 := b1
  simp only [Bool.false_eq_true, if_false]
  refine wpAny_bind ?_
  rw [← Array.forIn_toList]
  simp only [List.forIn_cons, List.forIn_nil]
  refine wpAny_bind (wpAny_bind (wpAny_holding ?_))
  show wpAny _ A (Builtin.SmallTypes.nextOf (.ref i1) >>= _) _ E ⟨h1, gn, dr, t0, os⟩
  refine wpAny_bind (Da.item i _ _ _ la (Da.over ta b1 Z.zf1) fun x h2 t2 px sx b2 => wpAny_pure ?_)
  replace b2 : Heap.SameBut i1 h1 h2 := b2
  refine wpAny_pure ?_
  refine wpAny_bind (wpAny_bind (wpAny_holding ?_))
  show wpAny _ A (Builtin.SmallTypes.nextOf (.ref i2) >>= _) _ E ⟨h2, gn, dr, t2, os⟩
  refine wpAny_bind (Db.item i _ _ _ lb (Db.over (Db.over tb b1 Z.zf2) b2 Z.sep1_2) fun y h3 t3 py sy b3 => wpAny_pure ?_)
  replace b3 : Heap.SameBut i2 h2 h3 := b3
  refine wpAny_pure (wpAny_pure ?_)
  show wpAny _ A (newTuple [x, y] >>= _) _ E ⟨h3, gn, dr, t3, os⟩
  refine wpAny_bind (wpAny_newTuple ?_)
  have sz : h3.objs.size = h0.objs.size := by rw [b3.1, b2.1, b1.1]
  have z3 : IsZipHeld h3 z TI TO T true := b3.extBut _ _ Z.zi2 (b2.extBut _ _ Z.zi1 z1)
  have kp : ∀ e o, e ≠ z → e ≠ i1 → e ≠ i2 → h0.get? e = some o → h3.get? e = some o := fun e o c1 c2 c3 q => b3.extBut _ _ c3 (b2.extBut _ _ c2 (b1.extBut _ _ c1 q))
  have tp : IsTupOf2 (h3.push { cls := .type "tuple", data := .seq #[x, y] }) h3.objs.size x y := Heap.get?_push_size _ rfl
  have s4 : (h3.push { cls := .type "tuple", data := .seq #[x, y] }).objs.size = h3.objs.size + 1 := Heap.size_push ..
  refine wpAny_pure ⟨_, rfl, ?_⟩
  show Q (.ref h3.objs.size) _
  rw [sz] at tp s4 ⊢
  exact k x y _ t3 px py (Heap.get?_push_of_some _ z3) (Da.frame _ _ _ (Da.over sx b3 Z.sep2_1) fun e _ o q => Heap.get?_push_of_some _ q) (Db.frame _ _ _ sy fun e _ o q => Heap.get?_push_of_some _ q) tp s4 fun e o c1 c2 c3 q => Heap.get?_push_of_some _ (kp e o c1 c2 c3 q)
theorem zh_stop {Q : PySem.Fin → Shared → Prop} (Z : ZipSep2 z TI TO i1 i2 fa fb) (Da : Draws prog w A i1 fa n1 Pa Sa) (Db : Draws prog w A i2 fb n2 Pb Sb)
    (hz : IsZipHeld s.heap z TI TO T fl) (hT : s.heap.get? T = some oT) (hI : IsTupOf2 s.heap TI (.ref i1) (.ref i2)) (ta : Sa i s.heap) (tb : Sb i s.heap) (la : i ≤ n1) (lb : i ≤ n2) (hend : i = n1 ∨ i = n2)
    (k : ∀ g tk e, (∀ c o, c ≠ z → c ≠ i1 → c ≠ i2 → s.heap.get? c = some o → g.get? c = some o) → (∃ o, g.get? e = some o ∧ o.cls = .type "StopIteration") → E (.ref e) { s with heap := g, toks := tk }) :
    wpAny (model prog w) A (Builtin.«zip.__next__» ⟨[.ref z], []⟩) Q E s := by
  obtain ⟨h0, gn, dr, t0, os⟩ := s
  show wpAny _ A (field (.ref z) 2 >>= _) _ E _
  refine wpAny_bind (wpAny_field hz rfl (x := Value.bool false) rfl ?_)
  show wpAny _ A (field (.ref z) 3 >>= _) _ E _
  refine wpAny_bind (wpAny_field hz rfl (x := Value.ref TI) rfl ?_)
  refine wpAny_bind (wpAny_seqItems (s := ⟨h0, gn, dr, t0, os⟩) hI rfl ?_)
  show wpAny _ A (Builtin.SmallTypes.ownedTupleIsFree (.ref z) >>= _) _ E _
  refine wpAny_bind (wpAny_tupleHeld_zip (s := ⟨h0, gn, dr, t0, os⟩) hz hT fun h1 z1 b1 => ?_)
  replace b1 : Heap.SameBut z h0 h1 := b1
  simp only [Bool.false_eq_true, if_false]
  refine wpAny_bind ?_
  rw [← Array.forIn_toList]
  simp only [List.forIn_cons, List.forIn_nil]
  refine wpAny_bind (wpAny_bind (wpAny_holding ?_))
  show wpAny _ A (Builtin.SmallTypes.nextOf (.ref i1) >>= _) _ E ⟨h1, gn, dr, t0, os⟩
  by_cases lt : i < n1
  · have e2 : i = n2 := by omega
    refine wpAny_bind (Da.item i _ _ _ lt (Da.over ta b1 Z.zf1) fun x h2 t2 px sx b2 => wpAny_pure ?_)
    replace b2 : Heap.SameBut i1 h1 h2 := b2
    refine wpAny_pure ?_
    refine wpAny_bind (wpAny_bind (wpAny_holding ?_))
    show wpAny _ A (Builtin.SmallTypes.nextOf (.ref i2) >>= _) _ E ⟨h2, gn, dr, t2, os⟩
    refine wpAny_bind (Db.done ⟨h2, gn, dr, t2, os⟩ _ _ (by rw [← e2]; exact Db.over (Db.over tb b1 Z.zf2) b2 Z.sep1_2) fun h3 e b3 he => ?_)
    replace b3 : Heap.ExtBut i2 h2 h3 := b3
    exact k h3 t2 e (fun c o c1 c2 c3 q => b3 _ _ c3 (b2.extBut _ _ c2 (b1.extBut _ _ c1 q))) he
  · have e1 : i = n1 := by omega
    refine wpAny_bind (Da.done ⟨h1, gn, dr, t0, os⟩ _ _ (by rw [← e1]; exact Da.over ta b1 Z.zf1) fun h3 e b3 he => ?_)
    replace b3 : Heap.ExtBut i1 h1 h3 := b3
    exact k h3 t0 e (fun c o c1 c2 _ q => b3 _ _ c2 (b1.extBut _ _ c1 q)) he
/-- how a zip stands whose tuples the list at L holds -/
def ZS (z TI TO i1 i2 L : Addr) (Sa Sb : Nat → Heap → Prop) (i : Nat) (h : Heap) : Prop := IsTupOf2 h TI (.ref i1) (.ref i2) ∧ Sa i h ∧ Sb i h ∧
  ((IsZip h z TI TO .none ∧ ∃ u v, IsTupOf2 h TO u v) ∨ ∃ T fl oT, IsZipHeld h z TI TO T fl ∧ h.get? T = some oT ∧ T ≠ z ∧ T ≠ i1 ∧ T ≠ i2 ∧ T ≠ L)
theorem zs_item {L : Addr} {Q : Option Value → Shared → Prop} (Z : ZipSep2 z TI TO i1 i2 fa fb) (Da : Draws prog w A.in1 i1 fa n1 Pa Sa) (Db : Draws prog w A.in1 i2 fb n2 Pb Sb) (st : ZS z TI TO i1 i2 L Sa Sb i s.heap) (hL : L < s.heap.objs.size) (la : i < n1) (lb : i < n2)
    (k : ∀ x y g tk, Pa i x → Pb i y → ZS z TI TO i1 i2 L Sa Sb (i + 1) g → IsTupOf2 g s.heap.objs.size x y → g.objs.size = s.heap.objs.size + 1 →
      (∀ e o, e ≠ z → e ≠ TO → e ≠ i1 → e ≠ i2 → s.heap.get? e = some o → g.get? e = some o) → Q (some (.ref s.heap.objs.size)) { s with heap := g, toks := tk }) :
    wpAny (model prog w) A (pyNext (.ref z)) Q E s := by
  obtain ⟨hI, ta, tb, hz⟩ := st
  obtain ⟨o1, l1⟩ := Da.live _ _ ta
  obtain ⟨o2, l2⟩ := Db.live _ _ tb
  have n1' : s.heap.objs.size ≠ i1 := Nat.ne_of_gt (Heap.lt_size l1)
  have n2' : s.heap.objs.size ≠ i2 := Nat.ne_of_gt (Heap.lt_size l2)
  rcases hz with ⟨hz, u, v, hO⟩ | ⟨T, fl, oT, hz, hT, r1, r2, r3, r4⟩
  · have nz : s.heap.objs.size ≠ z := Nat.ne_of_gt (Heap.lt_size hz)
    refine wpAny_pyNext_zipD2_item Z Da Db hz hI hO ta tb la lb fun x y g tk px py z' O' sa sb tp sz kp => ?_
    exact k x y g tk px py ⟨kp _ _ Z.TIz Z.TITO Z.TIi1 Z.TIi2 hI, sa, sb, .inr ⟨_, false, _, z', tp, nz, n1', n2', Nat.ne_of_gt hL⟩⟩ tp sz kp
  · have tz : s.TypeIs (.ref z) "zip" := ⟨_, hz, rfl⟩
    unfold pyNext
    exact wpAny_bind (wpAny_attempt (wpAny_callSpecial?_slot (name := Str.ofString "__next__") tz F.slot_zip_next (wpAny_call_entry F.slot_zip_next tz F.entry_zip_next
      (zh_item Z Da Db hz hT hI ta tb la lb fun x y g tk px py z' sa sb tp sz kp => wpAny_pure (k x y g tk px py ⟨kp _ _ Z.TIz Z.TIi1 Z.TIi2 hI, sa, sb, .inr ⟨T, true, oT, z', kp _ _ r1 r2 r3 hT, r1, r2, r3, r4⟩⟩ tp sz fun e o c1 _ c2 c3 q => kp e o c1 c2 c3 q)) (F.args_zip_next_1 _))))
theorem zs_stop {L : Addr} {Q : Option Value → Shared → Prop} (Z : ZipSep2 z TI TO i1 i2 fa fb) (Da : Draws prog w A.in1 i1 fa n1 Pa Sa) (Db : Draws prog w A.in1 i2 fb n2 Pb Sb) (st : ZS z TI TO i1 i2 L Sa Sb i s.heap) (la : i ≤ n1) (lb : i ≤ n2) (hend : i = n1 ∨ i = n2)
    (k : ∀ g tk, (∀ e o, e ≠ z → e ≠ TO → e ≠ i1 → e ≠ i2 → s.heap.get? e = some o → g.get? e = some o) → Q none { s with heap := g, toks := tk }) :
    wpAny (model prog w) A (pyNext (.ref z)) Q E s := by
  obtain ⟨hI, ta, tb, hz⟩ := st
  rcases hz with ⟨hz, u, v, hO⟩ | ⟨T, fl, oT, hz, hT, r1, r2, r3, r4⟩
  · exact wpAny_pyNext_zipD2_end Z Da Db hz hI hO ta tb la lb hend fun g tk kp => k g tk kp
  · have tz : s.TypeIs (.ref z) "zip" := ⟨_, hz, rfl⟩
    unfold pyNext
    refine wpAny_bind (wpAny_attempt (wpAny_callSpecial?_slot (name := Str.ofString "__next__") tz F.slot_zip_next (wpAny_call_entry F.slot_zip_next tz F.entry_zip_next (zh_stop Z Da Db hz hT hI ta tb la lb hend fun g tk e kp he => ?_) (F.args_zip_next_1 _))))
    obtain ⟨o, ho, hc⟩ := he
    refine wpAny_bind (wpAny_isInstance (T := "StopIteration") (b := true) ⟨o, ho, hc⟩ isSubtype_stop ?_)
    exact wpAny_pure (k g tk fun e o c1 _ c2 c3 q => kp e o c1 c2 c3 q)
/-- the pairs in the list: at rising addresses above lo -/
structure ZG (Pa Pb : Nat → Value → Prop) (lo : Addr) (h : Heap) (as : List Addr) : Prop where
  rise : as.Pairwise (· < ·)
  above : ∀ a ∈ as, lo < a
  pr : ∀ (j : Nat) (a : Addr), as[j]? = some a → ∃ x y, Pa j x ∧ Pb j y ∧ IsTupOf2 h a x y
theorem ZG.there {lo : Addr} {h : Heap} {as : List Addr} (g : ZG Pa Pb lo h as) {a : Addr} (ha : a ∈ as) : a < h.objs.size := by
  obtain ⟨j, hj⟩ := List.mem_iff_getElem?.mp ha
  obtain ⟨_, _, _, _, e⟩ := g.pr j a hj
  exact Heap.lt_size e
end
section
variable {prog : Program} {w : World} {A : Around} {s : Shared} {R : Result → Shared → Prop} {z TI TO i1 i2 : Addr} {fa fb : List Addr} {n1 n2 : Nat} {Pa Pb : Nat → Value → Prop} {Sa Sb : Nat → Heap → Prop}
theorem zs_loop {L lo : Addr} (Z : ZipSep2 z TI TO i1 i2 fa fb) (Da : Draws prog w A.in1.in1 i1 fa n1 Pa Sa) (Db : Draws prog w A.in1.in1 i2 fb n2 Pb Sb) (cz : z ≤ lo) (cO : TO ≤ lo) (c1 : i1 ≤ lo) (c2 : i2 ≤ lo) (cL : L ≤ lo) (lz : L ≠ z) (lI : L ≠ TI) (lO : L ≠ TO) (l1 : L ≠ i1) (l2 : L ≠ i2) (la : L ∉ fa) (lb : L ∉ fb) (hn : min n1 n2 ≤ sizeLine) (res : Value) {hb : Heap}
    (hR : ∀ g tk acc c as, (∀ b o, b ≠ L → b ≠ z → b ≠ TO → b ≠ i1 → b ≠ i2 → hb.get? b = some o → g.get? b = some o) → g.get? L = some { cls := .type "list", dict := none, data := .seq acc c, slots := #[] } → as.length = min n1 n2 → ZG Pa Pb lo g as → acc.toList = as.map Value.ref → R (.ok (.ret res)) { s with heap := g, toks := tk }) :
    ∀ (k i : Nat) (h : Heap) (tk c : Nat) (acc : Array Value) (as : List Addr), min n1 n2 - i = k → i ≤ min n1 n2 → ZS z TI TO i1 i2 L Sa Sb i h → (∀ b o, b ≠ L → b ≠ z → b ≠ TO → b ≠ i1 → b ≠ i2 → hb.get? b = some o → h.get? b = some o) →
      h.get? L = some { cls := .type "list", dict := none, data := .seq acc c, slots := #[] } → acc.toList = as.map Value.ref → as.length = i → ZG Pa Pb lo h as → lo < h.objs.size →
      codeAny (model prog w) A (.builtin "list.extend.loop" ⟨[.ref L, .ref z, res], []⟩) R { s with heap := h, toks := tk } := by
  intro k
  induction k with
  | zero =>
    intro i h tk c acc as hk hi st hkp hL hacc hl hG hlo
    refine codeAny_builtin F.entry_extend_loop ?_
    rw [Around.under_plainId F.plain_extend_loop _]
    show wpAny _ A.in1 (pyNext (.ref z) >>= _) _ _ _
    refine wpAny_bind (zs_stop (s := { s with heap := h, toks := tk }) (A := A.in1) Z Da Db st (by omega) (by omega) (by omega) fun g t' kp => ?_)
    refine wpAny_pure (hR g t' acc c as (fun b o q0 q1 q2 q3 q4 e => kp b o q1 q2 q3 q4 (hkp b o q0 q1 q2 q3 q4 e)) (kp L _ lz lO l1 l2 hL) (by omega) ⟨hG.rise, hG.above, fun j a hj => ?_⟩ hacc)
    obtain ⟨x, y, p1, p2, p3⟩ := hG.pr j a hj
    have ab := hG.above a (List.mem_of_getElem? hj)
    exact ⟨x, y, p1, p2, kp a _ (Nat.ne_of_gt (Nat.lt_of_le_of_lt cz ab)) (Nat.ne_of_gt (Nat.lt_of_le_of_lt cO ab)) (Nat.ne_of_gt (Nat.lt_of_le_of_lt c1 ab)) (Nat.ne_of_gt (Nat.lt_of_le_of_lt c2 ab)) p3⟩
  | succ k ih =>
    intro i h tk c acc as hk hi st hkp hL hacc hl hG hlo
    have lt1 : i < n1 := by omega
    have lt2 : i < n2 := by omega
    have hsz : acc.size = i := by rw [← Array.length_toList, hacc, List.length_map, hl]
    refine codeAny_builtin F.entry_extend_loop ?_
    rw [Around.under_plainId F.plain_extend_loop _]
    show wpAny _ A.in1 (pyNext (.ref z) >>= _) _ _ _
    refine wpAny_bind (zs_item (s := { s with heap := h, toks := tk }) (A := A.in1) Z Da Db st (Heap.lt_size hL) lt1 lt2 fun x y g t' px py st' tp sz kp => ?_)
    dsimp only at tp sz kp ⊢
    have hL' := kp L _ lz lO l1 l2 hL
    have Llt : L < h.objs.size := Heap.lt_size hL
    have up : ∀ b o, b ≠ L → g.get? b = some o → (g.update L (Obj.mapSeq (·.push (Value.ref h.objs.size)))).get? b = some o := fun b o nb e => (Heap.get?_update_other _ _ (Ne.symm nb)).trans e
    show wpAny _ A.in1 (updateSeq L (·.push (Value.ref h.objs.size)) >>= _) _ _ _
    refine wpAny_bind ?_
    refine wpAny_updateSeq hL' rfl (wpAny_pure ⟨plainId_quiet F.plain_extend_loop _, ih (i + 1) _ t' _ (acc.push (Value.ref h.objs.size)) (as ++ [h.objs.size]) (by omega) (by omega) ?_
      (fun b o q0 q1 q2 q3 q4 e => up b o q0 (kp b o q1 q2 q3 q4 (hkp b o q0 q1 q2 q3 q4 e))) (Heap.get?_update_self _ hL' rfl) (by rw [Array.toList_push, hacc, List.map_append]; rfl) (by rw [List.length_append, hl]; rfl) ⟨?_, ?_, ?_⟩ ?_⟩) (by rw [hsz]; omega) (by show (acc.push (Value.ref h.objs.size)).size ≤ sizeLine + 1; rw [Array.size_push, hsz]; omega)
    · obtain ⟨q1, q2, q3, q4⟩ := st'
      refine ⟨up _ _ (Ne.symm lI) q1, Da.frame _ _ _ q2 fun b hb o e => up b o (fun q => la (q ▸ hb)) e, Db.frame _ _ _ q3 fun b hb o e => up b o (fun q => lb (q ▸ hb)) e, ?_⟩
      rcases q4 with ⟨q5, u, v, q6⟩ | ⟨T, fl, oT, q5, q6, r1, r2, r3, r4⟩
      · exact .inl ⟨up _ _ (Ne.symm lz) q5, u, v, up _ _ (Ne.symm lO) q6⟩
      · exact .inr ⟨T, fl, oT, up _ _ (Ne.symm lz) q5, up _ _ r4 q6, r1, r2, r3, r4⟩
    · refine List.pairwise_append.mpr ⟨hG.rise, List.pairwise_singleton _ _, fun a ha b hb' => ?_⟩
      rw [List.mem_singleton.mp hb']
      exact hG.there ha
    · intro a ha
      rcases List.mem_append.mp ha with ha | ha
      · exact hG.above a ha
      · rw [List.mem_singleton.mp ha]; exact hlo
    · intro j b hj
      rcases Nat.lt_trichotomy j as.length with q | q | q
      · rw [List.getElem?_append_left q] at hj
        obtain ⟨x', y', p1, p2, p3⟩ := hG.pr j b hj
        have ab := hG.above b (List.mem_of_getElem? hj)
        exact ⟨x', y', p1, p2, up b _ (Nat.ne_of_gt (Nat.lt_of_le_of_lt cL ab)) (kp b _ (Nat.ne_of_gt (Nat.lt_of_le_of_lt cz ab)) (Nat.ne_of_gt (Nat.lt_of_le_of_lt cO ab)) (Nat.ne_of_gt (Nat.lt_of_le_of_lt c1 ab)) (Nat.ne_of_gt (Nat.lt_of_le_of_lt c2 ab)) p3)⟩
      · subst q
        have eb : h.objs.size = b := by simpa using hj
        subst eb
        exact ⟨x, y, by rw [hl]; exact px, by rw [hl]; exact py, up _ _ (Nat.ne_of_gt Llt) tp⟩
      · rw [List.getElem?_eq_none (by rw [List.length_append, List.length_singleton]; omega)] at hj
        cases hj
    · have e : (g.update L (Obj.mapSeq (·.push (Value.ref h.objs.size)))).get? h.objs.size = _ := up _ _ (Nat.ne_of_gt Llt) tp
      exact Nat.lt_trans hlo (Heap.lt_size e)
end
theorem zip_nolen : typeLookup (.type "zip") "__len__" = pure none := by rw [typeLookup_type, builtinLookup_eq_fast]; kernel_rfl
theorem zip_nohint : typeLookup (.type "zip") "__length_hint__" = pure none := by rw [typeLookup_type, builtinLookup_eq_fast]; kernel_rfl
section
variable {prog : Program} {w : World} {A : Around} {E : Value → Shared → Prop} {s : Shared} {z TI TO i1 i2 : Addr} {fa fb : List Addr} {n1 n2 : Nat} {Pa Pb : Nat → Value → Prop} {Sa Sb : Nat → Heap → Prop}
/-- list(z), z a zip that has not begun -/
theorem list_zip {Q : Value → Shared → Prop} (Z : ZipSep2 z TI TO i1 i2 fa fb) (D4 : Draws prog w A.in1.in1.in1 i1 fa n1 Pa Sa) (D5 : Draws prog w A.in1.in1.in1 i2 fb n2 Pb Sb)
    (hz : IsZip s.heap z TI TO .none) (hI : IsTupOf2 s.heap TI (.ref i1) (.ref i2)) (hO : ∃ u v, IsTupOf2 s.heap TO u v) (ta : Sa 0 s.heap) (tb : Sb 0 s.heap) (fa1 : ∀ b ∈ fa, b < s.heap.objs.size) (fb1 : ∀ b ∈ fb, b < s.heap.objs.size) (hn : min n1 n2 ≤ sizeLine)
    (hQ : ∀ g tk acc c as, (∀ b o, b ≠ z → b ≠ TO → b ≠ i1 → b ≠ i2 → s.heap.get? b = some o → g.get? b = some o) → g.get? s.heap.objs.size = some { cls := .type "list", dict := none, data := .seq acc c, slots := #[] } → as.length = min n1 n2 → ZG Pa Pb s.heap.objs.size g as → acc.toList = as.map Value.ref → Q (.ref s.heap.objs.size) { s with heap := g, toks := tk }) :
    wpAny (model prog w) A (call (.type "list") [.ref z]) Q E s := by
  refine callType_codes (Q₁ := fun ob t => ob = .ref s.heap.objs.size ∧ t = { s with heap := s.heap.push { cls := .type "list", data := .seq #[] } }) F.called_list (F.typeCall_list_1 _) F.entry_list_init (code_list_new _ ⟨rfl, rfl⟩) fun ob t h => ?_
  obtain ⟨rfl, rfl⟩ := h
  have hS : (s.heap.push { cls := .type "list", data := .seq #[] }).get? s.heap.objs.size = some { cls := .type "list", data := .seq #[] } := Heap.get?_push_size _ rfl
  have zlt : z < s.heap.objs.size := Heap.lt_size hz
  have Olt : TO < s.heap.objs.size := let ⟨_, _, e⟩ := hO; Heap.lt_size e
  have Ilt : TI < s.heap.objs.size := Heap.lt_size hI
  have lt1 : i1 < s.heap.objs.size := fa1 _ Z.mem1
  have lt2 : i2 < s.heap.objs.size := fb1 _ Z.mem2
  refine ⟨⟨_, hS, rfl⟩, F.args_list_init_2 _ _, ?_⟩
  show wpAny _ A.in1.in1 (do let old ← Builtin.List.listItems (.ref s.heap.objs.size); Builtin.List.listUpdate (.ref s.heap.objs.size) (fun _ => #[]); letGo old.toList.reverse; Builtin.List.listExtendWith (.ref s.heap.objs.size) (.ref z) .none) _ _ _
  refine wpAny_bind ?_
  unfold Builtin.List.listItems
  refine wpAny_bind (wpAny_seqItems hS rfl (wpAny_pure ?_))
  show wpAny _ A.in1.in1 (updateSeq s.heap.objs.size (fun _ => #[]) >>= fun _ => letGo (#[] : Array Value).toList.reverse >>= fun _ => Builtin.List.listExtendWith (.ref s.heap.objs.size) (.ref z) .none) _ _ _
  refine wpAny_bind (wpAny_updateSeq hS rfl ?_)
  have hS2 := Heap.get?_update_self (Obj.mapSeq (fun _ => (#[] : Array Value))) hS rfl
  refine wpAny_bind (wpAny_letGo ?_)
  have up : ∀ (h : Heap) (f : Obj → Obj), (∀ b o, s.heap.get? b = some o → h.get? b = some o) → ∀ b o, s.heap.get? b = some o → (h.update s.heap.objs.size f).get? b = some o := fun h f q b o e => (Heap.get?_update_other _ _ (Ne.symm (Nat.ne_of_lt (Heap.lt_size e)))).trans (q b o e)
  have k1 : ∀ b o, s.heap.get? b = some o → (s.heap.push { cls := .type "list", data := .seq #[] }).get? b = some o := fun b o e => Heap.get?_push_of_some _ e
  have k2 := up _ (Obj.mapSeq (fun _ => (#[] : Array Value))) k1
  unfold Builtin.List.listExtendWith
  have zt : ∀ {h : Heap} {g : Array GenState} {d : Drawn} {tk : Nat} {os : OsState}, (∀ b o, s.heap.get? b = some o → h.get? b = some o) → Shared.TypeIs ⟨h, g, d, tk, os⟩ (.ref z) "zip" := fun {h g d tk os} q => ⟨_, q _ _ hz, rfl⟩
  refine wpAny_bind (wpAny_typeOf (T := "zip") (zt k2) ?_)
  have e1 : Builtin.List.listSameRef (.ref s.heap.objs.size) (.ref z) = false := by simp [Builtin.List.listSameRef, Nat.ne_of_gt zlt]
  have e2 : (Value.type "zip" == Value.type "list") = false := by decide
  have e3 : (Value.type "zip" == Value.type "tuple") = false := by decide
  simp only [e1, e2, e3, Bool.or_false, Bool.false_eq_true, if_false]
  refine wpAny_bind (wpAny_pyIter_zip (s := { s with heap := _ }) (k2 _ _ hz) ?_)
  refine wpAny_bind (wpAny_holding ?_)
  unfold Builtin.List.listLengthHint
  refine wpAny_bind (wpAny_specialOf (zt k2) zip_nolen ?_)
  show wpAny _ A.in1.in1 (specialOf (Value.ref z) (Str.ofString "__length_hint__") >>= _) _ _ _
  refine wpAny_bind (wpAny_specialOf (zt k2) zip_nohint ?_)
  refine wpAny_pure ?_
  show wpAny _ A.in1.in1 (rule "list.extend.makes-room" >>= fun _ => Builtin.List.listTouch (.ref s.heap.objs.size) >>= fun _ => again (.builtin "list.extend.loop" ⟨[.ref s.heap.objs.size, .ref z, .none], []⟩)) _ _ _
  refine wpAny_bind (wpAny_rule ?_)
  refine wpAny_bind ?_
  show wpAny _ A.in1.in1 (updateSeq s.heap.objs.size (·.push .none) >>= fun _ => updateSeq s.heap.objs.size (·.pop)) _ _ _
  refine wpAny_bind (wpAny_updateSeq hS2 rfl ?_)
  have hS3 := Heap.get?_update_self (Obj.mapSeq (·.push Value.none)) hS2 rfl
  refine wpAny_updateSeq (hz := by seq_fits) hS3 rfl ?_
  have hS4 := Heap.get?_update_self (Obj.mapSeq (·.pop)) hS3 rfl
  have k3 := up _ (Obj.mapSeq (·.push Value.none)) k2
  have k4 := up _ (Obj.mapSeq (·.pop)) k3
  refine wpAny_pure ⟨plainId_quiet F.plain_extend_loop _, zs_loop (A := A.in1) (s := s) (L := s.heap.objs.size) (lo := s.heap.objs.size) (hb := s.heap) Z D4 D5 (Nat.le_of_lt zlt) (Nat.le_of_lt Olt) (Nat.le_of_lt lt1) (Nat.le_of_lt lt2) (Nat.le_refl _) (Nat.ne_of_gt zlt) (Nat.ne_of_gt Ilt) (Nat.ne_of_gt Olt) (Nat.ne_of_gt lt1) (Nat.ne_of_gt lt2)
    (fun q => Nat.lt_irrefl _ (fa1 _ q)) (fun q => Nat.lt_irrefl _ (fb1 _ q)) hn .none (fun g tk acc c as kp hL hl hG hacc => ?_) (min n1 n2) 0 _ s.toks _ #[] [] (Nat.sub_zero _) (Nat.zero_le _)
    ⟨k4 _ _ hI, D4.frame _ _ _ ta fun b _ o e => k4 b o e, D5.frame _ _ _ tb fun b _ o e => k4 b o e, .inl ⟨k4 _ _ hz, let ⟨u, v, e⟩ := hO; ⟨u, v, k4 _ _ e⟩⟩⟩ (fun b o _ _ _ _ _ e => k4 b o e) hS4 rfl rfl ⟨List.Pairwise.nil, (fun a ha => by cases ha), fun j a hj => by simp at hj⟩ (Heap.lt_size hS4)⟩
  exact ⟨rfl, hQ g tk acc c as (fun b o q1 q2 q3 q4 e => kp b o (Nat.ne_of_lt (Heap.lt_size e)) q1 q2 q3 q4 e) hL hl hG hacc⟩
end
/-! ### in the abstract heap -/
def putP : Hp → List Addr → List (V × V) → Hp
  | H, a :: as, p :: ps => putP (upd H a (.tup [p.1, p.2])) as ps
  | H, [], _ => H
  | H, _ :: _, [] => H
theorem putP_off {b : Addr} : ∀ (as : List Addr) (ps : List (V × V)) (H : Hp), b ∉ as → putP H as ps b = H b
  | [], _, _, _ => by unfold putP; rfl
  | _ :: _, [], _, _ => by unfold putP; rfl
  | a :: as, p :: ps, H, h => by
    unfold putP
    rw [putP_off as ps _ (fun q => h (List.mem_cons_of_mem _ q)), upd_ne (fun q => h (by rw [q]; exact List.mem_cons_self))]
theorem putP_at : ∀ (as : List Addr) (ps : List (V × V)) (H : Hp), as.length = ps.length → as.Nodup → ∀ (j : Nat) (a : Addr), as[j]? = some a → ∃ q, ps[j]? = some q ∧ putP H as ps a = some (.tup [q.1, q.2])
  | [], _, _, _, _, j, a, h => by simp at h
  | _ :: _, [], _, h, _, _, _, _ => by simp at h
  | b :: as, p :: ps, H, h, nd, j, a, hj => by
    have nd' := List.nodup_cons.mp nd
    cases j with
    | zero =>
      have e : b = a := by simpa using hj
      subst e
      refine ⟨p, rfl, ?_⟩
      unfold putP
      rw [putP_off as ps _ nd'.1, upd_same]
    | succ j =>
      obtain ⟨q, h1, h2⟩ := putP_at as ps (upd H b (.tup [p.1, p.2])) (by simpa using h) nd'.2 j a (by simpa using hj)
      refine ⟨q, by simpa using h1, ?_⟩
      unfold putP
      exact h2
theorem refs_vals : ∀ as : List Addr, Vals (as.map V.ref) (as.map Value.ref)
  | [] => .nil
  | _ :: as => .cons rfl (refs_vals as)
/-- the list and its pairs are tracked -/
theorem pairs_laid {X : Cx} {pins : List (Addr × Obj)} {σ : L2.St} {H : Hp} {s : Shared} {g : Heap} {tk : Nat} {ps : List (V × V)} {acc : Array Value} {c : Nat} {as : List Addr} {L : Addr} (I : Inv X pins σ H s) (hz : ps.length ≤ sizeLine) (kp : ∀ b o, s.heap.get? b = some o → g.get? b = some o) (hL : s.heap.objs.size ≤ L)
    (hS : g.get? L = some { cls := .type "list", dict := none, data := .seq acc c, slots := #[] }) (hl : as.length = ps.length) (rise : as.Pairwise (· < ·)) (ab : ∀ a ∈ as, L < a) (hacc : acc.toList = as.map Value.ref)
    (pr : ∀ (j : Nat) (a : Addr) (q : V × V), as[j]? = some a → ps[j]? = some q → ∃ x y, RelV q.1 x ∧ RelV q.2 y ∧ IsTupOf2 g a x y) :
    ∃ H' : Hp, Same H H' ∧ H L = none ∧ H' L = some (.lst (as.map V.ref)) ∧ (∀ (j : Nat) (a : Addr), as[j]? = some a → ∃ q, ps[j]? = some q ∧ H' a = some (.tup [q.1, q.2])) ∧ Inv X pins σ H' { s with heap := g, toks := tk } := by
  have nL : L ∉ as := fun q => Nat.lt_irrefl _ (ab _ q)
  have nd : as.Nodup := List.Pairwise.imp (fun {a b} (h : a < b) => Nat.ne_of_lt h) rise
  have nw : ∀ t ∈ as, H t = none := fun t ht => I.hok.fresh (Nat.le_trans hL (Nat.le_of_lt (ab t ht)))
  have nwL : H L = none := I.hok.fresh hL
  have at' := putP_at as ps (upd H L (.lst (as.map V.ref))) hl nd
  have off : ∀ b, b ∉ as → b ≠ L → putP (upd H L (.lst (as.map V.ref))) as ps b = H b := fun b h1 h2 => by rw [putP_off as ps _ h1, upd_ne h2]
  have low : ∀ b o, s.heap.get? b = some o → b ∉ as ∧ b ≠ L := fun b o e => ⟨fun q => absurd (Nat.lt_trans (Nat.lt_of_lt_of_le (Heap.lt_size e) hL) (ab b q)) (Nat.lt_irrefl _), fun q => absurd (Nat.lt_of_lt_of_le (Heap.lt_size e) hL) (by rw [q]; exact Nat.lt_irrefl _)⟩
  have kH : ∀ b u, H b = some u → putP (upd H L (.lst (as.map V.ref))) as ps b = some u := fun b u e => by
    rw [off b (fun q => by rw [nw b q] at e; cases e) (fun q => by rw [q, nwL] at e; cases e)]
    exact e
  have eL : putP (upd H L (.lst (as.map V.ref))) as ps L = some (.lst (as.map V.ref)) := by rw [putP_off as ps _ nL, upd_same]
  refine ⟨_, kH, nwL, eL, at', ?_⟩
  refine I.call' (ch := []) rfl ⟨fun b o q _ _ _ => kp b o q, fun b o q _ _ _ => ⟨o.slots, kp b o q⟩, fun b o q n _ => ?_, fun b o q _ => ⟨o, kp b o q⟩, fun b xs q => kH b _ q, fun b o u q => kH b _ q, fun b qs q => ⟨#[], by rw [kH b _ q]; simp⟩⟩ (fun b u q => ?_) I.bare fun b q => by simp at q
  · obtain ⟨z1, z2⟩ := low b o q
    rw [off b z1 z2]
    exact n
  · by_cases hb : b ∈ as
    · obtain ⟨j, hj⟩ := List.mem_iff_getElem?.mp hb
      obtain ⟨pq, e1, e2⟩ := at' j b hj
      rw [e2] at q
      cases q
      obtain ⟨x, y, r1, r2, tp⟩ := pr j b pq hj e1
      exact ⟨by show 2 ≤ 2 ^ 24; decide, [x, y], .cons r1 (.cons r2 .nil), ⟨_, tp, rfl, _, rfl⟩⟩
    · by_cases hb2 : b = L
      · rw [hb2] at q ⊢
        rw [eL] at q
        cases q
        refine ⟨by rw [List.length_map]; omega, acc.toList, c, by rw [hacc]; exact refs_vals as, ?_⟩
        rw [Array.toArray_toList]
        exact hS
      · rw [off b hb hb2] at q
        exact (I.hok b u q).stay (fun d v _ y => kp d v y) (fun d y => kH d _ y) fun d xs y => kH d _ y
end Wk
namespace Wk
open PySem PySem.Spec PyProof.Rows L2
section
variable {X : Cx} {e a b c elt kx vx o : Expr} {es rest : List Expr} {σ : L2.St} {H : Hp} {Q : VK} {pos p0 apos : Pos} {N G G' : List Str} {Vn : List (Nat × Str)} {sc scope : Scope}
/-- list(zip(a, b)) -/
theorem e_listZ (c d : Side) {g g2 : Nat} {p p2 pos2 : Pos} (hm : X.mg "list" = none) (hmz : X.mg "zip" = none)
    (q : wE X a σ H fun v H1 => wE X b σ H1 fun u H2 => ∃ va vb xs ys, v = .ref va ∧ u = .ref vb ∧ c.sq X.K H2 va xs ∧ d.sq X.K H2 vb ys ∧ min xs.length ys.length ≤ 200000 ∧
      ∀ (L : Addr) (as : List Addr) (H3 : Hp), Same H2 H3 → H2 L = none → H3 L = some (.lst (as.map V.ref)) → as.length = min xs.length ys.length → (∀ (j : Nat) (t : Addr), as[j]? = some t → ∃ x y, xs[j]? = some x ∧ ys[j]? = some y ∧ H3 t = some (.tup [x, y])) → Q (.ref L) H3)
    (I : In X N G sc := by assumption) (hc : X.calm = true := by rfl) (hG : At G g ("list" : Str) := by repeat (first | with_reducible apply At.z | with_reducible apply At.s)) (hGz : At G g2 ("zip" : Str) := by repeat (first | with_reducible apply At.z | with_reducible apply At.s))
    (hs : starEach [.Call (.Name "zip" p2) [a, b] [] pos2] X.env = (false, eval (.Call (.Name "zip" p2) [a, b] [] pos2) X.env) :: starEach [] X.env := by rfl) (hs0 : starEach [a, b] X.env = (false, eval a X.env) :: starEach [b] X.env := by rfl) (hpl : (backTo pos2 (starEach [b] X.env)).any (·.1) = false := by rfl)
    (hs1 : starEach (b :: []) X.env = (false, eval b X.env) :: starEach [] X.env := by rfl) :
    wE X (.Call (.Name "list" p) [.Call (.Name "zip" p2) [a, b] [] pos2] [] pos) σ H Q := by
  unfold wE
  intro pins s I0
  refine wpAny_Call_Name_kw (ld_blt I0 (I.g hG) hm b_list ?_ (I.gn hG) (I.gd hG))
  refine PyProof.Rows.callWith_type1 ?_ hs rfl
  rw [hs]
  show wpAny _ _ (spliced ((false, eval (.Call (.Name "zip" p2) [a, b] [] pos2) X.env) :: backTo pos (starEach [] X.env))) _ _ s
  refine Calls.spliced_cons ?_
  refine Call_ (ld_blt I0 (I.g hGz) hmz PyProof.Rows.boot_zip (PyProof.Rows.callWith_type1 (thn ((pa_cons pe (pa_cons pe pa_nil hs1) hs0).run pos2 pins s σ H (fun vs H2 => ∃ va vb xs ys, vs = [.ref va, .ref vb] ∧ c.sq X.K H2 va xs ∧ d.sq X.K H2 vb ys ∧ min xs.length ys.length ≤ 200000 ∧
      ∀ (L : Addr) (as : List Addr) (H3 : Hp), Same H2 H3 → H2 L = none → H3 L = some (.lst (as.map V.ref)) → as.length = min xs.length ys.length → (∀ (j : Nat) (t : Addr), as[j]? = some t → ∃ x y, xs[j]? = some x ∧ ys[j]? = some y ∧ H3 t = some (.tup [x, y])) → Q (.ref L) H3) I0 (e_mono q fun v H1 q1 => e_mono q1 fun u H2 ⟨va, vb, xs, ys, e1, e2, z⟩ => ⟨va, vb, xs, ys, by rw [e1, e2], z⟩)) fun us s1 ⟨vs, H1, I1, r1, va, vb, xs, ys, ev, sx, sy, hz, k⟩ => ?_) hs0 hpl))
  subst ev
  obtain ⟨u, v, rfl, ru, rv⟩ : ∃ u v, us = [u, v] ∧ RelV (.ref va) u ∧ RelV (.ref vb) v := by
    cases r1 with
    | cons r t => cases t with
      | cons r' t => cases t; exact ⟨_, _, rfl, r, r'⟩
  cases ru
  cases rv
  obtain ⟨ws, rw1, cx⟩ := c.own I1 sx
  obtain ⟨zs, rw2, cy⟩ := d.own I1 sy
  have la := c.lt cx
  have lb := d.lt cy
  have hh : X.A.handled = none := I1.ok.hd hc
  have lw := rw1.length
  have lz := rw2.length
  generalize hN : s1.heap.objs.size = M at la lb
  refine zip_begins2 (c.begins va ws.toArray) (d.begins vb zs.toArray) cx cy fun h1 g1 g2 g3 g4 g5 gsz kp => ?_
  rw [hN] at g1 g2 g3 g4 g5 gsz ⊢
  refine Calls.spliced_nil ?_
  have S : ZipSep2 (M + 4) (M + 2) (M + 3) M (M + 1) [M, va] [M + 1, vb] := zip_sep2 (fun e he => by rw [List.mem_singleton.mp he]; exact la) (fun e he => by rw [List.mem_singleton.mp he]; exact lb)
  have cu : ∀ (cc : Side) (x : Addr) (us : Array Value), cc.con s1.heap x us → cc.con h1 x us := fun cc x us hx => by
    cases cc with
    | l => exact hx.at fun o q => kp _ o q
    | t => exact hx.at fun o q => kp _ o q
  refine list_zip (s := { s1 with heap := h1 }) S (c.draws (A := X.A.in1.in1.in1) hh M va (Nat.ne_of_lt la) ws.toArray) (d.draws (A := X.A.in1.in1.in1) hh (M + 1) vb (Nat.ne_of_lt (Nat.lt_succ_of_lt lb)) zs.toArray) g1 g2 ⟨_, _, g3⟩ ⟨c.start g4, cu c _ _ cx⟩ ⟨d.start g5, cu d _ _ cy⟩ (fun e he => ?_) (fun e he => ?_) ?_ fun g tk acc cc as kg hL hl hG hacc => ?_
  · show e < h1.objs.size
    rw [gsz]
    simp only [List.mem_cons, List.not_mem_nil, or_false] at he
    rcases he with rfl | rfl
    · exact Nat.lt_add_of_pos_right (by decide)
    · exact Nat.lt_of_lt_of_le la (Nat.le_add_right _ _)
  · show e < h1.objs.size
    rw [gsz]
    simp only [List.mem_cons, List.not_mem_nil, or_false] at he
    rcases he with rfl | rfl
    · exact Nat.add_lt_add_left (by decide) M
    · exact Nat.lt_of_lt_of_le lb (Nat.le_add_right _ _)
  · rw [List.size_toArray, List.size_toArray, ← lw, ← lz]
    show _ ≤ 2 ^ 24
    omega
  · dsimp only at kg hL hG
    have lo : ∀ b o, s1.heap.get? b = some o → b < M := fun b o q => hN ▸ Heap.lt_size q
    have lm : min xs.length ys.length = (xs.zip ys).length := by rw [List.length_zip]
    have hl2 : as.length = (xs.zip ys).length := by rw [hl, List.size_toArray, List.size_toArray, ← lw, ← lz, lm]
    obtain ⟨H', e1, e2, e3, e4, J⟩ := pairs_laid (tk := tk) (ps := xs.zip ys) (L := h1.objs.size) I1 (by rw [← lm]; show _ ≤ 2 ^ 24; omega) (fun b o q => kg b o (Nat.ne_of_lt (Nat.lt_of_lt_of_le (lo b o q) (Nat.le_add_right M 4))) (Nat.ne_of_lt (Nat.lt_of_lt_of_le (lo b o q) (Nat.le_add_right M 3))) (Nat.ne_of_lt (lo b o q)) (Nat.ne_of_lt (Nat.lt_of_lt_of_le (lo b o q) (Nat.le_add_right M 1))) (kp b o q)) (by omega) hL hl2 hG.rise hG.above hacc
      (fun j t pq hj hq => by
        obtain ⟨x', y', p1, p2, p3⟩ := hG.pr j t hj
        obtain ⟨q1, q2⟩ := List.getElem?_zip_eq_some.mp hq
        obtain ⟨w1, f1, f2⟩ := rw1.get q1
        obtain ⟨w2, f3, f4⟩ := rw2.get q2
        rw [List.getElem?_toArray, f1] at p1
        rw [List.getElem?_toArray, f3] at p2
        cases p1
        cases p2
        exact ⟨_, _, f2, f4, p3⟩)
    refine ⟨.ref h1.objs.size, H', J, rfl, k _ as H' e1 e2 e3 (by rw [hl2, lm]) fun j t hj => ?_⟩
    obtain ⟨pq, q1, q2⟩ := e4 j t hj
    obtain ⟨q3, q4⟩ := List.getElem?_zip_eq_some.mp q1
    exact ⟨pq.1, pq.2, q3, q4, q2⟩
/-- for x, y in reversed(xs), xs a list of pairs -/
theorem s_forRv2 {nx : L2.St → Hp → Prop} {rt : VK} {bk ct : L2.St → Hp → Prop} {g : Nat} {x y : Str} {i j : Nat} {body : List Stmt} {px py pt p cp pos : Pos} {kk : Nat} (hm : X.mg "reversed" = none)
    (q : wE X a σ H fun v H1 => ∃ ad xs, v = .ref ad ∧ SqL X.K H1 ad xs ∧ ∃ Pv : Nat → L2.St → Hp → Prop, Pv 0 σ H1 ∧ (∀ k σ H, k ≤ xs.length → Pv k σ H → SqL X.K H ad xs) ∧
      (∀ k y σ H, xs.reverse[k]? = some y → Pv k σ H → ∃ t u1 u2, y = .ref t ∧ SqT X.K H t [u1, u2] ∧ wL X body ⟨Pv (k + 1), rt, nx, Pv (k + 1)⟩ ((σ.set i (some u1)).set j (some u2)) H) ∧ ∀ σ H, Pv xs.length σ H → nx σ H)
    (I : In X N G sc := by assumption) (hc : X.calm = true := by rfl) (hA : At N i x := by repeat (first | with_reducible apply At.z | with_reducible apply At.s)) (hB : At N j y := by repeat (first | with_reducible apply At.z | with_reducible apply At.s)) (hG : At G g ("reversed" : Str) := by repeat (first | with_reducible apply At.z | with_reducible apply At.s))
    (hs : starEach [a] X.env = (false, eval a X.env) :: starEach [] X.env := by rfl) (hs2 : ∀ z, foldedSetIterable (.Call (.Name "reversed" p) [a] [] cp) X.env z = pure z := by intro _; rfl) :
    wS X (.For (.Tuple [.Name x px, .Name y py] kk pt) (.Call (.Name "reversed" p) [a] [] cp) body [] pos) ⟨nx, rt, bk, ct⟩ σ H := by
  refine s_of (ps_for I.never hc (RT.pi_revA (I.g hG) hm pe hs) (pg_tup hc (pgs_cons (pg_name I.nd (I.hi hA) (I.loc hA) I.f) (pgs_cons (pg_name I.nd (I.hi hB) (I.loc hB) I.f) pgs_nil))) pl hs2) (e_mono q fun v H1 q1 => ?_)
  obtain ⟨ad, xs, rfl, hl, Pv, h0, hk, hb, hd⟩ := q1
  refine ⟨ad, xs, rfl, .inl ⟨hl, fun k m σ H => m = xs.length - k ∧ k ≤ xs.length ∧ Pv k σ H, ⟨xs.length, by simp, Nat.zero_le _, h0⟩, ?_⟩⟩
  rintro k m σ H ⟨rfl, hi, p⟩
  have q := hk k σ H hi p
  by_cases hlt : k < xs.length
  · refine .inr ⟨⟨hlt, xs, xs[xs.length - 1 - k]'(by omega), q, by simp⟩, Pv (k + 1), fun σ' H' p' => ⟨xs.length - (k + 1), by omega, rfl, hlt, p'⟩, fun x H' y => ?_⟩
    obtain ⟨e, y⟩ := y
    subst e
    obtain ⟨t, u1, u2, rfl, hq, z⟩ := hb k x σ _ (by rw [List.getElem?_reverse hlt]; exact y xs q) p
    exact ⟨t, [u1, u2], rfl, hq, rfl, u1, [u2], rfl, u2, [], rfl, rfl, z⟩
  · have e : k = xs.length := by omega
    subst e
    exact .inl ⟨Nat.le_refl _, hd σ H p⟩
/-- what the turns of a dict's comprehension over a dict ask, with a test or without -/
def DTurn (X : Cx) (Vn : List (Nat × Str)) (G' : List Str) (kx vx : Expr) (scope : Scope) (i : Nat) (D : Addr) (σ : L2.St) (x : V) (H2 : Hp) (nxt : Hp → Prop) : Prop := ∀ s0 H0 C cl fp, InB (Bk X s0 H0 scope C cl fp) Vn G' →
  wE (Bk X s0 H0 scope C cl fp) kx ((wipe σ [i]).set i (some x)) H2 fun y H3 => ∀ s0 H0 C cl fp, InB (Bk X s0 H0 scope C cl fp) Vn G' →
    wE (Bk X s0 H0 scope C cl fp) vx ((wipe σ [i]).set i (some x)) H3 fun z H4 => ∃ kvs ky, y = kV ky ∧ H4 D = some (.dK kvs) ∧ kvs.length < sizeLine ∧ nxt (upd H4 D (.dK (putK kvs ky z)))
def DcD (X : Cx) (Vn : List (Nat × Str)) (G' : List Str) (kx vx : Expr) (scope : Scope) (i : Nat) (d : Addr) (o : Obj) (kvs : List (Key × V)) (D : Addr) (σ : L2.St) (H1 : Hp) (Qd : Hp → Prop) : Prop := ∃ Pv : Nat → Hp → Prop, Pv 0 (upd H1 D (.dK [])) ∧ (∀ k H2, k ≤ kvs.length → Pv k H2 → H2 d = some (.frz o (.dK kvs))) ∧
  (∀ k y v H2, kvs[k]? = some (y, v) → Pv k H2 → DTurn X Vn G' kx vx scope i D σ (kV y) H2 (Pv (k + 1))) ∧ ∀ H2, Pv kvs.length H2 → Qd H2
def DcDf (X : Cx) (Vn : List (Nat × Str)) (G' : List Str) (kx vx c : Expr) (scope : Scope) (i : Nat) (d : Addr) (o : Obj) (kvs : List (Key × V)) (D : Addr) (σ : L2.St) (H1 : Hp) (Qd : Hp → Prop) : Prop := ∃ Pv : Nat → Hp → Prop, Pv 0 (upd H1 D (.dK [])) ∧ (∀ k H2, k ≤ kvs.length → Pv k H2 → H2 d = some (.frz o (.dK kvs))) ∧
  (∀ k y v H2, kvs[k]? = some (y, v) → Pv k H2 → ∀ s0 H0 C cl fp, InB (Bk X s0 H0 scope C cl fp) Vn G' → wT (Bk X s0 H0 scope C cl fp) c ((wipe σ [i]).set i (some (kV y))) H2 fun t H3 => if t = true then DTurn X Vn G' kx vx scope i D σ (kV y) H3 (Pv (k + 1)) else Pv (k + 1) H3) ∧ ∀ H2, Pv kvs.length H2 → Qd H2
theorem dturn_of {i : Nat} {D : Addr} {x : V} {H2 : Hp} {nxt : Hp → Prop} (q : DTurn X Vn G' kx vx scope i D σ x H2 nxt) : wBk X Vn G' kx scope ((wipe σ [i]).set i (some x)) H2 fun y H4 => wBk X Vn G' vx scope ((wipe σ [i]).set i (some x)) H4 fun z H5 => ∃ kvs k, y = kV k ∧ H5 D = some (.dK kvs) ∧ kvs.length < sizeLine ∧ nxt (upd H5 D (.dK (putK kvs k z))) := by
  unfold wBk
  exact q
theorem dcD_of {i : Nat} {d : Addr} {ob : Obj} {kvs : List (Key × V)} {D : Addr} {H1 : Hp} {Qd : Hp → Prop} (q : DcD X Vn G' kx vx scope i d ob kvs D σ H1 Qd) : ∃ W : Nat → Nat → Hp → Prop, (∃ m, W 0 m (upd H1 D (.dK []))) ∧ ∀ k m H, W k m H →
    ((Itk d ob kvs).stop k H ∧ Qd H) ∨ ((Itk d ob kvs).go k H ∧ ∃ Nx : Hp → Prop, (∀ H', Nx H' → ∃ m', m' < m ∧ W (k + 1) m' H') ∧ ∀ x H', (Itk d ob kvs).yld k H x H' → gName i x (wipe σ [i]) H' fun σ2 H2 => wipe σ2 [i] = wipe σ [i] ∧ tYes σ2 H2 fun b H3 =>
      if b = true then wBk X Vn G' kx scope σ2 H3 fun y H4 => wBk X Vn G' vx scope σ2 H4 fun z H5 => ∃ kvs k, y = kV k ∧ H5 D = some (.dK kvs) ∧ kvs.length < sizeLine ∧ Nx (upd H5 D (.dK (putK kvs k z))) else Nx H3) := by
  obtain ⟨Pv, h0, hl, hs, hd⟩ := q
  refine ⟨fun k m H => m = kvs.length - k ∧ k ≤ kvs.length ∧ Pv k H, ⟨kvs.length, rfl, Nat.zero_le _, h0⟩, ?_⟩
  rintro k m H ⟨rfl, hk, p⟩
  have fz := hl k H hk p
  by_cases lt : k < kvs.length
  · refine .inr ⟨⟨fz, lt⟩, Pv (k + 1), fun H' p' => ⟨kvs.length - (k + 1), by omega, rfl, lt, p'⟩, fun x H' y => ?_⟩
    obtain ⟨rfl, ky, v, hkv, rfl⟩ := y
    refine ⟨wipe_set σ i _, ?_⟩
    unfold tYes
    exact iteT (dturn_of (hs k ky v _ hkv p))
  · have ek : k = kvs.length := by omega
    subst ek
    exact .inl ⟨⟨fz, Nat.le_refl _⟩, hd H p⟩
theorem dcDf_of {i : Nat} {d : Addr} {ob : Obj} {kvs : List (Key × V)} {D : Addr} {H1 : Hp} {Qd : Hp → Prop} (q : DcDf X Vn G' kx vx c scope i d ob kvs D σ H1 Qd) : ∃ W : Nat → Nat → Hp → Prop, (∃ m, W 0 m (upd H1 D (.dK []))) ∧ ∀ k m H, W k m H →
    ((Itk d ob kvs).stop k H ∧ Qd H) ∨ ((Itk d ob kvs).go k H ∧ ∃ Nx : Hp → Prop, (∀ H', Nx H' → ∃ m', m' < m ∧ W (k + 1) m' H') ∧ ∀ x H', (Itk d ob kvs).yld k H x H' → gName i x (wipe σ [i]) H' fun σ2 H2 => wipe σ2 [i] = wipe σ [i] ∧ wBkT X Vn G' c scope σ2 H2 fun b H3 =>
      if b = true then wBk X Vn G' kx scope σ2 H3 fun y H4 => wBk X Vn G' vx scope σ2 H4 fun z H5 => ∃ kvs k, y = kV k ∧ H5 D = some (.dK kvs) ∧ kvs.length < sizeLine ∧ Nx (upd H5 D (.dK (putK kvs k z))) else Nx H3) := by
  obtain ⟨Pv, h0, hl, hs, hd⟩ := q
  refine ⟨fun k m H => m = kvs.length - k ∧ k ≤ kvs.length ∧ Pv k H, ⟨kvs.length, rfl, Nat.zero_le _, h0⟩, ?_⟩
  rintro k m H ⟨rfl, hk, p⟩
  have fz := hl k H hk p
  by_cases lt : k < kvs.length
  · refine .inr ⟨⟨fz, lt⟩, Pv (k + 1), fun H' p' => ⟨kvs.length - (k + 1), by omega, rfl, lt, p'⟩, fun x H' y => ?_⟩
    obtain ⟨rfl, ky, v, hkv, rfl⟩ := y
    refine ⟨wipe_set σ i _, ?_⟩
    unfold wBkT
    intro s0 H0 C cl fp IB
    refine t_mono (hs k ky v _ hkv p s0 H0 C cl fp IB) fun t H3 z => ?_
    cases t with
    | true => exact iteT (dturn_of z)
    | false => exact z
  · have ek : k = kvs.length := by omega
    subst ek
    exact .inl ⟨⟨fz, Nat.le_refl _⟩, hd H p⟩
/-- {kx: vx for x in d}, d a dict that stands at ad -/
theorem e_dcD {i : Nat} {x : Str} {px : Pos} {ad : Addr} {kvs : List (Key × V)} (B : BkOk X.N Vn G' i x sc scope) (hd : H ad = some (.dK kvs))
    (q : ∀ o, wE X a σ (upd H ad (.frz o (.dK kvs))) fun v H1 => v = .ref ad ∧ H1 ad = some (.frz o (.dK kvs)) ∧ ∀ D, H1 D = none → DcD X Vn G' kx vx scope i ad o kvs D σ H1 fun H2 => H2 ad = some (.frz o (.dK kvs)) ∧ Q (.ref D) (upd H2 ad (.dK kvs)))
    (I : In X N G sc := by assumption) (hc : X.calm = true := by rfl) (hs2 : ∀ z, foldedSetIterable a X.env z = pure z := by intro _; rfl) :
    wE X (.DictComp kx vx [⟨.Name x px, a, [], 0⟩] scope pos) σ H Q := by
  refine e_of (pe_lock (pe_dc (own := [(x, i)]) (g := gName i) (tt := tYes) (tk := wBk X Vn G' kx scope) (tv := wBk X Vn G' vx scope) hc I.nd (pi_keys pe) (B.ok I) (fun s H C cl fp => B.pg I s H C cl fp) (fun _ _ _ _ _ => pts_nil) (fun s H C cl fp => pe_bk (B.inB I s H C cl fp)) (fun s H C cl fp => pe_bk (B.inB I s H C cl fp)) hs2)) ?_
  refine ⟨ad, .dK kvs, hd, trivial, fun o => e_mono (q o) fun v H1 q1 => ?_⟩
  obtain ⟨rfl, h1, q2⟩ := q1
  exact ⟨ad, o, rfl, .inl ⟨kvs, h1, fun D hD => dcD_of (q2 D hD)⟩⟩
theorem s_dcD {nx : L2.St → Hp → Prop} {rt : VK} {bk ct : L2.St → Hp → Prop} {i j : Nat} {x y : Str} {px py spos : Pos} {ad : Addr} {kvs : List (Key × V)} (B : BkOk X.N Vn G' i x sc scope) (hd : H ad = some (.dK kvs))
    (q : ∀ o, wE X a σ (upd H ad (.frz o (.dK kvs))) fun v H1 => v = .ref ad ∧ H1 ad = some (.frz o (.dK kvs)) ∧ ∀ D, H1 D = none → DcD X Vn G' kx vx scope i ad o kvs D σ H1 fun H2 => H2 ad = some (.frz o (.dK kvs)) ∧ nx (σ.set j (some (.ref D))) (upd H2 ad (.dK kvs)))
    (I : In X N G sc := by assumption) (hc : X.calm = true := by rfl) (hA : At N j y := by repeat (first | with_reducible apply At.z | with_reducible apply At.s))
    (hk : X.env.scope.kind = .function := by rfl) (hy : X.env.scope.names.lookup y = some .local := by rfl) (hl : (py.line == pos.line) = true := by rfl) (ha : (scope.names.any fun (n, k) => n == y && (k == .local || k == .cell)) = false := by decide +kernel) (hs2 : ∀ z, foldedSetIterable a X.env z = pure z := by intro _; rfl) :
    wS X (.Assign [.Name y py] (.DictComp kx vx [⟨.Name x px, a, [], 0⟩] scope pos) spos) ⟨nx, rt, bk, ct⟩ σ H := by
  refine s_of (ps_lock (ps_setDc (own := [(x, i)]) (g := gName i) (tt := tYes) (tk := wBk X Vn G' kx scope) (tv := wBk X Vn G' vx scope) hc I.nd (I.hi hA) hy (sw_trueD hk hy hl ha) (pi_keys pe) (B.ok I) (fun s H C cl fp => B.pg I s H C cl fp) (fun _ _ _ _ _ => pts_nil) (fun s H C cl fp => pe_bk (B.inB I s H C cl fp)) (fun s H C cl fp => pe_bk (B.inB I s H C cl fp)) hs2)) ?_
  refine ⟨ad, .dK kvs, hd, trivial, fun o => e_mono (q o) fun v H1 q1 => ?_⟩
  obtain ⟨rfl, h1, q2⟩ := q1
  exact ⟨ad, o, rfl, .inl ⟨kvs, h1, fun D hD => dcD_of (q2 D hD)⟩⟩
theorem s_dcDf {nx : L2.St → Hp → Prop} {rt : VK} {bk ct : L2.St → Hp → Prop} {i j : Nat} {x y : Str} {px py spos : Pos} {ad : Addr} {kvs : List (Key × V)} (B : BkOk X.N Vn G' i x sc scope) (hd : H ad = some (.dK kvs))
    (q : ∀ o, wE X a σ (upd H ad (.frz o (.dK kvs))) fun v H1 => v = .ref ad ∧ H1 ad = some (.frz o (.dK kvs)) ∧ ∀ D, H1 D = none → DcDf X Vn G' kx vx c scope i ad o kvs D σ H1 fun H2 => H2 ad = some (.frz o (.dK kvs)) ∧ nx (σ.set j (some (.ref D))) (upd H2 ad (.dK kvs)))
    (I : In X N G sc := by assumption) (hc : X.calm = true := by rfl) (hA : At N j y := by repeat (first | with_reducible apply At.z | with_reducible apply At.s))
    (hk : X.env.scope.kind = .function := by rfl) (hy : X.env.scope.names.lookup y = some .local := by rfl) (hl : (py.line == pos.line) = true := by rfl) (ha : (scope.names.any fun (n, k) => n == y && (k == .local || k == .cell)) = false := by decide +kernel) (hs2 : ∀ z, foldedSetIterable a X.env z = pure z := by intro _; rfl) :
    wS X (.Assign [.Name y py] (.DictComp kx vx [⟨.Name x px, a, [c], 0⟩] scope pos) spos) ⟨nx, rt, bk, ct⟩ σ H := by
  refine s_of (ps_lock (ps_setDc (own := [(x, i)]) (g := gName i) (tt := wBkT X Vn G' c scope) (tk := wBk X Vn G' kx scope) (tv := wBk X Vn G' vx scope) hc I.nd (I.hi hA) hy (sw_trueD hk hy hl ha) (pi_keys pe) (B.ok I) (fun s H C cl fp => B.pg I s H C cl fp) (fun s H C cl fp => pts_bk (B.inB I s H C cl fp)) (fun s H C cl fp => pe_bk (B.inB I s H C cl fp)) (fun s H C cl fp => pe_bk (B.inB I s H C cl fp)) hs2)) ?_
  refine ⟨ad, .dK kvs, hd, trivial, fun o => e_mono (q o) fun v H1 q1 => ?_⟩
  obtain ⟨rfl, h1, q2⟩ := q1
  exact ⟨ad, o, rfl, .inl ⟨kvs, h1, fun D hD => dcDf_of (q2 D hD)⟩⟩
/-- w, x, y, z = a tuple -/
theorem s_tup4 {nx : L2.St → Hp → Prop} {rt : VK} {bk ct : L2.St → Hp → Prop} {i1 i2 i3 i4 : Nat} {x1 x2 x3 x4 : Str} {k : Nat} {p1 p2 p3 p4 pt : Pos} (q : wE X e σ H fun v H1 => ∃ a u1 u2 u3 u4, v = .ref a ∧ SqT X.K H1 a [u1, u2, u3, u4] ∧ nx ((((σ.set i1 (some u1)).set i2 (some u2)).set i3 (some u3)).set i4 (some u4)) H1)
    (I : In X N G sc := by assumption) (hc : X.calm = true := by rfl) (h1 : At N i1 x1 := by repeat (first | with_reducible apply At.z | with_reducible apply At.s)) (h2 : At N i2 x2 := by repeat (first | with_reducible apply At.z | with_reducible apply At.s)) (h3 : At N i3 x3 := by repeat (first | with_reducible apply At.z | with_reducible apply At.s)) (h4 : At N i4 x4 := by repeat (first | with_reducible apply At.z | with_reducible apply At.s))
    (hs : swapsWithSole [.Tuple [.Name x1 p1, .Name x2 p2, .Name x3 p3, .Name x4 p4] k pt] e pos.line X.env = pure false := by rfl) (hw : swappedStores [.Tuple [.Name x1 p1, .Name x2 p2, .Name x3 p3, .Name x4 p4] k pt] e X.env = pure none := by rfl) (hp : (assignEach [.Tuple [.Name x1 p1, .Name x2 p2, .Name x3 p3, .Name x4 p4] k pt] X.env).map (·.2) = [assign (.Tuple [.Name x1 p1, .Name x2 p2, .Name x3 p3, .Name x4 p4] k pt) X.env] := by rfl) :
    wS X (.Assign [.Tuple [.Name x1 p1, .Name x2 p2, .Name x3 p3, .Name x4 p4] k pt] e pos) ⟨nx, rt, bk, ct⟩ σ H := by
  refine s_of (ps_asg pe (pg_tup hc (pgs_cons (pg_name I.nd (I.hi h1) (I.loc h1) I.f) (pgs_cons (pg_name I.nd (I.hi h2) (I.loc h2) I.f) (pgs_cons (pg_name I.nd (I.hi h3) (I.loc h3) I.f) (pgs_cons (pg_name I.nd (I.hi h4) (I.loc h4) I.f) pgs_nil))))) hs hw hp) (e_mono q fun v H1 q1 => ?_)
  obtain ⟨ad, u1, u2, u3, u4, ev, hq, q2⟩ := q1
  exact ⟨ad, [u1, u2, u3, u4], ev, hq, rfl, u1, [u2, u3, u4], rfl, u2, [u3, u4], rfl, u3, [u4], rfl, u4, [], rfl, rfl, q2⟩
theorem op_inDt (hu : X.A.units + 1 < cLine) : OpR X (compareOp .In) (fun x y H Q => ∃ a o, y = .ref a ∧ DGet H a x o ∧ Q (.bl o.isSome) H) := by
  intro pins s σ H x y v u Q I rx ry h
  obtain ⟨ad, ov, rfl, g, q⟩ := h
  cases ry
  exact d_in hu I g rx fun s3 I3 => ⟨.bl ov.isSome, H, I3, rfl, q⟩
theorem op_ninDt (hu : X.A.units + 1 < cLine) : OpR X (compareOp .NotIn) (fun x y H Q => ∃ a o, y = .ref a ∧ DGet H a x o ∧ Q (.bl (!o.isSome)) H) := by
  intro pins s σ H x y v u Q I rx ry h
  obtain ⟨ad, ov, rfl, g, q⟩ := h
  cases ry
  exact d_notIn hu I g rx fun s3 I3 => ⟨.bl (!ov.isSome), H, I3, rfl, q⟩
theorem o_inD {n : Nat} {x : V} {d : Addr} {ov : Option V} (hr : Room n X.A) (g : DGet H d x ov) (q : Q (.bl ov.isSome) H) : wK X .In x (.ref d) H Q := k_of (op_inDt (hu_of hr)) ⟨d, ov, rfl, g, q⟩
theorem o_ninD {n : Nat} {x : V} {d : Addr} {ov : Option V} (hr : Room n X.A) (g : DGet H d x ov) (q : Q (.bl (!ov.isSome)) H) : wK X .NotIn x (.ref d) H Q := k_of (op_ninDt (hu_of hr)) ⟨d, ov, rfl, g, q⟩
theorem dg_K {ad : Addr} {kvs : List (Key × V)} {k : Key} (h : H ad = some (.dK kvs)) : DGet H ad (kV k) (valV kvs k) := .inl ⟨kvs, k, .inl h, rfl, rfl⟩
theorem dg_F {ad : Addr} {ob : Obj} {kvs : List (Key × V)} {k : Key} (h : H ad = some (.frz ob (.dK kvs))) : DGet H ad (kV k) (valV kvs k) := .inl ⟨kvs, k, .inr ⟨ob, h⟩, rfl, rfl⟩
theorem c_lenD {d : Addr} {kvs : List (Key × V)} (h : H d = some (.dK kvs)) (q : Q (.int kvs.length) H) : wC X (.builtin "len") [.ref d] H Q := c_of call_lenD ⟨d, kvs, rfl, h, q⟩
theorem c_sumL {l : Addr} {ns : List Int} (hc : X.calm = true) (h : SqL X.K H l (ns.map V.int)) (q : Q (.int ns.sum) H) : wC X (.builtin "sum") [.ref l] H Q := c_of (cr_sum hc) ⟨l, ns, rfl, h, q⟩
theorem ty_dk {K : PySem.W.Frag} {H : Hp} {d : Addr} {kvs : List (Key × V)} (h : H d = some (.dK kvs)) : TyX K H (.ref d) (.type "dict") := .base (.dK h)
theorem e_dclr (q : wE X o σ H fun x H1 => ∃ d kvs, x = .ref d ∧ H1 d = some (.dK kvs) ∧ Q .non (upd H1 d (.dK [])))
    (hbase : attributeBase o "clear" X.env (eval o X.env) = eval o X.env := by rfl) (hline : (apos.endLine == pos.line) = true := by rfl) : wE X (.Call (.Attribute o "clear" apos) [] [] pos) σ H Q := by
  refine e_of (pe_dclear pe hbase hline) (e_mono q fun x H1 z => ?_)
  obtain ⟨d, kvs, rfl, h1, h2⟩ := z
  exact ⟨.inr (.inr (.inl ⟨rfl, .inl ⟨kvs, h1⟩⟩)), d, kvs, rfl, rfl, h1, h2⟩
/-- {k: v}, k a text or a number -/
theorem e_dk1 {k v : Expr} (q : ∀ p, H p = none → wE X k σ (upd H p (.dK [])) fun x H1 => wE X v σ H1 fun y H2 => H2 p = some (.dK []) ∧ ∃ z, x = kV z ∧ Q (.ref p) (upd H2 p (.dK [(z, y)]))) : wE X (.Dict [some k] [v] pos) σ H Q := by
  refine e_of (pe_disp (pps_cons pe pe pps_nil) rfl rfl (by simp) (by simp)) fun p np => e_mono (q p np) fun x H1 q1 => e_mono q1 fun y H2 q2 => ?_
  obtain ⟨h, z, rfl, q3⟩ := q2
  exact ⟨h, [(z, y)], rfl, by simp, q3⟩
end
end Wk
namespace Wk
open PySem PySem.Spec
/-! places in a text -/
def nE : Expr := .Name "" ⟨0, 0, 0, 0⟩
def exA : Expr → Nat → Expr
  | .BoolOp _ es _, n => es.getD n nE
  | .BinOp a _ b _, n => [a, b].getD n nE
  | .UnaryOp _ a _, _ => a
  | .IfExp c a b _, n => [c, a, b].getD n nE
  | .Dict _ vs _, n => vs.getD n nE
  | .ListComp e gs _ _, n => (e :: gs.flatMap fun g => g.iter :: g.ifs).getD n nE
  | .DictComp e f gs _ _, n => (e :: f :: gs.flatMap fun g => g.iter :: g.ifs).getD n nE
  | .Compare a _ bs _, n => (a :: bs).getD n nE
  | .Call f as ks _, n => (f :: as ++ ks.map (·.value)).getD n nE
  | .Attribute a _ _, _ => a
  | .Subscript a b _, n => [a, b].getD n nE
  | .List es _, n => es.getD n nE
  | .Tuple es _ _, n => es.getD n nE
  | e, _ => e
def stE : Stmt → Expr
  | .Return (some e) _ => e
  | .Assign _ e _ => e
  | .For _ e _ _ _ => e
  | .While e _ _ _ => e
  | .If e _ _ _ => e
  | .Expr e _ => e
  | _ => nE
def nS : Stmt := .Pass ⟨0, 0, 0, 0⟩
def stB : Stmt → Nat → Nat → Stmt
  | .For _ _ a b _, j, n => ((if j = 0 then a else b).getD n nS)
  | .While _ a b _, j, n => ((if j = 0 then a else b).getD n nS)
  | .If _ a b _, j, n => ((if j = 0 then a else b).getD n nS)
  | .Try a _ b _ _, j, n => ((if j = 0 then a else b).getD n nS)
  | _, _, _ => nS
def xSc : Expr → Scope
  | .ListComp _ _ sc _ => sc
  | .DictComp _ _ _ sc _ => sc
  | _ => { kind := .function, names := [], isGenerator := false, isCoroutine := false }
end Wk
namespace Wk
open PySem PySem.Spec PyProof.Rows L2
section
variable {X : Cx} {o e : Expr} {σ : L2.St} {H : Hp} {Q : VK} {pos apos : Pos}
/-- t.index(e), t a tuple of texts of the module's top -/
theorem e_tIx (q : wE X o σ H fun x H1 => ∃ p, x = .ref p ∧ (∃ ob, X.K.lookup p = some ob ∧ ob.cls = .type "tuple" ∧ ob.dict = none) ∧ wE X e σ H1 fun y H2 => ∃ (ys : List Str) (z : Str) (j : Nat), y = .str z ∧ SqT X.K H2 p (ys.map V.str) ∧ ys[j]? = some z ∧ (∀ m, m < j → ys[m]? ≠ some z) ∧ Q (.int (j : Int)) H2)
    (hbase : attributeBase o "index" X.env (eval o X.env) = eval o X.env := by rfl)
    (hfew : ((backTo pos (starEach (e :: []) X.env)).all (fun x => !x.1) && (backToKw pos (keywordEach [] X.env)).all (fun x => x.1.isSome)
      && decide ((e :: []).length + ([] : List Keyword).length + (if ([] : List Keyword).isEmpty then 0 else 1) < 30)) = true := by rfl)
    (hline : (apos.endLine == pos.line) = true := by rfl) (hs : starEach (e :: []) X.env = (false, eval e X.env) :: starEach [] X.env := by rfl) (hplain : (backTo pos (starEach [] X.env)).any (·.1) = false := by rfl) :
    wE X (.Call (.Attribute o "index" apos) [e] [] pos) σ H Q := by
  refine e_of (pe_bm PySem.F.plainAttrs_tuple PySem.F.slot_tuple_index PySem.F.type_tuple_index mt_tup_index pe (pa_cons pe pa_nil hs) hbase hfew hline hs hplain) (e_mono q fun x H1 z => ?_)
  obtain ⟨p, rfl, ho, z⟩ := z
  refine ⟨.inr (.inl ⟨rfl, ho⟩), e_mono z fun y H2 z2 => ?_⟩
  obtain ⟨ys, z, j, rfl, h1, h2, h3, h4⟩ := z2
  exact ⟨p, ys, z, j, rfl, rfl, h1, h2, h3, h4⟩
end
end Wk

set_option maxHeartbeats 4000000
/-! My own layer: enumerate, ranges that are held, list(range(..)), all of a list, dicts of lists compared, classes whose making may raise. -/
namespace Wk
open PySem PySem.Spec PyProof.Rows L2
section
variable {X : Cx} {e a b : Expr} {σ : L2.St} {H : Hp} {Q : VK} {N G G' : List Str} {sc scope : Scope} {Vn : List (Nat × Str)} {elt : Expr} {pos : Pos}
/-- for x, y in enumerate(a) -/
theorem s_forE {nx : L2.St → Hp → Prop} {rt : VK} {bk ct : L2.St → Hp → Prop} {g : Nat} {x y : Str} {i j : Nat} {body : List Stmt} {px py pt p cp pos : Pos} {kk : Nat} (hm : X.mg "enumerate" = none)
    (q : wE X a σ H fun v H1 => ∃ va xs, v = .ref va ∧ SqL X.K H1 va xs ∧ ∃ Pv : Nat → L2.St → Hp → Prop, Pv 0 σ H1 ∧ (∀ k σ H, k ≤ xs.length → Pv k σ H → SqL X.K H va xs) ∧
      (∀ k u T σ H, xs[k]? = some u → Pv k σ H → H T = none → wL X body ⟨Pv (k + 1), rt, nx, Pv (k + 1)⟩ ((σ.set i (some (.int (k : Nat)))).set j (some u)) (upd H T (.tup [.int (k : Nat), u]))) ∧ ∀ σ H, Pv xs.length σ H → nx σ H)
    (I : In X N G sc := by assumption) (hc : X.calm = true := by rfl) (hA : At N i x := by repeat (first | with_reducible apply At.z | with_reducible apply At.s)) (hB : At N j y := by repeat (first | with_reducible apply At.z | with_reducible apply At.s))
    (hG : At G g ("enumerate" : Str) := by repeat (first | with_reducible apply At.z | with_reducible apply At.s)) (hs : starEach [a] X.env = [(false, eval a X.env)] := by rfl)
    (hs1 : starEach (a :: []) X.env = (false, eval a X.env) :: starEach [] X.env := by rfl) (hs2 : ∀ z, foldedSetIterable (.Call (.Name "enumerate" p) [a] [] cp) X.env z = pure z := by intro _; rfl) :
    wS X (.For (.Tuple [.Name x px, .Name y py] kk pt) (.Call (.Name "enumerate" p) [a] [] cp) body [] pos) ⟨nx, rt, bk, ct⟩ σ H := by
  refine s_of (ps_for I.never hc (pi_enum (I.g hG) hm (pa_cons pe pa_nil hs1) hs) (pg_tup hc (pgs_cons (pg_name I.nd (I.hi hA) (I.loc hA) I.f) (pgs_cons (pg_name I.nd (I.hi hB) (I.loc hB) I.f) pgs_nil))) pl hs2) (e_mono q fun v H1 q1 => ?_)
  obtain ⟨va, xs, rfl, sx, Pv, h0, hk, hb, hd⟩ := q1
  refine ⟨va, xs, rfl, sx, fun k m σ H => m = xs.length - k ∧ k ≤ xs.length ∧ Pv k σ H, ⟨_, rfl, Nat.zero_le _, h0⟩, ?_⟩
  rintro k m σ H ⟨rfl, hle, pv⟩
  have tx := hk k σ H hle pv
  by_cases lt : k < xs.length
  · refine .inr ⟨⟨xs, xs[k], tx, List.getElem?_eq_getElem lt⟩, Pv (k + 1), fun σ' H' p' => ⟨_, by omega, rfl, lt, p'⟩, fun w H' yl => ?_⟩
    obtain ⟨T, u1, rfl, nT, rfl, y1⟩ := yl
    exact ⟨T, [.int (k : Nat), u1], rfl, SqT.of upd_same, rfl, .int (k : Nat), [u1], rfl, u1, [], rfl, rfl, hb k u1 T σ H (y1 xs tx) pv nT⟩
  · have ek : k = xs.length := by omega
    subst ek
    refine .inl ⟨⟨xs, tx, by omega⟩, hd σ H pv⟩
theorem cr_range1 : CallR X (.type "range") (fun vs H Q => ∃ j, vs = [V.int j] ∧ ∀ p, H p = none → Q (.ref p) (upd H p (.rng 0 j))) := by
  intro pins s σ H vs us Q I r h
  obtain ⟨j, rfl, q⟩ := h
  cases r with
  | cons r1 rr =>
    cases rr
    obtain ⟨t, rfl⟩ := r1
    exact call_range_1 ⟨.ref s.heap.objs.size, upd H s.heap.objs.size (.rng 0 j), I.laid (t' := s.toks + 1 + 1) (fun b o e => Heap.get?_push_of_some _ e) (Nat.le_refl _) ⟨_, _, _, Heap.get?_push_size _ rfl⟩, rfl, q _ (I.hok.fresh (Nat.le_refl _))⟩
theorem c_rng1 {j : Int} (q : ∀ p, H p = none → Q (.ref p) (upd H p (.rng 0 j))) : wC X (.type "range") [.int j] H Q := c_of cr_range1 ⟨j, rfl, q⟩
def iRngV (tl : TE) : TI := fun σ H R => tl σ H fun x H1 => ∃ ad lo hi, x = .ref ad ∧ H1 ad = some (.rng lo hi) ∧ (-(2 ^ 62) ≤ lo ∧ lo < 2 ^ 62 ∧ -(2 ^ 62) ≤ hi ∧ hi < 2 ^ 62) ∧ R (Itr lo (hi - lo).toNat) H1
/-- a range object that stands -/
theorem pi_rngV {tg l : Expr} {tl : TE} (hl : PE X l tl) : PI X tg l (iRngV tl) := by
  refine ⟨fun pins s σ H R I h => thn (hl.run pins s σ H _ I h) fun v s1 ⟨x, H1, I1, r1, ad, lo, hi, ex, had, ⟨b1, b2, b3, b4⟩, q⟩ => ?_⟩
  subst ex
  cases r1
  obtain ⟨t, u, w, ho⟩ := I1.hok ad _ had
  refine wpAny_pyIter_range (show IsRange s1.heap ad lo hi 1 t u w from ho) (small_one b1 b2 b3 b4) ?_
  refine ⟨s1.heap.objs.size, [s1.heap.objs.size], _, _, H1, rfl, I1.kept (t' := s1.toks) fun b o e => Heap.get?_push_of_some _ e, turn_range _ lo (hi - lo).toNat, ?_, fun b hb => ?_, q⟩
  · have z1 : lo + ((0 : Nat) : Int) * 1 = lo := by simp
    have z2 : (((hi - lo).toNat : Nat) : Int) - ((0 : Nat) : Int) = Builtin.Range.rangeSize lo hi 1 := by rw [rangeSize_one]; split <;> omega
    show IsRangeIter _ _ (lo + ((0 : Nat) : Int) * 1) ((((hi - lo).toNat : Nat) : Int) - ((0 : Nat) : Int)) 1
    rw [z1, z2]
    exact Heap.get?_push_size _ rfl
  · obtain rfl : b = s1.heap.objs.size := by simpa using hb
    exact I1.fpOk (Nat.le_refl _) (I1.hok.fresh (Nat.le_refl _))
/-- [elt for x in a], a holds range(n) -/
theorem e_lcRv {i : Nat} {x : Str} {px : Pos} (B : BkOk X.N Vn G' i x sc scope)
    (q : wE X a σ H fun v H1 => ∃ (ad : Addr) (n : Nat), v = .ref ad ∧ H1 ad = some (.rng 0 n) ∧ n < 2 ^ 62 ∧ ∀ D, H1 D = none → LcR X Vn G' elt scope i n D σ H1 fun H2 => Q (.ref D) H2)
    (I : In X N G sc := by assumption) (hc : X.calm = true := by rfl) (hs2 : ∀ z, foldedSetIterable a X.env z = pure z := by intro _; rfl) :
    wE X (.ListComp elt [⟨.Name x px, a, [], 0⟩] scope pos) σ H Q := by
  refine e_of (pe_lc (own := [(x, i)]) (g := gName i) (tt := tYes) (te := wBk X Vn G' elt scope) hc I.nd (pi_rngV pe) (B.ok I) (fun s H C cl fp => B.pg I s H C cl fp) (fun _ _ _ _ _ => pts_nil) (fun s H C cl fp => pe_bk (B.inB I s H C cl fp)) hs2) (e_mono q fun v H1 q1 => ?_)
  obtain ⟨ad, n, rfl, had, hn, q2⟩ := q1
  refine ⟨ad, 0, n, rfl, had, ⟨by omega, by omega, by omega, by omega⟩, ?_⟩
  rw [Int.sub_zero, Int.toNat_natCast]
  exact fun D hD => lcR_of (q2 D hD)
theorem c_allL {l : Addr} {bs : List Bool} (hc : X.calm = true) (h : SqL X.K H l (bs.map V.bl)) (q : Q (.bl (bs.all id)) H) : wC X (.builtin "all") [.ref l] H Q := c_of (cr_all hc) ⟨l, bs, rfl, h, q⟩
theorem b_all : bootBuiltins "all" = some (.builtin "all") := by decide +kernel
theorem b_range : bootBuiltins "range" = some (.type "range") := by decide +kernel
/-- list(range(a)) -/
theorem e_listRg {g g2 : Nat} {p p2 cp cp2 : Pos} (hm : X.mg "list" = none) (hm2 : X.mg "range" = none) (q : wE X a σ H fun v H1 => ∃ n : Nat, v = .int n ∧ n ≤ 100000 ∧ ∀ l, H1 l = none → Q (.ref l) (upd H1 l (.lst ((List.range n).map fun (k : Nat) => V.int (k : Int)))))
    (I : In X N G sc := by assumption) (hc : X.calm = true := by rfl) (hG : At G g ("list" : Str) := by repeat (first | with_reducible apply At.z | with_reducible apply At.s)) (hG2 : At G g2 ("range" : Str) := by repeat (first | with_reducible apply At.z | with_reducible apply At.s))
    (hs : starEach [a] X.env = (false, eval a X.env) :: starEach [] X.env := by rfl) (na : starEach [.Call (.Name "range" p2) [a] [] cp2] X.env = (false, eval (.Call (.Name "range" p2) [a] [] cp2) X.env) :: starEach [] X.env := by rfl) :
    wE X (.Call (.Name "list" p) [.Call (.Name "range" p2) [a] [] cp2] [] cp) σ H Q := by
  refine e_of (pe_listRg hc (I.g hG) hm (prg_1 (I.g hG2) hm2 pe hs) na) (e_mono q fun v H1 q1 => ?_)
  obtain ⟨n, rfl, hn, q2⟩ := q1
  refine ⟨n, rfl, ⟨by omega, by omega, by omega, by omega, by omega⟩, fun l nl => ?_⟩
  have := q2 l nl
  have e : rgV 0 (n : Int) = (List.range n).map fun (k : Nat) => V.int (k : Int) := by
    unfold rgV
    simp
  rw [e]
  exact this
end
/-! ### dicts of lists of numbers -/
abbrev iV (l : List Int) : List V := l.map V.int
theorem dp_ints {K : PySem.W.Frag} {H : Hp} : ∀ l : List Int, DpAll K H (iV l) (l.map PyData.int)
  | [] => .nil
  | i :: l => .cons (.int i) (dp_ints l)
theorem plain_ints : ∀ l : List Int, PyData.plainAll (l.map PyData.int) = true
  | [] => rfl
  | _ :: l => by show (true && PyData.plainAll _) = true; rw [plain_ints l]; rfl
theorem depth_ints : ∀ l : List Int, PyData.depthAll (l.map PyData.int) = 0
  | [] => rfl
  | _ :: l => by show max 0 (PyData.depthAll _) = 0; rw [depth_ints l]; rfl
/-- the same numbers, under each name -/
def rNeDL (K : PySem.W.Frag) : R2 := fun x y H Q => ∃ a b ks ls, x = .ref a ∧ y = .ref b ∧ H a = some (.dK ks) ∧ H b = some (.dK ls) ∧ ks.length = ls.length ∧ (∀ p ∈ ks, ∃ c d l, p.2 = .ref c ∧ valV ls p.1 = some (.ref d) ∧ SqL K H c (iV l) ∧ SqL K H d (iV l)) ∧ Q (.bl false) H
theorem op_neDL {X : Cx} (hu : X.A.units + 64 < cLine) : OpR X (compareOp .NotEq) (rNeDL X.K) := by
  intro pins s σ H x y v u Q I rx ry h
  obtain ⟨a, b, ks, ls, rfl, rfl, ea, eb, hlen, hp, q⟩ := h
  cases rx
  cases ry
  obtain ⟨_, ya, va, ra, da⟩ := (show ObjOk X.prog X.w H s.heap a (.dK ks) from I.hok a _ ea)
  obtain ⟨_, yb, vb, rb, db⟩ := (show ObjOk X.prog X.w H s.heap b (.dK ls) from I.hok b _ eb)
  have hits : ∀ {ks : List (Key × V)} {va : List (Key × Value)}, KV ks va → (∀ p ∈ ks, ∃ c d l, p.2 = .ref c ∧ valV ls p.1 = some (.ref d) ∧ SqL X.K H c (iV l) ∧ SqL X.K H d (iV l)) → PySem.W.KeqHits X.A.in1 s vb va true := by
    intro ks va ra
    unfold KV at ra
    induction ra with
    | nil => intro _; exact .nil
    | @cons p q ps qs h1 t ih =>
      intro hp
      obtain ⟨hk, hv⟩ := h1
      obtain ⟨c, d, l, e1, e2, s1, s2⟩ := hp p List.mem_cons_self
      have rr : RelO (some (V.ref d)) (valueAt vb p.1) := by rw [← e2]; exact rb.val p.1
      obtain ⟨y, hy, ry⟩ := rr.some_of
      obtain ⟨k, v⟩ := q
      have hk' : p.1 = k := hk
      rw [hk'] at hy
      rw [e1] at hv
      have hv' : RelV (.ref c) v := hv
      obtain ⟨as, r1⟩ := Dp.reads I (.list (l.map .int)) _ _ (.lst s1 (dp_ints l)) hv'
      obtain ⟨bs, r2⟩ := Dp.reads I (.list (l.map .int)) _ _ (.lst s2 (dp_ints l)) ry
      have hpl : (PyData.list (l.map .int)).plain = true := plain_ints l
      have hq := PySem.SeqAt.eqAt_plain _ _ X.A.in1 s _ _ as bs r1 r2 hpl hpl (by
        have : (PyData.list (l.map .int)).depth = 1 := by show PyData.depthAll _ + 1 = 1; rw [depth_ints]
        rw [this]
        have : X.A.in1.units ≤ X.A.units + 2 := by simp [Around.in1, Around.units] <;> omega
        omega)
      rw [PySem.SeqAt.eqv_refl_plain _ hpl] at hq
      show PySem.W.KeqHits _ s vb ((k, v) :: qs) (true && true)
      exact .hit hy hq (ih fun p' hm => hp p' (List.mem_cons_of_mem _ hm))
  have hl : va.length = vb.length := by rw [← ra.length, ← rb.length]; exact hlen
  exact PySem.W.keq_ne (knd := mixKind X.prog X.w) (r := true) ya yb da db (by omega) (fun _ => hits ra hp) (fin_bl I q (by simp [hl]))
/-! ### a class whose making may raise -/
section
variable {P : Program} {w : World} {K : PySem.W.Frag} {mg : Str → Option Value} {base : Heap}
theorem me_okN {x qual : Str} {C : Addr} {st : Stmt} {N D G ps : List Str} {k : Nat} {sp : Sp} (T : TopM K C x qual st) (S : FnScope (N ++ D) ps (defScope st)) (O : ScOk N G (defScope st)) (len : ∀ vs H Q E, sp vs H Q E → vs.length = ps.length)
    (hb : ∀ (kV doc pm : Value) (an : Option Addr) (cdv ct : Value) (us : List Value), us.length = ps.length → bindArgs (PySem.W.fnOf x qual (defArgs st) (defBody st) (defScope st) .none kV doc pm an cdv ct) ⟨us, []⟩ = pure (ps.zip us))
    (hbody : ∀ (f : Addr) (cdv : Value) (A : Around) (outer : List Env) (s : Shared) (H : Hp) (vs : List V) (Q : VK) (E : XK), Room k (A.deeper (envOfC qual (defScope st) s.heap.objs.size f cdv)) → sp vs H Q E → In (cxOf (L2N.CX P w) P w K mg base (N ++ D) qual (defScope st) f cdv A outer s H E) N G (defScope st) →
      L2N.Takes (cxOf (L2N.CX P w) P w K mg base (N ++ D) qual (defScope st) f cdv A outer s H E) (fun cls d _ H => E cls d H) →
      wL (cxOf (L2N.CX P w) P w K mg base (N ++ D) qual (defScope st) f cdv A outer s H E) (defBody st) { nx := fun _ H' => Q .non H', rt := Q } (start (N ++ D) vs) H) :
    ∃ (f : Addr) (fd : FuncData), FnOk P w K mg base (L2N.CX P w) (k + 1) f fd ps sp ∧ Binds K fd ps [] ∧ PySem.W.findIn K (.ref C) x = some (some (.ref f)) ∧ PySem.W.isFn K (.ref f) = true ∧ PySem.W.keepIn K (.ref f) = true := by
  obtain ⟨f, fd, F, hf, hi⟩ := T.ex
  obtain ⟨oc, od, kV, doc, pm, an, cdv, ct, osl, rfl, lk, hcd⟩ := id F.ex
  exact ⟨f, _, fn_of lk hcd S len (fun A outer s H vs Q E hr h => ⟨_, pl, hbody f cdv A outer s H vs Q E hr h ⟨O, ⟨D, rfl⟩, S.nd, rfl, rfl, passes_of rfl⟩ (L2N.takes_of rfl rfl rfl rfl)⟩), F.binds hb, hf, hi, F.kp⟩
structure KlN (P : Program) (w : World) (K : PySem.W.Frag) (mg : Str → Option Value) (base : Heap) (k : Nat) (x : Str) (C : Addr) (sp : Sp) : Prop where
  ex : ∃ (f : Addr) (fd : FuncData) (ps : List Str), FnOk P w K mg base (L2N.CX P w) k f fd ps sp ∧ mg x = some (.ref C) ∧ Mk K C f ∧ Binds K fd ps []
theorem cx_weak {outer : List Env} {H : Hp} {s s' : Shared} {E E' : XK} {u : Value} (h : L2N.CX P w outer H s E u s') (m : ∀ cls d H, E cls d H → E' cls d H) : L2N.CX P w outer H s E' u s' := by
  obtain ⟨a, B, H', cls, d, h1, h2, h3, h4, h5, h6, h7, h8⟩ := h
  exact ⟨a, B, H', cls, d, h1, h2, h3, h4, h5, h6, h7, m _ _ _ h8⟩
end
section
variable {X : Cx} {e : Expr} {es : List Expr} {pos p0 : Pos} {σ : L2.St} {H : Hp} {Q : VK} {N G : List Str} {sc : Scope}
theorem e_makeN {g k n : Nat} {x : Str} {C : Addr} {sp : Sp} {W : WX} (F : KlN X.prog X.w X.K X.mg X.base k x C sp) (tk : L2N.Takes X W) (hr : Room n X.A) (hk : k + 1 ≤ n)
    (q : wA X (e :: es) σ H fun vs H1 => ∀ x dx, H1 x = none → H1 dx = none → dx ≠ x → sp (.ref x :: vs) (upd (upd H1 dx (.own x)) x (.ins C dx [])) (fun v H2 => v = .non ∧ Q (.ref x) H2) (fun cls d H' => ∀ σ' : L2.St, σ'.length = X.N.length → W cls d σ' H'))
    (I : In X N G sc := by assumption) (hG : At G g x := by repeat (first | with_reducible apply At.z | with_reducible apply At.s)) (he : starEach (e :: es) X.env = (false, eval e X.env) :: starEach es X.env := by rfl) (hpl : (backTo pos (starEach es X.env)).any (·.1) = false := by rfl) : wE X (.Call (.Name x p0) (e :: es) [] pos) σ H Q := by
  obtain ⟨f, fd, ps, F0, hm, M, hb⟩ := F.ex
  have hx : Passes (L2N.CX X.prog X.w) X (fun cls d H' => ∀ σ' : L2.St, σ'.length = X.N.length → W cls d σ' H') := fun pins σ' H s e s' I0 c => L2N.passAt tk σ' pins H s e s' I0 (cx_weak c fun cls d H z => z σ' I0.len)
  refine e_of (pe_make M F0 (hr.mono hk) (I.g hG) hm hb .nil hx pa (I.gd hG) he hpl) ?_
  show wA X (e :: es) σ H fun vs H1 => ∀ x dx, H1 x = none → H1 dx = none → dx ≠ x → sp (.ref x :: (vs ++ [])) (upd (upd H1 dx (.own x)) x (.ins C dx [])) (fun v H2 => v = .non ∧ Q (.ref x) H2) _
  simp only [List.append_nil]
  exact q
end
/-! ### len of an instance whose class has its own __len__ -/
structure LnO (P : Program) (w : World) (K : PySem.W.Frag) (mg : Str → Option Value) (base : Heap) (k : Nat) (C : Addr) (sp : Sp) : Prop where
  ex : ∃ (f : Addr) (fd : FuncData) (pn : List Str), FnOk P w K mg base CX0 k f fd pn sp ∧ PySem.W.findIn K (.ref C) "__len__" = some (some (.ref f)) ∧ PySem.W.isFn K (.ref f) = true ∧ Binds K fd pn []
theorem c_lenO {X : Cx} {H : Hp} {Q : VK} {k n : Nat} {C a dx : Addr} {fs : List (Str × V)} {sp : Sp} (F : LnO X.prog X.w X.K X.mg X.base k C sp) (hr : Room (n + 1) X.A) (hk : k ≤ n) (ha : H a = some (.ins C dx fs))
    (q : sp [.ref a] H (fun v H' => ∃ m : Nat, v = .int (m : Int) ∧ m < 2 ^ 62 ∧ Q (.int (m : Int)) H') E0) : wC X (.builtin "len") [.ref a] H Q := by
  obtain ⟨f, fd, pn, F0, hs, hf, hb⟩ := F.ex
  refine c_of (r := fun xs H Q => xs = [.ref a] ∧ H a = some (.ins C dx fs) ∧ sp [.ref a] H (fun v H' => ∃ m : Nat, v = .int (m : Int) ∧ m < 2 ^ 62 ∧ Q (.int (m : Int)) H') E0) ?_ ⟨rfl, ha, q⟩
  intro pins s σ H xs us Q I r h
  obtain ⟨rfl, ha, q⟩ := h
  cases r with
  | cons r1 rr =>
    cases rr
    cases r1
    obtain ⟨mA, J, _⟩ := ins_get I.hok ha
    obtain ⟨od, J, _⟩ := J.look
    obtain ⟨m, hF⟩ := I.fr
    refine PySem.W.len_K hF I.ok.mod.kin J hs hf ?_
    have hl : ([Value.ref a] : List Value).length = pn.length := F0.len _ _ _ _ q
    refine wpAny_call (codeAny_mono (F0.run X.A.in1 X.stack s H ⟨[.ref a], []⟩ [.ref a] [.ref a] _ E0 (hr.in1.mono hk) I.env0.in1 (hb s [.ref a] I.kIn hl) (.cons rfl .nil) q) fun r s' hq => ?_)
    cases r with
    | error e => exact pass0 pins σ H s e s' I hq
    | ok fl =>
      cases fl with
      | ret u =>
        obtain ⟨v, H', I', rv, m, rfl, hm, q2⟩ := I.after hq
        obtain ⟨t, rfl⟩ := rv
        exact ⟨⟨by omega, by omega⟩, .int (m : Int), H', I'.tok _, ⟨_, rfl⟩, q2⟩
      | next => exact False.elim hq
      | brk => exact False.elim hq
      | cont => exact False.elim hq
section
variable {X : Cx} {σ : L2.St} {H : Hp}
/-- for x in range(a, b), a below b + 1 -/
theorem s_forR12 {nx : L2.St → Hp → Prop} {rt : VK} {bk ct : L2.St → Hp → Prop} {g : Nat} {N G : List Str} {sc : Scope} {x : Str} {i : Nat} {a b : Expr} {body : List Stmt} {px p cp pos : Pos} (hm : X.mg "range" = none)
    (q : wE X a σ H fun v H1 => wE X b σ H1 fun u H2 => ∃ lo n : Nat, v = .int (lo : Int) ∧ u = .int ((lo + n : Nat) : Int) ∧ lo + n < 2 ^ 62 ∧ ∃ Pv : Nat → L2.St → Hp → Prop, Pv 0 σ H2 ∧ (∀ k σ H, k < n → Pv k σ H → wL X body ⟨Pv (k + 1), rt, nx, Pv (k + 1)⟩ (σ.set i (some (.int ((lo + k : Nat) : Int)))) H) ∧ ∀ σ H, Pv n σ H → nx σ H)
    (I : In X N G sc := by assumption) (hc : X.calm = true := by rfl) (hA : At N i x := by repeat (first | with_reducible apply At.z | with_reducible apply At.s))
    (hG : At G g ("range" : Str) := by repeat (first | with_reducible apply At.z | with_reducible apply At.s)) (hs : starEach [a, b] X.env = [(false, eval a X.env), (false, eval b X.env)] := by rfl) (hsb : starEach [b] X.env = [(false, eval b X.env)] := by rfl)
    (hs2 : ∀ z, foldedSetIterable (.Call (.Name "range" p) [a, b] [] cp) X.env z = pure z := by intro _; rfl)
    (h1 : starEach (a :: [b]) X.env = (false, eval a X.env) :: starEach [b] X.env := by rfl) (h2 : starEach (b :: []) X.env = (false, eval b X.env) :: starEach [] X.env := by rfl) :
    wS X (.For (.Name x px) (.Call (.Name "range" p) [a, b] [] cp) body [] pos) ⟨nx, rt, bk, ct⟩ σ H := by
  refine s_of (ps_for I.never hc (pi_range2 (I.g hG) hm (pa_cons pe (pa_cons pe pa_nil h2) h1) hs hsb) (pg_name I.nd (I.hi hA) (I.loc hA) I.f) pl hs2) (e_mono q fun v H1 q1 => e_mono q1 fun u H2 q2 => ?_)
  obtain ⟨lo, n, rfl, rfl, hn, Pv, h0, hb, hd⟩ := q2
  refine ⟨(lo : Int), ((lo + n : Nat) : Int), rfl, ⟨by omega, by omega, by omega, by omega⟩, ?_⟩
  rw [show (((lo + n : Nat) : Int) - (lo : Int)).toNat = n by omega]
  refine for_range (n := n) Pv h0 (fun k σ H hk p => ?_) hd
  have := hb k σ H hk p
  rwa [show ((lo + k : Nat) : Int) = (lo : Int) + (k : Int) by omega] at this
theorem o_bor {X : Cx} {H : Hp} {Q : VK} {i j : Int} (q : Q (.int (Builtin.bitOr i j)) H) : wB X .BitOr (.int i) (.int j) H Q := b_of op_or ⟨i, j, rfl, rfl, q⟩
theorem bor_nn : ∀ a < 32, ∀ b < 32, 0 ≤ Builtin.bitOr ((a : Nat) : Int) ((b : Nat) : Int) := by decide +kernel
end
end Wk

set_option maxHeartbeats 4000000
/-! My own layer: a def that hands out, walked by a loop: while it sleeps its consumer works. The generator's run is told over a family of contexts; the consumer tells at each wake what it did. -/
namespace Wk
open PySem PySem.Spec PyProof.Rows L2 GenW
structure Fam {ι : Type} (𝒳 : ι → Cx) (P : Program) (w : World) (env : Env) (A : Around) (xe : Value → Shared → Prop) : Prop where
  own : PassesOwn (model P w) A env xe
  prog : ∀ i, (𝒳 i).prog = P
  wd : ∀ i, (𝒳 i).w = w
  ev : ∀ i, (𝒳 i).env = env
  ar : ∀ i, (𝒳 i).A = A
  xs : ∀ i, (𝒳 i).xe = xe
section
variable {ι : Type} {𝒳 : ι → Cx} {P : Program} {w : World} {env : Env} {AX : Around} {xe : Value → Shared → Prop} {Pp : List (Addr × Obj) → Prop} {Wy : Nat → L2.V → Hp → Prop} {Wr : L2.V → Hp → Hp → Prop}
/-- the generator's state, in one of its contexts -/
def HI (𝒳 : ι → Cx) (Pp : List (Addr × Obj) → Prop) (σ : L2.St) (H : Hp) (s : Shared) : Prop := ∃ i pins, Pp pins ∧ Inv (𝒳 i) pins σ H s
/-- x goes out; when it is woken the consumer has done Wr -/
def YG (𝒳 : ι → Cx) (Pp : List (Addr × Obj) → Prop) (Wy : Nat → L2.V → Hp → Prop) (Wr : L2.V → Hp → Hp → Prop) : Protocol := fun n _ v s kap =>
  ∃ j x σ H, n + 1 + j = sizeLine ∧ RelV x v ∧ HI 𝒳 Pp σ H s ∧ Wy j x H ∧ ∀ s' H', HI 𝒳 Pp σ H' s' → Wr x H H' → kap (.send .none) s'
structure HEnds where
  nx : Nat → L2.St → Hp → Prop
  rt : Nat → VK
  bk : Nat → L2.St → Hp → Prop := fun _ _ _ => False
  ct : Nat → L2.St → Hp → Prop := fun _ _ _ => False
abbrev THn := HEnds → Nat → L2.St → Hp → Prop
def HEnds.at (D : HEnds) (j : Nat) : Ends := { nx := D.nx j, rt := D.rt j, bk := D.bk j, ct := D.ct j }
def HSP (𝒳 : ι → Cx) (Pp : List (Addr × Obj) → Prop) (D : HEnds) (j : Nat) (f : Flow) (s : Shared) : Prop :=
  match f with
  | .next => ∃ σ H, HI 𝒳 Pp σ H s ∧ D.nx j σ H
  | .brk => ∃ σ H, HI 𝒳 Pp σ H s ∧ D.bk j σ H
  | .cont => ∃ σ H, HI 𝒳 Pp σ H s ∧ D.ct j σ H
  | .ret u => ∃ v σ H, HI 𝒳 Pp σ H s ∧ RelV v u ∧ D.rt j v H
structure HC (AX A : Around) (c : Code) (fs : List Frame) (gd : Bool → Bool) : Prop where
  over : A.over c fs = AX
  split : splitAtGen fs = none
  guard : fs.any Frame.guarded = false
  gd : gd false = false
structure HK (𝒳 : ι → Cx) (Pp : List (Addr × Obj) → Prop) (P : Program) (w : World) (xe : Value → Shared → Prop) (Y : Protocol) (A : Around) (R : GenEnd) (c : Code) (fs : List Frame) (K : Flow → Sem PySem.Fin) (J : Value → Sem PySem.Fin) (D : HEnds) : Prop where
  ok : ∀ (n j : Nat) (s₀ s : Shared) (f : Flow), n + j = sizeLine → HSP 𝒳 Pp D j f s → Seg (model P w) A R Y n s₀ c (K f) fs s
  exc : ∀ (n : Nat) (s₀ : Shared) (e : Value) (s : Shared), xe e s → Seg (model P w) A R Y n s₀ c (J e) fs s
structure HS (𝒳 : ι → Cx) (Pp : List (Addr × Obj) → Prop) (P : Program) (w : World) (env : Env) (AX : Around) (xe : Value → Shared → Prop) (Wy : Nat → L2.V → Hp → Prop) (Wr : L2.V → Hp → Hp → Prop) (st : Stmt) (t : THn) : Prop where
  run : ∀ (A : Around) (R : GenEnd) (n j : Nat) (s₀ : Shared) (c : Code) (fs : List Frame) (K : Flow → Sem PySem.Fin) (J : Value → Sem PySem.Fin) (gd : Bool → Bool) (lv : List Value → List Value) (s : Shared) (σ : L2.St) (H : Hp) (D : HEnds),
    HC AX A c fs gd → n + j = sizeLine → HK 𝒳 Pp P w xe (YG 𝒳 Pp Wy Wr) A R c fs K J D → HI 𝒳 Pp σ H s → t D j σ H →
    Seg (model P w) A R (YG 𝒳 Pp Wy Wr) n s₀ c ((exec st env).wrap K J gd lv) fs s
structure HSs (𝒳 : ι → Cx) (Pp : List (Addr × Obj) → Prop) (P : Program) (w : World) (env : Env) (AX : Around) (xe : Value → Shared → Prop) (Wy : Nat → L2.V → Hp → Prop) (Wr : L2.V → Hp → Hp → Prop) (st : List Stmt) (t : THn) : Prop where
  run : ∀ (A : Around) (R : GenEnd) (n j : Nat) (s₀ : Shared) (c : Code) (fs : List Frame) (K : Flow → Sem PySem.Fin) (J : Value → Sem PySem.Fin) (gd : Bool → Bool) (lv : List Value → List Value) (s : Shared) (σ : L2.St) (H : Hp) (D : HEnds),
    HC AX A c fs gd → n + j = sizeLine → HK 𝒳 Pp P w xe (YG 𝒳 Pp Wy Wr) A R c fs K J D → HI 𝒳 Pp σ H s → t D j σ H →
    Seg (model P w) A R (YG 𝒳 Pp Wy Wr) n s₀ c ((execs st env).wrap K J gd lv) fs s
variable {st : Stmt} {rest : List Stmt}
def hPlain (t : TS) : THn := fun D j σ H => t (D.at j) σ H
theorem hsp_of {i : ι} {pins : List (Addr × Obj)} {s : Shared} {D : HEnds} {j : Nat} {f : Flow} (hp : Pp pins) (h : SP (𝒳 i) pins (D.at j) f s) : HSP 𝒳 Pp D j f s := by
  cases f with
  | next => obtain ⟨σ, H, I, q⟩ := h; exact ⟨σ, H, ⟨i, pins, hp, I⟩, q⟩
  | brk => obtain ⟨σ, H, I, q⟩ := h; exact ⟨σ, H, ⟨i, pins, hp, I⟩, q⟩
  | cont => obtain ⟨σ, H, I, q⟩ := h; exact ⟨σ, H, ⟨i, pins, hp, I⟩, q⟩
  | ret u => obtain ⟨v, σ, H, I, r1, q⟩ := h; exact ⟨v, σ, H, ⟨i, pins, hp, I⟩, r1, q⟩
theorem hs_ps {t : TS} (F : Fam 𝒳 P w env AX xe) (h : ∀ i, PS (𝒳 i) st t) : HS 𝒳 Pp P w env AX xe Wy Wr st (hPlain t) := by
  refine ⟨fun A R n j s₀ c fs K J gd lv s σ H D g hn k hI ht => ?_⟩
  obtain ⟨i, pins, hp, I⟩ := hI
  refine seg_wrap ?_
  rw [g.over]
  have q := (h i).run pins s σ H (D.at j) I ht
  rw [F.prog i, F.wd i, F.ar i, F.ev i, F.xs i] at q
  exact wpAny_mono q (fun f s' hs => k.ok n j s₀ s' f hn (hsp_of hp hs)) fun x s' hx => k.exc n s₀ x s' hx
theorem hss_pss {t : TS} (F : Fam 𝒳 P w env AX xe) (h : ∀ i, PSs (𝒳 i) rest t) : HSs 𝒳 Pp P w env AX xe Wy Wr rest (hPlain t) := by
  refine ⟨fun A R n j s₀ c fs K J gd lv s σ H D g hn k hI ht => ?_⟩
  obtain ⟨i, pins, hp, I⟩ := hI
  refine seg_wrap ?_
  rw [g.over]
  have q := (h i).run pins s σ H (D.at j) I ht
  rw [F.prog i, F.wd i, F.ar i, F.ev i, F.xs i] at q
  exact wpAny_mono q (fun f s' hs => k.ok n j s₀ s' f hn (hsp_of hp hs)) fun x s' hx => k.exc n s₀ x s' hx
theorem hss_nil : HSs 𝒳 Pp P w env AX xe Wy Wr [] (fun D j σ H => D.nx j σ H) := by
  refine ⟨fun A R n j s₀ c fs K J gd lv s σ H D g hn k hI ht => ?_⟩
  exact seg_execs_nil (k.ok n j s₀ s .next hn ⟨σ, H, hI, ht⟩)
def hThen (t u : THn) : THn := fun D j σ H => t { D with nx := fun j' σ' H' => u D j' σ' H' } j σ H
theorem hss_cons {t u : THn} (a : HS 𝒳 Pp P w env AX xe Wy Wr st t) (b : HSs 𝒳 Pp P w env AX xe Wy Wr rest u) : HSs 𝒳 Pp P w env AX xe Wy Wr (st :: rest) (hThen t u) := by
  refine ⟨fun A R n j s₀ c fs K J gd lv s σ H D g hn k hI ht => ?_⟩
  refine seg_execs_cons ?_
  refine a.run A R n j s₀ c fs _ J gd lv s σ H { D with nx := fun j' σ' H' => u D j' σ' H' } g hn ⟨fun n' j' s₀' s' f hn' hs => ?_, k.exc⟩ hI ht
  cases f with
  | next =>
    obtain ⟨σ', H', I', q⟩ := hs
    exact b.run A R n' j' s₀' c fs K J gd lv s' σ' H' D g hn' k I' q
  | brk => exact k.ok n' j' s₀' s' .brk hn' hs
  | cont => exact k.ok n' j' s₀' s' .cont hn' hs
  | ret u => exact k.ok n' j' s₀' s' (.ret u) hn' hs
def hYield (Wy : Nat → L2.V → Hp → Prop) (Wr : L2.V → Hp → Hp → Prop) (te : TE) : THn := fun D j σ H => j < sizeLine ∧ te σ H fun x H1 => Wy j x H1 ∧ ∀ H', Wr x H1 H' → D.nx (j + 1) σ H'
theorem hs_yield {e : Expr} {yp pos : Pos} {te : TE} (F : Fam 𝒳 P w env AX xe) (he : ∀ i, PE (𝒳 i) e te) (hco : env.scope.isCoroutine = false := by rfl) (hi : interactive env = false := by rfl) : HS 𝒳 Pp P w env AX xe Wy Wr (.Expr (.Yield (some e) yp) pos) (hYield Wy Wr te) := by
  refine ⟨fun A R n j s₀ c fs K J gd lv s σ H D g hn k hI ht => ?_⟩
  obtain ⟨hlt, ht⟩ := ht
  obtain ⟨n, rfl⟩ : ∃ m, n = m + 1 := ⟨n - 1, by omega⟩
  obtain ⟨i, pins, hp, I⟩ := hI
  refine seg_Expr_Yield g.split g.gd g.guard ?_ hco hi
  rw [g.over]
  have q := (he i).run pins s σ H _ I ht
  rw [F.prog i, F.wd i, F.ar i, F.ev i, F.xs i] at q
  refine wpAny_mono q (fun v s' hv => ?_) fun x s' hx => k.exc _ s₀ x s' hx
  obtain ⟨x, H1, I1, rv, q1, q2⟩ := hv
  intro kap hk
  refine ⟨j, x, σ, H1, by omega, rv, ⟨i, pins, hp, I1⟩, q1, fun s'' H' hI' hr => hk .none s'' ?_⟩
  exact k.ok n (j + 1) s'' s'' .next (by omega) ⟨σ, H', hI', q2 H' hr⟩
theorem hc_loop {A : Around} {c c' : Code} {fs : List Frame} {gd : Bool → Bool} {k : Result → Sem PySem.Fin} {l kp : List Value} {p : Pos} (g : HC AX A c fs gd) (hw : c'.weight = 0) (hu : c'.cUnits = 0) :
    HC AX A c' (.ret k none (gd false) l c p kp :: fs) id where
  over := (over_loop hw hu).trans g.over
  split := by
    show (splitAtGen fs).map _ = none
    rw [g.split]; rfl
  guard := by
    show (gd false || fs.any Frame.guarded) = false
    rw [g.gd, g.guard]; rfl
  gd := rfl
theorem hseg_back {Y : Protocol} {A : Around} {R : GenEnd} {c : Code} {fs : List Frame} {K : Flow → Sem PySem.Fin} {J : Value → Sem PySem.Fin} {gd : Bool → Bool} {lv : List Value → List Value} {D : HEnds} {n : Nat} {s₀ s : Shared} {e : Value}
    (g : HC AX A c fs gd) (k : HK 𝒳 Pp P w xe Y A R c fs K J D) (h : cameBackBy (model P w) AX env xe e s) :
    Seg (model P w) A R Y n s₀ c (((Sem.raise e : Sem Flow).onRaise (cameBack env)).wrap K J gd lv) fs s := by
  show Seg _ _ _ _ _ _ _ (((cameBack env e).bind fun _ => (Sem.raise e : Sem Flow)).wrap K J gd lv) _ _
  rw [Sem.bind_eq_wrap, Sem.wrap_wrap]
  refine seg_wrap ?_
  rw [g.over]
  exact wpAny_mono h (fun _ s' hx => k.exc n s₀ e s' hx) fun x s' hx => k.exc n s₀ x s' hx
def hWhile (c : TT) (tb : THn) : THn := fun D j σ H => ∃ W : Nat → Nat → L2.St → Hp → Prop, (∃ m, W m j σ H) ∧ ∀ m j σ H, W m j σ H →
  c σ H fun b H1 => if b = true then ∃ N : Nat → L2.St → Hp → Prop, (∀ j' σ' H', N j' σ' H' → ∃ m', m' < m ∧ W m' j' σ' H') ∧ tb { D with nx := N, ct := N, bk := D.nx } j σ H1 else D.nx j σ H1
theorem hs_while {test : Expr} {body : List Stmt} {pos : Pos} {tc : TT} {tb : THn} (F : Fam 𝒳 P w env AX xe) (hc : ∀ i, PT (𝒳 i) test tc) (hb : HSs 𝒳 Pp P w env AX xe Wy Wr body tb) : HS 𝒳 Pp P w env AX xe Wy Wr (.While test body [] pos) (hWhile tc tb) := by
  refine ⟨fun A R n j s₀ c fs K J gd lv s σ H D g hn k hI ht => ?_⟩
  obtain ⟨W, ⟨m0, w0⟩, turn⟩ := ht
  refine seg_While fun p => ?_
  have gl := fun (kk : Result → Sem PySem.Fin) => hc_loop (k := kk) (c' := .whileLoop test body [] env) (l := lv []) (kp := []) (p := p) g rfl rfl
  have loop : ∀ (m n j : Nat) (s₀ s : Shared) (σ : L2.St) (H : Hp), n + j = sizeLine → W m j σ H → HI 𝒳 Pp σ H s →
      Seg (model P w) A R (YG 𝒳 Pp Wy Wr) n s₀ (.whileLoop test body [] env) ((model P w).den (.whileLoop test body [] env))
        (.ret (fun r => ((match r with | .ok f => (.pure f : Sem Flow) | .error e => .raise e).onRaise (cameBack env)).wrap K J gd lv) none (gd false) (lv []) c p [] :: fs) s := by
    intro m
    induction m using Nat.strongRecOn with
    | ind m ih =>
      intro n j s₀ s σ H hn w1 hI
      have ee : ∀ (n : Nat) (s₀ : Shared) (x : Value) (s' : Shared), xe x s' → Seg (model P w) A R (YG 𝒳 Pp Wy Wr) n s₀ (.whileLoop test body [] env)
          ((do noteFrame x env; theTreesLotGoes x : Sem Unit).wrap (fun _ => .raise x) .raise id id)
          (.ret (fun r => ((match r with | .ok f => (.pure f : Sem Flow) | .error e => .raise e).onRaise (cameBack env)).wrap K J gd lv) none (gd false) (lv []) c p [] :: fs) s' := fun n s₀ x s' hx => by
        refine seg_wrap ?_
        rw [(gl _).over]
        refine wpAny_bind (wpAny_mono (F.own x s' hx) (fun _ s'' hcb => wpAny_theTreesLotGoes ?_) fun y s'' hcb => ?_)
        · exact seg_leaf (.error x) (hseg_back g k hcb)
        · exact seg_leaf (.error y) (hseg_back g k hcb)
      refine seg_whileLoop ?_
      rw [(gl _).over]
      obtain ⟨i, pins, hp, I⟩ := hI
      have q := (hc i).run pins s σ H _ I (turn m j σ H w1)
      rw [F.prog i, F.wd i, F.ar i, F.ev i, F.xs i] at q
      refine wpAny_mono q (fun b s' hb' => ?_) fun x s' hx => ee n s₀ x s' hx
      obtain ⟨H2, I2, q2⟩ := hb'
      cases b with
      | true =>
        obtain ⟨N, hN, q2⟩ := q2
        rw [if_pos rfl]
        refine hb.run A R n j s₀ _ _ _ _ id id s' σ H2 { D with nx := N, ct := N, bk := D.nx } (gl _) hn ⟨fun n' j' s₀' s3 f hn' hs => ?_, fun n' s₀' x s3 hx => ee n' s₀' x s3 hx⟩ ⟨i, pins, hp, I2⟩ q2
        cases f with
        | next =>
          obtain ⟨σ3, H3, I3, n3⟩ := hs
          obtain ⟨m', hm, w3⟩ := hN j' σ3 H3 n3
          exact seg_again rfl (ih m' hm n' j' s₀' s3 σ3 H3 hn' w3 I3)
        | cont =>
          obtain ⟨σ3, H3, I3, n3⟩ := hs
          obtain ⟨m', hm, w3⟩ := hN j' σ3 H3 n3
          exact seg_again rfl (ih m' hm n' j' s₀' s3 σ3 H3 hn' w3 I3)
        | brk => exact seg_leaf (.ok .next) (k.ok n' j' s₀' s3 .next hn' hs)
        | ret v => exact seg_leaf (.ok (.ret v)) (k.ok n' j' s₀' s3 (.ret v) hn' hs)
      | false =>
        rw [if_neg Bool.false_ne_true]
        refine seg_execs_nil ?_
        exact seg_leaf (.ok .next) (k.ok n j s₀ s' .next hn ⟨σ, H2, ⟨i, pins, hp, I2⟩, q2⟩)
  exact loop m0 n j s₀ s σ H hn w0 hI
end

/-! ### by the weakest readings, in every context of the family -/
section
variable {ι : Type} {𝒳 : ι → Cx} {P : Program} {w : World} {env : Env} {AX : Around} {xe : Value → Shared → Prop} {Pp : List (Addr × Obj) → Prop} {Wy : Nat → L2.V → Hp → Prop} {Wr : L2.V → Hp → Hp → Prop} {st : Stmt} {rest : List Stmt}
theorem hs_w (F : Fam 𝒳 P w env AX xe) : HS 𝒳 Pp P w env AX xe Wy Wr st (hPlain fun D σ H => ∀ i, wS (𝒳 i) st D σ H) := hs_ps F fun i => ⟨fun pins s σ H D I h => ps.run pins s σ H D I (h i)⟩
theorem hss_w (F : Fam 𝒳 P w env AX xe) : HSs 𝒳 Pp P w env AX xe Wy Wr rest (hPlain fun D σ H => ∀ i, wL (𝒳 i) rest D σ H) := hss_pss F fun i => ⟨fun pins s σ H D I h => pl.run pins s σ H D I (h i)⟩
theorem hs_yieldw {e : Expr} {yp pos : Pos} (F : Fam 𝒳 P w env AX xe) (hco : env.scope.isCoroutine = false := by rfl) (hi : interactive env = false := by rfl) : HS 𝒳 Pp P w env AX xe Wy Wr (.Expr (.Yield (some e) yp) pos) (hYield Wy Wr fun σ H Q => ∀ i, wE (𝒳 i) e σ H Q) :=
  hs_yield F (fun i => ⟨fun pins s σ H Q I h => pe.run pins s σ H Q I (h i)⟩) hco hi
theorem hs_whilew {test : Expr} {body : List Stmt} {pos : Pos} {tb : THn} (F : Fam 𝒳 P w env AX xe) (hb : HSs 𝒳 Pp P w env AX xe Wy Wr body tb) : HS 𝒳 Pp P w env AX xe Wy Wr (.While test body [] pos) (hWhile (fun σ H Q => ∀ i, wT (𝒳 i) test σ H Q) tb) :=
  hs_while F (fun i => ⟨fun pins s σ H Q I h => pt.run pins s σ H Q I (h i)⟩) hb
end
/-! ### the def -/
/-- the generator's body in its frame at n0; i: the state and the heap that what is kept is told from -/
def gX (P : Program) (w : World) (K : PySem.W.Frag) (mg : Str → Option Value) (base : Heap) (N : List Str) (qual : Str) (scope : Scope) (f : Addr) (cd : Value) (A : Around) (outer : List Env) (n0 : Nat) (pn : List (Addr × Obj)) (i : Shared × Hp) : Cx where
  prog := P
  w := w
  K := K
  mg := mg
  base := base
  A := A.deeper (envOfC qual scope n0 f cd)
  N := N
  s_0 := i.1
  H_0 := i.2
  env := envOfC qual scope n0 f cd
  outer := outer
  stack := envOfC qual scope n0 f cd :: outer
  ex := []
  fn := fun _ => true
  calm := true
  pn := pn
  xe := fun e s' => wpAny (model P w) (A.deeper (envOfC qual scope n0 f cd)) (leaving (envOfC qual scope n0 f cd) e) (fun _ _ => False) (fun _ _ => False) s'
section
variable {P : Program} {w : World} {K : PySem.W.Frag} {mg : Str → Option Value} {base : Heap} {N : List Str} {qual : Str} {scope : Scope} {f : Addr} {cd : Value} {A : Around} {outer : List Env} {n0 : Nat} {pn : List (Addr × Obj)}
theorem own_gX {i : Shared × Hp} : PassesOwn (model P w) (gX P w K mg base N qual scope f cd A outer n0 pn i).A (gX P w K mg base N qual scope f cd A outer n0 pn i).env (gX P w K mg base N qual scope f cd A outer n0 pn i).xe :=
  passes_of (X := gX P w K mg base N qual scope f cd A outer n0 pn i) (K := fun _ _ => False) (E₁ := fun _ _ => False) rfl
theorem fam_gX {ι : Type} (ent : ι → Shared × Hp) (i0 : ι) : Fam (fun i => gX P w K mg base N qual scope f cd A outer n0 pn (ent i)) P w (envOfC qual scope n0 f cd) (A.deeper (envOfC qual scope n0 f cd))
    (fun e s' => wpAny (model P w) (A.deeper (envOfC qual scope n0 f cd)) (leaving (envOfC qual scope n0 f cd) e) (fun _ _ => False) (fun _ _ => False) s') :=
  ⟨own_gX (K := K) (mg := mg) (base := base) (N := N) (outer := outer) (pn := pn) (i := ent i0), fun _ => rfl, fun _ => rfl, fun _ => rfl, fun _ => rfl, fun _ => rfl⟩
theorem inv_gX {s s1 : Shared} {H H' : Hp} {E : XK} {pins : List (Addr × Obj)} {σ : L2.St} (I : Inv (gcxOf P w K mg base N qual scope f cd A outer s H E []) [] σ H' s1)
    (h : ∀ p ∈ pn ++ pins, s1.heap.get? p.1 = some p.2 ∧ H' p.1 = none ∧ p.1 ≠ s.heap.objs.size ∧ p.1 ∉ frs outer ∧ ∀ v, p.2.data ≠ .cell v) : Inv (gX P w K mg base N qual scope f cd A outer s.heap.objs.size pn (s, H)) pins σ H' s1 :=
  ⟨⟨I.ok.mod, I.ok.kind, I.ok.glob, I.ok.blt, I.ok.above, I.ok.inj, I.ok.has, I.ok.cab, I.ok.hd, I.ok.frames, I.ok.stk, I.ok.exf, I.ok.bs, I.ok.bsz, I.ok.noex, I.ok.exfs, I.ok.funs, I.ok.frf⟩, I.os, I.bare, I.base, I.loc, I.cell, I.free, I.freeC, h, I.hok, I.len⟩
end
/-- a promise: the arguments, the heap at the first wake, what goes out, what the consumer does, the end -/
abbrev SpH := List L2.V → Hp → (Nat → L2.V → Hp → Prop) → (L2.V → Hp → Hp → Prop) → (Nat → Hp → Prop) → Prop
def RG {ι : Type} (𝒳 : ι → Cx) (Pp : List (Addr × Obj) → Prop) (Q : Nat → Hp → Prop) : GenEnd := fun _ _ r s1 =>
  ((r = .ok (.ret .none) ∨ r = .ok .next) ∧ ∃ j σ H, HI 𝒳 Pp σ H s1 ∧ Q j H) ∨ ∃ e, r = .error e ∧ False
def GMd (P : Program) (w : World) (K : PySem.W.Frag) (mg : Str → Option Value) (base : Heap) (k : Nat) (N : List Str) (qual : Str) (scope : Scope) (f : Addr) (cd : Value) (outer : List Env) (H : Hp) (s : Shared) (vs : List L2.V) (sp : SpH) (u : Value) (s' : Shared) : Prop :=
  ∃ (a : Addr) (g : Nat) (c : Code) (go : Obj), u = .ref a ∧ s.heap.objs.size ≤ a ∧ a < s'.heap.objs.size ∧ s'.heap.get? a = some go ∧ (∀ h : Heap, h.get? a = some go → h.IsGen a g) ∧ s'.gens[g]? = some (.fresh c) ∧ s'.os = s.os ∧ AllBare s'.gens ∧ s'.heap.NoLimit ∧ (∀ b o, s.heap.get? b = some o → s'.heap.get? b = some o) ∧
    ∀ (Aw : Around) {ι : Type} (ent : ι → Shared × Hp) (i0 : ι) (Pp : List (Addr × Obj) → Prop) (Wy : Nat → L2.V → Hp → Prop) (Wr : L2.V → Hp → Hp → Prop) (Q : Nat → Hp → Prop) (s2 : Shared) (H2 : Hp) (pins : List (Addr × Obj)), ent i0 = (s, H) → Room k Aw → Aw.frames = some outer → Pp pins →
      Un (frs outer) [] H H2 s'.heap s2.heap → HOk P w H2 s2.heap → s2.os = s.os → AllBare s2.gens → (∀ p ∈ pins, s2.heap.get? p.1 = some p.2 ∧ H2 p.1 = none ∧ s'.heap.objs.size ≤ p.1 ∧ ∀ v, p.2.data ≠ .cell v) → sp vs H2 Wy Wr Q →
      Seg (model P w) Aw (RG (fun i => gX P w K mg base N qual scope f cd Aw outer s.heap.objs.size [(a, go)] (ent i)) Pp Q) (YG (fun i => gX P w K mg base N qual scope f cd Aw outer s.heap.objs.size [(a, go)] (ent i)) Pp Wy Wr) sizeLine s2 c ((model P w).den c) [] s2
structure GFh (P : Program) (w : World) (K : PySem.W.Frag) (mg : Str → Option Value) (base : Heap) (k : Nat) (f : Addr) (fd : FuncData) (ps : List Str) (N : List Str) (qual : Str) (scope : Scope) (cd : Value) (sp : SpH) : Prop where
  len : ∀ vs H Wy Wr Q, sp vs H Wy Wr Q → vs.length = ps.length
  run : ∀ (A : Around) (outer : List Env) (s : Shared) (H : Hp) (args : Args) (us : List Value) (vs : List L2.V), Room k A → Env0 P w K mg base A outer s H → BindsTo s fd args (ps.zip us) → Vals vs us → vs.length = ps.length →
    codeAny (model P w) A (.call (.ref f) args) (fun r s' => match r with | .ok (.ret u) => GMd P w K mg base k N qual scope f cd outer H s vs sp u s' | _ => False) s
/-- THE RULE: a def that hands out, by its body -/
theorem gfh_of {P : Program} {w : World} {K : PySem.W.Frag} {mg : Str → Option Value} {base : Heap} {k : Nat} {f : Addr} {name qual : Str} {params : Arguments} {body : List Stmt} {scope : Scope} {dV kV doc pm cdv ct oc : Value} {an od : Option Addr}
    {osl : Array (Option Value)} {N ps : List Str} {sp : SpH} (lk : K.lookup f = some ⟨oc, od, .func (PySem.W.fnOf name qual params body scope dV kV doc pm an cdv ct), osl⟩) (hcd : PySem.W.codeIn K cdv qual = true) (S : GScope N ps scope)
    (len : ∀ vs H Wy Wr Q, sp vs H Wy Wr Q → vs.length = ps.length)
    (hbody : ∀ (A : Around) (outer : List Env) (n0 : Nat) (pn : List (Addr × Obj)) {ι : Type} (ent : ι → Shared × Hp) (i0 : ι) (Pp : List (Addr × Obj) → Prop) (Wy : Nat → L2.V → Hp → Prop) (Wr : L2.V → Hp → Hp → Prop), Room k (A.deeper (envOfC qual scope n0 f cdv)) →
      ∃ t, HSs (fun i => gX P w K mg base N qual scope f cdv A outer n0 pn (ent i)) Pp P w (envOfC qual scope n0 f cdv) (A.deeper (envOfC qual scope n0 f cdv)) (fun e s' => wpAny (model P w) (A.deeper (envOfC qual scope n0 f cdv)) (leaving (envOfC qual scope n0 f cdv) e) (fun _ _ => False) (fun _ _ => False) s') Wy Wr body t ∧
        ∀ vs H Q, sp vs H Wy Wr Q → t { nx := fun j _ H' => Q j H', rt := fun j v H' => v = .non ∧ Q j H' } 0 (start N vs) H) :
    GFh P w K mg base (k + 1) f (PySem.W.fnOf name qual params body scope dV kV doc pm an cdv ct) ps N qual scope cdv sp := by
  refine ⟨len, fun A outer s H args us vs hr e0 hb r hl => ?_⟩
  have KX : K.In s.heap := e0.mod.kin.keeps fun b o e => (e0.bs b o e).1
  have lim : s.heap.NoLimit := e0.mod.nolimit.keeps fun b o e => (e0.bs b o e).1
  have hkind : ∀ y ∈ ps.zip us, scope.names.lookup y.1 = some .local ∨ (scope.names.lookup y.1 = some .cell ∧ ((cellsFrom (s.heap.objs.size + 1) scope.names []).lookup y.1).isSome = true) := fun ⟨n, v⟩ hy => by
    rcases S.par n (List.of_mem_zip hy).1 with q | q
    · exact .inl q
    · exact .inr ⟨q, PySem.W.cellsFrom_some _ _ _ (.inl q)⟩
  refine codeAny_call_generator hr.depth (KX _ _ lk) rfl S.co S.gen rfl (PySem.W.codeRec_of KX hcd) (hb _ _ _ _ ?_)
  refine wpAny_newFunctionEnv_cells S.kind hkind fun env he s1 x => ?_
  subst he
  have lim1 : s1.heap.NoLimit := lim.keeps x.toInCall.keep
  refine ⟨lim1, ?_⟩
  obtain ⟨h1, tk, es1, hk1⟩ := x.done
  have os1 : s1.os = s.os := by rw [es1]
  have gen1 : s1.gens = s.gens := by rw [es1]
  have lt1 : s.heap.objs.size < s1.heap.objs.size := x.toInCall.ns.lt
  have kp1 : ∀ b o, s.heap.get? b = some o → s1.heap.get? b = some o := x.toInCall.keep
  have main : ∀ (go : Obj) (nm qn : Value) (tk2 : Nat), go.cls = .type "generator" → go.data = .fields #[.int s1.gens.size 0, nm, qn] → go.slots = #[] → (∀ h : Heap, (h.push go).get? h.objs.size = some go) →
      GMd P w K mg base (k + 1) N qual scope f cdv outer H s vs sp (.ref s1.heap.objs.size) { s1 with gens := s1.gens.push (.fresh (.func body (envOfC qual scope s.heap.objs.size f cdv))), toks := tk2, heap := s1.heap.push go } := by
    intro go nm qn tk2 hgc hgd0 hgs hgp
    have hgen : ∀ h : Heap, h.get? s1.heap.objs.size = some go → h.IsGen s1.heap.objs.size s1.gens.size := fun h e => ⟨go, nm, qn, e, hgc, hgd0, hgs⟩
    have hpushed : (s1.heap.push go).get? s1.heap.objs.size = some go := hgp _
    have kp2 : ∀ b o, s1.heap.get? b = some o → (s1.heap.push go).get? b = some o := fun b o e => Heap.get?_push_of_some _ e
    refine ⟨s1.heap.objs.size, s1.gens.size, _, go, rfl, Nat.le_of_lt lt1, ?_, hpushed, hgen, Array.getElem?_push_size .., os1, ?_, lim1.keeps kp2, fun b o e => kp2 b o (kp1 b o e), ?_⟩
    · show _ < (s1.heap.push _).objs.size
      rw [Heap.size_push]; exact Nat.lt_succ_self _
    · exact AllBare.push (by rw [gen1]; exact e0.bare) rfl
    intro Aw ι ent i0 Pp Wy Wr Q s2 H2 pins hent hrw hfr hpp un hok hos hba hpins hsp
    have e0w : Env0 P w K mg base Aw outer s H := ⟨hfr, e0.mod, e0.bs, e0.bsz, e0.funs, e0.frf, e0.hok, e0.bare⟩
    obtain ⟨t, ht, hq⟩ := hbody Aw outer s.heap.objs.size [(s1.heap.objs.size, go)] ent i0 Pp Wy Wr (hrw.deeper _)
    have I1 : Inv (gcxOf P w K mg base N qual scope f cdv Aw outer s H E0 []) [] (start N vs) H s1 := inv_startG S hrw.hd e0w hl r x
    have hk2 : HOk P w H (s1.heap.push go) := I1.hok.kept kp2
    have un1 : Un (frs outer) [] H H2 s1.heap s2.heap := (Un.kept kp2).trans un
    have I2 : Inv (gcxOf P w K mg base N qual scope f cdv Aw outer s H E0 []) [] (start N vs) H2 s2 :=
      I1.call' (ch := []) (hos.trans os1.symm) (un1.mono (fun b hb => by unfold frs; exact List.mem_filterMap.mpr (by obtain ⟨c, h1, h2⟩ := List.mem_filterMap.mp hb; exact ⟨c, List.mem_cons_of_mem _ h1, h2⟩)) fun b hb => hb) hok hba fun b z => by simp at z
    have ga : H s1.heap.objs.size = none := I1.hok.fresh (Nat.le_refl _)
    have nfa : s1.heap.objs.size ∉ frs outer := I1.nofs (Nat.le_refl _)
    have hgd : ∀ v, go.data ≠ .cell v := fun v q => by rw [hgd0] at q; cases q
    have I3 : Inv (gX P w K mg base N qual scope f cdv Aw outer s.heap.objs.size [(s1.heap.objs.size, go)] (s, H)) pins (start N vs) H2 s2 := by
      refine inv_gX I2 fun p hp => ?_
      rcases List.mem_append.mp hp with z | z
      · rw [List.mem_singleton.mp z]
        exact ⟨un.keep _ _ hpushed ga nfa (by simp), un.free _ _ hpushed ga (by simp), Nat.ne_of_gt lt1, nfa, hgd⟩
      · obtain ⟨q1, q2, q3, q4⟩ := hpins p z
        have q3' : s1.heap.objs.size ≤ p.1 := by
          have q3 : (s1.heap.push go).objs.size ≤ p.1 := q3
          rw [Heap.size_push] at q3
          exact Nat.le_of_succ_le q3
        exact ⟨q1, q2, Nat.ne_of_gt (Nat.lt_of_lt_of_le lt1 q3'), I1.nofs q3', q4⟩
    have I3' : Inv (gX P w K mg base N qual scope f cdv Aw outer s.heap.objs.size [(s1.heap.objs.size, go)] (ent i0)) pins (start N vs) H2 s2 := by rw [hent]; exact I3
    refine seg_func ?_
    refine ht.run Aw _ sizeLine 0 s2 _ [] _ _ id id s2 (start N vs) H2 _ ⟨over_func, rfl, rfl, rfl⟩ (Nat.add_zero _) ⟨fun n j s₀ s' fl hn hs => ?_, fun n s₀ e s' hx => ?_⟩ ⟨i0, pins, hpp, I3'⟩ (hq vs H2 Q hsp)
    · cases fl with
      | next =>
        obtain ⟨σ', H', hI, hQ⟩ := hs
        exact seg_end (.ok (.ret .none)) (.inl ⟨.inl rfl, j, σ', H', hI, hQ⟩)
      | brk => obtain ⟨_, _, _, q⟩ := hs; exact False.elim q
      | cont => obtain ⟨_, _, _, q⟩ := hs; exact False.elim q
      | ret u =>
        obtain ⟨v, σ', H', hI, rv, ev, hQ⟩ := hs
        subst ev
        have eu : u = Value.none := rv
        subst eu
        exact seg_end (.ok (.ret .none)) (.inl ⟨.inl rfl, j, σ', H', hI, hQ⟩)
    · refine seg_wrap ?_
      rw [over_func]
      refine wpAny_mono hx (fun _ s'' q => q.elim) fun _ s'' q => q.elim
  exact main _ _ _ _ rfl rfl rfl fun h => Heap.get?_push_size _ rfl
end Wk

set_option maxHeartbeats 4000000
/-! My own layer: a list comprehension with a test over a def that hands out pairs. -/
namespace Wk
open PySem PySem.Spec PyProof.Rows L2 GenW
/-- what goes out is a pair, its second a text; the consumer's list has room -/
def WyC (D : Addr) : Nat → L2.V → Hp → Prop := fun _ x H => ∃ T u nm us, x = .ref T ∧ H T = some (.tup [u, .str nm]) ∧ H D = some (.lst us) ∧ us.length < sizeLine
def WrC (D : Addr) (lit : Str) : L2.V → Hp → Hp → Prop := fun x H H' => ∃ T u nm us, x = .ref T ∧ H T = some (.tup [u, .str nm]) ∧ H D = some (.lst us) ∧ H' = if nm = lit then upd H D (.lst (us ++ [u])) else H
section
variable {Xg : Cx} {A : Around} {E : Value → Shared → Prop} {cenv : Env} {a C D T : Addr} {x y lit : Str} {nm : Str} {u : L2.V} {us : List L2.V} {H : Hp} {σ : L2.St} {s : Shared} {oC : Obj}
theorem turn_c {g : Nat} {m : Str → Option Value} {v : Value} {p1 p2 p3 p4 p5 p6 pt : Pos} {kk k2 : Nat} {Q : Shared → Prop} (hA : A.handled = none) (hg : s.heap.IsGen a g) (I : Inv Xg [(C, oC)] σ H s) (hn : s.heap.Ns C m)
    (hC1 : Xg.s_0.heap.objs.size ≤ C) (hC2 : ∀ x c, Xg.env.cells.lookup x = some c → c ≠ C) (hC3 : ∀ p ∈ Xg.pn, p.1 ≠ C) (hL : cenv.locals = C) (hk : cenv.scope.kind = .function) (hkx : cenv.kindOf x = some .local) (hky : cenv.kindOf y = some .local) (hxy : x ≠ y)
    (hdx : (x == ("__debug__" : Str)) = false) (hdy : (y == ("__debug__" : Str)) = false) (hv : RelV (.ref T) v) (hT : H T = some (.tup [u, .str nm])) (hD : H D = some (.lst us)) (hz : us.length < sizeLine)
    (hQ : ∀ sF H', sF.gens = s.gens → Inv Xg [] σ H' sF → (∃ m, sF.heap.Ns C m) → (H' = if nm = lit then upd H D (.lst (us ++ [u])) else H) → Q sF) :
    wpAny (model Xg.prog Xg.w) A (letOwnedTupleGo (.Tuple [.Name x p1, .Name y p2] kk pt) (.ref a) v) (fun _ s1 => wpAny (model Xg.prog Xg.w) A (assign (.Tuple [.Name x p1, .Name y p2] kk pt) cenv v) (fun _ s2 =>
      wpAny (model Xg.prog Xg.w) A (forIn [Expr.Compare (.Name y p3) [.Eq] [.Constant (.str lit) k2 p4] p5] true fun c r => if r = true then do let ok ← isTrue c cenv (eval c cenv); pure (ForInStep.yield ok) else pure (ForInStep.yield r)) (fun ok s3 =>
        if ok = true then wpAny (model Xg.prog Xg.w) A (eval (.Name x p6) cenv) (fun z s4 => wpAny (model Xg.prog Xg.w) A (call (.builtin "list.append") [.ref D, z]) (fun _ s5 => Q s5) E s4) E s3 else Q s3) E s2) E s1) E s := by
  obtain rfl : v = Value.ref T := hv
  obtain ⟨hlen, its, rv, ht⟩ := I.hok T _ hT
  obtain ⟨o, nm', qn, ho, hc, hd, hsl⟩ := hg
  have hcls : (cenv.scope.kind == .class || (cenv.scope.kind == .module && cenv.locals != cenv.globals)) = false := by rw [hk]; rfl
  have pC := I.pin (C, oC) (List.mem_append_right _ (List.mem_singleton.mpr rfl))
  obtain ⟨pc1, pc2, pc3, pc4, pc5⟩ := pC
  have I0 : Inv Xg [] σ H s := I.pins_of fun p hp => by simp at hp
  cases rv with
  | cons r1 rr =>
  cases rr with
  | cons r2 rr =>
  cases rr
  obtain ⟨tk, rfl⟩ := r2
  refine go_of ho hc hd (by decide) ?_
  refine assign_Tuple_tuple hA ht rfl rfl fun h1 hx => ?_
  have hn1 : h1.Ns cenv.locals m := by rw [hL]; exact hn.at' fun o e => hx _ o (Nat.ne_of_lt (Heap.lt_size e)) e
  refine assignInOrder_cons (wpAny_assign_Name (wpAny_storeName_local hkx hn1 (fun h2 hn2 hs2 => ?_) hcls))
  refine assignInOrder_cons (wpAny_assign_Name (wpAny_storeName_local hky hn2 (fun h3 hn3 hs3 => ?_) hcls))
  refine assignInOrder_nil ?_
  have kp : ∀ b o, b ≠ C → s.heap.get? b = some o → h3.get? b = some o := fun b o hb e => by
    rw [hL] at hs2 hs3
    exact (hs3.2 b hb).trans ((hs2.2 b hb).trans (hx b o (Nat.ne_of_lt (Heap.lt_size e)) e))
  have hnC : ∃ m, h3.Ns C m := ⟨_, by rw [← hL]; exact hn3⟩
  refine wpAny_tests_one (wpAny_isTrue_Compare1 (wpAny_Name (wpAny_loadName_local hk hky hn3 (by rw [if_pos rfl]) ?_) hdy))
  refine Calls.Constant_str ?_
  refine eq_str ?_
  refine wpAny_truthy_bool ?_
  have I1 : ∀ t, Inv Xg [] σ H { s with heap := h3, toks := t } := fun t => I0.turned (it := C) kp pc2 pc3 (.inr hC1) hC2 fun p hp => hC3 p (by simpa using hp)
  by_cases e : nm = lit
  · subst e
    rw [show (nm == nm) = true by simp, if_pos rfl]
    refine wpAny_Name (wpAny_loadName_local hk hkx hn3 (by rw [if_neg hxy, if_pos rfl]) ?_) hdx
    have I2 := I1 (s.toks + 1 + 1 + 1)
    obtain ⟨hz', js, n, ri, e2⟩ := I2.hok D _ hD
    have hl := ri.length
    have hDC : D ≠ C := fun z => by rw [z, pc2] at hD; cases hD
    refine append_at (hsz := by rw [List.size_toArray]; omega) e2 fun h' sb ho' => ?_
    refine hQ _ (upd H D (.lst (us ++ [u]))) rfl (I2.write (t' := s.toks + 1 + 1 + 1) (by rw [hD]; trivial) (.inl rfl) (fun b u hb q => (sb.2 b hb).trans q) ⟨_, ho'⟩ ⟨by rw [List.length_append]; exact hz, js ++ [_], n + 1, ri.append (.cons r1 .nil), ?_⟩) ?_ (by rw [if_pos rfl])
    · rw [ho']
      simp
    · obtain ⟨m', q⟩ := hnC
      exact ⟨m', q.sameBut sb (Ne.symm hDC)⟩
  · rw [show (nm == lit) = false by simp [e]]
    simp only [Bool.false_eq_true, if_false]
    exact hQ _ H rfl (I1 _) hnC (by rw [if_neg e])
end
section
variable {X : Cx} {k : Nat} {f : Addr} {fd : FuncData} {ps : List Str} {Ng : List Str} {qual : Str} {scg : Scope} {cdg : Value} {sp : SpH}
theorem blk_call {arg : Expr} {ta : TA} {fn x y lit : Str} {p1 p2 p3 p4 p5 p6 pf pt pc pos : Pos} {kk k2 i j : Nat} {scope : Scope} (hc : X.calm = true) (F : GFh X.prog X.w X.K X.mg X.base k f fd ps Ng qual scg cdg sp) (hr : Room (k + 2) X.A) (hgl : Gl X fn) (hm : X.mg fn = some (.ref f)) (hkp : PySem.W.keepIn X.K (.ref f) = true) (hb : Binds X.K fd ps [])
    (ha : PA X [arg] ta) (ok : BlkOk X.N X.env.scope scope [(x, i), (y, j)]) (hx : (relS scope X.env.scope).names.lookup x = some .local) (hy : (relS scope X.env.scope).names.lookup y = some .local) (hxy : x ≠ y)
    (hdf : (fn == ("__debug__" : Str)) = false) (hdx : (x == ("__debug__" : Str)) = false) (hdy : (y == ("__debug__" : Str)) = false)
    (he : starEach [arg] X.env = (false, eval arg X.env) :: starEach [] X.env := by rfl) (hpl : (backTo pc (starEach [] X.env)).any (·.1) = false := by rfl)
    (hs : ∀ z, foldedSetIterable (.Call (.Name fn pf) [arg] [] pc) X.env z = pure z := by intro _; rfl) :
    PE X (.ListComp (.Name x p6) [⟨.Tuple [.Name x p1, .Name y p2] kk pt, .Call (.Name fn pf) [arg] [] pc, [.Compare (.Name y p3) [.Eq] [.Constant (.str lit) k2 p4] p5], 0⟩] scope pos)
      (fun σ H Q => ta σ H fun vs H1 => ∀ D, H1 D = none → sp vs (upd H1 D (.lst [])) (WyC D) (WrC D lit) (fun _ H2 => Q (.ref D) H2)) := by
  refine ⟨fun pins s σ H Q I h => ?_⟩
  rw [eval_ListComp]
  have hfree : ∀ y ∈ scope.names, y.2 = .free → ∃ c, X.env.cells.lookup y.1 = some c := fun y hy e => by
    rcases ok.free y hy e with k | k
    · exact I.ok.has _ (.inl k)
    · exact I.ok.has _ (.inr k)
  refine wpAny_comprehension_free (use := none) rfl hs (closure_ok hfree) ok.kind (fun y hy e => by rw [ok.uniq y hy, e]) ?_
  refine wpAny_Call_Name_kw (ld_glob I hgl hm ?_ hdf)
  refine PySem.W.callWith_K (h₀ := X.base) I.ok.mod.kin hkp (thn (ha.run pc pins s σ H _ I h) fun us s1 ⟨vs, H1, I1, r, q⟩ => ⟨I1.kIn, ?_⟩) he hpl
  have hl := F.len _ _ _ _ _ (q s1.heap.objs.size (I1.hok.fresh (Nat.le_refl _)))
  have hl2 : us.length = ps.length := by rw [← r.length]; exact hl
  have hb' := hb s1 us I1.kIn (by rw [List.append_nil]; exact hl2)
  rw [List.append_nil] at hb'
  refine wpAny_call (codeAny_mono (F.run X.A X.stack s1 H1 ⟨us, []⟩ us vs (hr.mono (by omega)) I1.env0 hb' r hl) fun rr s2 hq => ?_)
  cases rr with
  | error e => exact False.elim hq
  | ok fl =>
  cases fl with
  | next => exact False.elim hq
  | brk => exact False.elim hq
  | cont => exact False.elim hq
  | ret u =>
  obtain ⟨a, g, c, go, rfl, ha1, ha2, hago, hgen, hgs, hos, hba, hlim, hkp2, wake⟩ := hq
  show wpAny _ _ (pyIter (.ref a)) _ _ _
  refine wpAny_pyIter_gen (hgen _ hago) ?_
  refine wpAny_newObj_type (newEnv_comp ?_) (by show 0 ≤ sizeLine; decide)
  generalize hD : s2.heap.objs.size = D
  generalize hs3 : ({ s2 with heap := s2.heap.push { cls := .type "list", data := .seq ([] : List Value).toArray } } : Shared) = s3
  have h3 : s3.heap = s2.heap.push { cls := .type "list", data := .seq ([] : List Value).toArray } := by rw [← hs3]
  have g3 : s3.gens = s2.gens := by rw [← hs3]
  have o3 : s3.os = s2.os := by rw [← hs3]
  have D12 : s1.heap.objs.size ≤ D := by rw [← hD]; exact Nat.le_trans ha1 (Nat.le_of_lt ha2)
  have z3 : s3.heap.objs.size = D + 1 := by rw [h3, Heap.size_push, hD]
  have hDn : H1 D = none := I1.hok.fresh D12
  have C12 : s1.heap.objs.size ≤ s3.heap.objs.size := by rw [z3]; exact Nat.le_succ_of_le D12
  generalize hC : s3.heap.objs.size = C at z3 C12
  show codeAny (model X.prog X.w) X.A (.compStart (.ListComp (.Name x p6) [⟨.Tuple [.Name x p1, .Name y p2] kk pt, .Call (.Name fn pf) [arg] [] pc, [.Compare (.Name y p3) [.Eq] [.Constant (.str lit) k2 p4] p5], 0⟩] scope pos) 0 (.ref a) (.ref D) (compEnvC scope (cellsFrom (C + 1) scope.names (cloFrom X.env.cells scope.names [])) C X.env)) (compPost (model X.prog X.w) X.A X.xe none (EP X pins σ Q) (.ref D) C) { s3 with heap := pushCells (s3.heap.push { cls := .type "dict", data := .dict #[] }) scope.names }
  generalize hs4 : ({ s3 with heap := pushCells (s3.heap.push { cls := .type "dict", data := .dict #[] }) scope.names } : Shared) = s4
  have h4 : s4.heap = pushCells (s3.heap.push { cls := .type "dict", data := .dict #[] }) scope.names := by rw [← hs4]
  have g4 : s4.gens = s2.gens := by rw [← hs4]; exact g3
  have o4 : s4.os = s1.os := by rw [← hs4]; exact o3.trans hos
  have k34 : ∀ b o, s3.heap.get? b = some o → s4.heap.get? b = some o := fun b o e => by rw [h4]; exact pushCells_keeps _ _ _ _ (Heap.get?_push_of_some _ e)
  have k24 : ∀ b o, s2.heap.get? b = some o → s4.heap.get? b = some o := fun b o e => k34 b o (by rw [h3]; exact Heap.get?_push_of_some _ e)
  have hn4 : s4.heap.Ns C (fun _ => none) := by
    rw [h4, ← hC]
    exact Heap.Ns.keeps (Heap.Ns.new ..) fun b o e => pushCells_keeps _ _ _ _ e
  have hD4 : s4.heap.get? D = some { cls := .type "list", data := .seq ([] : List Value).toArray } := k34 _ _ (by rw [h3, ← hD]; exact Heap.get?_push_size _ rfl)
  have hk1 : HOk X.prog X.w H1 s2.heap := I1.hok.kept hkp2
  have hok4 : HOk X.prog X.w (upd H1 D (.lst [])) s4.heap := hk1.laid k24 (Nat.le_of_eq hD) ⟨Nat.zero_le _, [], 0, .nil, hD4⟩
  have un4 : Un (frs X.stack) [] H1 (upd H1 D (.lst [])) s2.heap s4.heap := Un.laid k24 (Nat.le_of_eq hD) hDn
  have hCn : (upd H1 D (.lst [])) C = none := by
    rw [upd_ne (by rw [z3]; exact Nat.succ_ne_self D)]
    exact I1.hok.fresh C12
  obtain ⟨oC, es, ep, hoC, hdC, hrC⟩ := id hn4
  let 𝒳 : Unit → Cx := fun _ => gX X.prog X.w X.K X.mg X.base Ng qual scg f cdg X.A.in1 X.stack s1.heap.objs.size [(a, go)] (s1, H1)
  let Pp : List (Addr × Obj) → Prop := fun pins => ∃ oC, pins = [(C, oC)] ∧ ∀ h : Heap, h.get? C = some oC → ∃ m, h.Ns C m
  have wk : Seg (model X.prog X.w) X.A.in1 (RG 𝒳 Pp fun _ H2 => Q (.ref D) H2) (YG 𝒳 Pp (WyC D) (WrC D lit)) sizeLine (s4.setGen g .running) c ((model X.prog X.w).den c) [] (s4.setGen g .running) := by
    refine wake X.A.in1 (fun _ : Unit => (s1, H1)) () Pp (WyC D) (WrC D lit) (fun _ H2 => Q (.ref D) H2) (s4.setGen g .running) (upd H1 D (.lst [])) [(C, oC)] rfl ⟨hr.hd, ?_, ?_⟩ I1.ok.frames ⟨oC, rfl, fun h e => ⟨_, hn4.at' fun o e' => by rw [hoC] at e'; cases e'; exact e⟩⟩ un4 hok4 o4 (allBare_setGen (by rw [g4]; exact hba) rfl) (fun p hp => ?_) (q D hDn)
    · have := hr.dp
      show X.A.depth + 3 * k + 5 < _
      omega
    · have := hr.un
      show X.A.units + 1 + 16 * k + 200 < _
      omega
    · rw [List.mem_singleton.mp hp]
      refine ⟨hoC, hCn, ?_, fun v z => ?_⟩
      · show s2.heap.objs.size ≤ C
        rw [hD, z3]; exact Nat.le_succ _
      · have z : oC.data = .cell v := z
        rw [hdC] at z; cases z
  have hh : X.A.handled = none := I.ok.hd hc
  have ddp : X.A.depth < recursionLimit := by have := hr.dp; omega
  have nca : a ≠ C := fun z => by
    have q1 : s2.heap.objs.size ≤ C := by rw [hD, z3]; exact Nat.le_succ _
    rw [← z] at q1
    exact absurd (Nat.lt_of_lt_of_le ha2 q1) (Nat.lt_irrefl _)
  generalize hce : compEnvC scope (cellsFrom (C + 1) scope.names (cloFrom X.env.cells scope.names [])) C X.env = ce
  have cL : ce.locals = C := by subst hce; rfl
  have cs : ce.scope = relS scope X.env.scope := by subst hce; rfl
  have ck : ce.scope.kind = .function := by rw [cs]; exact ok.kind
  have cx : ce.kindOf x = some .local := by show ce.scope.names.lookup x = _; rw [cs]; exact hx
  have cy : ce.kindOf y = some .local := by show ce.scope.names.lookup y = _; rw [cs]; exact hy
  have f4 := I1.fpOk (b := C) C12 (H' := fun _ => none) rfl
  have loop : codeAny (model X.prog X.w) X.A (.compLoop (.ListComp (.Name x p6) [⟨.Tuple [.Name x p1, .Name y p2] kk pt, .Call (.Name fn pf) [arg] [] pc, [.Compare (.Name y p3) [.Eq] [.Constant (.str lit) k2 p4] p5], 0⟩] scope pos) 0 (.ref a) (.ref D) ce) (compPost (model X.prog X.w) X.A X.xe none (EP X pins σ Q) (.ref D) C) s4 := by
    refine compLoop_any (fun n s' => s'.heap.IsGen a g ∧ s'.heap.NoLimit ∧ ∃ gs, s'.gens[g]? = some gs ∧ gs.Goes (model X.prog X.w) X.A.in1 (RG 𝒳 Pp fun _ H2 => Q (.ref D) H2) (YG 𝒳 Pp (WyC D) (WrC D lit)) n (.send .none) (s'.setGen g .running)) ?_ sizeLine ⟨hgen _ (k24 _ _ hago), hlim.keeps k24, .fresh c, by rw [g4]; exact hgs, rfl, wk⟩
    rintro n s5 ⟨hg5, hl5, gs, hgs5, hgo⟩
    have hgl : g < s5.gens.size := (Array.getElem?_eq_some_iff.mp hgs5).1
    refine wpAny_gsz (n := g + 1) hgl (next_genG (A := X.A) (F := fun _ _ s1 => ∃ j σ H, HI 𝒳 Pp σ H s1 ∧ Q (.ref D) H) (Er := fun _ _ => False) hh hl5 ddp hg5 hgs5 hgo (fun v s6 gs' hb hv => ?_) (fun s6 hp h' hk => ?_) fun e s6 he => he.elim)
    · intro hsz
      obtain ⟨j, xv, σg, Hy, hnj, rx, ⟨i0, pins', ⟨oC', rfl, hNs⟩, Iy⟩, ⟨T, uu, nm, us', rfl, hT, hDy, hz⟩, kap⟩ := hv
      have hsz1 : g < s6.gens.size := by
        have q : (s6.setGen g gs').gens.size = s6.gens.size := setGen_size _ _ _
        have hsz' : g + 1 ≤ (s6.setGen g gs').gens.size := hsz
        omega
      have Iy' : Inv (𝒳 i0) [(C, oC')] σg Hy (s6.setGen g gs') := Iy.call' (ch := []) rfl Un.refl Iy.hok (allBare_setGen Iy.bare hb) fun b z => by simp at z
      have pC := Iy.pin (C, oC') (List.mem_append_right _ (List.mem_singleton.mpr rfl))
      obtain ⟨m6, hn6⟩ := hNs s6.heap pC.1
      refine turn_c (Xg := 𝒳 i0) (g := g) hh (hgen _ (Iy.pin (a, go) (List.mem_append_left _ (List.mem_singleton.mpr rfl))).1) Iy' hn6 C12 (fun y c e z => ?_) (fun p hp => ?_) cL ck cx cy hxy hdx hdy rx hT hDy hz fun sF H' gF IF hnF eH => ?_
      · obtain ⟨v', o', ho', hd'⟩ := Iy.cell y c e
        rw [z, pC.1] at ho'
        cases ho'
        exact pC.2.2.2.2 _ hd'
      · rw [List.mem_singleton.mp hp]
        exact nca
      · obtain ⟨mF, hnF⟩ := hnF
        obtain ⟨oF, es', ep', hoF, hdF, hrF⟩ := id hnF
        have IF2 : Inv (𝒳 i0) [] σg H' (sF.setGen g .running) := IF.call' (ch := []) rfl Un.refl IF.hok (allBare_setGen IF.bare rfl) fun b z => by simp at z
        have HF : H' C = none := by
          rw [eH]
          split
          · rw [upd_ne (fun z => by rw [z] at pC; rw [pC.2.1] at hDy; cases hDy)]; exact pC.2.1
          · exact pC.2.1
        have hi : HI 𝒳 Pp σg H' (sF.setGen g .running) := ⟨i0, [(C, oF)], ⟨oF, rfl, fun h e => ⟨_, hnF.at' fun o e' => by rw [hoF] at e'; cases e'; exact e⟩⟩, IF2.pins_of fun p hp => by
          rw [List.mem_singleton.mp hp]
          exact ⟨hoF, HF, pC.2.2.1, pC.2.2.2.1, fun v z => by
            have z : oF.data = .cell v := z
            rw [hdF] at z; cases z⟩⟩
        have kk := kap (sF.setGen g .running) H' hi ⟨T, uu, nm, us', rfl, hT, hDy, eH⟩
        cases n with
        | zero => exact kk.elim
        | succ n =>
          refine ⟨n, Nat.lt_succ_self _, hgen _ (IF.pin (a, go) (List.mem_append_left _ (List.mem_singleton.mpr rfl))).1, IF.nolimit, gs', ?_, kk⟩
          rw [gF]
          exact setGen_at hsz1
    · intro hsz
      obtain ⟨j, σ', Hn, ⟨i0, pins', ⟨oC', rfl, hNs⟩, Ie⟩, hQ⟩ := hp
      have pC := Ie.pin (C, oC') (List.mem_append_right _ (List.mem_singleton.mpr rfl))
      obtain ⟨m6, hn6⟩ := hNs h' (hk _ _ pC.1)
      have Iend : Inv X pins σ Hn { s6.setGen g .finished with heap := h' } := I1.call' (ch := []) Ie.os (Ie.base.trans (Un.kept hk)) (Ie.hok.kept hk) (allBare_setGen Ie.bare rfl) fun b z => by simp at z
      obtain ⟨f0, f1, f2, f3, f5, f6⟩ := f4
      exact ⟨m6, hn6, fun h'' sb => ⟨.ref D, Hn, Iend.turned (t' := s6.toks) (fun b o hb e => (sb.2 b hb).trans e) pC.2.1 f1 f3 f5 f6, rfl, hQ⟩⟩
  exact codeAny_compStart_list loop (wpAny_pyIter_gen (hgen _ (k24 _ _ hago)) loop)
end
section
variable {X : Cx} {arg : Expr} {σ : L2.St} {H : Hp} {Q : VK} {N G G' : List Str} {Vn : List (Nat × Str)} {sc scope : Scope}
/-- [x for x, y in f(a) if y == lit], f a def that hands out pairs -/
theorem e_lcG {k n i j g : Nat} {f : Addr} {fd : FuncData} {ps : List Str} {Ng : List Str} {qual : Str} {scg : Scope} {cdg : Value} {sp : SpH} {fn x y lit : Str} {p1 p2 p3 p4 p5 p6 pf pt pc pos : Pos} {kk k2 : Nat} (B : BkOk2 X.N Vn G' i j x y sc scope)
    (F : GFh X.prog X.w X.K X.mg X.base k f fd ps Ng qual scg cdg sp) (hm : X.mg fn = some (.ref f)) (hkp : PySem.W.keepIn X.K (.ref f) = true) (hb : Binds X.K fd ps []) (hr : Room n X.A) (hk : k + 2 ≤ n)
    (q : wA X [arg] σ H fun vs H1 => ∀ D, H1 D = none → sp vs (upd H1 D (.lst [])) (WyC D) (WrC D lit) (fun _ H2 => Q (.ref D) H2))
    (I : In X N G sc := by assumption) (hc : X.calm = true := by rfl) (hxy : x ≠ y := by decide) (hdx : (x == ("__debug__" : Str)) = false := by decide) (hdy : (y == ("__debug__" : Str)) = false := by decide)
    (hG : At G g fn := by repeat (first | with_reducible apply At.z | with_reducible apply At.s)) (he : starEach [arg] X.env = (false, eval arg X.env) :: starEach [] X.env := by rfl) (hpl : (backTo pc (starEach [] X.env)).any (·.1) = false := by rfl)
    (hs : ∀ z, foldedSetIterable (.Call (.Name fn pf) [arg] [] pc) X.env z = pure z := by intro _; rfl) :
    wE X (.ListComp (.Name x p6) [⟨.Tuple [.Name x p1, .Name y p2] kk pt, .Call (.Name fn pf) [arg] [] pc, [.Compare (.Name y p3) [.Eq] [.Constant (.str lit) k2 p4] p5], 0⟩] scope pos) σ H Q :=
  e_of (blk_call hc F (hr.mono hk) (I.g hG) hm hkp hb pa (B.ok I) (by rw [I.sc]; exact B.own.2) (by rw [I.sc]; exact B.own2.2) hxy (I.gd hG) hdx hdy he hpl hs) q
end
end Wk

set_option maxHeartbeats 4000000
namespace K04
open PySem PySem.Spec PyProof.Rows L2 Wk
def topS (i : Nat) : Stmt := PySem.Challenge.pw_heldproofs_k04_parts_and_paths.main.body.getD i (.Pass ⟨0, 0, 0, 0⟩)
abbrev s_NoPart___init : Stmt := inClass (topS 2) 0
abbrev N_NoPart___init : List Str := ["self", "path"]
abbrev P_NoPart___init : List Str := ["self", "path"]
abbrev G_NoPart___init : List Str := []
theorem so_NoPart___init : ScOk N_NoPart___init G_NoPart___init (defScope s_NoPart___init) := ⟨by decide +kernel, by decide +kernel, by decide +kernel⟩
theorem sc_NoPart___init : FnScope N_NoPart___init P_NoPart___init (defScope s_NoPart___init) := ⟨rfl, rfl, rfl, by decide +kernel, rfl, by decide +kernel, by decide +kernel⟩
abbrev s_NotBare___init : Stmt := inClass (topS 3) 0
abbrev N_NotBare___init : List Str := ["self", "path"]
abbrev P_NotBare___init : List Str := ["self", "path"]
abbrev G_NotBare___init : List Str := []
theorem so_NotBare___init : ScOk N_NotBare___init G_NotBare___init (defScope s_NotBare___init) := ⟨by decide +kernel, by decide +kernel, by decide +kernel⟩
theorem sc_NotBare___init : FnScope N_NotBare___init P_NotBare___init (defScope s_NotBare___init) := ⟨rfl, rfl, rfl, by decide +kernel, rfl, by decide +kernel, by decide +kernel⟩
abbrev s_premises : Stmt := topS 8
abbrev N_premises : List Str := ["derivation"]
abbrev P_premises : List Str := ["derivation"]
abbrev G_premises : List Str := ["list", "len", "FIELDS"]
theorem so_premises : ScOk N_premises G_premises (defScope s_premises) := ⟨by decide +kernel, by decide +kernel, by decide +kernel⟩
theorem sc_premises : FnScope N_premises P_premises (defScope s_premises) := ⟨rfl, rfl, rfl, by decide +kernel, rfl, by decide +kernel, by decide +kernel⟩
abbrev s_premise_levels : Stmt := topS 9
abbrev N_premise_levels : List Str := ["row", "level", "levels"]
abbrev P_premise_levels : List Str := ["row", "level"]
abbrev G_premise_levels : List Str := ["PREMISES", "BRINGING"]
theorem so_premise_levels : ScOk N_premise_levels G_premise_levels (defScope s_premise_levels) := ⟨by decide +kernel, by decide +kernel, by decide +kernel⟩
theorem sc_premise_levels : FnScope N_premise_levels P_premise_levels (defScope s_premise_levels) := ⟨rfl, rfl, rfl, by decide +kernel, rfl, by decide +kernel, by decide +kernel⟩
abbrev s_head_of : Stmt := topS 10
abbrev N_head_of : List Str := ["row"]
abbrev P_head_of : List Str := ["row"]
abbrev G_head_of : List Str := ["len", "FIELDS"]
theorem so_head_of : ScOk N_head_of G_head_of (defScope s_head_of) := ⟨by decide +kernel, by decide +kernel, by decide +kernel⟩
theorem sc_head_of : FnScope N_head_of P_head_of (defScope s_head_of) := ⟨rfl, rfl, rfl, by decide +kernel, rfl, by decide +kernel, by decide +kernel⟩
abbrev s_heads : Stmt := topS 11
abbrev N_heads : List Str := ["derivation", "found", "waiting", "row"]
abbrev P_heads : List Str := ["derivation"]
abbrev G_heads : List Str := ["head_of", "premises"]
theorem so_heads : ScOk N_heads G_heads (defScope s_heads) := ⟨by decide +kernel, by decide +kernel, by decide +kernel⟩
theorem sc_heads : FnScope N_heads P_heads (defScope s_heads) := ⟨rfl, rfl, rfl, by decide +kernel, rfl, by decide +kernel, by decide +kernel⟩
abbrev s_rows_along : Stmt := topS 12
abbrev N_rows_along : List Str := ["derivation", "path", "along", "index", "above"]
abbrev P_rows_along : List Str := ["derivation", "path"]
abbrev G_rows_along : List Str := ["premises", "len", "NoPart"]
theorem so_rows_along : ScOk N_rows_along G_rows_along (defScope s_rows_along) := ⟨by decide +kernel, by decide +kernel, by decide +kernel⟩
theorem sc_rows_along : FnScope N_rows_along P_rows_along (defScope s_rows_along) := ⟨rfl, rfl, rfl, by decide +kernel, rfl, by decide +kernel, by decide +kernel⟩
abbrev s_part : Stmt := topS 13
abbrev N_part : List Str := ["derivation", "path"]
abbrev P_part : List Str := ["derivation", "path"]
abbrev G_part : List Str := ["rows_along"]
theorem so_part : ScOk N_part G_part (defScope s_part) := ⟨by decide +kernel, by decide +kernel, by decide +kernel⟩
theorem sc_part : FnScope N_part P_part (defScope s_part) := ⟨rfl, rfl, rfl, by decide +kernel, rfl, by decide +kernel, by decide +kernel⟩
abbrev s_with_part : Stmt := topS 14
abbrev N_with_part : List Str := ["derivation", "path", "other", "along", "made", "row", "index", "at"]
abbrev P_with_part : List Str := ["derivation", "path", "other"]
abbrev G_with_part : List Str := ["rows_along", "reversed", "list", "zip", "len", "FIELDS"]
theorem so_with_part : ScOk N_with_part G_with_part (defScope s_with_part) := ⟨by decide +kernel, by decide +kernel, by decide +kernel⟩
theorem sc_with_part : FnScope N_with_part P_with_part (defScope s_with_part) := ⟨rfl, rfl, rfl, by decide +kernel, rfl, by decide +kernel, by decide +kernel⟩
abbrev s_level_at : Stmt := topS 15
abbrev N_level_at : List Str := ["derivation", "path", "level", "along", "row", "index"]
abbrev P_level_at : List Str := ["derivation", "path"]
abbrev G_level_at : List Str := ["rows_along", "zip", "premise_levels"]
theorem so_level_at : ScOk N_level_at G_level_at (defScope s_level_at) := ⟨by decide +kernel, by decide +kernel, by decide +kernel⟩
theorem sc_level_at : FnScope N_level_at P_level_at (defScope s_level_at) := ⟨rfl, rfl, rfl, by decide +kernel, rfl, by decide +kernel, by decide +kernel⟩
abbrev s_row_count : Stmt := topS 16
abbrev N_row_count : List Str := ["derivation"]
abbrev P_row_count : List Str := ["derivation"]
abbrev G_row_count : List Str := ["len", "heads"]
theorem so_row_count : ScOk N_row_count G_row_count (defScope s_row_count) := ⟨by decide +kernel, by decide +kernel, by decide +kernel⟩
theorem sc_row_count : FnScope N_row_count P_row_count (defScope s_row_count) := ⟨rfl, rfl, rfl, by decide +kernel, rfl, by decide +kernel, by decide +kernel⟩
abbrev s_walk : Stmt := topS 17
abbrev N_walk : List Str := ["derivation", "waiting", "path", "row", "above", "index"]
abbrev P_walk : List Str := ["derivation"]
abbrev G_walk : List Str := ["premises", "reversed", "range", "len"]
theorem so_walk : ScOk N_walk G_walk (defScope s_walk) := ⟨by decide +kernel, by decide +kernel, by decide +kernel⟩
abbrev s_cut_paths : Stmt := topS 18
abbrev N_cut_paths : List Str := ["derivation"]
abbrev P_cut_paths : List Str := ["derivation"]
abbrev G_cut_paths : List Str := ["walk"]
theorem so_cut_paths : ScOk N_cut_paths G_cut_paths (defScope s_cut_paths) := ⟨by decide +kernel, by decide +kernel, by decide +kernel⟩
abbrev C_cut_paths : List Str := ["path", "name"]
theorem sc_cut_paths : FnScope (N_cut_paths ++ C_cut_paths) P_cut_paths (defScope s_cut_paths) := ⟨rfl, rfl, rfl, by decide +kernel, rfl, by decide +kernel, by decide +kernel⟩
theorem bk_cut_paths0 : BkOk2 (N_cut_paths ++ C_cut_paths) [(1, "path"), (2, "name")] [] 1 2 "path" "name" (defScope s_cut_paths) (lcSc (valE ((defBody s_cut_paths).getD 0 (.Pass ⟨0, 0, 0, 0⟩)))) := ⟨by decide +kernel, by decide +kernel, by decide +kernel, by decide +kernel, by decide, by decide +kernel⟩
abbrev s_is_bare : Stmt := topS 19
abbrev N_is_bare : List Str := ["derivation", "head"]
abbrev P_is_bare : List Str := ["derivation"]
abbrev G_is_bare : List Str := ["heads"]
theorem so_is_bare : ScOk N_is_bare G_is_bare (defScope s_is_bare) := ⟨by decide +kernel, by decide +kernel, by decide +kernel⟩
theorem sc_is_bare : FnScope N_is_bare P_is_bare (defScope s_is_bare) := ⟨rfl, rfl, rfl, by decide +kernel, rfl, by decide +kernel, by decide +kernel⟩
abbrev s_cell : Stmt := topS 21
abbrev N_cell : List Str := ["_law_script", "_law_k"]
abbrev P_cell : List Str := ["_law_script", "_law_k"]
abbrev G_cell : List Str := ["len", "abs"]
theorem so_cell : ScOk N_cell G_cell (defScope s_cell) := ⟨by decide +kernel, by decide +kernel, by decide +kernel⟩
theorem sc_cell : FnScope N_cell P_cell (defScope s_cell) := ⟨rfl, rfl, rfl, by decide +kernel, rfl, by decide +kernel, by decide +kernel⟩
abbrev s_pool : Stmt := topS 22
abbrev N_pool : List Str := ["_law_script", "_law_k", "_law_cell_here"]
abbrev P_pool : List Str := ["_law_script", "_law_k"]
abbrev G_pool : List Str := ["_law_cell", "int"]
theorem so_pool : ScOk N_pool G_pool (defScope s_pool) := ⟨by decide +kernel, by decide +kernel, by decide +kernel⟩
theorem sc_pool : FnScope N_pool P_pool (defScope s_pool) := ⟨rfl, rfl, rfl, by decide +kernel, rfl, by decide +kernel, by decide +kernel⟩
abbrev s_next : Stmt := topS 23
abbrev N_next : List Str := ["_law_pool_here", "_law_many", "_law_digit", "_law_mixed"]
abbrev P_next : List Str := ["_law_pool_here", "_law_many"]
abbrev G_next : List Str := ["int"]
theorem so_next : ScOk N_next G_next (defScope s_next) := ⟨by decide +kernel, by decide +kernel, by decide +kernel⟩
theorem sc_next : FnScope N_next P_next (defScope s_next) := ⟨rfl, rfl, rfl, by decide +kernel, rfl, by decide +kernel, by decide +kernel⟩
abbrev s_is_number : Stmt := topS 24
abbrev N_is_number : List Str := ["_law_value"]
abbrev P_is_number : List Str := ["_law_value"]
abbrev G_is_number : List Str := ["isinstance", "int", "bool"]
theorem so_is_number : ScOk N_is_number G_is_number (defScope s_is_number) := ⟨by decide +kernel, by decide +kernel, by decide +kernel⟩
theorem sc_is_number : FnScope N_is_number P_is_number (defScope s_is_number) := ⟨rfl, rfl, rfl, by decide +kernel, rfl, by decide +kernel, by decide +kernel⟩
abbrev s_row : Stmt := topS 25
abbrev N_row : List Str := ["_law_item", "_law_names"]
abbrev P_row : List Str := ["_law_item"]
abbrev G_row : List Str := ["isinstance", "tuple", "len"]
theorem so_row : ScOk N_row G_row (defScope s_row) := ⟨by decide +kernel, by decide +kernel, by decide +kernel⟩
theorem sc_row : FnScope N_row P_row (defScope s_row) := ⟨rfl, rfl, rfl, by decide +kernel, rfl, by decide +kernel, by decide +kernel⟩
abbrev s_parts : Stmt := topS 26
abbrev N_parts : List Str := ["_law_tree"]
abbrev P_parts : List Str := ["_law_tree"]
abbrev G_parts : List Str := []
theorem so_parts : ScOk N_parts G_parts (defScope s_parts) := ⟨by decide +kernel, by decide +kernel, by decide +kernel⟩
abbrev C_parts : List Str := ["_law_item"]
theorem sc_parts : FnScope (N_parts ++ C_parts) P_parts (defScope s_parts) := ⟨rfl, rfl, rfl, by decide +kernel, rfl, by decide +kernel, by decide +kernel⟩
theorem bk_parts0 : BkOk (N_parts ++ C_parts) [(1, "_law_item")] ["_law_row"] 1 "_law_item" (defScope s_parts) (lcSc (valE ((defBody s_parts).getD 0 (.Pass ⟨0, 0, 0, 0⟩)))) := ⟨by decide +kernel, by decide +kernel, by decide +kernel, by decide +kernel⟩
abbrev s_paths : Stmt := topS 27
abbrev N_paths : List Str := ["_law_tree", "_law_path", "_law_found", "_law_parts_here", "_law_k"]
abbrev P_paths : List Str := ["_law_tree", "_law_path"]
abbrev G_paths : List Str := ["_law_parts", "range", "len", "_law_paths"]
theorem so_paths : ScOk N_paths G_paths (defScope s_paths) := ⟨by decide +kernel, by decide +kernel, by decide +kernel⟩
theorem sc_paths : FnScope N_paths P_paths (defScope s_paths) := ⟨rfl, rfl, rfl, by decide +kernel, rfl, by decide +kernel, by decide +kernel⟩
abbrev s_at : Stmt := topS 28
abbrev N_at : List Str := ["_law_tree", "_law_path", "_law_k"]
abbrev P_at : List Str := ["_law_tree", "_law_path"]
abbrev G_at : List Str := ["_law_parts"]
theorem so_at : ScOk N_at G_at (defScope s_at) := ⟨by decide +kernel, by decide +kernel, by decide +kernel⟩
theorem sc_at : FnScope N_at P_at (defScope s_at) := ⟨rfl, rfl, rfl, by decide +kernel, rfl, by decide +kernel, by decide +kernel⟩
abbrev s_level : Stmt := topS 29
abbrev N_level : List Str := ["_law_tree", "_law_path", "_law_level_here", "_law_k"]
abbrev P_level : List Str := ["_law_tree", "_law_path"]
abbrev G_level : List Str := ["_law_parts"]
theorem so_level : ScOk N_level G_level (defScope s_level) := ⟨by decide +kernel, by decide +kernel, by decide +kernel⟩
theorem sc_level : FnScope N_level P_level (defScope s_level) := ⟨rfl, rfl, rfl, by decide +kernel, rfl, by decide +kernel, by decide +kernel⟩
abbrev s_same : Stmt := topS 30
abbrev N_same : List Str := ["_law_told", "_law_due", "_law_k"]
abbrev P_same : List Str := ["_law_told", "_law_due"]
abbrev G_same : List Str := ["isinstance", "str", "tuple", "list", "_law_is_number", "len", "range", "_law_same"]
theorem so_same : ScOk N_same G_same (defScope s_same) := ⟨by decide +kernel, by decide +kernel, by decide +kernel⟩
theorem sc_same : FnScope N_same P_same (defScope s_same) := ⟨rfl, rfl, rfl, by decide +kernel, rfl, by decide +kernel, by decide +kernel⟩
abbrev s_mode : Stmt := topS 31
abbrev N_mode : List Str := ["_law_pool_here", "_law_room", "_law_mode_here"]
abbrev P_mode : List Str := ["_law_pool_here", "_law_room"]
abbrev G_mode : List Str := ["_law_next"]
theorem so_mode : ScOk N_mode G_mode (defScope s_mode) := ⟨by decide +kernel, by decide +kernel, by decide +kernel⟩
theorem sc_mode : FnScope N_mode P_mode (defScope s_mode) := ⟨rfl, rfl, rfl, by decide +kernel, rfl, by decide +kernel, by decide +kernel⟩
abbrev s_free_one : Stmt := topS 32
abbrev N_free_one : List Str := ["_law_way", "_law_many", "_law_level_here", "_law_room", "_law_name", "_law_ref", "_law_which", "_law_index", "_law_body"]
abbrev P_free_one : List Str := ["_law_way", "_law_many", "_law_level_here", "_law_room", "_law_name", "_law_ref", "_law_which"]
abbrev G_free_one : List Str := ["_law_next", "_law_free", "int"]
theorem so_free_one : ScOk N_free_one G_free_one (defScope s_free_one) := ⟨by decide +kernel, by decide +kernel, by decide +kernel⟩
theorem sc_free_one : FnScope N_free_one P_free_one (defScope s_free_one) := ⟨rfl, rfl, rfl, by decide +kernel, rfl, by decide +kernel, by decide +kernel⟩
abbrev s_free_two : Stmt := topS 33
abbrev N_free_two : List Str := ["_law_way", "_law_many", "_law_level_here", "_law_room", "_law_name", "_law_ref", "_law_which", "_law_pool_here", "_law_first", "_law_mode_here", "_law_one", "_law_inner", "_law_two"]
abbrev P_free_two : List Str := ["_law_way", "_law_many", "_law_level_here", "_law_room", "_law_name", "_law_ref", "_law_which"]
abbrev G_free_two : List Str := ["_law_next", "_law_mode", "_law_free"]
theorem so_free_two : ScOk N_free_two G_free_two (defScope s_free_two) := ⟨by decide +kernel, by decide +kernel, by decide +kernel⟩
theorem sc_free_two : FnScope N_free_two P_free_two (defScope s_free_two) := ⟨rfl, rfl, rfl, by decide +kernel, rfl, by decide +kernel, by decide +kernel⟩
abbrev s_free : Stmt := topS 34
abbrev N_free : List Str := ["_law_way", "_law_many", "_law_level_here", "_law_room", "_law_pool_here", "_law_names", "_law_name", "_law_ref", "_law_pick"]
abbrev P_free : List Str := ["_law_way", "_law_many", "_law_level_here", "_law_room"]
abbrev G_free : List Str := ["_law_next", "_law_free_one", "int", "_law_free_two"]
theorem so_free : ScOk N_free G_free (defScope s_free) := ⟨by decide +kernel, by decide +kernel, by decide +kernel⟩
theorem sc_free : FnScope N_free P_free (defScope s_free) := ⟨rfl, rfl, rfl, by decide +kernel, rfl, by decide +kernel, by decide +kernel⟩
abbrev s_drawn : Stmt := topS 35
abbrev N_drawn : List Str := ["_law_script", "_law_k", "_law_pool_here", "_law_many"]
abbrev P_drawn : List Str := ["_law_script", "_law_k"]
abbrev G_drawn : List Str := ["_law_pool", "_law_next", "_law_free"]
theorem so_drawn : ScOk N_drawn G_drawn (defScope s_drawn) := ⟨by decide +kernel, by decide +kernel, by decide +kernel⟩
theorem sc_drawn : FnScope N_drawn P_drawn (defScope s_drawn) := ⟨rfl, rfl, rfl, by decide +kernel, rfl, by decide +kernel, by decide +kernel⟩
abbrev s_walked : Stmt := topS 36
abbrev N_walked : List Str := ["_law_tree", "_law_paths_here", "_law_due", "_law_cuts", "_law_told", "_law_first", "_law_bare"]
abbrev P_walked : List Str := ["_law_tree", "_law_paths_here"]
abbrev G_walked : List Str := ["_law_same", "list", "walk", "row_count", "len", "cut_paths", "premises", "_law_parts", "is_bare", "isinstance", "bool"]
theorem so_walked : ScOk N_walked G_walked (defScope s_walked) := ⟨by decide +kernel, by decide +kernel, by decide +kernel⟩
abbrev C_walked : List Str := ["_law_path", "_law_row_here"]
theorem sc_walked : FnScope (N_walked ++ C_walked) P_walked (defScope s_walked) := ⟨rfl, rfl, rfl, by decide +kernel, rfl, by decide +kernel, by decide +kernel⟩
theorem bk_walked0 : BkOk (N_walked ++ C_walked) [(7, "_law_path"), (0, "_law_tree")] ["_law_at"] 7 "_law_path" (defScope s_walked) (lcSc (valE ((defBody s_walked).getD 0 (.Pass ⟨0, 0, 0, 0⟩)))) := ⟨by decide +kernel, by decide +kernel, by decide +kernel, by decide +kernel⟩
theorem bk_walked1 : BkOk (N_walked ++ C_walked) [(8, "_law_row_here")] [] 8 "_law_row_here" (defScope s_walked) (lcSc (valE ((defBody s_walked).getD 2 (.Pass ⟨0, 0, 0, 0⟩)))) := ⟨by decide +kernel, by decide +kernel, by decide +kernel, by decide +kernel⟩
abbrev s_put : Stmt := topS 37
abbrev N_put : List Str := ["_law_tree", "_law_path", "_law_other", "_law_at_here"]
abbrev P_put : List Str := ["_law_tree", "_law_path", "_law_other"]
abbrev G_put : List Str := ["range", "len", "_law_put"]
theorem so_put : ScOk N_put G_put (defScope s_put) := ⟨by decide +kernel, by decide +kernel, by decide +kernel⟩
abbrev C_put : List Str := ["_law_k"]
theorem sc_put : FnScope (N_put ++ C_put) P_put (defScope s_put) := ⟨rfl, rfl, rfl, by decide +kernel, rfl, by decide +kernel, by decide +kernel⟩
abbrev s_wrong : Stmt := topS 38
abbrev N_wrong : List Str := ["_law_pool_here", "_law_tree", "_law_path", "_law_many", "_law_bad", "_law_behind"]
abbrev P_wrong : List Str := ["_law_pool_here", "_law_tree", "_law_path"]
abbrev G_wrong : List Str := ["len", "_law_parts", "_law_at", "_law_next", "range", "tuple"]
theorem so_wrong : ScOk N_wrong G_wrong (defScope s_wrong) := ⟨by decide +kernel, by decide +kernel, by decide +kernel⟩
abbrev C_wrong : List Str := ["_law_k"]
theorem sc_wrong : FnScope (N_wrong ++ C_wrong) P_wrong (defScope s_wrong) := ⟨rfl, rfl, rfl, by decide +kernel, rfl, by decide +kernel, by decide +kernel⟩
theorem bk_wrong0 : BkOk (N_wrong ++ C_wrong) [(0, "_law_pool_here")] ["_law_next"] 6 "_law_k" (defScope s_wrong) (lcSc (valE ((defBody s_wrong).getD 2 (.Pass ⟨0, 0, 0, 0⟩)))) := ⟨by decide +kernel, by decide +kernel, by decide +kernel, by decide +kernel⟩
abbrev s_refused : Stmt := topS 39
abbrev N_refused : List Str := ["_law_which", "_law_tree", "_law_path", "_law_other", "e"]
abbrev P_refused : List Str := ["_law_which", "_law_tree", "_law_path", "_law_other"]
abbrev G_refused : List Str := ["part", "with_part", "level_at", "NoPart", "isinstance", "HeldError", "ValueError", "NotBare", "_law_same"]
theorem so_refused : ScOk N_refused G_refused (defScope s_refused) := ⟨by decide +kernel, by decide +kernel, by decide +kernel⟩
theorem sc_refused : FnScope N_refused P_refused (defScope s_refused) := ⟨rfl, rfl, rfl, by decide +kernel, rfl, by decide +kernel, by decide +kernel⟩
abbrev s_law : Stmt := topS 40
abbrev N_law : List Str := ["_law_script", "_law_tree", "_law_other", "_law_paths_here", "_law_path", "_law_here", "_law_pool_here", "_law_k", "_law_wrong_here", "_law_which"]
abbrev P_law : List Str := ["_law_script"]
abbrev G_law : List Str := ["_law_drawn", "_law_paths", "_law_walked", "_law_at", "_law_same", "part", "premises", "_law_parts", "level_at", "_law_level", "_law_pool", "range", "_law_next", "len", "with_part", "_law_put", "_law_wrong", "_law_refused"]
theorem so_law : ScOk N_law G_law (defScope s_law) := ⟨by decide +kernel, by decide +kernel, by decide +kernel⟩
theorem sc_law : FnScope N_law P_law (defScope s_law) := ⟨rfl, rfl, rfl, by decide +kernel, rfl, by decide +kernel, by decide +kernel⟩
local macro_rules | `(tactic| walk_at "bl") => `(tactic| first
  | refine e_callB (x := "len") (by assumption) b_len ?_
  | refine e_callB (x := "isinstance") (by assumption) b_isi ?_
  | refine e_callB (x := "abs") (by assumption) b_abs ?_
  | refine e_callB (x := "max") (by assumption) b_max ?_
  | refine e_callB (x := "min") (by assumption) b_min ?_
  | refine e_callTy (x := "str") (by assumption) b_str ?_
  | refine e_callTy (x := "int") (by assumption) b_int ?_)
local macro_rules | `(tactic| walk_at "gl") => `(tactic| first
  | refine e_bltn (x := "int") (v := .ty "int") (by assumption) b_int rfl ?_
  | refine e_bltn (x := "bool") (v := .ty "bool") (by assumption) b_bool rfl ?_
  | refine e_bltn (x := "str") (v := .ty "str") (by assumption) b_str rfl ?_
  | refine e_bltn (x := "tuple") (v := .ty "tuple") (by assumption) b_tuple rfl ?_
  | refine e_bltn (x := "list") (v := .ty "list") (by assumption) b_list rfl ?_)
local macro_rules | `(tactic| walk_at "st") => `(tactic| first
  | refine l_cons ?_
  | refine s_ret ?_
  | refine s_if ?_
  | refine s_set ?_
  | refine s_sub ?_
  | refine e_var ?_
  | refine e_int ?_
  | refine e_ix ?_
  | refine a_cons ?_
  | refine a_nil ?_
  | refine t_cmp ?_
  | refine t_not ?_
  | refine t_w (w_and ?_)
  | refine t_w (w_or ?_)
  | refine w_and ?_
  | refine w_or ?_
  | refine w_and1 ?_
  | refine w_or1 ?_
  | refine t_val ?_
  | refine e_str ?_
  | refine e_bl ?_
  | refine e_non ?_
  | refine e_bin ?_
  | refine e_cmp ?_
  | refine e_and ?_
  | refine e_or ?_
  | refine e_not ?_
  | refine e_one ?_
  | refine l_nil ?_
  | refine s_expr ?_
  | refine e_tup ?_
  | refine e_lst ?_
  | refine ⟨_, rfl, ?_⟩
  | ((with_reducible refine ite_t ?hc ?_); (case hc => exact rfl))
  | ((with_reducible refine ite_f ?hc ?_); (case hc => exact rfl))
  | refine o_add ?_
  | refine o_sub ?_
  | refine o_lt ?_
  | refine o_le ?_
  | refine o_gt ?_
  | refine o_ge ?_
  | refine o_eqI ?_
  | refine o_neI ?_
  | refine o_eqS ?_
  | refine o_neB ?_
  | refine o_isN ?_
  | refine o_nisB ?_
  | refine o_isB ?_
  | refine e_neg ?_
  | refine o_eqB ?_
  | refine c_int ?_
  | refine c_abs ?_
  | refine c_max rfl ?_
  | refine c_min rfl ?_
  | refine a_cons (e_fld ?_)
  | walk_at "bl"
  | walk_at "gl")
local macro_rules | `(tactic| walk_at "sts") => `(tactic| repeat walk_at "st")
section
variable {P : Program} {w : World} {K : PySem.W.Frag} {mg : Str → Option Value} {base : Heap}
def PoolAt (H : Hp) (a : Addr) : Prop := ∃ x y z : Int, H a = some (.lst [.int x, .int y, .int z])
def spCell (K : PySem.W.Frag) : Sp := fun vs H Q _ => ∃ (a : Addr) (ns : List Int) (k : Nat), vs = [.ref a, .int k] ∧ SqL K H a (ns.map V.int) ∧ ∀ z : Int, 0 ≤ z → Q (.int z) H
theorem ok_cell (T : Top K mg "_law_cell" s_cell) (mLen : mg "len" = none) (mAbs : mg "abs" = none) : Fn P w K mg base 1 "_law_cell" (spCell K) := by
  refine fn_ok T sc_cell so_cell (fun vs H Q E h => ?_) (fun _ _ _ _ _ _ us hl => match us, hl with | [_, _], _ => rfl) fun f cdv A outer s H vs Q E hr h nd => ?_
  · obtain ⟨a, ns, k, rfl, _⟩ := h
    rfl
  · obtain ⟨a, ns, k, rfl, hS, q⟩ := h
    walk_at "sts"
    refine c_lenL (by exact hS) ?_
    walk_at "sts"
    refine if2 (fun h => ?_) (fun h => ?_)
    · rw [List.length_map] at h
      have hk : k < ns.length := by omega
      walk_at "sts"
      refine ix_l (by exact hS) (atI_nat (v := .int ns[k]) (by simp [hk])) ?_
      walk_at "sts"
      exact q _ (by split <;> omega)
    · walk_at "sts"
      exact q _ (Int.le_refl _)
def spPool (K : PySem.W.Frag) : Sp := fun vs H Q _ => ∃ (a : Addr) (ns : List Int) (k : Nat), vs = [.ref a, .int k] ∧ SqL K H a (ns.map V.int) ∧ ∀ p H', Same H H' → H p = none → PoolAt H' p → Q (.ref p) H'
theorem ok_pool (T : Top K mg "_law_pool" s_pool) (F : Fn P w K mg base 1 "_law_cell" (spCell K)) (mInt : mg "int" = none) : Fn P w K mg base 2 "_law_pool" (spPool K) := by
  refine fn_ok T sc_pool so_pool (fun vs H Q E h => ?_) (fun _ _ _ _ _ _ us hl => match us, hl with | [_, _], _ => rfl) fun f cdv A outer s H vs Q E hr h nd => ?_
  · obtain ⟨a, ns, k, rfl, _⟩ := h
    rfl
  · obtain ⟨a, ns, k, rfl, hS, q⟩ := h
    walk_at "sts"
    refine e_call (by exact F) (by exact hr) (by decide) ?_
    walk_at "sts"
    refine ⟨a, ns, k, rfl, hS, fun z hz => ?_⟩
    walk_at "sts"
    refine o_pow ⟨by decide, by decide, by decide⟩ ?_
    walk_at "sts"
    refine if2 (fun h => ?_) (fun h => ?_)
    · walk_at "sts"
      refine o_mod (by decide) ?_
      walk_at "sts"
      refine ⟨by show 3 ≤ sizeLine; decide, fun p H2 e np hp => ?_⟩
      exact q p H2 e np ⟨_, _, _, hp⟩
    · walk_at "sts"
      refine ⟨by show 3 ≤ sizeLine; decide, fun p H2 e np hp => ?_⟩
      exact q p H2 e np ⟨_, _, _, hp⟩
def spNext : Sp := fun vs H Q _ => ∃ (a : Addr) (m : Int), vs = [.ref a, .int m] ∧ 0 < m ∧ m < 1073741824 ∧ PoolAt H a ∧ ∀ d H', 0 ≤ d → d < m → But a H H' → PoolAt H' a → Q (.int d) H'
theorem ok_next (T : Top K mg "_law_next" s_next) (mInt : mg "int" = none) : Fn P w K mg base 1 "_law_next" spNext := by
  refine fn_ok T sc_next so_next (fun vs H Q E h => ?_) (fun _ _ _ _ _ _ us hl => match us, hl with | [_, _], _ => rfl) fun f cdv A outer s H vs Q E hr h nd => ?_
  · obtain ⟨a, m, rfl, _⟩ := h
    rfl
  · obtain ⟨a, m, rfl, m0, m1, ⟨x, y, z, hp⟩, q⟩ := h
    walk_at "sts"
    refine ix_l (by exact SqL.of hp) rfl ?_
    walk_at "sts"
    refine if2 (fun h => ?_) (fun h => ?_)
    · walk_at "sts"
      refine ix_l (by exact SqL.of hp) rfl ?_
      walk_at "sts"
      refine o_mod m0 ?_
      walk_at "sts"
      refine ix_l (by exact SqL.of hp) rfl ?_
      walk_at "sts"
      refine o_fdiv ⟨m0, m1⟩ ?_
      walk_at "sts"
      refine set_l hp rfl ?_
      walk_at "sts"
      exact q _ _ (Int.emod_nonneg _ (by omega)) (Int.emod_lt_of_pos _ m0) (But.refl.upd) ⟨_, _, _, upd_same⟩
    · walk_at "sts"
      refine ix_l (by exact SqL.of hp) rfl ?_
      walk_at "sts"
      refine set_l hp rfl ?_
      walk_at "sts"
      refine ix_l (by exact SqL.of upd_same) rfl ?_
      walk_at "sts"
      refine ix_l (by exact SqL.of upd_same) rfl ?_
      walk_at "sts"
      refine o_mul (.inl (by decide)) ?_
      walk_at "sts"
      refine o_mod (by decide) ?_
      walk_at "sts"
      have b1 := Int.emod_nonneg (z + 7919 * (y + 1) + 13) (show (2147483647 : Int) ≠ 0 by decide)
      have b2 := Int.emod_lt_of_pos (z + 7919 * (y + 1) + 13) (show (0 : Int) < 2147483647 by decide)
      refine o_mul (.inl ⟨by omega, by omega⟩) ?_
      walk_at "sts"
      refine o_mod (by decide) ?_
      walk_at "sts"
      generalize (z + 7919 * (y + 1) + 13) % 2147483647 = u at *
      have c1 := Int.emod_nonneg (u * (u + 48271)) (show (2147483629 : Int) ≠ 0 by decide)
      have c2 := Int.emod_lt_of_pos (u * (u + 48271)) (show (0 : Int) < 2147483629 by decide)
      refine o_mul (.inl ⟨by omega, by omega⟩) ?_
      walk_at "sts"
      refine ix_l (by exact SqL.of upd_same) rfl ?_
      walk_at "sts"
      refine o_mul (.inl (by decide)) ?_
      walk_at "sts"
      refine o_mod (by decide) ?_
      walk_at "sts"
      refine o_fdiv (by decide) ?_
      walk_at "sts"
      refine o_mod m0 ?_
      walk_at "sts"
      exact q _ _ (Int.emod_nonneg _ (by omega)) (Int.emod_lt_of_pos _ m0) (But.refl.upd) ⟨_, _, _, upd_same⟩
end
theorem none_of {H H' : Hp} {p : Addr} (s : Same H H') (n : H' p = none) : H p = none := by
  cases hz : H p with
  | none => rfl
  | some o => exact absurd (s p o hz) (by rw [n]; intro z; cases z)
/-- all tuples stay -/
def TS (H H' : Hp) : Prop := ∀ t xs, H t = some (.tup xs) → H' t = some (.tup xs)
theorem Same.ts {H H' : Hp} (s : Same H H') : TS H H' := fun t xs h => s t _ h
theorem But.ts {a : Addr} {H H' : Hp} {l : List V} (b : But a H H') (ha : H a = some (.lst l)) : TS H H' := fun t xs h => b.tup ha h
theorem PoolAt.ts {a : Addr} {H H' : Hp} (h : PoolAt H a) (b : But a H H') : TS H H' := let ⟨_, _, _, e⟩ := h; But.ts b e
theorem TS.upd {a : Addr} {H : Hp} {l : List V} {o : HO} (ha : H a = some (.lst l)) : TS H (L2.upd H a o) := fun t xs h => by
  rw [upd_ne (ne_of h ha (by intro z; cases z))]
  exact h
theorem TS.trans {H H1 H2 : Hp} (a : TS H H1) (b : TS H1 H2) : TS H H2 := fun t xs h => b t xs (a t xs h)
/-! ### rows, as data -/
inductive Kd where
  | own | take | offer | pick | pay | make | open_ | cut | cite
  deriving DecidableEq
def Kd.nm : Kd → Str
  | .own => "own" | .take => "take" | .offer => "offer" | .pick => "pick" | .pay => "pay" | .make => "make" | .open_ => "open" | .cut => "cut" | .cite => "cite"
def Kd.fs : Kd → List Str
  | .own => ["ref"] | .take => [] | .offer => [] | .pick => ["ref", "side"] | .pay => ["ref", "kind"] | .make => ["name", "index"] | .open_ => ["ref", "name", "index"] | .cut => ["kind", "sentence"] | .cite => ["name"]
def Kd.pr : Kd → Nat
  | .own => 0 | .take => 1 | .offer => 2 | .pick => 1 | .pay => 2 | .make => 1 | .open_ => 1 | .cut => 2 | .cite => 0
def Kd.rf : Kd → Bool
  | .own => true | .pick => true | .pay => true | .open_ => true | _ => false
abbrev allKd : List Kd := [.own, .take, .offer, .pick, .pay, .make, .open_, .cut, .cite]
/-- a field that is no row and no reference: a number, a text, a kind in stock, a cut's sentence -/
inductive Fd where
  | i (n : Int) | s (z : Str) | p (a b : Int) | c (z : Str)
def FdV (H : Hp) : Fd → V → Prop
  | .i n, v => v = .int n
  | .s z, v => v = .str z
  | .p a b, v => ∃ t, v = .ref t ∧ H t = some (.tup [.int a, .int b])
  | .c z, v => ∃ t a b, v = .ref t ∧ H t = some (.tup [.str "menu", .ref a, .ref b]) ∧ H a = some (.tup [.str "word", .str "own"]) ∧ H b = some (.tup [.str "word", .str z])
theorem FdV.ts {H H' : Hp} (e : TS H H') : ∀ {f : Fd} {v : V}, FdV H f v → FdV H' f v
  | .i _, _, h => h
  | .s _, _, h => h
  | .p _ _, _, ⟨t, h1, h2⟩ => ⟨t, h1, e _ _ h2⟩
  | .c _, _, ⟨t, a, b, h1, h2, h3, h4⟩ => ⟨t, a, b, h1, e _ _ h2, e _ _ h3, e _ _ h4⟩
def FsV (H : Hp) : List Fd → List V → Prop
  | [], vs => vs = []
  | f :: fs, vs => ∃ v us, vs = v :: us ∧ FdV H f v ∧ FsV H fs us
theorem FsV.ts {H H' : Hp} (e : TS H H') : ∀ {f : List Fd} {v : List V}, FsV H f v → FsV H' f v
  | [], _, h => h
  | _ :: _, _, ⟨v, us, h1, h2, h3⟩ => ⟨v, us, h1, h2.ts e, h3.ts e⟩
theorem FsV.len {H : Hp} : ∀ {f : List Fd} {v : List V}, FsV H f v → v.length = f.length
  | [], _, h => by rw [show _ = _ from h]; rfl
  | _ :: _, _, ⟨v, us, h1, h2, h3⟩ => by rw [h1, List.length_cons, List.length_cons, h3.len]
structure Hd where
  k : Kd
  r : Option Key
  f : List Fd
def rL (r : Option Key) : List V := (r.map kV).toList
/-- a head that is well formed -/
def Hd.Ok (h : Hd) : Prop := h.r.isSome = h.k.rf ∧ (rL h.r).length + h.f.length = h.k.fs.length
def HdL (H : Hp) (h : Hd) (xs : List V) : Prop := ∃ fs, xs = .str h.k.nm :: (rL h.r ++ fs) ∧ FsV H h.f fs
theorem HdL.ts {H H' : Hp} (e : TS H H') {h : Hd} {xs : List V} : HdL H h xs → HdL H' h xs := fun ⟨fs, h1, h2⟩ => ⟨fs, h1, h2.ts e⟩
theorem HdL.len {H : Hp} {h : Hd} {xs : List V} (o : h.Ok) : HdL H h xs → xs.length = 1 + h.k.fs.length := fun ⟨fs, h1, h2⟩ => by
  rw [h1, List.length_cons, List.length_append, h2.len, ← o.2, Nat.add_comm]
def HdV (H : Hp) (h : Hd) (v : V) : Prop := ∃ t xs, v = .ref t ∧ H t = some (.tup xs) ∧ HdL H h xs
theorem HdV.ts {H H' : Hp} (e : TS H H') {h : Hd} {v : V} : HdV H h v → HdV H' h v := fun ⟨t, xs, h1, h2, h3⟩ => ⟨t, xs, h1, e _ _ h2, h3.ts e⟩
inductive Tr where
  | le (h : Hd) | un (h : Hd) (a : Tr) | bi (h : Hd) (a b : Tr)
def Tr.hd : Tr → Hd
  | .le h => h | .un h _ => h | .bi h _ _ => h
def Tr.ks : Tr → List Tr
  | .le _ => [] | .un _ a => [a] | .bi _ a b => [a, b]
def Tr.Ok : Tr → Prop
  | .le h => h.Ok ∧ h.k.pr = 0
  | .un h a => h.Ok ∧ h.k.pr = 1 ∧ a.Ok
  | .bi h a b => h.Ok ∧ h.k.pr = 2 ∧ a.Ok ∧ b.Ok
def Tr.size : Tr → Nat
  | .le _ => 1 | .un _ a => a.size + 1 | .bi _ a b => a.size + b.size + 1
def Tr.dep : Tr → Nat
  | .le _ => 0 | .un _ a => a.dep + 1 | .bi _ a b => max a.dep b.dep + 1
def TrV (H : Hp) : Tr → V → Prop
  | .le h, v => ∃ t xs, v = .ref t ∧ H t = some (.tup (xs ++ [])) ∧ HdL H h xs
  | .un h a, v => ∃ t xs x, v = .ref t ∧ H t = some (.tup (xs ++ [x])) ∧ HdL H h xs ∧ TrV H a x
  | .bi h a b, v => ∃ t xs x y, v = .ref t ∧ H t = some (.tup (xs ++ [x, y])) ∧ HdL H h xs ∧ TrV H a x ∧ TrV H b y
theorem TrV.ts {H H' : Hp} (e : TS H H') : ∀ {t : Tr} {v : V}, TrV H t v → TrV H' t v
  | .le _, _, ⟨t, xs, h1, h2, h3⟩ => ⟨t, xs, h1, e _ _ h2, h3.ts e⟩
  | .un _ _, _, ⟨t, xs, x, h1, h2, h3, h4⟩ => ⟨t, xs, x, h1, e _ _ h2, h3.ts e, h4.ts e⟩
  | .bi _ _ _, _, ⟨t, xs, x, y, h1, h2, h3, h4, h5⟩ => ⟨t, xs, x, y, h1, e _ _ h2, h3.ts e, h4.ts e, h5.ts e⟩
def TrsV (H : Hp) : List Tr → List V → Prop
  | [], vs => vs = []
  | t :: ts, vs => ∃ v us, vs = v :: us ∧ TrV H t v ∧ TrsV H ts us
theorem TrsV.ts {H H' : Hp} (e : TS H H') : ∀ {f : List Tr} {v : List V}, TrsV H f v → TrsV H' f v
  | [], _, h => h
  | _ :: _, _, ⟨v, us, h1, h2, h3⟩ => ⟨v, us, h1, h2.ts e, h3.ts e⟩
theorem TrsV.len {H : Hp} : ∀ {f : List Tr} {v : List V}, TrsV H f v → v.length = f.length
  | [], _, h => by rw [show _ = _ from h]; rfl
  | _ :: _, _, ⟨v, us, h1, h2, h3⟩ => by rw [h1, List.length_cons, List.length_cons, h3.len]
theorem TrsV.append {H : Hp} : ∀ {f g : List Tr} {v u : List V}, TrsV H f v → TrsV H g u → TrsV H (f ++ g) (v ++ u)
  | [], _, _, _, h, k => by rw [show _ = _ from h]; exact k
  | _ :: _, _, _, _, ⟨v, us, h1, h2, h3⟩, k => by
    subst h1
    exact ⟨v, _, rfl, h2, h3.append k⟩
theorem TrsV.reverse {H : Hp} : ∀ {f : List Tr} {v : List V}, TrsV H f v → TrsV H f.reverse v.reverse
  | [], _, h => by rw [show _ = _ from h]; exact rfl
  | _ :: _, _, ⟨v, us, h1, h2, h3⟩ => by
    subst h1
    rw [List.reverse_cons, List.reverse_cons]
    exact h3.reverse.append ⟨v, [], rfl, h2, rfl⟩
/-- a tree's tuple: the head's items, then the premises -/
theorem TrV.split {H : Hp} : ∀ {t : Tr} {v : V}, TrV H t v → ∃ p xs ys, v = .ref p ∧ H p = some (.tup (xs ++ ys)) ∧ HdL H t.hd xs ∧ TrsV H t.ks ys
  | .le _, _, ⟨t, xs, h1, h2, h3⟩ => ⟨t, xs, [], h1, h2, h3, rfl⟩
  | .un _ _, _, ⟨t, xs, x, h1, h2, h3, h4⟩ => ⟨t, xs, [x], h1, h2, h3, x, [], rfl, h4, rfl⟩
  | .bi _ _ _, _, ⟨t, xs, x, y, h1, h2, h3, h4, h5⟩ => ⟨t, xs, [x, y], h1, h2, h3, x, [y], rfl, h4, y, [], rfl, h5, rfl⟩
theorem Tr.Ok.hd : ∀ {t : Tr}, t.Ok → t.hd.Ok ∧ t.hd.k.pr = t.ks.length ∧ ∀ a ∈ t.ks, a.Ok
  | .le _, ⟨h1, h2⟩ => ⟨h1, h2, by simp [Tr.ks]⟩
  | .un _ a, ⟨h1, h2, h3⟩ => ⟨h1, h2, by simpa [Tr.ks] using h3⟩
  | .bi _ a b, ⟨h1, h2, h3, h4⟩ => ⟨h1, h2, by simpa [Tr.ks] using ⟨h3, h4⟩⟩
/-- the heads in preorder -/
def hds : Tr → List Hd
  | .le h => [h] | .un h a => h :: hds a | .bi h a b => h :: (hds a ++ hds b)
def hdsL (ts : List Tr) : List Hd := ts.flatMap hds
theorem hds_eq (t : Tr) : hds t = t.hd :: hdsL t.ks := by
  cases t <;> simp [hds, hdsL, Tr.hd, Tr.ks]
/-- a stack of trees out of heads -/
def fstep (h : Hd) : Nat → List Tr → List Tr
  | 0, ts => .le h :: ts
  | 1, a :: ts => .un h a :: ts
  | 2, a :: b :: ts => .bi h a b :: ts
  | _, ts => ts
def fh : List Hd → List Tr
  | [] => []
  | h :: hs => fstep h h.k.pr (fh hs)
def Enough : List Hd → Prop
  | [] => True
  | h :: hs => Enough hs ∧ h.k.pr ≤ (fh hs).length
theorem fh_hds : ∀ {t : Tr} (_ : t.Ok) (s : List Hd), fh (hds t ++ s) = t :: fh s
  | .le h, ⟨_, h2⟩, s => by
    show fstep h h.k.pr (fh s) = _
    rw [h2]; rfl
  | .un h a, ⟨_, h2, h3⟩, s => by
    show fstep h h.k.pr (fh (hds a ++ s)) = _
    rw [h2, fh_hds h3]; rfl
  | .bi h a b, ⟨_, h2, h3, h4⟩, s => by
    show fstep h h.k.pr (fh (hds a ++ hds b ++ s)) = _
    rw [h2, List.append_assoc, fh_hds h3, fh_hds h4]; rfl
theorem enough_hds : ∀ {t : Tr} (_ : t.Ok) (s : List Hd), Enough s → Enough (hds t ++ s)
  | .le h, ⟨_, h2⟩, s, e => ⟨e, by rw [h2]; omega⟩
  | .un h a, ⟨_, h2, h3⟩, s, e => ⟨enough_hds h3 s e, by rw [h2]; show 1 ≤ (fh (hds a ++ s)).length; rw [fh_hds h3]; simp⟩
  | .bi h a b, ⟨_, h2, h3, h4⟩, s, e => by
    show Enough (h :: (hds a ++ hds b ++ s))
    rw [List.append_assoc]
    exact ⟨enough_hds h3 _ (enough_hds h4 s e), by rw [h2, fh_hds h3, fh_hds h4]; simp⟩
def Tr.map (g : Hd → Hd) : Tr → Tr
  | .le h => .le (g h) | .un h a => .un (g h) (a.map g) | .bi h a b => .bi (g h) (a.map g) (b.map g)
theorem hds_map (g : Hd → Hd) : ∀ t : Tr, hds (t.map g) = (hds t).map g
  | .le h => rfl
  | .un h a => by simp [Tr.map, hds, hds_map g a]
  | .bi h a b => by simp [Tr.map, hds, hds_map g a, hds_map g b]
/-- the tables of the module's top -/
def fsK (T : Kd → Addr) : List (Key × V) := allKd.map fun k => ((Sum.inr k.nm : Key), V.ref (T k))
def prK : List (Key × V) := allKd.map fun k => ((Sum.inr k.nm : Key), V.int (k.pr : Int))
structure Tabs (w : World) (K : PySem.W.Frag) (mg : Str → Option Value) : Prop where
  ex : ∃ (F D : Addr) (T : Kd → Addr), mg "FIELDS" = some (.ref F) ∧ mg "PREMISES" = some (.ref D) ∧ KDict w K F (fsK T) ∧ KDict w K D prK ∧ ∀ (H : Hp) k, SqT K H (T k) (k.fs.map V.str)
theorem fs_val (T : Kd → Addr) (k : Kd) : valV (fsK T) (Sum.inr k.nm) = some (V.ref (T k)) := by
  cases k <;> rfl
theorem pr_val (k : Kd) : valV prK (Sum.inr k.nm) = some (V.int (k.pr : Int)) := by
  cases k <;> rfl
theorem rf_in (k : Kd) : inV (.str "ref") (k.fs.map V.str) = k.rf := by
  cases k <;> decide +kernel
theorem fs_flat (k : Kd) : (k.fs.map V.str).all flatV = true := by
  cases k <;> rfl
theorem at0 {x : V} {l : List V} : atI (x :: l) 0 = some x := atI_nat (j := 0) rfl
theorem at1 {x y : V} {l : List V} : atI (x :: y :: l) 1 = some y := atI_nat (j := 1) rfl


section
variable {P : Program} {w : World} {K : PySem.W.Frag} {mg : Str → Option Value} {base : Heap}
def spPrem : Sp := fun vs H Q _ => ∃ p k rest xs ys, vs = [.ref p] ∧ H p = some (.tup (xs ++ ys)) ∧ xs = .str (Kd.nm k) :: rest ∧ xs.length = 1 + k.fs.length ∧ ∀ l H', Same H H' → H l = none → H' l = some (.lst ys) → Q (.ref l) H'
theorem ok_premises (T : Top K mg "premises" s_premises) (TB : Tabs w K mg) (mList : mg "list" = none) (mLen : mg "len" = none) : Fn P w K mg base 1 "premises" spPrem := by
  refine fn_ok T sc_premises so_premises (fun vs H Q E h => by obtain ⟨p, k, rest, xs, ys, rfl, _⟩ := h; rfl) (fun _ _ _ _ _ _ us hl => match us, hl with | [_], _ => rfl) fun f cdv A outer s H vs Q E hr h nd => ?_
  obtain ⟨p, k, rest, xs, ys, rfl, hp, ex, hl, q⟩ := h
  obtain ⟨FA, DA, TT, hF, hD, kF, kD, hT⟩ := TB.ex
  have hp0 : H p = some (.tup (.str (Kd.nm k) :: (rest ++ ys))) := by rw [hp, ex]; rfl
  refine l_cons (s_ret (e_callTy (x := "list") (by assumption) b_list (a_cons (e_tLo ?_))))
  walk_at "sts"
  refine e_glob (x := "FIELDS") (v := .ref FA) (u := .ref FA) (by exact hF) (by exact rfl) ?_
  walk_at "sts"
  refine ix_t (by exact SqT.of hp0) at0 ?_
  refine ix_kd (by exact kF) (by exact fs_val TT k) ?_
  walk_at "sts"
  refine c_lenT (hT _ k) ?_
  walk_at "sts"
  refine ⟨p, xs, ys, rfl, congrArg V.int ?_, hp, fun t H1 e1 h1 => ?_⟩
  · rw [List.length_map, hl]; omega
  · refine a_nil (c_listT h1 fun l H2 e2 n2 h2 => q l H2 (e1.trans e2) (none_of e1 n2) h2)
def spHead : Sp := fun vs H Q _ => ∃ p k rest xs ys, vs = [.ref p] ∧ H p = some (.tup (xs ++ ys)) ∧ xs = .str (Kd.nm k) :: rest ∧ xs.length = 1 + k.fs.length ∧ ∀ l H', Same H H' → H' l = some (.tup xs) → Q (.ref l) H'
theorem ok_head_of (T : Top K mg "head_of" s_head_of) (TB : Tabs w K mg) (mLen : mg "len" = none) : Fn P w K mg base 1 "head_of" spHead := by
  refine fn_ok T sc_head_of so_head_of (fun vs H Q E h => by obtain ⟨p, k, rest, xs, ys, rfl, _⟩ := h; rfl) (fun _ _ _ _ _ _ us hl => match us, hl with | [_], _ => rfl) fun f cdv A outer s H vs Q E hr h nd => ?_
  obtain ⟨p, k, rest, xs, ys, rfl, hp, ex, hl, q⟩ := h
  obtain ⟨FA, DA, TT, hF, hD, kF, kD, hT⟩ := TB.ex
  have hp0 : H p = some (.tup (.str (Kd.nm k) :: (rest ++ ys))) := by rw [hp, ex]; rfl
  refine l_cons (s_ret (e_tHi ?_))
  walk_at "sts"
  refine e_glob (x := "FIELDS") (v := .ref FA) (u := .ref FA) (by exact hF) (by exact rfl) ?_
  walk_at "sts"
  refine ix_t (by exact SqT.of hp0) at0 ?_
  refine ix_kd (by exact kF) (by exact fs_val TT k) ?_
  walk_at "sts"
  refine c_lenT (hT _ k) ?_
  walk_at "sts"
  refine ⟨p, xs, ys, rfl, congrArg V.int ?_, hp, fun t H1 e1 h1 => q t H1 e1 h1⟩
  rw [List.length_map, hl]; omega
def HdsV (H : Hp) : List Hd → List V → Prop
  | [], vs => vs = []
  | f :: fs, vs => ∃ v us, vs = v :: us ∧ HdV H f v ∧ HdsV H fs us
theorem HdsV.ts {H H' : Hp} (e : TS H H') : ∀ {f : List Hd} {v : List V}, HdsV H f v → HdsV H' f v
  | [], _, h => h
  | _ :: _, _, ⟨v, us, h1, h2, h3⟩ => ⟨v, us, h1, h2.ts e, h3.ts e⟩
theorem HdsV.len {H : Hp} : ∀ {f : List Hd} {v : List V}, HdsV H f v → v.length = f.length
  | [], _, h => by rw [show _ = _ from h]; rfl
  | _ :: _, _, ⟨v, us, h1, h2, h3⟩ => by rw [h1, List.length_cons, List.length_cons, h3.len]
theorem HdsV.snoc {H : Hp} {h : Hd} {x : V} (hx : HdV H h x) : ∀ {f : List Hd} {v : List V}, HdsV H f v → HdsV H (f ++ [h]) (v ++ [x])
  | [], _, e => by rw [show _ = _ from e]; exact ⟨x, [], rfl, hx, rfl⟩
  | _ :: _, _, ⟨v, us, h1, h2, h3⟩ => by
    subst h1
    exact ⟨v, _, rfl, h2, h3.snoc hx⟩
theorem HdsV.get {H : Hp} : ∀ {f : List Hd} {v : List V} {i : Nat} {x : V}, HdsV H f v → v[i]? = some x → ∃ h, f[i]? = some h ∧ HdV H h x
  | [], _, i, x, h, e => by rw [show _ = _ from h] at e; cases e
  | f :: _, _, 0, x, ⟨v, us, h1, h2, h3⟩, e => by subst h1; cases e; exact ⟨f, rfl, h2⟩
  | _ :: fs, _, i + 1, x, ⟨v, us, h1, h2, h3⟩, e => by
    subst h1
    exact h3.get (i := i) (by simpa using e)
def szL (ts : List Tr) : Nat := (ts.map Tr.size).foldr (· + ·) 0
theorem szL_cons (t : Tr) (ts : List Tr) : szL (t :: ts) = t.size + szL ts := rfl
theorem szL_app : ∀ (a b : List Tr), szL (a ++ b) = szL a + szL b
  | [], b => by simp [szL]
  | t :: a, b => by rw [List.cons_append, szL_cons, szL_cons, szL_app a b]; omega
theorem size_ks (t : Tr) : t.size = 1 + szL t.ks := by
  cases t <;> simp [Tr.size, Tr.ks, szL] <;> omega
theorem hds_size : ∀ t : Tr, (hds t).length = t.size
  | .le _ => rfl
  | .un _ a => by simp [hds, Tr.size, hds_size a]
  | .bi _ a b => by simp [hds, Tr.size, hds_size a, hds_size b]
theorem ks_le (t : Tr) : t.ks.length ≤ 2 := by cases t <;> simp [Tr.ks]
theorem size_pos (t : Tr) : 1 ≤ t.size := by rw [size_ks]; omega
theorem len_szL : ∀ ts : List Tr, ts.length ≤ szL ts
  | [] => Nat.le_refl _
  | t :: ts => by have := len_szL ts; have := size_pos t; rw [List.length_cons, szL_cons]; omega
theorem hdsL_len : ∀ ts : List Tr, (hdsL ts).length = szL ts
  | [] => rfl
  | t :: ts => by rw [show hdsL (t :: ts) = hds t ++ hdsL ts from rfl, List.length_append, hds_size, hdsL_len ts, szL_cons]
theorem hdsL_app (a b : List Tr) : hdsL (a ++ b) = hdsL a ++ hdsL b := List.flatMap_append
def spHeads : Sp := fun vs H Q _ => ∃ v t, vs = [v] ∧ TrV H t v ∧ t.Ok ∧ t.size ≤ 1000 ∧ ∀ l us H', Same H H' → H l = none → H' l = some (.lst us) → HdsV H' (hds t) us → Q (.ref l) H'
/-- two lists are the own ones, the others stay -/
def But2 (a b : Addr) (H H' : Hp) : Prop := ∀ c o, c ≠ a → c ≠ b → H c = some o → H' c = some o
theorem ok_heads (T : Top K mg "heads" s_heads) (FH : Fn P w K mg base 1 "head_of" spHead) (FP : Fn P w K mg base 1 "premises" spPrem) : Fn P w K mg base 2 "heads" spHeads := by
  refine fn_ok T sc_heads so_heads (fun vs H Q E h => by obtain ⟨v, t, rfl, _⟩ := h; rfl) (fun _ _ _ _ _ _ us hl => match us, hl with | [_], _ => rfl) fun f cdv A outer s H vs Q E hr h nd => ?_
  obtain ⟨v, t, rfl, hv, ho, hz, q⟩ := h
  refine l_cons (s_set (e_lst (a_nil ⟨by show 0 ≤ sizeLine; decide, fun fa H1 e1 n1 h1 => ?_⟩)))
  walk_at "sts"
  refine ⟨by show 1 ≤ sizeLine; decide, fun wa H2 e2 n2 h2 => ?_⟩
  have nfw : fa ≠ wa := fun z => by rw [z] at h1; rw [n2] at h1; cases h1
  refine l_cons (s_whileN (fun n σ H' => ∃ (ts : List Tr) (ws hs : List V) (em : List Hd) (x : Option V), σ = [some v, some (.ref fa), some (.ref wa), x] ∧ H' fa = some (.lst hs) ∧ H' wa = some (.lst ws.reverse) ∧ n = szL ts ∧ TrsV H' ts ws ∧ (∀ a ∈ ts, a.Ok) ∧ HdsV H' em hs ∧ em ++ hdsL ts = hds t ∧ TS H H' ∧ ∀ c o, H c = some o → H' c = some o)
    t.size ⟨[t], [v], [], [], none, rfl, e2 _ _ h1, h2, (Nat.add_zero _).symm, ⟨v, [], rfl, hv.ts (Same.ts (e1.trans e2)), rfl⟩, fun a ha => by rw [List.mem_singleton.mp ha]; exact ho, rfl, by simp [hdsL], Same.ts (e1.trans e2), e1.trans e2⟩ fun n σ H3 hI => ?_)
  obtain ⟨ts, ws, hs, em, x, rfl, hfa, hwa, rfl, hts, hok, hem, heq, tsm, keep⟩ := hI
  refine t_tru (e_var ⟨_, tru_l hwa, ?_⟩)
  cases ts with
  | nil =>
    cases (show ws = [] from hts)
    refine ite_f rfl ?_
    rw [show hdsL [] = [] from rfl, List.append_nil] at heq
    subst heq
    refine l_cons (s_ret (e_var ?_))
    exact q fa hs H3 keep n1 hfa hem
  | cons a ts =>
    obtain ⟨u, us, rfl, ha, hts⟩ := hts
    rw [List.reverse_cons] at hwa ⊢
    refine ite_t (by simp) ?_
    refine l_cons (s_set (e_pop (e_var ⟨wa, us.reverse, u, rfl, hwa, ?_⟩)))
    show wL _ _ _ [some v, some (.ref fa), some (.ref wa), some u] _
    have t1 : TS H3 (upd H3 wa (.lst us.reverse)) := TS.upd hwa
    obtain ⟨p, xs, ys, rfl, hp, hx, hy⟩ := (ha.ts t1).split
    obtain ⟨o1, o2, o3⟩ := (hok a (List.mem_cons_self ..)).hd
    have hlen := hx.len o1
    obtain ⟨fs, ex, hfs⟩ := id hx
    have hfa1 : upd H3 wa (.lst us.reverse) fa = some (.lst hs) := by rw [upd_ne nfw]; exact hfa
    have leh := congrArg List.length heq
    rw [List.length_append, hdsL_len, hds_size, szL_cons] at leh
    have lhs := hem.len
    have lts := len_szL ts
    have lus := hts.len
    have la := size_ks a
    have lk := ks_le a
    have lys := hy.len
    refine l_cons (s_expr (e_app ?_))
    refine e_var ⟨fa, hs, rfl, SqL.of hfa1, ?_⟩
    refine e_call (by exact FH) (by exact hr) (by decide) ?_
    walk_at "sts"
    refine ⟨p, a.hd.k, _, xs, ys, rfl, hp, ex, hlen, fun r H4 e4 h4 => ?_⟩
    refine ⟨hs, e4 _ _ hfa1, by show hs.length < 2 ^ 24; omega, ?_⟩
    have hfa4 := e4 _ _ hfa1
    have hwa4 : upd H4 fa (.lst (hs ++ [.ref r])) wa = some (.lst us.reverse) := by rw [upd_ne (Ne.symm nfw)]; exact e4 _ _ upd_same
    have t4 : TS (upd H3 wa (.lst us.reverse)) (upd H4 fa (.lst (hs ++ [.ref r]))) := (Same.ts e4).trans (TS.upd hfa4)
    have hp4 := t4 _ _ hp
    refine l_cons (s_expr (e_ext ?_))
    refine e_var ⟨wa, _, rfl, SqL.of hwa4, ?_⟩
    refine e_rev ?_
    refine e_call (by exact FP) (by exact hr) (by decide) ?_
    walk_at "sts"
    refine ⟨p, a.hd.k, _, xs, ys, rfl, hp4, ex, hlen, fun l5 H5 e5 n5 h5 => ?_⟩
    refine ⟨l5, ys, rfl, SqL.of h5, fun l6 H6 e6 n6 h6 => ?_⟩
    have hwa6 := e6 _ _ (e5 _ _ hwa4)
    have hfa6 := e6 _ _ (e5 _ _ (upd_same (H := H4) (a := fa) (o := .lst (hs ++ [.ref r]))))
    refine ⟨l6, us.reverse, ys.reverse, rfl, hwa6, h6, by rw [List.length_reverse, List.length_reverse]; omega, ?_⟩
    have t6 : TS (upd H4 fa (.lst (hs ++ [.ref r]))) (upd H6 wa (.lst (us.reverse ++ ys.reverse))) := ((Same.ts e5).trans (Same.ts e6)).trans (TS.upd hwa6)
    have tall := (t1.trans t4).trans t6
    refine l_nil ⟨szL (a.ks ++ ts), by rw [szL_app, szL_cons]; omega, a.ks ++ ts, ys ++ us, hs ++ [.ref r], em ++ [a.hd], some (.ref p), rfl, ?_, ?_, rfl, (hy.ts (t4.trans t6)).append (hts.ts tall), ?_, (hem.ts tall).snoc ?_, ?_, tsm.trans tall, ?_⟩
    · rw [upd_ne nfw]; exact hfa6
    · rw [List.reverse_append]; exact upd_same
    · intro b hb
      rcases List.mem_append.mp hb with hb | hb
      · exact o3 b hb
      · exact hok b (List.mem_cons_of_mem _ hb)
    · exact ⟨r, xs, rfl, t6 _ _ (TS.upd hfa4 _ _ h4), hx.ts (t4.trans t6)⟩
    · rw [← heq, show hdsL (a :: ts) = hds a ++ hdsL ts from rfl, hds_eq a, hdsL_app]
      simp
    · intro c o hc
      have h3 := keep c o hc
      have cw : c ≠ wa := fun z => by
        subst z
        have := (none_of (e1) n2)
        rw [this] at hc; cases hc
      have cf : c ≠ fa := fun z => by
        subst z
        rw [n1] at hc; cases hc
      rw [upd_ne cw]
      refine e6 _ _ (e5 _ _ ?_)
      rw [upd_ne cf]
      refine e4 _ _ ?_
      rw [upd_ne cw]
      exact h3
end


theorem TrsV.get {H : Hp} : ∀ {f : List Tr} {v : List V} {i : Nat} {x : V}, TrsV H f v → v[i]? = some x → ∃ h, f[i]? = some h ∧ TrV H h x
  | [], _, i, x, h, e => by rw [show _ = _ from h] at e; cases e
  | f :: _, _, 0, x, ⟨v, us, h1, h2, h3⟩, e => by subst h1; cases e; exact ⟨f, rfl, h2⟩
  | _ :: fs, _, i + 1, x, ⟨v, us, h1, h2, h3⟩, e => by
    subst h1
    exact h3.get (i := i) (by simpa using e)
theorem pr_le (k : Kd) : k.pr ≤ 2 := by cases k <;> decide
theorem fs_le (k : Kd) : k.fs.length ≤ 3 := by cases k <;> decide
theorem take_snoc' {α : Type} {l : List α} {i : Nat} {x : α} (h : l[i]? = some x) : l.take (i + 1) = l.take i ++ [x] := by
  obtain ⟨hi, e⟩ := List.getElem?_eq_some_iff.mp h
  rw [List.take_succ_eq_append_getElem hi, e]
theorem fresh_keep {H1 H2 : Hp} {D : Addr} {o : HO} (n : H1 D = none) (k : ∀ c u, H1 c = some u → H2 c = some u) : ∀ c u, H1 c = some u → upd H2 D o c = some u := fun c u hc => by
  rw [upd_ne (fun z => by subst z; rw [n] at hc; cases hc)]
  exact k c u hc
theorem o_cat2 {X : Cx} {H : Hp} {Q : VK} {l b : Addr} {xs zs : List V} (h1 : H l = some (.lst xs)) (h2 : H b = some (.lst zs)) (hz : xs.length + zs.length ≤ 200000) (q : ∀ p H2, Same H H2 → H p = none → H2 p = some (.lst (xs ++ zs)) → Q (.ref p) H2) : wB X .Add (.ref l) (.ref b) H Q :=
  b_of op_cat ⟨l, b, xs, zs, rfl, rfl, h1, h2, by show _ ≤ 2 ^ 24; omega, fun p np => q p _ (fun c u eo => by rw [upd_ne (ne_of_none eo np)]; exact eo) np upd_same⟩
abbrev kdS : List V := [.str "own", .str "take", .str "offer", .str "pick", .str "pay", .str "make", .str "open", .str "cut", .str "cite"]
/-- whether a value is a row -/
def RowQ (H : Hp) (v : V) (b : Bool) : Prop := (b = false ∧ ((∃ i, v = .int i) ∨ ∃ z, v = .str z)) ∨ ∃ t x xs, v = .ref t ∧ H t = some (.tup (x :: xs)) ∧ flatV x = true ∧ inV x kdS = b
theorem RowQ.ts {H H' : Hp} (e : TS H H') {v : V} {b : Bool} : RowQ H v b → RowQ H' v b := fun h => h.elim .inl fun ⟨t, x, xs, h1, h2, h3⟩ => .inr ⟨t, x, xs, h1, e _ _ h2, h3⟩
theorem RowQ.fd {H : Hp} : ∀ {f : Fd} {v : V}, FdV H f v → RowQ H v false
  | .i n, v, h => .inl ⟨rfl, .inl ⟨n, h⟩⟩
  | .s z, v, h => .inl ⟨rfl, .inr ⟨z, h⟩⟩
  | .p a b, v, ⟨t, h1, h2⟩ => .inr ⟨t, _, _, h1, h2, rfl, by rfl⟩
  | .c z, v, ⟨t, a, b, h1, h2, _, _⟩ => .inr ⟨t, _, _, h1, h2, rfl, by decide +kernel⟩
theorem RowQ.key {H : Hp} (r : Key) : RowQ H (kV r) false := by
  cases r with
  | inl i => exact .inl ⟨rfl, .inl ⟨i, rfl⟩⟩
  | inr z => exact .inl ⟨rfl, .inr ⟨z, rfl⟩⟩
theorem nm_in (k : Kd) : inV (.str k.nm) kdS = true := by cases k <;> decide +kernel
theorem RowQ.tr {H : Hp} {t : Tr} {v : V} (h : TrV H t v) : RowQ H v true := by
  obtain ⟨p, xs, ys, rfl, hp, ⟨fs, rfl, _⟩, _⟩ := h.split
  exact .inr ⟨p, _, _, rfl, hp, rfl, nm_in _⟩
theorem FsV.get {H : Hp} : ∀ {f : List Fd} {v : List V} {i : Nat} {x : V}, FsV H f v → v[i]? = some x → ∃ h, f[i]? = some h ∧ FdV H h x
  | [], _, i, x, h, e => by rw [show _ = _ from h] at e; cases e
  | f :: _, _, 0, x, ⟨v, us, h1, h2, h3⟩, e => by subst h1; cases e; exact ⟨f, rfl, h2⟩
  | _ :: fs, _, i + 1, x, ⟨v, us, h1, h2, h3⟩, e => by
    subst h1
    exact h3.get (i := i) (by simpa using e)
theorem FsV.mem {H : Hp} {f : List Fd} {v : List V} {x : V} (h : FsV H f v) (m : x ∈ v) : RowQ H x false := by
  obtain ⟨i, hi, e⟩ := List.mem_iff_getElem.mp m
  obtain ⟨g, _, hg⟩ := h.get (show v[i]? = some x by rw [List.getElem?_eq_getElem hi, e])
  exact .fd hg
section
variable {P : Program} {w : World} {K : PySem.W.Frag} {mg : Str → Option Value} {base : Heap}
def spNum : Sp := fun vs H Q _ => ∃ i : Int, vs = [.int i] ∧ Q (.bl true) H
theorem ok_num (T : Top K mg "_law_is_number" s_is_number) (mIs : mg "isinstance" = none) (mInt : mg "int" = none) (mBool : mg "bool" = none) : Fn P w K mg base 1 "_law_is_number" spNum := by
  refine fn_ok T sc_is_number so_is_number (fun vs H Q E h => by obtain ⟨i, rfl, _⟩ := h; rfl) (fun _ _ _ _ _ _ us hl => match us, hl with | [_], _ => rfl) fun f cdv A outer s H vs Q E hr h nd => ?_
  obtain ⟨i, rfl, q⟩ := h
  walk_at "sts"
  refine c_isi ty_int (.ty _) (kit_ty kb_int_int) ?_
  walk_at "sts"
  refine c_isi ty_int (.ty _) (kit_ty kb_int_bool) ?_
  walk_at "sts"
  exact q
def spRow : Sp := fun vs H Q _ => ∃ v b, vs = [v] ∧ RowQ H v b ∧ ∀ H', Same H H' → Q (.bl b) H'
theorem ok_row (T : Top K mg "_law_row" s_row) (mIs : mg "isinstance" = none) (mTup : mg "tuple" = none) (mLen : mg "len" = none) : Fn P w K mg base 1 "_law_row" spRow := by
  refine fn_ok T sc_row so_row (fun vs H Q E h => by obtain ⟨v, b, rfl, _⟩ := h; rfl) (fun _ _ _ _ _ _ us hl => match us, hl with | [_], _ => rfl) fun f cdv A outer s H vs Q E hr h nd => ?_
  obtain ⟨v, b, rfl, hv, q⟩ := h
  walk_at "sts"
  refine ⟨by show 9 ≤ sizeLine; decide, fun p H1 e1 n1 h1 => ?_⟩
  show wL _ _ _ [some v, some (.ref p)] _
  walk_at "sts"
  rcases hv with ⟨rfl, ⟨i, rfl⟩ | ⟨z, rfl⟩⟩ | ⟨t, x, xs, rfl, ht, hx, rfl⟩
  · refine c_isi ty_int (.ty _) (kit_ty kb_int_tuple) ?_
    walk_at "sts"
    exact q H1 e1
  · refine c_isi ty_str (.ty _) (kit_ty kb_str_tuple) ?_
    walk_at "sts"
    exact q H1 e1
  · refine c_isi (ty_tup (e1 _ _ ht)) (.ty _) (kit_ty kb_tuple_tuple) ?_
    walk_at "sts"
    refine c_lenT (by exact SqT.of (e1 _ _ ht)) ?_
    walk_at "sts"
    refine ifT (by simp only [List.length_cons]; omega) ?_
    walk_at "sts"
    refine ix_t (by exact SqT.of (e1 _ _ ht)) at0 ?_
    walk_at "sts"
    refine o_inT (by exact SqT.of h1) hx rfl ?_
    exact q H1 e1
def spParts : Sp := fun vs H Q _ => ∃ v t, vs = [v] ∧ TrV H t v ∧ t.hd.Ok ∧ ∀ l us H', Same H H' → H l = none → H' l = some (.lst us) → TrsV H' t.ks us → Q (.ref l) H'
theorem ok_parts (T : Top K mg "_law_parts" s_parts) (FR : Fn P w K mg base 1 "_law_row" spRow) : Fn P w K mg base 2 "_law_parts" spParts := by
  refine fn_okC T sc_parts so_parts (fun vs H Q E h => by obtain ⟨v, t, rfl, _⟩ := h; rfl) (fun _ _ _ _ _ _ us hl => match us, hl with | [_], _ => rfl) fun f cdv A outer s H vs Q E hr h nd => ?_
  obtain ⟨v, t, rfl, hv, ho, q⟩ := h
  obtain ⟨p, xs, ys, rfl, hp, hx, hy⟩ := hv.split
  have lx := hx.len ho
  have l3 := fs_le t.hd.k
  obtain ⟨fs, rfl, hfs⟩ := hx
  have lk := ks_le t
  have ly := hy.len
  refine l_cons (s_ret (e_lcTf (by exact bk_parts0) (e_tLo ?_)))
  walk_at "sts"
  refine ⟨p, [.str t.hd.k.nm], (rL t.hd.r ++ fs) ++ ys, rfl, rfl, hp, fun a H1 e1 h1 => ⟨a, _, rfl, SqT.of h1, fun D nD => ?_⟩⟩
  generalize hn : rL t.hd.r ++ fs = zs at h1
  refine ⟨fun k H2 => H2 D = some (.lst (((zs ++ ys).take k).drop zs.length)) ∧ Same H1 H2, ⟨by rw [List.take_zero, List.drop_nil]; exact upd_same, fun c u hc => by rw [upd_ne (ne_of_none hc nD)]; exact hc⟩, fun k H2 _ p => SqT.of (p.2 _ _ h1), ?_, ?_⟩
  · intro k x H2 hk p
    obtain ⟨hD, e⟩ := p
    have hq : RowQ H2 x (decide (zs.length ≤ k)) := by
      by_cases hlt : k < zs.length
      · rw [List.getElem?_append_left hlt] at hk
        rw [decide_eq_false (by omega)]
        have hm := List.mem_of_getElem? hk
        rw [← hn] at hm
        rcases List.mem_append.mp hm with hm | hm
        · cases hr0 : t.hd.r with
          | none => rw [hr0] at hm; cases hm
          | some r => rw [hr0] at hm; rw [List.mem_singleton.mp (show x ∈ [kV r] from hm)]; exact .key r
        · exact FsV.mem (hfs.ts (Same.ts (e1.trans e))) hm
      · rw [List.getElem?_append_right (by omega)] at hk
        rw [decide_eq_true (by omega)]
        obtain ⟨s, _, hs⟩ := (hy.ts (Same.ts (e1.trans e))).get hk
        exact .tr hs
    intro s0 H0 C cl fp IB
    refine t_val (b_call (by exact FR) (by exact hr) (by decide) ?_)
    refine a_cons (b_var (a_nil ?_))
    refine ⟨x, _, rfl, hq, fun H3 e3 => ⟨_, rfl, ?_⟩⟩
    have hlt := (List.getElem?_eq_some_iff.mp hk).1
    by_cases hlt2 : zs.length ≤ k
    · refine ifT hlt2 ?_
      intro s0 H0 C cl fp IB
      refine b_var ⟨_, e3 _ _ hD, ?_, ?_, ?_⟩
      · rw [List.length_drop, List.length_take]
        rw [List.length_append] at *
        show _ < 2 ^ 24
        have : zs.length ≤ 4 := by rw [← hn]; simp only [List.length_cons] at lx; omega
        omega
      · rw [take_snoc' hk, List.drop_append_of_le_length (by rw [List.length_take]; omega)]
        exact upd_same
      · exact fresh_keep nD (Same.trans e e3)
    · refine ifF hlt2 ⟨?_, Same.trans e e3⟩
      rw [List.drop_eq_nil_of_le (by rw [List.length_take]; omega)]
      have := e3 _ _ hD
      rw [List.drop_eq_nil_of_le (by rw [List.length_take]; omega)] at this
      exact this
  · intro H2 p
    obtain ⟨hD, e⟩ := p
    rw [List.take_length, List.drop_left] at hD
    exact q D ys H2 (e1.trans e) (none_of e1 nD) hD (hy.ts (Same.ts (e1.trans e)))
/-! ### paths -/
def PthV (H : Hp) (p : List Nat) (v : V) : Prop := ∃ t, v = .ref t ∧ H t = some (.tup (p.map fun (n : Nat) => V.int (n : Int)))
theorem PthV.ts {H H' : Hp} (e : TS H H') {p : List Nat} {v : V} : PthV H p v → PthV H' p v := fun ⟨t, h1, h2⟩ => ⟨t, h1, e _ _ h2⟩
def PsV (H : Hp) : List (List Nat) → List V → Prop
  | [], vs => vs = []
  | f :: fs, vs => ∃ v us, vs = v :: us ∧ PthV H f v ∧ PsV H fs us
theorem PsV.ts {H H' : Hp} (e : TS H H') : ∀ {f : List (List Nat)} {v : List V}, PsV H f v → PsV H' f v
  | [], _, h => h
  | _ :: _, _, ⟨v, us, h1, h2, h3⟩ => ⟨v, us, h1, h2.ts e, h3.ts e⟩
theorem PsV.len {H : Hp} : ∀ {f : List (List Nat)} {v : List V}, PsV H f v → v.length = f.length
  | [], _, h => by rw [show _ = _ from h]; rfl
  | _ :: _, _, ⟨v, us, h1, h2, h3⟩ => by rw [h1, List.length_cons, List.length_cons, h3.len]
theorem PsV.append {H : Hp} : ∀ {f g : List (List Nat)} {v u : List V}, PsV H f v → PsV H g u → PsV H (f ++ g) (v ++ u)
  | [], _, _, _, h, k => by rw [show _ = _ from h]; exact k
  | _ :: _, _, _, _, ⟨v, us, h1, h2, h3⟩, k => by
    subst h1
    exact ⟨v, _, rfl, h2, h3.append k⟩
theorem PsV.get {H : Hp} : ∀ {f : List (List Nat)} {v : List V} {i : Nat} {x : V}, PsV H f v → v[i]? = some x → ∃ h, f[i]? = some h ∧ PthV H h x
  | [], _, i, x, h, e => by rw [show _ = _ from h] at e; cases e
  | f :: _, _, 0, x, ⟨v, us, h1, h2, h3⟩, e => by subst h1; cases e; exact ⟨f, rfl, h2⟩
  | _ :: fs, _, i + 1, x, ⟨v, us, h1, h2, h3⟩, e => by
    subst h1
    exact h3.get (i := i) (by simpa using e)
def pth : Tr → List Nat → List (List Nat)
  | .le _, p => [p]
  | .un _ a, p => p :: pth a (p ++ [0])
  | .bi _ a b, p => p :: (pth a (p ++ [0]) ++ pth b (p ++ [1]))
def pthL : List Tr → List Nat → Nat → List (List Nat)
  | [], _, _ => []
  | t :: ts, p, i => pth t (p ++ [i]) ++ pthL ts p (i + 1)
theorem pth_eq (t : Tr) (p : List Nat) : pth t p = p :: pthL t.ks p 0 := by
  cases t <;> simp [pth, pthL, Tr.ks]
theorem pthL_snoc (t : Tr) (p : List Nat) : ∀ (ts : List Tr) (i : Nat), pthL (ts ++ [t]) p i = pthL ts p i ++ pth t (p ++ [i + ts.length])
  | [], i => by simp [pthL]
  | s :: ts, i => by
    rw [List.cons_append, pthL, pthL, pthL_snoc t p ts (i + 1), List.length_cons, List.append_assoc, show i + 1 + ts.length = i + (ts.length + 1) by omega]
theorem pth_len : ∀ (t : Tr) (p : List Nat), (pth t p).length = t.size
  | .le _, _ => rfl
  | .un _ a, p => by simp [pth, Tr.size, pth_len a]
  | .bi _ a b, p => by simp [pth, Tr.size, pth_len a, pth_len b]
theorem pthL_len (p : List Nat) : ∀ (ts : List Tr) (i : Nat), (pthL ts p i).length = szL ts
  | [], _ => rfl
  | t :: ts, i => by rw [pthL, List.length_append, pth_len, pthL_len p ts, szL_cons]
theorem dep_ks {t : Tr} : ∀ a ∈ t.ks, a.dep + 1 ≤ t.dep := by
  cases t with
  | le h => simp [Tr.ks]
  | un h a => simp [Tr.ks, Tr.dep]
  | bi h a b =>
    intro x hx
    simp only [Tr.ks, List.mem_cons, List.not_mem_nil, or_false] at hx
    simp only [Tr.dep]
    rcases hx with rfl | rfl
    · omega
    · omega
theorem szL_take (ts : List Tr) (k : Nat) : szL (ts.take k) ≤ szL ts := by
  conv => rhs; rw [← List.take_append_drop k ts, szL_app]
  omega
theorem sz_mem {ts : List Tr} {k : Nat} {a : Tr} (h : ts[k]? = some a) : szL (ts.take k) + a.size ≤ szL ts := by
  have := szL_take ts (k + 1)
  rw [take_snoc' h, szL_app] at this
  simpa [szL] using this
def spPaths (n : Nat) : Sp := fun vs H Q _ => ∃ v u t p, vs = [v, u] ∧ TrV H t v ∧ t.Ok ∧ t.dep ≤ n ∧ t.size ≤ 1000 ∧ PthV H p u ∧ p.length + n ≤ 1000 ∧ ∀ l us H', Same H H' → H l = none → H' l = some (.lst us) → PsV H' (pth t p) us → Q (.ref l) H'
theorem ok_pathsS (n : Nat) (T : Top K mg "_law_paths" s_paths) (mLen : mg "len" = none) (mR : mg "range" = none) (FP : Fn P w K mg base 2 "_law_parts" spParts) (F : ∀ m, n = m + 1 → Fn P w K mg base (m + 3) "_law_paths" (spPaths m)) : Fn P w K mg base (n + 3) "_law_paths" (spPaths n) := by
  refine fn_ok T sc_paths so_paths (fun vs H Q E h => by obtain ⟨v, u, t, p, rfl, _⟩ := h; rfl) (fun _ _ _ _ _ _ us hl => match us, hl with | [_, _], _ => rfl) fun f cdv A outer s H vs Q E hr h nd => ?_
  obtain ⟨v, u, t, p, rfl, hv, ho, hd, hz, hu, hp, q⟩ := h
  walk_at "sts"
  refine ⟨by show 1 ≤ sizeLine; decide, fun fa H1 e1 n1 h1 => ?_⟩
  refine l_cons (s_set (e_call (by exact FP) (by exact hr) (by omega) ?_))
  walk_at "sts"
  refine ⟨v, t, rfl, hv.ts (Same.ts e1), ho.hd.1, fun pa us H2 e2 n2 h2 hus => ?_⟩
  show wL _ _ _ [some v, some u, some (.ref fa), some (.ref pa), none] _
  have lus := hus.len
  have lk := ks_le t
  have hsz := size_ks t
  refine l_cons (s_forR (by assumption) ?_)
  walk_at "sts"
  refine c_lenL (by exact SqL.of h2) ⟨us.length, rfl, by omega, fun k σ H' => ∃ (f : Addr) (fs : List V) (x : Option V), σ = [some v, some u, some (.ref f), some (.ref pa), x] ∧ H f = none ∧ H' f = some (.lst fs) ∧ PsV H' (p :: pthL (t.ks.take k) p 0) fs ∧ Same H H' ∧ Same H2 H', ?_, ?_, ?_⟩
  · exact ⟨fa, [u], none, rfl, n1, e2 _ _ h1, ⟨u, [], rfl, hu.ts (Same.ts (e1.trans e2)), rfl⟩, e1.trans e2, Same.refl _⟩
  · intro k σ H' hk pr
    obtain ⟨f, fs, x, rfl, nf, hf, hfs, eA, eB⟩ := pr
    show wL _ _ _ [some v, some u, some (.ref f), some (.ref pa), some (.int (k : Int))] _
    have hk2 : us[k]? = some us[k] := List.getElem?_eq_getElem hk
    obtain ⟨a, ha, hav⟩ := hus.get hk2
    have ham := List.mem_of_getElem? ha
    have hda := dep_ks a ham
    obtain ⟨m, rfl⟩ : ∃ m, n = m + 1 := ⟨n - 1, by omega⟩
    have hsa := sz_mem ha
    have lfs := hfs.len
    rw [List.length_cons, pthL_len] at lfs
    obtain ⟨ut, rfl, hut⟩ := hu
    refine l_cons (s_set (e_bin (e_var (e_call (by exact F m rfl) (by exact hr) (by omega) ?_))))
    walk_at "sts"
    refine ix_l (by exact SqL.of (eB _ _ h2)) (atI_nat hk2) ?_
    walk_at "sts"
    refine ⟨by show 1 ≤ sizeLine; decide, fun q3 H3 e3 n3 h3 => ?_⟩
    refine o_catA (e3 _ _ (eA _ _ hut)) h3 (by rw [List.length_map]; simp only [List.length_cons, List.length_nil]; omega) fun q4 H4 e4 h4 => ?_
    have t4 : TS H2 H4 := Same.ts (Same.trans eB (e3.trans e4))
    walk_at "sts"
    refine ⟨us[k], .ref q4, a, p ++ [k], rfl, hav.ts t4, (ho.hd.2.2 a ham), by omega, by omega, ⟨q4, rfl, by rw [h4, List.map_append]; rfl⟩, by rw [List.length_append]; simp only [List.length_cons, List.length_nil]; omega, fun l5 us5 H5 e5 n5 h5 hps5 => ?_⟩
    have e35 := (e3.trans e4).trans e5
    have l5l := hps5.len
    rw [pth_len] at l5l
    refine o_cat2 (e35 _ _ hf) h5 (by omega) fun l6 H6 e6 n6 h6 => ?_
    refine l_nil ⟨l6, fs ++ us5, _, rfl, none_of (Same.trans eA e35) n6, h6, ?_, Same.trans eA (e35.trans e6), Same.trans eB (e35.trans e6)⟩
    rw [take_snoc' ha, pthL_snoc, ← List.cons_append, show 0 + (t.ks.take k).length = k by rw [List.length_take]; omega]
    exact (hfs.ts (Same.ts (e35.trans e6))).append (hps5.ts (Same.ts e6))
  · intro σ H' pr
    obtain ⟨f, fs, x, rfl, nf, hf, hfs, eA, eB⟩ := pr
    walk_at "sts"
    rw [lus, List.take_length, ← pth_eq] at hfs
    exact q f fs H' eA nf hf hfs
theorem ok_paths (T : Top K mg "_law_paths" s_paths) (mLen : mg "len" = none) (mR : mg "range" = none) (FP : Fn P w K mg base 2 "_law_parts" spParts) : ∀ n, Fn P w K mg base (n + 3) "_law_paths" (spPaths n)
  | 0 => ok_pathsS 0 T mLen mR FP fun m h => by cases h
  | n + 1 => ok_pathsS (n + 1) T mLen mR FP fun m h => by cases h; exact ok_paths T mLen mR FP n
/-- the subtree at a path -/
def atT : Tr → List Nat → Option Tr
  | t, [] => some t
  | t, k :: p => match t.ks[k]? with
    | some a => atT a p
    | none => none
def spAt : Sp := fun vs H Q _ => ∃ v u t p s, vs = [v, u] ∧ TrV H t v ∧ t.Ok ∧ PthV H p u ∧ atT t p = some s ∧ p.length ≤ 2000 ∧ ∀ v' H', Same H H' → TrV H' s v' → Q v' H'
theorem ok_at (T : Top K mg "_law_at" s_at) (FP : Fn P w K mg base 2 "_law_parts" spParts) : Fn P w K mg base 3 "_law_at" spAt := by
  refine fn_ok T sc_at so_at (fun vs H Q E h => by obtain ⟨v, u, t, p, s, rfl, _⟩ := h; rfl) (fun _ _ _ _ _ _ us hl => match us, hl with | [_, _], _ => rfl) fun f cdv A outer s H vs Q E hr h nd => ?_
  obtain ⟨v, u, t, p, s0, rfl, hv, ho, ⟨ut, rfl, hut⟩, hs, hl, q⟩ := h
  refine l_cons (s_forT ?_)
  refine e_var ⟨ut, _, rfl, SqT.of hut, fun k σ H' => ∃ (v' : V) (t' : Tr) (x : Option V), σ = [some v', some (.ref ut), x] ∧ TrV H' t' v' ∧ t'.Ok ∧ atT t' (p.drop k) = some s0 ∧ Same H H', ?_, ?_, ?_, ?_⟩
  · exact ⟨v, t, none, rfl, hv, ho, hs, Same.refl H⟩
  · intro k σ H' _ pr
    obtain ⟨_, _, _, _, _, _, _, e⟩ := pr
    exact SqT.of (e _ _ hut)
  · intro k y σ H' hy pr
    obtain ⟨v', t', x, rfl, hv', ho', hs', e⟩ := pr
    rw [List.getElem?_map] at hy
    obtain ⟨j, hj, rfl⟩ := Option.map_eq_some_iff.mp hy
    obtain ⟨hj1, hj2⟩ := List.getElem?_eq_some_iff.mp hj
    show wL _ _ _ [some v', some (.ref ut), some (.int (j : Int))] _
    rw [List.drop_eq_getElem_cons hj1, hj2] at hs'
    unfold atT at hs'
    cases hk : t'.ks[j]? with
    | none => rw [hk] at hs'; cases hs'
    | some a =>
      rw [hk] at hs'
      refine l_cons (s_set (e_ix (e_call (by exact FP) (by exact hr) (by decide) ?_)))
      walk_at "sts"
      refine ⟨v', t', rfl, hv', ho'.hd.1, fun l us H2 e2 n2 h2 hus => ?_⟩
      have hju : j < us.length := by rw [hus.len]; exact (List.getElem?_eq_some_iff.mp hk).1
      have hk2 : us[j]? = some us[j] := List.getElem?_eq_getElem hju
      obtain ⟨a', ha', hav⟩ := hus.get hk2
      rw [hk] at ha'
      cases ha'
      refine e_var (ix_l (by exact SqL.of h2) (atI_nat hk2) ?_)
      exact l_nil ⟨us[j], a, _, rfl, hav, ho'.hd.2.2 a (List.mem_of_getElem? hk), hs', Same.trans e e2⟩
  · intro σ H' pr
    obtain ⟨v', t', x, rfl, hv', ho', hs', e⟩ := pr
    rw [List.length_map, List.drop_length] at hs'
    cases (Option.some.inj (show some t' = some s0 from hs'))
    walk_at "sts"
    exact q v' H' e hv'
end


/-! ### the subtrees in preorder, each with its path -/
def ps : Tr → List (List Nat × Tr)
  | .le h => [([], .le h)]
  | .un h a => ([], .un h a) :: (ps a).map fun x => (0 :: x.1, x.2)
  | .bi h a b => ([], .bi h a b) :: (((ps a).map fun x => (0 :: x.1, x.2)) ++ (ps b).map fun x => (1 :: x.1, x.2))
theorem ps_pth : ∀ (t : Tr) (p : List Nat), pth t p = (ps t).map fun x => p ++ x.1
  | .le _, p => by simp [pth, ps]
  | .un _ a, p => by simp [pth, ps, ps_pth a, Function.comp_def]
  | .bi _ a b, p => by simp [pth, ps, ps_pth a, ps_pth b, Function.comp_def]
theorem ps_hds : ∀ t : Tr, (ps t).map (fun x => x.2.hd) = hds t
  | .le _ => rfl
  | .un _ a => by simp [ps, hds, ← ps_hds a, Tr.hd, Function.comp_def]
  | .bi _ a b => by simp [ps, hds, ← ps_hds a, ← ps_hds b, Tr.hd, Function.comp_def]
theorem ps_at : ∀ (t : Tr), ∀ x ∈ ps t, atT t x.1 = some x.2 ∧ (t.Ok → x.2.Ok) ∧ x.1.length ≤ t.dep
  | .le h, x, hx => by rw [List.mem_singleton.mp hx]; exact ⟨rfl, id, Nat.le_refl _⟩
  | .un h a, x, hx => by
    rcases List.mem_cons.mp hx with rfl | hx
    · exact ⟨rfl, id, Nat.zero_le _⟩
    · obtain ⟨y, hy, rfl⟩ := List.mem_map.mp hx
      obtain ⟨h1, h2, h3⟩ := ps_at a y hy
      exact ⟨h1, fun o => h2 o.2.2, by simp only [List.length_cons, Tr.dep]; omega⟩
  | .bi h a b, x, hx => by
    rcases List.mem_cons.mp hx with rfl | hx
    · exact ⟨rfl, id, Nat.zero_le _⟩
    · rcases List.mem_append.mp hx with hx | hx
      · obtain ⟨y, hy, rfl⟩ := List.mem_map.mp hx
        obtain ⟨h1, h2, h3⟩ := ps_at a y hy
        exact ⟨h1, fun o => h2 o.2.2.1, by simp only [List.length_cons, Tr.dep]; omega⟩
      · obtain ⟨y, hy, rfl⟩ := List.mem_map.mp hx
        obtain ⟨h1, h2, h3⟩ := ps_at b y hy
        exact ⟨h1, fun o => h2 o.2.2.2, by simp only [List.length_cons, Tr.dep]; omega⟩
/-! ### the same data -/
def Eqd (H : Hp) : Nat → V → V → Prop
  | 0, v, u => (∃ i, v = .int i ∧ u = .int i) ∨ ∃ z, v = .str z ∧ u = .str z
  | n + 1, v, u => (∃ i, v = .int i ∧ u = .int i) ∨ (∃ z, v = .str z ∧ u = .str z) ∨ ∃ a b xs ys, v = .ref a ∧ u = .ref b ∧ ((H a = some (.tup xs) ∧ H b = some (.tup ys)) ∨ (H a = some (.lst xs) ∧ H b = some (.lst ys))) ∧ xs.length = ys.length ∧ xs.length ≤ 2000 ∧ ∀ (i : Nat) x y, xs[i]? = some x → ys[i]? = some y → Eqd H n x y
theorem Eqd.int (H : Hp) (n : Nat) (i : Int) : Eqd H n (.int i) (.int i) := by
  cases n with
  | zero => exact .inl ⟨i, rfl, rfl⟩
  | succ n => exact .inl ⟨i, rfl, rfl⟩
theorem Eqd.str (H : Hp) (n : Nat) (z : Str) : Eqd H n (.str z) (.str z) := by
  cases n with
  | zero => exact .inr ⟨z, rfl, rfl⟩
  | succ n => exact .inr (.inl ⟨z, rfl, rfl⟩)
theorem Eqd.key (H : Hp) (n : Nat) (r : Key) : Eqd H n (kV r) (kV r) := by
  cases r with
  | inl i => exact .int H n i
  | inr z => exact .str H n z
theorem Eqd.up {H H' : Hp} (e : Same H H') : ∀ {n : Nat} {v u : V}, Eqd H n v u → Eqd H' n v u
  | 0, _, _, h => h
  | n + 1, v, u, h => by
    rcases h with h | h | ⟨a, b, xs, ys, h1, h2, h3, h4, h5, h6⟩
    · exact .inl h
    · exact .inr (.inl h)
    · refine .inr (.inr ⟨a, b, xs, ys, h1, h2, ?_, h4, h5, fun i x y hx hy => (h6 i x y hx hy).up e⟩)
      rcases h3 with ⟨g1, g2⟩ | ⟨g1, g2⟩
      · exact .inl ⟨e _ _ g1, e _ _ g2⟩
      · exact .inr ⟨e _ _ g1, e _ _ g2⟩
theorem Eqd.more {H : Hp} : ∀ {n m : Nat} {v u : V}, n ≤ m → Eqd H n v u → Eqd H m v u
  | 0, m, _, _, _, h => by
    rcases h with ⟨i, rfl, rfl⟩ | ⟨z, rfl, rfl⟩
    · exact .int H m i
    · exact .str H m z
  | n + 1, 0, _, _, hl, _ => absurd hl (by omega)
  | n + 1, m + 1, _, _, hl, h => by
    rcases h with h | h | ⟨a, b, xs, ys, h1, h2, h3, h4, h5, h6⟩
    · exact .inl h
    · exact .inr (.inl h)
    · exact .inr (.inr ⟨a, b, xs, ys, h1, h2, h3, h4, h5, fun i x y hx hy => (h6 i x y hx hy).more (by omega)⟩)
/-- two lists of values, the same item by item -/
def EqL (H : Hp) (n : Nat) : List V → List V → Prop
  | [], [] => True
  | x :: xs, y :: ys => Eqd H n x y ∧ EqL H n xs ys
  | _, _ => False
theorem EqL.len {H : Hp} {n : Nat} : ∀ {xs ys : List V}, EqL H n xs ys → xs.length = ys.length
  | [], [], _ => rfl
  | _ :: _, _ :: _, h => by rw [List.length_cons, List.length_cons, h.2.len]
theorem EqL.get {H : Hp} {n : Nat} : ∀ {xs ys : List V}, EqL H n xs ys → ∀ (i : Nat) x y, xs[i]? = some x → ys[i]? = some y → Eqd H n x y
  | [], [], _, i, x, y, hx, _ => by cases hx
  | a :: xs, b :: ys, h, 0, x, y, hx, hy => by cases hx; cases hy; exact h.1
  | a :: xs, b :: ys, h, i + 1, x, y, hx, hy => h.2.get i x y (by simpa using hx) (by simpa using hy)
theorem EqL.app {H : Hp} {n : Nat} : ∀ {xs ys xs' ys' : List V}, EqL H n xs ys → EqL H n xs' ys' → EqL H n (xs ++ xs') (ys ++ ys')
  | [], [], _, _, _, h => h
  | _ :: _, _ :: _, _, _, h, k => ⟨h.1, h.2.app k⟩
theorem EqL.more {H : Hp} {n m : Nat} (hl : n ≤ m) : ∀ {xs ys : List V}, EqL H n xs ys → EqL H m xs ys
  | [], [], h => h
  | _ :: _, _ :: _, h => ⟨h.1.more hl, h.2.more hl⟩
theorem EqL.tup {H : Hp} {n : Nat} {a b : Addr} {xs ys : List V} (h : EqL H n xs ys) (ha : H a = some (.tup xs)) (hb : H b = some (.tup ys)) (hl : xs.length ≤ 2000) : Eqd H (n + 1) (.ref a) (.ref b) :=
  .inr (.inr ⟨a, b, xs, ys, rfl, rfl, .inl ⟨ha, hb⟩, h.len, hl, h.get⟩)
theorem FdV.eq {H : Hp} : ∀ {f : Fd} {v u : V}, FdV H f v → FdV H f u → Eqd H 2 v u
  | .i n, v, u, h, k => by rw [show v = _ from h, show u = _ from k]; exact .int H 2 n
  | .s z, v, u, h, k => by rw [show v = _ from h, show u = _ from k]; exact .str H 2 z
  | .p a b, _, _, ⟨t, rfl, h⟩, ⟨t', rfl, k⟩ => EqL.tup (xs := [.int a, .int b]) (ys := [.int a, .int b]) ⟨.int H 1 a, .int H 1 b, trivial⟩ h k (by simp)
  | .c z, _, _, ⟨t, a, b, rfl, h, ha, hb⟩, ⟨t', a', b', rfl, k, ka, kb⟩ =>
    EqL.tup (xs := [.str "menu", .ref a, .ref b]) (ys := [.str "menu", .ref a', .ref b']) ⟨.str H 1 _, EqL.tup (xs := [.str "word", .str "own"]) (ys := [.str "word", .str "own"]) ⟨.str H 0 _, .str H 0 _, trivial⟩ ha ka (by simp), EqL.tup (xs := [.str "word", .str z]) (ys := [.str "word", .str z]) ⟨.str H 0 _, .str H 0 _, trivial⟩ hb kb (by simp), trivial⟩ h k (by simp)
theorem FsV.eq {H : Hp} : ∀ {f : List Fd} {v u : List V}, FsV H f v → FsV H f u → EqL H 2 v u
  | [], _, _, h, k => by rw [show _ = _ from h, show _ = _ from k]; trivial
  | _ :: _, _, _, ⟨v, us, rfl, h2, h3⟩, ⟨v', us', rfl, k2, k3⟩ => ⟨h2.eq k2, h3.eq k3⟩
theorem rL_eq (H : Hp) (n : Nat) (r : Option Key) : EqL H n (rL r) (rL r) := by
  cases r with
  | none => trivial
  | some r => exact ⟨.key H n r, trivial⟩
theorem HdL.eq {H : Hp} {h : Hd} {xs ys : List V} : HdL H h xs → HdL H h ys → EqL H 2 xs ys := fun ⟨fs, e1, h1⟩ ⟨gs, e2, h2⟩ => by
  subst e1 e2
  exact ⟨.str H 2 _, (rL_eq H 2 _).app (h1.eq h2)⟩
theorem TrV.eq {H : Hp} : ∀ {t : Tr} {v u : V}, t.Ok → TrV H t v → TrV H t u → Eqd H (t.dep + 3) v u
  | .le h, _, _, o, ⟨t, xs, rfl, h2, h3⟩, ⟨t', xs', rfl, k2, k3⟩ => EqL.tup ((h3.eq k3).app (xs' := []) (ys' := []) trivial) h2 k2 (by have := h3.len o.1; have := fs_le h.k; simp only [List.length_append, List.length_nil]; omega)
  | .un h a, _, _, o, ⟨t, xs, x, rfl, h2, h3, h4⟩, ⟨t', xs', x', rfl, k2, k3, k4⟩ =>
    EqL.tup (n := a.dep + 3) (((h3.eq k3).more (by omega)).app (xs' := [x]) (ys' := [x']) ⟨TrV.eq o.2.2 h4 k4, trivial⟩) h2 k2 (by have := h3.len o.1; have := fs_le h.k; simp only [List.length_append, List.length_cons, List.length_nil]; omega)
  | .bi h a b, _, _, o, ⟨t, xs, x, y, rfl, h2, h3, h4, h5⟩, ⟨t', xs', x', y', rfl, k2, k3, k4, k5⟩ => by
    have e1 := TrV.eq o.2.2.1 h4 k4
    have e2 := TrV.eq o.2.2.2 h5 k5
    exact EqL.tup (n := max a.dep b.dep + 3) (((h3.eq k3).more (by omega)).app (xs' := [x, y]) (ys' := [x', y']) ⟨e1.more (by omega), e2.more (by omega), trivial⟩) h2 k2 (by have := h3.len o.1; have := fs_le h.k; simp only [List.length_append, List.length_cons, List.length_nil]; omega)
theorem keys_eq (H : Hp) (n : Nat) : ∀ l : List Key, EqL H n (l.map kV) (l.map kV)
  | [] => trivial
  | r :: l => ⟨.key H n r, keys_eq H n l⟩
section
variable {P : Program} {w : World} {K : PySem.W.Frag} {mg : Str → Option Value} {base : Heap}
def spSame (n : Nat) : Sp := fun vs H Q _ => ∃ v u, vs = [v, u] ∧ Eqd H n v u ∧ ∀ H', Same H H' → Q (.bl true) H'
theorem ok_sameS (n : Nat) (T : Top K mg "_law_same" s_same) (mIs : mg "isinstance" = none) (mStr : mg "str" = none) (mTup : mg "tuple" = none) (mList : mg "list" = none) (mLen : mg "len" = none) (mR : mg "range" = none) (FN : Fn P w K mg base 1 "_law_is_number" spNum)
    (F : ∀ m, n = m + 1 → Fn P w K mg base (m + 2) "_law_same" (spSame m)) : Fn P w K mg base (n + 2) "_law_same" (spSame n) := by
  refine fn_ok T sc_same so_same (fun vs H Q E h => by obtain ⟨v, u, rfl, _⟩ := h; rfl) (fun _ _ _ _ _ _ us hl => match us, hl with | [_, _], _ => rfl) fun f cdv A outer s H vs Q E hr h nd => ?_
  obtain ⟨v, u, rfl, hv, q⟩ := h
  have hsh : (∃ i, v = .int i ∧ u = .int i) ∨ (∃ z, v = .str z ∧ u = .str z) ∨ ∃ m a b xs ys, n = m + 1 ∧ v = .ref a ∧ u = .ref b ∧ ((H a = some (.tup xs) ∧ H b = some (.tup ys)) ∨ (H a = some (.lst xs) ∧ H b = some (.lst ys))) ∧ xs.length = ys.length ∧ xs.length ≤ 2000 ∧ ∀ (i : Nat) x y, xs[i]? = some x → ys[i]? = some y → Eqd H m x y := by
    cases n with
    | zero => rcases hv with h | h
              · exact .inl h
              · exact .inr (.inl h)
    | succ m => rcases hv with h | h | ⟨a, b, xs, ys, h⟩
                · exact .inl h
                · exact .inr (.inl h)
                · exact .inr (.inr ⟨m, a, b, xs, ys, rfl, h⟩)
  rcases hsh with ⟨i, rfl, rfl⟩ | ⟨z, rfl, rfl⟩ | ⟨m, a, b, xs, ys, rfl, rfl, rfl, hs, hl, hz, hi⟩
  · walk_at "sts"
    refine c_isi ty_int (.ty _) (kit_ty kb_int_str) ?_
    walk_at "sts"
    refine ⟨by show 2 ≤ sizeLine; decide, fun p H1 e1 n1 h1 => ?_⟩
    walk_at "sts"
    refine c_isiT ty_int h1 two_ty (kit2 kb_int_tuple kb_int_list) ?_
    walk_at "sts"
    refine e_call (by exact FN) (by exact hr) (by omega) ?_
    walk_at "sts"
    rw [decide_eq_true rfl]
    exact q H1 e1
  · walk_at "sts"
    refine c_isi ty_str (.ty _) (kit_ty kb_str_str) ?_
    walk_at "sts"
    refine c_isi ty_str (.ty _) (kit_ty kb_str_str) ?_
    walk_at "sts"
    rw [decide_eq_true rfl]
    exact q H (Same.refl H)
  · have F0 := F m rfl
    rcases hs with ⟨ha, hb⟩ | ⟨ha, hb⟩
    · walk_at "sts"
      refine c_isi (ty_tup hb) (.ty _) (kit_ty kb_tuple_str) ?_
      walk_at "sts"
      refine ⟨by show 2 ≤ sizeLine; decide, fun p1 H1 e1 n1 h1 => ?_⟩
      walk_at "sts"
      refine c_isiT (ty_tup (e1 _ _ hb)) h1 two_ty (kit2 kb_tuple_tuple kb_tuple_list) ?_
      walk_at "sts"
      refine ⟨by show 2 ≤ sizeLine; decide, fun p2 H2 e2 n2 h2 => ?_⟩
      have e12 := e1.trans e2
      walk_at "sts"
      refine c_isiT (ty_tup (e12 _ _ ha)) h2 two_ty (kit2 kb_tuple_tuple kb_tuple_list) ?_
      walk_at "sts"
      refine c_isi (ty_tup (e12 _ _ ha)) (.ty _) (kit_ty kb_tuple_list) ?_
      walk_at "sts"
      refine c_isi (ty_tup (e12 _ _ hb)) (.ty _) (kit_ty kb_tuple_list) ?_
      walk_at "sts"
      refine c_lenT (by exact SqT.of (e12 _ _ ha)) ?_
      walk_at "sts"
      refine c_lenT (by exact SqT.of (e12 _ _ hb)) ?_
      walk_at "sts"
      rw [decide_eq_true (show (xs.length : Int) = (ys.length : Int) by omega)]
      walk_at "sts"
      refine s_forR (by assumption) ?_
      walk_at "sts"
      refine c_lenT (by exact SqT.of (e12 _ _ hb)) ⟨ys.length, rfl, by omega, fun k σ H' => ∃ x, σ = [some (.ref a), some (.ref b), x] ∧ Same H H', ⟨none, rfl, e12⟩, ?_, ?_⟩
      · intro k σ H3 hk pr
        obtain ⟨x, rfl, e3⟩ := pr
        show wL _ _ _ [some (.ref a), some (.ref b), some (.int (k : Int))] _
        have hx : xs[k]? = some xs[k] := List.getElem?_eq_getElem (by omega)
        have hy : ys[k]? = some ys[k] := List.getElem?_eq_getElem hk
        refine l_cons (s_if (t_not (t_val ?_)))
        refine e_call (by exact F0) (by exact hr) (by omega) ?_
        walk_at "sts"
        refine ix_t (by exact SqT.of (e3 _ _ ha)) (atI_nat hx) ?_
        walk_at "sts"
        refine ix_t (by exact SqT.of (e3 _ _ hb)) (atI_nat hy) ?_
        walk_at "sts"
        refine ⟨xs[k], ys[k], rfl, (hi k _ _ hx hy).up e3, fun H4 e4 => ⟨_, rfl, iteF (l_nil (l_nil ⟨_, rfl, e3.trans e4⟩))⟩⟩
      · intro σ H3 pr
        obtain ⟨x, rfl, e3⟩ := pr
        walk_at "sts"
        exact q H3 e3
    · walk_at "sts"
      refine c_isi (ty_lst hb) (.ty _) (kit_ty kb_list_str) ?_
      walk_at "sts"
      refine ⟨by show 2 ≤ sizeLine; decide, fun p1 H1 e1 n1 h1 => ?_⟩
      walk_at "sts"
      refine c_isiT (ty_lst (e1 _ _ hb)) h1 two_ty (kit2 kb_list_tuple kb_list_list) ?_
      walk_at "sts"
      refine ⟨by show 2 ≤ sizeLine; decide, fun p2 H2 e2 n2 h2 => ?_⟩
      have e12 := e1.trans e2
      walk_at "sts"
      refine c_isiT (ty_lst (e12 _ _ ha)) h2 two_ty (kit2 kb_list_tuple kb_list_list) ?_
      walk_at "sts"
      refine c_isi (ty_lst (e12 _ _ ha)) (.ty _) (kit_ty kb_list_list) ?_
      walk_at "sts"
      refine c_isi (ty_lst (e12 _ _ hb)) (.ty _) (kit_ty kb_list_list) ?_
      walk_at "sts"
      refine c_lenL (by exact SqL.of (e12 _ _ ha)) ?_
      walk_at "sts"
      refine c_lenL (by exact SqL.of (e12 _ _ hb)) ?_
      walk_at "sts"
      rw [decide_eq_true (show (xs.length : Int) = (ys.length : Int) by omega)]
      walk_at "sts"
      refine s_forR (by assumption) ?_
      walk_at "sts"
      refine c_lenL (by exact SqL.of (e12 _ _ hb)) ⟨ys.length, rfl, by omega, fun k σ H' => ∃ x, σ = [some (.ref a), some (.ref b), x] ∧ Same H H', ⟨none, rfl, e12⟩, ?_, ?_⟩
      · intro k σ H3 hk pr
        obtain ⟨x, rfl, e3⟩ := pr
        show wL _ _ _ [some (.ref a), some (.ref b), some (.int (k : Int))] _
        have hx : xs[k]? = some xs[k] := List.getElem?_eq_getElem (by omega)
        have hy : ys[k]? = some ys[k] := List.getElem?_eq_getElem hk
        refine l_cons (s_if (t_not (t_val ?_)))
        refine e_call (by exact F0) (by exact hr) (by omega) ?_
        walk_at "sts"
        refine ix_l (by exact SqL.of (e3 _ _ ha)) (atI_nat hx) ?_
        walk_at "sts"
        refine ix_l (by exact SqL.of (e3 _ _ hb)) (atI_nat hy) ?_
        walk_at "sts"
        refine ⟨xs[k], ys[k], rfl, (hi k _ _ hx hy).up e3, fun H4 e4 => ⟨_, rfl, iteF (l_nil (l_nil ⟨_, rfl, e3.trans e4⟩))⟩⟩
      · intro σ H3 pr
        obtain ⟨x, rfl, e3⟩ := pr
        walk_at "sts"
        exact q H3 e3
theorem ok_same (T : Top K mg "_law_same" s_same) (mIs : mg "isinstance" = none) (mStr : mg "str" = none) (mTup : mg "tuple" = none) (mList : mg "list" = none) (mLen : mg "len" = none) (mR : mg "range" = none) (FN : Fn P w K mg base 1 "_law_is_number" spNum) : ∀ n, Fn P w K mg base (n + 2) "_law_same" (spSame n)
  | 0 => ok_sameS 0 T mIs mStr mTup mList mLen mR FN fun m h => by cases h
  | n + 1 => ok_sameS (n + 1) T mIs mStr mTup mList mLen mR FN fun m h => by cases h; exact ok_same T mIs mStr mTup mList mLen mR FN n
end


/-! ### the ring turns back -/
abbrev nms12 : List Str := ["x", "own", "left", "take", "h2", "cite", "once", "zz9", "k", "pay", "cut", "abcdefgh1234"]
def GoodR : Key → Prop
  | .inl i => 0 ≤ i
  | .inr z => z ∈ nms12
/-! ### derivations drawn -/
def WayAt (H : Hp) (wa p : Addr) : Prop := ∃ n : Int, H wa = some (.dK [(Sum.inr "pool", .ref p), (Sum.inr "offers", .int n)])
structure Fr (p wa : Addr) (H H' : Hp) : Prop where
  bt : But2 p wa H H'
  pl : PoolAt H' p
  wy : WayAt H' wa p
theorem PoolAt.same {H H' : Hp} {p : Addr} (h : PoolAt H p) (e : Same H H') : PoolAt H' p := let ⟨x, y, z, w⟩ := h; ⟨x, y, z, e _ _ w⟩
theorem WayAt.same {H H' : Hp} {wa p : Addr} (h : WayAt H wa p) (e : Same H H') : WayAt H' wa p := let ⟨n, w⟩ := h; ⟨n, e _ _ w⟩
theorem Fr.same {p wa : Addr} {H H1 H2 : Hp} (f : Fr p wa H H1) (e : Same H1 H2) : Fr p wa H H2 := ⟨fun c o c1 c2 hc => e _ _ (f.bt c o c1 c2 hc), f.pl.same e, f.wy.same e⟩
theorem Fr.next {p wa : Addr} {H H1 H2 : Hp} (f : Fr p wa H H1) (n : wa ≠ p) (b : But p H1 H2) (h : PoolAt H2 p) : Fr p wa H H2 := ⟨fun c o c1 c2 hc => b _ _ c1 (f.bt c o c1 c2 hc), h, let ⟨k, w⟩ := f.wy; ⟨k, b _ _ n w⟩⟩
theorem Fr.trans {p wa : Addr} {H H1 H2 : Hp} (f : Fr p wa H H1) (g : Fr p wa H1 H2) : Fr p wa H H2 := ⟨fun c o c1 c2 hc => g.bt c o c1 c2 (f.bt c o c1 c2 hc), g.pl, g.wy⟩
theorem Fr.refl {p wa : Addr} {H : Hp} (h : PoolAt H p) (w : WayAt H wa p) : Fr p wa H H := ⟨fun _ _ _ _ z => z, h, w⟩
theorem Fr.ts {p wa : Addr} {H H' : Hp} (f : Fr p wa H H') (h : PoolAt H p) (w : WayAt H wa p) : TS H H' := fun c xs hc =>
  f.bt c _ (fun z => by subst z; obtain ⟨_, _, _, e⟩ := h; rw [hc] at e; cases e) (fun z => by subst z; obtain ⟨_, e⟩ := w; rw [hc] at e; cases e) hc
theorem WayAt.ne {H : Hp} {wa p : Addr} (w : WayAt H wa p) (h : PoolAt H p) : wa ≠ p := fun z => by
  subst z
  obtain ⟨_, e⟩ := w
  obtain ⟨_, _, _, e2⟩ := h
  rw [e] at e2
  cases e2
def GoodT (t : Tr) : Prop := t.Ok ∧ ∀ h ∈ hds t, ∀ r, h.r = some r → GoodR r
theorem nm_at {j : Nat} (h : j < 12) : ∃ z : Str, ([V.str "x", V.str "own", V.str "left", V.str "take", V.str "h2", V.str "cite", V.str "once", V.str "zz9", V.str "k", V.str "pay", V.str "cut", V.str "abcdefgh1234"] : List V)[j]? = some (.str z) ∧ z ∈ nms12 := by
  have hl : j < nms12.length := h
  refine ⟨nms12[j], ?_, List.getElem_mem hl⟩
  show (nms12.map V.str)[j]? = _
  rw [List.getElem?_map, List.getElem?_eq_getElem hl]
  rfl
section
variable {P : Program} {w : World} {K : PySem.W.Frag} {mg : Str → Option Value} {base : Heap}
def ModeF (f : Fd) : Prop := f = .s "once" ∨ ∃ a b, f = .p a b ∧ 1 ≤ a ∧ a ≤ 3
def spMode : Sp := fun vs H Q _ => ∃ p room, vs = [.ref p, .int room] ∧ PoolAt H p ∧ ∀ f v H', But p H H' → PoolAt H' p → FdV H' f v → ModeF f → Q v H'
theorem ok_mode (T : Top K mg "_law_mode" s_mode) (FN : Fn P w K mg base 1 "_law_next" spNext) : Fn P w K mg base 2 "_law_mode" spMode := by
  refine fn_ok T sc_mode so_mode (fun vs H Q E h => by obtain ⟨p, room, rfl, _⟩ := h; rfl) (fun _ _ _ _ _ _ us hl => match us, hl with | [_, _], _ => rfl) fun f cdv A outer s H vs Q E hr h nd => ?_
  obtain ⟨p, room, rfl, hp, q⟩ := h
  refine l_cons (s_set (e_tup (a_cons (e_bin (e_int (e_call (by exact FN) (by exact hr) (by decide) ?_))))))
  walk_at "sts"
  refine ⟨p, 3, rfl, by decide, by decide, hp, fun d0 H0 a0 a1 b0 p0 => ?_⟩
  walk_at "sts"
  refine e_call (by exact FN) (by exact hr) (by decide) ?_
  walk_at "sts"
  refine ⟨p, 4, rfl, by decide, by decide, p0, fun d1 H1 c0 c1 b1 p1 => ?_⟩
  walk_at "sts"
  refine ⟨by show 2 ≤ sizeLine; decide, fun t H2 e2 n2 h2 => ?_⟩
  have b2 : But p H H2 := fun c o nc hc => e2 _ _ (b1 _ _ nc (b0 _ _ nc hc))
  have p2 := p1.same e2
  have ntp : t ≠ p := fun z => by subst z; obtain ⟨_, _, _, e⟩ := p1; rw [n2] at e; cases e
  show wL _ _ _ [some (.ref p), some (.int room), some (.ref t)] _
  refine l_cons (s_if (t_w (w_or (t_cmp (e_call (by exact FN) (by exact hr) (by decide) ?_)))))
  walk_at "sts"
  refine ⟨p, 2, rfl, by decide, by decide, p2, fun d3 H3 _ _ b3 p3 => ?_⟩
  have b03 := b2.trans b3
  have h3 := b3 _ _ ntp h2
  walk_at "sts"
  have no : ∀ Q2 : VK, (Q2 = Q) → Q2 (.str "once") H3 := fun Q2 e => by rw [e]; exact q (.s "once") _ H3 b03 p3 rfl (.inl rfl)
  refine if2 (fun _ => ?_) (fun _ => ?_)
  · walk_at "sts"
    exact no Q rfl
  · walk_at "sts"
    refine ix_t (by exact SqT.of h3) at0 ?_
    walk_at "sts"
    refine if2 (fun _ => ?_) (fun _ => ?_)
    · walk_at "sts"
      exact no Q rfl
    · walk_at "sts"
      exact q (.p (1 + d0) d1) _ H3 b03 p3 ⟨t, rfl, h3⟩ (.inr ⟨_, _, rfl, by omega, by omega⟩)
def spDraw (n : Nat) : Sp := fun vs H Q _ => ∃ wa p many lv room, vs = [.ref wa, .int ((many : Nat) : Int), .int lv, .int room] ∧ WayAt H wa p ∧ PoolAt H p ∧ 1 ≤ many ∧ many ≤ n ∧ 0 ≤ lv ∧ lv + many ≤ 1000 ∧ ∀ v t H', Fr p wa H H' → TrV H' t v → GoodT t → t.size ≤ many → Q v H'
def spOne (n : Nat) : Sp := fun vs H Q _ => ∃ wa p many lv room z r wh, vs = [.ref wa, .int ((many : Nat) : Int), .int lv, .int room, .str z, kV r, .int ((wh : Nat) : Int)] ∧ WayAt H wa p ∧ PoolAt H p ∧ 1 ≤ many ∧ many ≤ n ∧ 0 ≤ lv ∧ lv + 1 + many ≤ 1000 ∧ GoodR r ∧ ∀ v t H', Fr p wa H H' → TrV H' t v → GoodT t → t.size ≤ many + 1 → Q v H'
theorem good_un {h : Hd} {a : Tr} (ho : h.Ok) (hp : h.k.pr = 1) (hr : ∀ r, h.r = some r → GoodR r) (g : GoodT a) : GoodT (.un h a) :=
  ⟨⟨ho, hp, g.1⟩, fun x hx => by
    rcases List.mem_cons.mp hx with rfl | hx
    · exact hr
    · exact g.2 x hx⟩
theorem good_bi {h : Hd} {a b : Tr} (ho : h.Ok) (hp : h.k.pr = 2) (hr : ∀ r, h.r = some r → GoodR r) (g : GoodT a) (g2 : GoodT b) : GoodT (.bi h a b) :=
  ⟨⟨ho, hp, g.1, g2.1⟩, fun x hx => by
    rcases List.mem_cons.mp hx with rfl | hx
    · exact hr
    · rcases List.mem_append.mp hx with hx | hx
      · exact g.2 x hx
      · exact g2.2 x hx⟩
theorem ok_one (n : Nat) (T : Top K mg "_law_free_one" s_free_one) (mInt : mg "int" = none) (FN : Fn P w K mg base 1 "_law_next" spNext) (FD : Fn P w K mg base (2 * n + 3) "_law_free" (spDraw n)) : Fn P w K mg base (2 * n + 4) "_law_free_one" (spOne n) := by
  refine fn_ok T sc_free_one so_free_one (fun vs H Q E h => by obtain ⟨wa, p, many, lv, room, z, r, wh, rfl, _⟩ := h; rfl) (fun _ _ _ _ _ _ us hl => match us, hl with | [_, _, _, _, _, _, _], _ => rfl) fun f cdv A outer s H vs Q E hr h nd => ?_
  obtain ⟨wa, p, many, lv, room, z, r, wh, rfl, hw, hp, hm1, hmn, hlv, hlm, hr0, q⟩ := h
  have nwp := hw.ne hp
  obtain ⟨off, hw0⟩ := id hw
  refine l_cons (s_set (e_call (by exact FN) (by exact hr) (by omega) ?_))
  refine a_cons (e_ix (e_var (e_str ?_)))
  refine ix_d (by exact hr) ⟨wa, .ref p, rfl, dg_k hw0 (by rfl), ?_⟩
  walk_at "sts"
  refine ⟨p, 3, rfl, by decide, by decide, hp, fun d0 H0 a0 a1 b0 p0 => ?_⟩
  have f0 := (Fr.refl hp hw).next nwp b0 p0
  show wL _ _ _ [some (.ref wa), some (.int (many : Int)), some (.int lv), some (.int room), some (.str z), some (kV r), some (.int (wh : Int)), some (.int d0), none] _
  walk_at "sts"
  refine if2 (fun _ => ?_) (fun _ => ?_)
  · refine l_cons (s_ret (e_tup (a_cons (e_str (a_cons (e_var (a_cons (e_var (a_cons ?_))))))))) 
    refine e_call (by exact FD) (by exact hr) (by omega) ?_
    walk_at "sts"
    refine ⟨wa, p, many, lv, room, rfl, f0.wy, f0.pl, hm1, hmn, hlv, by omega, fun v t H1 f1 hv hg hs => ?_⟩
    refine a_nil ⟨by show 4 ≤ sizeLine; decide, fun t2 H2 e2 n2 h2 => ?_⟩
    refine q _ (.un ⟨.make, none, [.s z, .i d0]⟩ t) H2 ((f0.trans f1).same e2) ⟨t2, [.str "make", .str z, .int d0], v, rfl, h2, ⟨[.str z, .int d0], rfl, ⟨_, _, rfl, rfl, _, _, rfl, rfl, rfl⟩⟩, hv.ts (Same.ts e2)⟩ (good_un ⟨rfl, rfl⟩ rfl (fun r h => by cases h) hg) ?_
    show t.size + 1 ≤ _
    omega
  · refine l_nil ?_
    refine l_cons (s_set (e_call (by exact FD) (by exact hr) (by omega) ?_))
    walk_at "sts"
    refine ⟨wa, p, many, lv + 1, room, rfl, f0.wy, f0.pl, hm1, hmn, by omega, by omega, fun v t H1 f1 hv hg hs => ?_⟩
    show wL _ _ _ [some (.ref wa), some (.int (many : Int)), some (.int lv), some (.int room), some (.str z), some (kV r), some (.int (wh : Int)), some (.int d0), some v] _
    have f01 := f0.trans f1
    walk_at "sts"
    refine if2 (fun _ => ?_) (fun _ => ?_)
    · walk_at "sts"
      refine ⟨by show 2 ≤ sizeLine; decide, fun t2 H2 e2 n2 h2 => ?_⟩
      refine q _ (.un ⟨.take, none, []⟩ t) H2 (f01.same e2) ⟨t2, [.str "take"], v, rfl, h2, ⟨[], rfl, rfl⟩, hv.ts (Same.ts e2)⟩ (good_un ⟨rfl, rfl⟩ rfl (fun r h => by cases h) hg) ?_
      show t.size + 1 ≤ _
      omega
    · walk_at "sts"
      refine if2 (fun _ => ?_) (fun _ => ?_)
      · refine l_cons (s_ret (e_tup (a_cons (e_str (a_cons (e_var (a_cons (e_ix ?_))))))))
        walk_at "sts"
        refine ⟨by show 2 ≤ sizeLine; decide, fun l2 H2 e2 n2 h2 => ?_⟩
        walk_at "sts"
        refine o_mod (by decide) ?_
        have hd : ∃ y : Str, atI ([V.str "left", V.str "right"] : List V) (d0 % 2) = some (.str y) := by
          have h1 := Int.emod_nonneg d0 (show (2 : Int) ≠ 0 by decide)
          have h2 := Int.emod_lt_of_pos d0 (show (0 : Int) < 2 by decide)
          rcases (show d0 % 2 = 0 ∨ d0 % 2 = 1 by omega) with e | e
          · rw [e]; exact ⟨_, at0⟩
          · rw [e]; exact ⟨_, at1⟩
        obtain ⟨y, hy⟩ := hd
        refine ix_l (by exact SqL.of h2) hy ?_
        walk_at "sts"
        refine ⟨by show 4 ≤ sizeLine; decide, fun t3 H3 e3 n3 h3 => ?_⟩
        refine q _ (.un ⟨.pick, some r, [.s y]⟩ t) H3 ((f01.same e2).same e3) ⟨t3, [.str "pick", kV r, .str y], v, rfl, h3, ⟨[.str y], rfl, ⟨_, _, rfl, rfl, rfl⟩⟩, hv.ts (Same.ts (e2.trans e3))⟩ (good_un ⟨rfl, rfl⟩ rfl (fun r' h => by cases h; exact hr0) hg) ?_
        show t.size + 1 ≤ _
        omega
      · walk_at "sts"
        refine ⟨by show 5 ≤ sizeLine; decide, fun t2 H2 e2 n2 h2 => ?_⟩
        refine q _ (.un ⟨.open_, some r, [.s z, .i d0]⟩ t) H2 (f01.same e2) ⟨t2, [.str "open", kV r, .str z, .int d0], v, rfl, h2, ⟨[.str z, .int d0], rfl, ⟨_, _, rfl, rfl, _, _, rfl, rfl, rfl⟩⟩, hv.ts (Same.ts e2)⟩ (good_un ⟨rfl, rfl⟩ rfl (fun r' h => by cases h; exact hr0) hg) ?_
        show t.size + 1 ≤ _
        omega
end


theorem once_shaped : SeqAt.shaped (.str "once") = true := by decide +kernel
theorem good_le {h : Hd} (ho : h.Ok) (hp : h.k.pr = 0) (hr : ∀ r, h.r = some r → GoodR r) : GoodT (.le h) := ⟨⟨ho, hp⟩, fun x hx => by rw [List.mem_singleton.mp hx]; exact hr⟩
section
variable {P : Program} {w : World} {K : PySem.W.Frag} {mg : Str → Option Value} {base : Heap}
def spTwo (n : Nat) : Sp := fun vs H Q _ => ∃ wa p many lv room z r wh, vs = [.ref wa, .int ((many : Nat) : Int), .int lv, .int room, .str z, kV r, .int ((wh : Nat) : Int)] ∧ WayAt H wa p ∧ PoolAt H p ∧ 2 ≤ many ∧ many ≤ n + 1 ∧ 0 ≤ lv ∧ lv + 1 + many ≤ 1000 ∧ GoodR r ∧ ∀ v t H', Fr p wa H H' → TrV H' t v → GoodT t → t.size ≤ many + 1 → Q v H'
theorem ok_two (n : Nat) (T : Top K mg "_law_free_two" s_free_two) (FN : Fn P w K mg base 1 "_law_next" spNext) (FM : Fn P w K mg base 2 "_law_mode" spMode) (FD : Fn P w K mg base (2 * n + 3) "_law_free" (spDraw n)) : Fn P w K mg base (2 * n + 4) "_law_free_two" (spTwo n) := by
  refine fn_ok T sc_free_two so_free_two (fun vs H Q E h => by obtain ⟨wa, p, many, lv, room, z, r, wh, rfl, _⟩ := h; rfl) (fun _ _ _ _ _ _ us hl => match us, hl with | [_, _, _, _, _, _, _], _ => rfl) fun f cdv A outer s H vs Q E hr h nd => ?_
  obtain ⟨wa, p, many, lv, room, z, r, wh, rfl, hw, hp, hm1, hmn, hlv, hlm, hr0, q⟩ := h
  have nwp := hw.ne hp
  obtain ⟨off, hw0⟩ := id hw
  refine l_cons (s_set (e_ix (e_var (e_str ?_))))
  refine ix_d (by exact hr) ⟨wa, .ref p, rfl, dg_k hw0 (by rfl), ?_⟩
  show wL _ _ _ [some (.ref wa), some (.int (many : Int)), some (.int lv), some (.int room), some (.str z), some (kV r), some (.int (wh : Int)), some (.ref p), none, none, none, none, none] _
  refine l_cons (s_set (e_bin (e_int (e_call (by exact FN) (by exact hr) (by omega) ?_))))
  walk_at "sts"
  refine ⟨p, (many : Int) - 1, rfl, by omega, by omega, hp, fun d0 H0 a0 a1 b0 p0 => ?_⟩
  have f0 := (Fr.refl hp hw).next nwp b0 p0
  obtain ⟨k0, rfl⟩ := Int.eq_ofNat_of_zero_le a0
  have ef : (1 : Int) + (k0 : Int) = ((1 + k0 : Nat) : Int) := by omega
  have es : (many : Int) - ((1 + k0 : Nat) : Int) = ((many - (1 + k0) : Nat) : Int) := by omega
  refine o_add ?_
  rw [ef]
  show wL _ _ _ [some (.ref wa), some (.int (many : Int)), some (.int lv), some (.int room), some (.str z), some (kV r), some (.int (wh : Int)), some (.ref p), some (.int ((1 + k0 : Nat) : Int)), none, none, none, none] _
  refine l_cons (s_set (e_call (by exact FM) (by exact hr) (by omega) ?_))
  walk_at "sts"
  refine ⟨p, room, rfl, p0, fun fm mv H1 b1 p1 hmv hmf => ?_⟩
  have f1 := f0.next nwp b1 p1
  show wL _ _ _ [some (.ref wa), some (.int (many : Int)), some (.int lv), some (.int room), some (.str z), some (kV r), some (.int (wh : Int)), some (.ref p), some (.int ((1 + k0 : Nat) : Int)), some mv, none, none, none] _
  have rest : ∀ H2, Fr p wa H H2 → FdV H2 fm mv → wL (cxOf CX0 P w K mg base N_free_two "_law_free_two" (defScope s_free_two) f cdv A outer s H E).nox ((defBody s_free_two).drop 4) { nx := fun _ H' => Q .non H', rt := Q } [some (.ref wa), some (.int (many : Int)), some (.int lv), some (.int room), some (.str z), some (kV r), some (.int (wh : Int)), some (.ref p), some (.int ((1 + k0 : Nat) : Int)), some mv, none, none, none] H2 := by
    intro H2 f2 hm2
    have rest2 : ∀ (inner : Int), wL (cxOf CX0 P w K mg base N_free_two "_law_free_two" (defScope s_free_two) f cdv A outer s H E).nox ((defBody s_free_two).drop 6) { nx := fun _ H' => Q .non H', rt := Q } [some (.ref wa), some (.int (many : Int)), some (.int lv), some (.int room), some (.str z), some (kV r), some (.int (wh : Int)), some (.ref p), some (.int ((1 + k0 : Nat) : Int)), some mv, none, some (.int inner), none] H2 := by
      intro inner
      refine l_cons (s_set (e_call (by exact FD) (by exact hr) (by omega) ?_))
      walk_at "sts"
      refine ⟨wa, p, 1 + k0, lv, inner, rfl, f2.wy, f2.pl, by omega, by omega, hlv, by omega, fun v1 t1 H3 f3 hv1 hg1 hs1 => ?_⟩
      have f23 := f2.trans f3
      show wL _ _ _ [some (.ref wa), some (.int (many : Int)), some (.int lv), some (.int room), some (.str z), some (kV r), some (.int (wh : Int)), some (.ref p), some (.int ((1 + k0 : Nat) : Int)), some mv, some v1, some (.int inner), none] _
      refine l_cons (s_set (e_call (by exact FD) (by exact hr) (by omega) ?_))
      walk_at "sts"
      rw [es]
      refine ⟨wa, p, many - (1 + k0), lv + 1, room, rfl, f23.wy, f23.pl, by omega, by omega, by omega, by omega, fun v2 t2 H4 f4 hv2 hg2 hs2 => ?_⟩
      have f24 := f23.trans f4
      have hv1' := hv1.ts (f4.ts f23.pl f23.wy)
      have hm4 := hm2.ts ((f3.trans f4).ts f2.pl f2.wy)
      show wL _ _ _ [some (.ref wa), some (.int (many : Int)), some (.int lv), some (.int room), some (.str z), some (kV r), some (.int (wh : Int)), some (.ref p), some (.int ((1 + k0 : Nat) : Int)), some mv, some v1, some (.int inner), some v2] _
      refine l_cons (s_if (t_cmp ?_))
      walk_at "sts"
      refine if2 (fun _ => ?_) (fun _ => ?_)
      · walk_at "sts"
        refine ⟨by show 2 ≤ sizeLine; decide, fun w1 H5 e5 n5 h5 => ?_⟩
        walk_at "sts"
        refine ⟨by show 2 ≤ sizeLine; decide, fun w2 H6 e6 n6 h6 => ?_⟩
        walk_at "sts"
        refine ⟨by show 3 ≤ sizeLine; decide, fun w3 H7 e7 n7 h7 => ?_⟩
        walk_at "sts"
        refine ⟨by show 5 ≤ sizeLine; decide, fun w4 H8 e8 n8 h8 => ?_⟩
        have e48 := ((e5.trans e6).trans e7).trans e8
        have hc : FdV H8 (.c z) (.ref w3) := ⟨w3, w1, w2, rfl, e8 _ _ h7, e8 _ _ (e7 _ _ (e6 _ _ h5)), e8 _ _ (e7 _ _ h6)⟩
        refine q _ (.bi ⟨.cut, none, [fm, .c z]⟩ t1 t2) H8 (f24.same e48) ⟨w4, [.str "cut", mv, .ref w3], v1, v2, rfl, h8, ⟨[mv, .ref w3], rfl, ⟨_, _, rfl, hm4.ts (Same.ts e48), _, _, rfl, hc, rfl⟩⟩, hv1'.ts (Same.ts e48), hv2.ts (Same.ts e48)⟩ (good_bi ⟨rfl, rfl⟩ rfl (fun r h => by cases h) hg1 hg2) ?_
        show t1.size + t2.size + 1 ≤ _
        omega
      · walk_at "sts"
        refine ⟨by show 5 ≤ sizeLine; decide, fun w4 H8 e8 n8 h8 => ?_⟩
        refine q _ (.bi ⟨.pay, some r, [fm]⟩ t1 t2) H8 (f24.same e8) ⟨w4, [.str "pay", kV r, mv], v1, v2, rfl, h8, ⟨[mv], rfl, ⟨_, _, rfl, hm4.ts (Same.ts e8), rfl⟩⟩, hv1'.ts (Same.ts e8), hv2.ts (Same.ts e8)⟩ (good_bi ⟨rfl, rfl⟩ rfl (fun r' h => by cases h; exact hr0) hg1 hg2) ?_
        show t1.size + t2.size + 1 ≤ _
        omega
    refine l_cons (s_set (e_var ?_))
    show wL _ _ _ [some (.ref wa), some (.int (many : Int)), some (.int lv), some (.int room), some (.str z), some (kV r), some (.int (wh : Int)), some (.ref p), some (.int ((1 + k0 : Nat) : Int)), some mv, none, some (.int room), none] _
    refine l_cons (s_if (t_cmp (e_var (e_str ?_))))
    rcases hmf with rfl | ⟨a, b, rfl, ha1, ha3⟩
    · rw [show mv = _ from hm2]
      refine o_neS ⟨_, rfl, iteF (l_nil ?_)⟩
      rw [← (show mv = _ from hm2)]
      exact rest2 room
    · obtain ⟨mt, rfl, hmt⟩ := id hm2
      refine o_neD (by exact hr) (.tup (SqT.of hmt) (.cons (.int _) (.cons (.int _) .nil))) (.str _) rfl once_shaped ⟨_, rfl, iteT ?_⟩
      refine l_cons (s_set (e_bin (e_var (e_ix (e_var (e_int ?_))))))
      refine ix_t (by exact SqT.of hmt) at0 ?_
      refine o_fdiv ⟨by omega, by omega⟩ (l_nil ?_)
      exact rest2 _
  have hmv1 := hmv
  refine l_cons (s_if (t_w (w_and (t_cmp ?_))))
  walk_at "sts"
  refine ⟨by show 2 ≤ sizeLine; decide, fun tp H2 e2 n2 h2 => ?_⟩
  have f2 := f1.same e2
  refine o_inT (by exact SqT.of h2) rfl rfl ⟨_, rfl, ?_⟩
  cases inV (.int (wh : Int)) [V.int 0, V.int 3] with
  | false => exact iteF (iteF (l_nil (rest H2 f2 (hmv1.ts (Same.ts e2)))))
  | true =>
    refine iteT (w_and1 (t_cmp (e_ix (e_var (e_str ?_)))))
    obtain ⟨off2, hw2⟩ := f2.wy
    refine ix_d (by exact hr) ⟨wa, .int off2, rfl, dg_k hw2 (by rfl), ?_⟩
    walk_at "sts"
    refine if2 (fun _ => ?_) (fun _ => l_nil (rest H2 f2 (hmv1.ts (Same.ts e2))))
    refine l_cons (s_dput (hu_of hr) (e_bin (e_ix (e_var (e_str ?_)))))
    refine ix_d (by exact hr) ⟨wa, .int off2, rfl, dg_k hw2 (by rfl), ?_⟩
    walk_at "sts"
    refine ⟨wa, _, rfl, .inl ⟨_, Sum.inr "offers", hw2, rfl, by show 2 < 2 ^ 24; decide, rfl⟩, ?_⟩
    have f3 : Fr p wa H (upd H2 wa (.dK (putK [(Sum.inr "pool", .ref p), (Sum.inr "offers", .int off2)] (Sum.inr "offers") (.int (off2 - 1))))) := ⟨fun c o c1 c2 hc => by rw [upd_ne c2]; exact f2.bt c o c1 c2 hc, let ⟨x, y, z, e⟩ := f2.pl; ⟨x, y, z, by rw [upd_ne (Ne.symm nwp)]; exact e⟩, ⟨off2 - 1, by rw [upd_same]; rfl⟩⟩
    generalize upd H2 wa (.dK (putK [(Sum.inr "pool", .ref p), (Sum.inr "offers", .int off2)] (Sum.inr "offers") (.int (off2 - 1)))) = H3 at f3 ⊢
    refine l_cons (s_set (e_call (by exact FD) (by exact hr) (by omega) ?_))
    walk_at "sts"
    refine ⟨wa, p, 1 + k0, lv, room, rfl, f3.wy, f3.pl, by omega, by omega, hlv, by omega, fun v1 t1 H4 f4 hv1 hg1 hs1 => ?_⟩
    have f34 := f3.trans f4
    refine l_cons (s_ret (e_tup (a_cons (e_str (a_cons (e_var (a_cons ?_)))))))
    refine e_call (by exact FD) (by exact hr) (by omega) ?_
    walk_at "sts"
    rw [es]
    refine ⟨wa, p, many - (1 + k0), lv, room, rfl, f34.wy, f34.pl, by omega, by omega, hlv, by omega, fun v2 t2 H5 f5 hv2 hg2 hs2 => ?_⟩
    have f35 := f34.trans f5
    have hv1' := hv1.ts (f5.ts f34.pl f34.wy)
    refine a_nil ⟨by show 3 ≤ sizeLine; decide, fun w4 H8 e8 n8 h8 => ?_⟩
    refine q _ (.bi ⟨.offer, none, []⟩ t1 t2) H8 (f35.same e8) ⟨w4, [.str "offer"], v1, v2, rfl, h8, ⟨[], rfl, rfl⟩, hv1'.ts (Same.ts e8), hv2.ts (Same.ts e8)⟩ (good_bi ⟨rfl, rfl⟩ rfl (fun r h => by cases h) hg1 hg2) ?_
    show t1.size + t2.size + 1 ≤ _
    omega
end


section
variable {P : Program} {w : World} {K : PySem.W.Frag} {mg : Str → Option Value} {base : Heap}
theorem ok_freeS (n : Nat) (T : Top K mg "_law_free" s_free) (mInt : mg "int" = none) (FN : Fn P w K mg base 1 "_law_next" spNext) (F1 : ∀ m, n = m + 1 → Fn P w K mg base (2 * m + 4) "_law_free_one" (spOne m)) (F2 : ∀ m, n = m + 1 → Fn P w K mg base (2 * m + 4) "_law_free_two" (spTwo m)) : Fn P w K mg base (2 * n + 3) "_law_free" (spDraw n) := by
  refine fn_ok T sc_free so_free (fun vs H Q E h => by obtain ⟨wa, p, many, lv, room, rfl, _⟩ := h; rfl) (fun _ _ _ _ _ _ us hl => match us, hl with | [_, _, _, _], _ => rfl) fun f cdv A outer s H vs Q E hr h nd => ?_
  obtain ⟨wa, p, many, lv, room, rfl, hw, hp, hm1, hmn, hlv, hlm, q⟩ := h
  have nwp := hw.ne hp
  obtain ⟨m, rfl⟩ : ∃ m, n = m + 1 := ⟨n - 1, by omega⟩
  obtain ⟨off, hw0⟩ := id hw
  refine l_cons (s_set (e_ix (e_var (e_str ?_))))
  refine ix_d (by exact hr) ⟨wa, .ref p, rfl, dg_k hw0 (by rfl), ?_⟩
  show wL _ _ _ [some (.ref wa), some (.int (many : Int)), some (.int lv), some (.int room), some (.ref p), none, none, none, none] _
  walk_at "sts"
  refine ⟨by show 12 ≤ sizeLine; decide, fun nl H0 e0 n0 h0 => ?_⟩
  have f0 := (Fr.refl hp hw).same e0
  have nnp : nl ≠ p := fun z => by subst z; obtain ⟨_, _, _, e⟩ := hp; rw [n0] at e; cases e
  show wL _ _ _ [some (.ref wa), some (.int (many : Int)), some (.int lv), some (.int room), some (.ref p), some (.ref nl), none, none, none] _
  refine l_cons (s_set (e_ix (e_var (e_call (by exact FN) (by exact hr) (by omega) ?_))))
  walk_at "sts"
  refine ⟨p, 12, rfl, by decide, by decide, f0.pl, fun d1 H1 a0 a1 b1 p1 => ?_⟩
  have f1 := f0.next nwp b1 p1
  obtain ⟨j, rfl⟩ := Int.eq_ofNat_of_zero_le a0
  obtain ⟨z, hz, hzn⟩ := nm_at (show j < 12 by omega)
  refine ix_l (by exact SqL.of (b1 _ _ nnp h0)) (atI_nat hz) ?_
  show wL _ _ _ [some (.ref wa), some (.int (many : Int)), some (.int lv), some (.int room), some (.ref p), some (.ref nl), some (.str z), none, none] _
  refine l_cons (s_set (e_var ?_))
  show wL _ _ _ [some (.ref wa), some (.int (many : Int)), some (.int lv), some (.int room), some (.ref p), some (.ref nl), some (.str z), some (kV (.inr z)), none] _
  have rest : ∀ (r : Key) H2, GoodR r → Fr p wa H H2 → wL (cxOf CX0 P w K mg base N_free "_law_free" (defScope s_free) f cdv A outer s H E).nox ((defBody s_free).drop 5) { nx := fun _ H' => Q .non H', rt := Q } [some (.ref wa), some (.int (many : Int)), some (.int lv), some (.int room), some (.ref p), some (.ref nl), some (.str z), some (kV r), none] H2 := by
    intro r H2 hgr f2
    refine l_cons (s_set (e_call (by exact FN) (by exact hr) (by omega) ?_))
    walk_at "sts"
    refine ⟨p, 8, rfl, by decide, by decide, f2.pl, fun d3 H3 c0 c1 b3 p3 => ?_⟩
    have f3 := f2.next nwp b3 p3
    obtain ⟨k, rfl⟩ := Int.eq_ofNat_of_zero_le c0
    show wL _ _ _ [some (.ref wa), some (.int (many : Int)), some (.int lv), some (.int room), some (.ref p), some (.ref nl), some (.str z), some (kV r), some (.int (k : Int))] _
    have own : (many : Int) < 2 → wL (cxOf CX0 P w K mg base N_free "_law_free" (defScope s_free) f cdv A outer s H E).nox ((defBody s_free).drop 7) { nx := fun _ H' => Q .non H', rt := Q } [some (.ref wa), some (.int (many : Int)), some (.int lv), some (.int room), some (.ref p), some (.ref nl), some (.str z), some (kV r), some (.int (k : Int))] H3 := by
      intro h2
      refine l_cons (s_if (t_cmp (e_var (e_int (o_lt ⟨_, rfl, ifT h2 ?_⟩)))))
      walk_at "sts"
      refine ⟨by show 2 ≤ sizeLine; decide, fun t H4 e4 n4 h4 => ?_⟩
      refine q _ (.le ⟨.own, some r, []⟩) H4 (f3.same e4) ⟨t, [.str "own", kV r], rfl, h4, ⟨[], rfl, rfl⟩⟩ (good_le ⟨rfl, rfl⟩ rfl fun r' h => by cases h; exact hgr) hm1
    have two : ¬ (many : Int) < 2 → wL (cxOf CX0 P w K mg base N_free "_law_free" (defScope s_free) f cdv A outer s H E).nox ((defBody s_free).drop 7) { nx := fun _ H' => Q .non H', rt := Q } [some (.ref wa), some (.int (many : Int)), some (.int lv), some (.int room), some (.ref p), some (.ref nl), some (.str z), some (kV r), some (.int (k : Int))] H3 := by
      intro h2
      have em : (many : Int) - 1 = ((many - 1 : Nat) : Int) := by omega
      have ek : (k : Int) % 4 = ((k % 4 : Nat) : Int) := by omega
      refine l_cons (s_if (t_cmp (e_var (e_int (o_lt ⟨_, rfl, ifF h2 (l_nil ?_)⟩)))))
      refine l_cons (s_if (t_w (w_or (t_cmp (e_var (e_int (o_eqI ⟨_, rfl, ?_⟩)))))))
      by_cases h3 : (many : Int) = 2
      · refine ifT h3 (iteT ?_)
        refine l_cons (s_ret (e_call (by exact F1 m rfl) (by exact hr) (by omega) ?_))
        refine a_cons (e_var (a_cons (e_bin (e_var (e_int (o_sub ?_))))))
        rw [em]
        walk_at "sts"
        refine o_mod (by decide) ?_
        rw [ek]
        walk_at "sts"
        refine ⟨wa, p, many - 1, lv, room, z, r, k % 4, rfl, f3.wy, f3.pl, by omega, by omega, hlv, by omega, hgr, fun v t H4 f4 hv hg hs => ?_⟩
        exact q v t H4 (f3.trans f4) hv hg (by omega)
      · refine ifF h3 (w_or1 (t_cmp (e_var (e_int (o_lt ⟨_, rfl, ?_⟩)))))
        refine if2 (fun _ => ?_) (fun _ => l_nil ?_)
        · refine l_cons (s_ret (e_call (by exact F1 m rfl) (by exact hr) (by omega) ?_))
          refine a_cons (e_var (a_cons (e_bin (e_var (e_int (o_sub ?_))))))
          rw [em]
          walk_at "sts"
          refine o_mod (by decide) ?_
          rw [ek]
          walk_at "sts"
          refine ⟨wa, p, many - 1, lv, room, z, r, k % 4, rfl, f3.wy, f3.pl, by omega, by omega, hlv, by omega, hgr, fun v t H4 f4 hv hg hs => ?_⟩
          exact q v t H4 (f3.trans f4) hv hg (by omega)
        · refine l_cons (s_ret (e_call (by exact F2 m rfl) (by exact hr) (by omega) ?_))
          refine a_cons (e_var (a_cons (e_bin (e_var (e_int (o_sub ?_))))))
          rw [em]
          walk_at "sts"
          refine o_mod (by decide) ?_
          rw [ek]
          walk_at "sts"
          refine ⟨wa, p, many - 1, lv, room, z, r, k % 4, rfl, f3.wy, f3.pl, by omega, by omega, hlv, by omega, hgr, fun v t H4 f4 hv hg hs => ?_⟩
          exact q v t H4 (f3.trans f4) hv hg (by omega)
    refine l_cons (s_if (t_w (w_and (t_cmp ?_))))
    walk_at "sts"
    by_cases h2 : (many : Int) < 2
    · refine ifT h2 (w_and1 (t_cmp ?_))
      walk_at "sts"
      refine if2 (fun _ => ?_) (fun _ => l_nil (own h2))
      walk_at "sts"
      refine ⟨by show 2 ≤ sizeLine; decide, fun t H4 e4 n4 h4 => ?_⟩
      refine q _ (.le ⟨.cite, none, [.s z]⟩) H4 (f3.same e4) ⟨t, [.str "cite", .str z], rfl, h4, ⟨[.str z], rfl, ⟨_, _, rfl, rfl, rfl⟩⟩⟩ (good_le ⟨rfl, rfl⟩ rfl fun r' h => by cases h) hm1
    · exact ifF h2 (iteF (l_nil (two h2)))
  refine l_cons (s_if (t_w (w_and (t_cmp ?_))))
  walk_at "sts"
  by_cases h0l : 0 < lv
  · refine ifT h0l (w_and1 (t_cmp (e_call (by exact FN) (by exact hr) (by omega) ?_)))
    walk_at "sts"
    refine ⟨p, 2, rfl, by decide, by decide, f1.pl, fun d2 H2 _ _ b2 p2 => ?_⟩
    have f2 := f1.next nwp b2 p2
    walk_at "sts"
    refine if2 (fun _ => ?_) (fun _ => l_nil (rest (.inr z) H2 hzn f2))
    refine l_cons (s_set (e_call (by exact FN) (by exact hr) (by omega) ?_))
    walk_at "sts"
    exact ⟨p, lv, rfl, h0l, by omega, f2.pl, fun d3 H3 c0 c1 b3 p3 => l_nil (rest (.inl d3) H3 c0 (f2.next nwp b3 p3))⟩
  · exact ifF h0l (iteF (l_nil (rest (.inr z) H1 hzn f1)))
end
section
variable {P : Program} {w : World} {K : PySem.W.Frag} {mg : Str → Option Value} {base : Heap}
theorem ok_free (T : Top K mg "_law_free" s_free) (T1 : Top K mg "_law_free_one" s_free_one) (T2 : Top K mg "_law_free_two" s_free_two) (mInt : mg "int" = none) (FN : Fn P w K mg base 1 "_law_next" spNext) (FM : Fn P w K mg base 2 "_law_mode" spMode) : ∀ n, Fn P w K mg base (2 * n + 3) "_law_free" (spDraw n)
  | 0 => ok_freeS 0 T mInt FN (fun m h => by cases h) fun m h => by cases h
  | n + 1 => ok_freeS (n + 1) T mInt FN (fun m h => by cases h; exact ok_one n T1 mInt FN (ok_free T T1 T2 mInt FN FM n)) fun m h => by cases h; exact ok_two n T2 FN FM (ok_free T T1 T2 mInt FN FM n)
end


def Kd.br : Kd → Bool
  | .take => true | .pick => true | .pay => true | .open_ => true | .cut => true | _ => false
abbrev brS : List V := [.str "take", .str "pick", .str "pay", .str "open", .str "cut"]
theorem br_nm (k : Kd) : inV (.str k.nm) brS = k.br := by cases k <;> decide +kernel
structure Brg (K : PySem.W.Frag) (mg : Str → Option Value) : Prop where
  ex : ∃ BA : Addr, mg "BRINGING" = some (.ref BA) ∧ ∀ H : Hp, SqT K H BA brS
/-- the levels of a row's premises -/
def plv (k : Kd) (lv : Int) : List Int := match k.pr with
  | 0 => []
  | 1 => [if k.br = true then lv + 1 else lv]
  | _ => [lv, if k.br = true then lv + 1 else lv]
/-- a path of any numbers -/
def PthI (H : Hp) (p : List Int) (v : V) : Prop := ∃ t, v = .ref t ∧ H t = some (.tup (p.map V.int))
theorem PthI.ts {H H' : Hp} (e : TS H H') {p : List Int} {v : V} : PthI H p v → PthI H' p v := fun ⟨t, h1, h2⟩ => ⟨t, h1, e _ _ h2⟩
theorem PthV.i {H : Hp} {p : List Nat} {v : V} : PthV H p v → PthI H (p.map fun (n : Nat) => (n : Int)) v := fun ⟨t, h1, h2⟩ => ⟨t, h1, by rw [h2, List.map_map]; rfl⟩
/-- the rows along a path -/
def alongT : Tr → List Int → Option (List Tr)
  | t, [] => some [t]
  | t, i :: p => if 0 ≤ i then match t.ks[i.toNat]? with
    | some a => (alongT a p).map (t :: ·)
    | none => none
    else none
theorem along_ok {t a : Tr} {j : Nat} {p : List Int} (h : t.ks[j]? = some a) : alongT t ((j : Int) :: p) = (alongT a p).map (t :: ·) := by
  show (if (0 : Int) ≤ (j : Int) then _ else _) = _
  rw [if_pos (by omega), show ((j : Int)).toNat = j from rfl, h]
theorem along_no {t : Tr} {i : Int} {p : List Int} (h : ¬ 0 ≤ i ∨ t.ks[i.toNat]? = none) : alongT t (i :: p) = none := by
  show (if (0 : Int) ≤ i then _ else _) = _
  rcases h with h | h
  · rw [if_neg h]
  · rw [h]
    split <;> rfl
section
variable {P : Program} {w : World} {K : PySem.W.Frag} {mg : Str → Option Value} {base : Heap} {CP : Addr}
def spRC : Sp := fun vs H Q _ => ∃ v t, vs = [v] ∧ TrV H t v ∧ t.Ok ∧ t.size ≤ 1000 ∧ ∀ H', Same H H' → Q (.int (t.size : Int)) H'
theorem ok_row_count (T : Top K mg "row_count" s_row_count) (mLen : mg "len" = none) (FH : Fn P w K mg base 2 "heads" spHeads) : Fn P w K mg base 3 "row_count" spRC := by
  refine fn_ok T sc_row_count so_row_count (fun vs H Q E h => by obtain ⟨v, t, rfl, _⟩ := h; rfl) (fun _ _ _ _ _ _ us hl => match us, hl with | [_], _ => rfl) fun f cdv A outer s H vs Q E hr h nd => ?_
  obtain ⟨v, t, rfl, hv, ho, hz, q⟩ := h
  refine l_cons (s_ret (e_callB (x := "len") (by assumption) b_len (a_cons (e_call (by exact FH) (by exact hr) (by decide) ?_))))
  walk_at "sts"
  refine ⟨v, t, rfl, hv, ho, hz, fun l us H1 e1 n1 h1 hus => a_nil (c_lenL (SqL.of h1) ?_)⟩
  rw [hus.len, hds_size]
  exact q H1 e1
def bareT (t : Tr) : Bool := (hds t).all fun h => !(decide (h.k = .cut) || decide (h.k = .cite))
abbrev cutS : List V := [.str "cut", .str "cite"]
theorem cut_nm (k : Kd) : inV (.str k.nm) cutS = (decide (k = .cut) || decide (k = .cite)) := by cases k <;> decide +kernel
def spBare : Sp := fun vs H Q _ => ∃ v t, vs = [v] ∧ TrV H t v ∧ t.Ok ∧ t.size ≤ 1000 ∧ ∀ H', Same H H' → Q (.bl (bareT t)) H'
theorem ok_is_bare (T : Top K mg "is_bare" s_is_bare) (FH : Fn P w K mg base 2 "heads" spHeads) : Fn P w K mg base 3 "is_bare" spBare := by
  refine fn_ok T sc_is_bare so_is_bare (fun vs H Q E h => by obtain ⟨v, t, rfl, _⟩ := h; rfl) (fun _ _ _ _ _ _ us hl => match us, hl with | [_], _ => rfl) fun f cdv A outer s H vs Q E hr h nd => ?_
  obtain ⟨v, t, rfl, hv, ho, hz, q⟩ := h
  refine l_cons (s_forL ?_)
  refine e_call (by exact FH) (by exact hr) (by decide) ?_
  walk_at "sts"
  refine ⟨v, t, rfl, hv, ho, hz, fun l us H1 e1 n1 h1 hus => ⟨l, us, rfl, SqL.of h1, fun k σ H2 => ∃ x, σ = [some v, x] ∧ Same H1 H2 ∧ ((hds t).take k).all (fun h => !(decide (h.k = .cut) || decide (h.k = .cite))) = true, ⟨none, rfl, Same.refl _, by simp⟩, ?_, ?_, ?_⟩⟩
  · intro k σ H2 _ pr
    obtain ⟨_, _, e, _⟩ := pr
    exact SqL.of (e _ _ h1)
  · intro k y σ H2 hy pr
    obtain ⟨x, rfl, e, hall⟩ := pr
    obtain ⟨h, hh, p, xs, rfl, hp, fs, rfl, hfs⟩ := hus.get hy
    show wL _ _ _ [some v, some (.ref p)] _
    refine l_cons (s_if (t_cmp ?_))
    walk_at "sts"
    refine ix_t (by exact SqT.of (e _ _ hp)) at0 ?_
    walk_at "sts"
    refine ⟨by show 2 ≤ sizeLine; decide, fun tp H3 e3 n3 h3 => ?_⟩
    refine o_inT (by exact SqT.of h3) rfl rfl ⟨_, rfl, ?_⟩
    rw [cut_nm]
    cases hb : (decide (h.k = Kd.cut) || decide (h.k = Kd.cite)) with
    | true =>
      refine iteT (l_cons (s_ret (e_bl ?_)))
      have hf : bareT t = false := by
        rw [bareT, List.all_eq_false]
        exact ⟨h, List.mem_of_getElem? hh, by rw [hb]; simp⟩
      rw [← hf]
      exact q H3 (e1.trans (e.trans e3))
    | false =>
      refine iteF (l_nil (l_nil ⟨_, rfl, e.trans e3, ?_⟩))
      rw [take_snoc' hh, List.all_append, hall, List.all_cons, hb]
      rfl
  · intro σ H2 pr
    obtain ⟨x, rfl, e, hall⟩ := pr
    rw [hus.len, List.take_length] at hall
    refine l_cons (s_ret (e_bl ?_))
    rw [← (show bareT t = true from hall)]
    exact q H2 (e1.trans e)
def spAlong (CP : Addr) : Sp := fun vs H Q E => ∃ v u t p, vs = [v, u] ∧ TrV H t v ∧ t.Ok ∧ PthI H p u ∧ p.length ≤ 2000 ∧
  ((∃ ts, alongT t p = some ts ∧ ∀ l us H', Same H H' → H l = none → H' l = some (.lst us) → TrsV H' ts us → Q (.ref l) H') ∨ (alongT t p = none ∧ ∀ d H', Same H H' → H d = none → H' d = some (.xd [(("path" : Str), u)]) → E (.ref CP) (some d) H'))
theorem ok_rows_along (T : Top K mg "rows_along" s_rows_along) (mLen : mg "len" = none) (R : Er P w K mg base "NoPart" CP "path") (FP : Fn P w K mg base 1 "premises" spPrem) : FnN P w K mg base 3 "rows_along" (spAlong CP) := by
  refine fn_okN T sc_rows_along so_rows_along (fun vs H Q E h => by obtain ⟨v, u, t, p, rfl, _⟩ := h; rfl) (fun _ _ _ _ _ _ us hl => match us, hl with | [_, _], _ => rfl) fun f cdv A outer s H vs Q E hr h nd tk => ?_
  obtain ⟨v, u, t, p, rfl, hv, ho, ⟨ut, rfl, hut⟩, hl, q⟩ := h
  refine l_cons (s_set (e_lst (a_cons (e_var (a_nil ⟨by show 1 ≤ sizeLine; decide, fun la H1 e1 n1 h1 => ?_⟩)))))
  show wL _ _ _ [some v, some (.ref ut), some (.ref la), none, none] _
  refine l_cons (s_forT ?_)
  refine e_var ⟨ut, _, rfl, SqT.of (e1 _ _ hut), fun k σ H' => ∃ (pre : List Tr) (us : List V) (c : Tr) (cv : V) (x y : Option V), σ = [some v, some (.ref ut), some (.ref la), x, y] ∧ H' la = some (.lst (us ++ [cv])) ∧ TrsV H' pre us ∧ TrV H' c cv ∧ c.Ok ∧ pre.length = k ∧ alongT t p = (alongT c (p.drop k)).map (pre ++ ·) ∧ But la H1 H', ?_, ?_, ?_, ?_⟩
  · exact ⟨[], [], t, v, none, none, rfl, h1, rfl, hv.ts (Same.ts e1), ho, rfl, by rw [List.drop_zero]; simp, fun _ _ _ z => z⟩
  · intro k σ H' _ pr
    obtain ⟨_, _, _, _, _, _, _, _, _, _, _, _, _, b⟩ := pr
    exact SqT.of (b _ _ (fun z => by subst z; rw [e1 _ _ hut] at h1; cases h1) (e1 _ _ hut))
  · intro k y σ H' hy pr
    obtain ⟨pre, us, c, cv, x, x2, rfl, hla, hpre, hc, hco, hpl, hal, b⟩ := pr
    have nul : ut ≠ la := fun z => by subst z; rw [e1 _ _ hut] at h1; cases h1
    have hut' := b _ _ nul (e1 _ _ hut)
    rw [List.getElem?_map] at hy
    obtain ⟨i, hi, rfl⟩ := Option.map_eq_some_iff.mp hy
    obtain ⟨hk, hki⟩ := List.getElem?_eq_some_iff.mp hi
    obtain ⟨cp, xs, ys, rfl, hcp, hx, hyv⟩ := hc.split
    have hlen := hx.len hco.hd.1
    obtain ⟨fs, ex, hfs⟩ := id hx
    have lys := hyv.len
    have lus := hpre.len
    have lks := ks_le c
    rw [List.drop_eq_getElem_cons hk, hki] at hal
    show wL _ _ _ [some v, some (.ref ut), some (.ref la), some (.int i), x2] _
    refine l_cons (s_set (e_call (by exact FP) (by exact hr) (by decide) ?_))
    walk_at "sts"
    refine ix_l (by exact SqL.of hla) (atI_last _ _) ?_
    walk_at "sts"
    refine ⟨cp, c.hd.k, _, xs, ys, rfl, hcp, ex, hlen, fun ab H2 e2 n2 h2 => ?_⟩
    show wL _ _ _ [some v, some (.ref ut), some (.ref la), some (.int i), some (.ref ab)] _
    have hla2 := e2 _ _ hla
    refine l_cons (s_if (t_not (t_chain ?_)))
    walk_at "sts"
    by_cases h0 : 0 ≤ i
    · refine ifT h0 ?_
      walk_at "sts"
      refine c_lenL (by exact SqL.of h2) ?_
      walk_at "sts"
      by_cases hlt : i < (ys.length : Int)
      · obtain ⟨j, rfl⟩ := Int.eq_ofNat_of_zero_le h0
        have hj : j < ys.length := by omega
        have hyj : ys[j]? = some ys[j] := List.getElem?_eq_getElem hj
        obtain ⟨a, ha, hav⟩ := hyv.get hyj
        rw [decide_eq_true hlt]
        refine iteF (l_nil ?_)
        refine l_cons (s_expr (e_app ?_))
        refine e_var ⟨la, _, rfl, SqL.of hla2, ?_⟩
        walk_at "sts"
        refine ix_l (by exact SqL.of h2) (atI_nat hyj) ?_
        refine ⟨_, hla2, by rw [List.length_append]; simp only [List.length_cons, List.length_nil]; show _ < 2 ^ 24; omega, ?_⟩
        have t2 : TS H' (upd H2 la (.lst (us ++ [.ref cp] ++ [ys[j]]))) := (Same.ts e2).trans (TS.upd hla2)
        refine l_nil ⟨pre ++ [c], us ++ [.ref cp], a, ys[j], _, _, rfl, upd_same, (hpre.ts t2).append ⟨.ref cp, [], rfl, hc.ts t2, rfl⟩, hav.ts t2, hco.hd.2.2 a (List.mem_of_getElem? ha), by rw [List.length_append, hpl]; rfl, ?_, fun c o nc hc => by rw [upd_ne nc]; exact e2 _ _ (b _ _ nc hc)⟩
        rw [hal, along_ok ha]
        cases alongT a (p.drop (k + 1)) with
        | none => rfl
        | some l => simp
      · have hnone : alongT t p = none := by
          rw [hal, along_no (.inr (List.getElem?_eq_none (by omega)))]
          rfl
        rw [decide_eq_false hlt]
        refine iteT ?_
        rcases q with ⟨ts, h1', _⟩ | ⟨_, q⟩
        · rw [hnone] at h1'; cases h1'
        refine l_cons (s_raiseN (by exact R) (by exact tk) (by exact hr) (by decide) ?_)
        walk_at "sts"
        intro d H3 e3 nd3 hd3
        refine q d H3 (fun c o hc => e3 _ _ (e2 _ _ (b _ _ (fun z => by subst z; rw [n1] at hc; cases hc) (e1 _ _ hc)))) ?_ hd3
        cases hq : H d with
        | none => rfl
        | some o =>
          have := e2 _ _ (b _ _ (fun z => by subst z; rw [n1] at hq; cases hq) (e1 _ _ hq))
          rw [nd3] at this
          cases this
    · have hnone : alongT t p = none := by
        rw [hal, along_no (.inl h0)]
        rfl
      refine ifF h0 ?_
      refine ⟨_, rfl, iteT ?_⟩
      rcases q with ⟨ts, h1', _⟩ | ⟨_, q⟩
      · rw [hnone] at h1'; cases h1'
      refine l_cons (s_raiseN (by exact R) (by exact tk) (by exact hr) (by decide) ?_)
      walk_at "sts"
      intro d H3 e3 nd3 hd3
      refine q d H3 (fun c o hc => e3 _ _ (e2 _ _ (b _ _ (fun z => by subst z; rw [n1] at hc; cases hc) (e1 _ _ hc)))) ?_ hd3
      cases hq : H d with
      | none => rfl
      | some o =>
        have := e2 _ _ (b _ _ (fun z => by subst z; rw [n1] at hq; cases hq) (e1 _ _ hq))
        rw [nd3] at this
        cases this
  · intro σ H' pr
    obtain ⟨pre, us, c, cv, x, x2, rfl, hla, hpre, hc, hco, hpl, hal, b⟩ := pr
    rw [List.length_map, List.drop_length] at hal
    have hsome : alongT t p = some (pre ++ [c]) := by rw [hal]; rfl
    rcases q with ⟨ts, h1', q⟩ | ⟨h1', _⟩
    · rw [hsome] at h1'
      cases h1'
      refine l_cons (s_ret (e_var ?_))
      refine q la _ H' (fun c o hc => b _ _ (fun z => by subst z; rw [n1] at hc; cases hc) (e1 _ _ hc)) n1 hla (hpre.append ⟨cv, [], rfl, hc, rfl⟩)
    · rw [hsome] at h1'; cases h1'
end


theorem plv_len (k : Kd) (lv : Int) : (plv k lv).length = k.pr := by cases k <;> rfl
theorem rep1 (n : Nat) (x : V) : (List.replicate n [x]).flatten = List.replicate n x := by
  induction n with
  | zero => rfl
  | succ n ih => rw [List.replicate_succ, List.flatten_cons, ih]; rfl
theorem o_rep1 {X : Cx} {H : Hp} {Q : VK} {l : Addr} {x : V} {n : Nat} (h : H l = some (.lst [x])) (hn : n ≤ 1000) (q : ∀ p H2, Same H H2 → H p = none → H2 p = some (.lst (List.replicate n x)) → Q (.ref p) H2) : wB X .Mult (.ref l) (.int (n : Int)) H Q :=
  b_of op_rep ⟨l, (n : Int), [x], rfl, rfl, h, by omega, by omega, by show 1 * n ≤ 2 ^ 24; omega, fun p np => by
    rw [Int.toNat_natCast, rep1]
    exact q p _ (fun c u eo => by rw [upd_ne (ne_of_none eo np)]; exact eo) np upd_same⟩
/-- the level behind a path, along the rows -/
def lvL : List Tr → List Int → Int → Int
  | t :: ts, i :: p, lv => lvL ts p ((plv t.hd.k lv).getD i.toNat 0)
  | _, _, lv => lv
theorem along_facts : ∀ {t : Tr} {p : List Int} {ts : List Tr}, t.Ok → alongT t p = some ts → ts.length = p.length + 1 ∧ ts[0]? = some t ∧ (∀ a ∈ ts, a.Ok) ∧ ∀ (k : Nat) (i : Int), p[k]? = some i → ∃ a b, ts[k]? = some a ∧ ts[k + 1]? = some b ∧ 0 ≤ i ∧ a.ks[i.toNat]? = some b
  | t, [], ts, o, h => by
    cases h
    exact ⟨rfl, rfl, fun a ha => by rw [List.mem_singleton.mp ha]; exact o, fun k i hk => by cases hk⟩
  | t, i :: p, ts, o, h => by
    by_cases h0 : 0 ≤ i
    · cases hk : t.ks[i.toNat]? with
      | none => rw [along_no (.inr hk)] at h; cases h
      | some a =>
        obtain ⟨j, rfl⟩ := Int.eq_ofNat_of_zero_le h0
        rw [along_ok (j := j) hk] at h
        obtain ⟨ts', h', rfl⟩ := Option.map_eq_some_iff.mp h
        have oa := o.hd.2.2 a (List.mem_of_getElem? hk)
        obtain ⟨f1, f2, f3, f4⟩ := along_facts oa h'
        refine ⟨by rw [List.length_cons, List.length_cons, f1], rfl, fun b hb => ?_, fun k i hki => ?_⟩
        · rcases List.mem_cons.mp hb with rfl | hb
          · exact o
          · exact f3 b hb
        · cases k with
          | zero =>
            cases hki
            exact ⟨t, a, rfl, by simpa using f2, h0, hk⟩
          | succ k =>
            obtain ⟨a', b', g1, g2, g3, g4⟩ := f4 k i (by simpa using hki)
            exact ⟨a', b', by simpa using g1, by simpa using g2, g3, g4⟩
    · rw [along_no (.inl h0)] at h; cases h
section
variable {P : Program} {w : World} {K : PySem.W.Frag} {mg : Str → Option Value} {base : Heap} {CP : Addr}
def spPL : Sp := fun vs H Q _ => ∃ p k rest lv, vs = [.ref p, .int lv] ∧ H p = some (.tup (.str (Kd.nm k) :: rest)) ∧ ∀ l H', Same H H' → H l = none → H' l = some (.lst ((plv k lv).map V.int)) → Q (.ref l) H'
theorem ok_premise_levels (T : Top K mg "premise_levels" s_premise_levels) (TB : Tabs w K mg) (B : Brg K mg) : Fn P w K mg base 1 "premise_levels" spPL := by
  refine fn_ok T sc_premise_levels so_premise_levels (fun vs H Q E h => by obtain ⟨p, k, rest, lv, rfl, _⟩ := h; rfl) (fun _ _ _ _ _ _ us hl => match us, hl with | [_, _], _ => rfl) fun f cdv A outer s H vs Q E hr h nd => ?_
  obtain ⟨p, k, rest, lv, rfl, hp, q⟩ := h
  obtain ⟨FA, DA, TT, hF, hD, kF, kD, hT⟩ := TB.ex
  obtain ⟨BA, hB, hBS⟩ := B.ex
  refine l_cons (s_set (e_bin (e_lst (a_cons (e_var (a_nil ⟨by show 1 ≤ sizeLine; decide, fun l0 H1 e1 n1 h1 => ?_⟩))))))
  refine e_ix (e_glob (x := "PREMISES") (v := .ref DA) (u := .ref DA) (by exact hD) (by exact rfl) ?_)
  walk_at "sts"
  refine ix_t (by exact SqT.of (e1 _ _ hp)) at0 ?_
  refine ix_kd (by exact kD) (by exact pr_val k) ?_
  refine o_rep1 h1 (by have := pr_le k; omega) fun l H2 e2 n2 h2 => ?_
  show wL _ _ _ [some (.ref p), some (.int lv), some (.ref l)] _
  have nl : H l = none := none_of e1 n2
  refine l_cons (s_if (t_cmp (e_ix ?_)))
  walk_at "sts"
  refine ix_t (by exact SqT.of (e2 _ _ (e1 _ _ hp))) at0 ?_
  refine e_glob (x := "BRINGING") (v := .ref BA) (u := .ref BA) (by exact hB) (by exact rfl) ?_
  refine o_inT (hBS _) rfl rfl ⟨_, rfl, ?_⟩
  rw [br_nm]
  cases hb : k.br with
  | false =>
    refine iteF (l_nil (l_cons (s_ret (e_var ?_))))
    refine q l H2 (e1.trans e2) nl ?_
    rw [h2]
    cases k <;> first | rfl | cases hb
  | true =>
    have hp1 : 1 ≤ k.pr := by cases k <;> first | decide | cases hb
    refine iteT (l_cons (s_sub ?_))
    walk_at "sts"
    refine set_l h2 (k := k.pr - 1) ?_ ?_
    · rw [List.length_replicate]
      unfold ixN
      rw [if_neg (by decide), if_pos (by omega)]
      congr 1
      omega
    refine l_nil (l_cons (s_ret (e_var ?_)))
    refine q l _ (fun c u hc => by rw [upd_ne (fun z => by subst z; rw [nl] at hc; cases hc)]; exact e2 _ _ (e1 _ _ hc)) nl ?_
    rw [upd_same]
    cases k <;> first | rfl | cases hb
def spPart (CP : Addr) : Sp := fun vs H Q E => ∃ v u t p, vs = [v, u] ∧ TrV H t v ∧ t.Ok ∧ PthI H p u ∧ p.length ≤ 2000 ∧
  ((∃ ts s, alongT t p = some ts ∧ ts.getLast? = some s ∧ ∀ v' H', Same H H' → TrV H' s v' → Q v' H') ∨ (alongT t p = none ∧ ∀ d H', Same H H' → H d = none → H' d = some (.xd [(("path" : Str), u)]) → E (.ref CP) (some d) H'))
theorem ok_part (T : Top K mg "part" s_part) (F : FnN P w K mg base 3 "rows_along" (spAlong CP)) : FnN P w K mg base 4 "part" (spPart CP) := by
  refine fn_okN T sc_part so_part (fun vs H Q E h => by obtain ⟨v, u, t, p, rfl, _⟩ := h; rfl) (fun _ _ _ _ _ _ us hl => match us, hl with | [_, _], _ => rfl) fun f cdv A outer s H vs Q E hr h nd tk => ?_
  obtain ⟨v, u, t, p, rfl, hv, ho, hu, hl, q⟩ := h
  refine l_cons (s_ret (e_ix (e_callN (by exact F) (by exact tk) (by exact hr) (by decide) ?_)))
  walk_at "sts"
  refine ⟨v, u, t, p, rfl, hv, ho, hu, hl, ?_⟩
  rcases q with ⟨ts, s0, h1, h2, q⟩ | ⟨h1, q⟩
  · refine .inl ⟨ts, h1, fun l us H1 e1 n1 hl1 hus => ?_⟩
    walk_at "sts"
    have hne : ts ≠ [] := fun z => by rw [z] at h2; cases h2
    obtain ⟨ts', s1, e⟩ : ∃ ts' s1, ts = ts' ++ [s1] := by
      rcases List.eq_nil_or_concat ts with z | ⟨a, b, z⟩
      · exact absurd z hne
      · exact ⟨a, b, by rw [z, List.concat_eq_append]⟩
    rw [e, List.getLast?_concat] at h2
    cases h2
    have hlen := hus.len
    obtain ⟨us', x, e2⟩ : ∃ us' x, us = us' ++ [x] := by
      rcases List.eq_nil_or_concat us with z | ⟨a, b, z⟩
      · rw [z, e] at hlen; simp at hlen
      · exact ⟨a, b, by rw [z, List.concat_eq_append]⟩
    have hx : us[us'.length]? = some x := by rw [e2]; simp
    obtain ⟨s2, g1, g2⟩ := hus.get hx
    have hl3 : us'.length = ts'.length := by rw [e, e2] at hlen; simpa using hlen
    rw [e, hl3] at g1
    have hs : s2 = s0 := by simpa using g1.symm
    rw [hs] at g2
    refine ix_l (by exact SqL.of hl1) (by rw [e2]; exact atI_last _ _) ?_
    exact q x H1 e1 g2
  · exact .inr ⟨h1, fun d H1 e1 nd1 hd => q d H1 e1 nd1 hd⟩
def spLevel (CP : Addr) : Sp := fun vs H Q E => ∃ v u t p, vs = [v, u] ∧ TrV H t v ∧ t.Ok ∧ PthI H p u ∧ p.length ≤ 2000 ∧
  ((∃ ts, alongT t p = some ts ∧ ∀ H', Same H H' → Q (.int (lvL ts p 0)) H') ∨ (alongT t p = none ∧ ∀ d H', Same H H' → H d = none → H' d = some (.xd [(("path" : Str), u)]) → E (.ref CP) (some d) H'))
theorem ok_level_at (T : Top K mg "level_at" s_level_at) (mZip : mg "zip" = none) (F : FnN P w K mg base 3 "rows_along" (spAlong CP)) (FP : Fn P w K mg base 1 "premise_levels" spPL) : FnN P w K mg base 4 "level_at" (spLevel CP) := by
  refine fn_okN T sc_level_at so_level_at (fun vs H Q E h => by obtain ⟨v, u, t, p, rfl, _⟩ := h; rfl) (fun _ _ _ _ _ _ us hl => match us, hl with | [_, _], _ => rfl) fun f cdv A outer s H vs Q E hr h nd tk => ?_
  obtain ⟨v, u, t, p, rfl, hv, ho, hu, hl, q⟩ := h
  refine l_cons (s_set (e_int ?_))
  refine l_cons (s_set (e_callN (by exact F) (by exact tk) (by exact hr) (by decide) ?_))
  walk_at "sts"
  refine ⟨v, u, t, p, rfl, hv, ho, hu, hl, ?_⟩
  rcases q with ⟨ts, h1, q⟩ | ⟨h1, q⟩
  · refine .inl ⟨ts, h1, fun l us H1 e1 n1 hl1 hus => ?_⟩
    obtain ⟨f1, f2, f3, f4⟩ := along_facts ho h1
    obtain ⟨ut, rfl, hut⟩ := hu
    have lus := hus.len
    show wL _ _ _ [some v, some (.ref ut), some (.int 0), some (.ref l), none, none] _
    refine l_cons (s_forZ .l .t (by assumption) (e_var (e_var ⟨l, ut, us, p.map V.int, rfl, rfl, SqL.of hl1, SqT.of (e1 _ _ hut), fun k σ H' => ∃ (lv : Int) (x y : Option V), σ = [some v, some (.ref ut), some (.int lv), some (.ref l), x, y] ∧ lvL (ts.drop k) (p.drop k) lv = lvL ts p 0 ∧ Same H1 H', ?_, ?_, ?_, ?_⟩)))
    · exact ⟨0, none, none, rfl, by rw [List.drop_zero, List.drop_zero], Same.refl H1⟩
    · intro k σ H' _ pr
      obtain ⟨_, _, _, _, _, e⟩ := pr
      exact ⟨SqL.of (e _ _ hl1), SqT.of (e _ _ (e1 _ _ hut))⟩
    · intro k u1 u2 Tn σ H' hx hy pr nT
      obtain ⟨lv, x, y, rfl, hlv, e⟩ := pr
      rw [List.getElem?_map] at hy
      obtain ⟨i, hi, rfl⟩ := Option.map_eq_some_iff.mp hy
      obtain ⟨a, b, g1, g2, g3, g4⟩ := f4 k i hi
      obtain ⟨a', g1', hav⟩ := hus.get hx
      rw [g1] at g1'
      cases g1'
      have eT : Same H' (upd H' Tn (.tup [u1, .int i])) := fun c o hc => by rw [upd_ne (ne_of_none hc nT)]; exact hc
      obtain ⟨k1, k2⟩ := List.getElem?_eq_some_iff.mp g1
      obtain ⟨k3, k4⟩ := List.getElem?_eq_some_iff.mp hi
      rw [List.drop_eq_getElem_cons k1, List.drop_eq_getElem_cons k3, k2, k4] at hlv
      obtain ⟨cp, xs, ys, rfl, hcp, ⟨fs, rfl, hfs⟩, hyv⟩ := (hav.ts (Same.ts (e.trans eT))).split
      show wL _ _ _ [some v, some (.ref ut), some (.int lv), some (.ref l), some (.ref cp), some (.int i)] _
      refine l_cons (s_set (e_ix (e_call (by exact FP) (by exact hr) (by decide) ?_)))
      walk_at "sts"
      refine ⟨cp, a.hd.k, _, lv, rfl, hcp, fun pl H2 e2 n2 h2 => ?_⟩
      have hpr : i.toNat < (plv a.hd.k lv).length := by
        rw [plv_len, (f3 a (List.mem_of_getElem? g1)).hd.2.1]
        exact (List.getElem?_eq_some_iff.mp g4).1
      obtain ⟨j, rfl⟩ := Int.eq_ofNat_of_zero_le g3
      have hjj : (plv a.hd.k lv)[j]? = some ((plv a.hd.k lv).getD j 0) := by
        have hp2 : j < (plv a.hd.k lv).length := hpr
        rw [List.getElem?_eq_getElem hp2, List.getD_eq_getElem?_getD, List.getElem?_eq_getElem hp2]
        rfl
      refine e_var (ix_l (by exact SqL.of h2) (atI_nat (v := V.int ((plv a.hd.k lv).getD j 0)) (by rw [List.getElem?_map, hjj]; rfl)) ?_)
      refine l_nil ⟨_, _, _, rfl, hlv, fun c o hc => e2 _ _ (eT _ _ (e _ _ hc))⟩
    · intro σ H' pr
      obtain ⟨lv, x, y, rfl, hlv, e⟩ := pr
      rw [lus, List.length_map, f1, Nat.min_eq_right (by omega), List.drop_length] at hlv
      have hend : lvL (ts.drop p.length) [] lv = lv := by cases ts.drop p.length <;> rfl
      rw [hend] at hlv
      refine l_cons (s_ret (e_var ?_))
      rw [hlv]
      exact q H' (e1.trans e)
  · exact .inr ⟨h1, fun d H1 e1 nd1 hd => q d H1 e1 nd1 hd⟩
end


abbrev upS : List V := [.str "take", .str "pick", .str "open"]
abbrev twS : List V := [.str "pay", .str "cut"]
def Kd.up : Kd → Bool
  | .take => true | .pick => true | .open_ => true | _ => false
def Kd.tw : Kd → Bool
  | .pay => true | .cut => true | _ => false
theorem up_nm (k : Kd) : inV (.str k.nm) upS = k.up := by cases k <;> decide +kernel
theorem tw_nm (k : Kd) : inV (.str k.nm) twS = k.tw := by cases k <;> decide +kernel
theorem plv_get (k : Kd) (lv : Int) (j : Nat) (h : j < k.pr) : (plv k lv).getD j 0 = if (k.up || (k.tw && decide ((j : Int) = 1))) = true then lv + 1 else lv := by
  have hj : j = 0 ∨ j = 1 := by have := pr_le k; omega
  rcases hj with rfl | rfl
  · cases k <;> first | rfl | exact absurd h (by decide)
  · cases k <;> first | rfl | exact absurd h (by decide)
section
variable {P : Program} {w : World} {K : PySem.W.Frag} {mg : Str → Option Value} {base : Heap}
def spLvl : Sp := fun vs H Q _ => ∃ v u t p ts, vs = [v, u] ∧ TrV H t v ∧ t.Ok ∧ PthI H p u ∧ alongT t p = some ts ∧ ∀ H', Same H H' → Q (.int (lvL ts p 0)) H'
theorem ok_level (T : Top K mg "_law_level" s_level) (FP : Fn P w K mg base 2 "_law_parts" spParts) : Fn P w K mg base 3 "_law_level" spLvl := by
  refine fn_ok T sc_level so_level (fun vs H Q E h => by obtain ⟨v, u, t, p, ts, rfl, _⟩ := h; rfl) (fun _ _ _ _ _ _ us hl => match us, hl with | [_, _], _ => rfl) fun f cdv A outer s H vs Q E hr h nd => ?_
  obtain ⟨v, u, t, p, ts, rfl, hv, ho, ⟨ut, rfl, hut⟩, hal, q⟩ := h
  obtain ⟨f1, f2, f3, f4⟩ := along_facts ho hal
  refine l_cons (s_set (e_int ?_))
  show wL _ _ _ [some v, some (.ref ut), some (.int 0), none] _
  refine l_cons (s_forT ?_)
  refine e_var ⟨ut, _, rfl, SqT.of hut, fun k σ H' => ∃ (a : Tr) (av : V) (lv : Int) (x : Option V), σ = [some av, some (.ref ut), some (.int lv), x] ∧ ts[k]? = some a ∧ TrV H' a av ∧ lvL (ts.drop k) (p.drop k) lv = lvL ts p 0 ∧ Same H H', ?_, ?_, ?_, ?_⟩
  · exact ⟨t, v, 0, none, rfl, f2, hv, by rw [List.drop_zero, List.drop_zero], Same.refl H⟩
  · intro k σ H' _ pr
    obtain ⟨_, _, _, _, _, _, _, _, e⟩ := pr
    exact SqT.of (e _ _ hut)
  · intro k y σ H' hy pr
    obtain ⟨a, av, lv, x, rfl, ha, hav, hlv, e⟩ := pr
    rw [List.getElem?_map] at hy
    obtain ⟨i, hi, rfl⟩ := Option.map_eq_some_iff.mp hy
    obtain ⟨a', b, g1, g2, g3, g4⟩ := f4 k i hi
    rw [ha] at g1
    cases g1
    have ao := f3 a (List.mem_of_getElem? ha)
    obtain ⟨j, rfl⟩ := Int.eq_ofNat_of_zero_le g3
    have g5 : a.ks[j]? = some b := g4
    have hj : j < a.hd.k.pr := by rw [ao.hd.2.1]; exact (List.getElem?_eq_some_iff.mp g5).1
    obtain ⟨k1, k2⟩ := List.getElem?_eq_some_iff.mp ha
    obtain ⟨k3, k4⟩ := List.getElem?_eq_some_iff.mp hi
    rw [List.drop_eq_getElem_cons k1, List.drop_eq_getElem_cons k3, k2, k4] at hlv
    have hlv2 : lvL (ts.drop (k + 1)) (p.drop (k + 1)) ((plv a.hd.k lv).getD j 0) = lvL ts p 0 := hlv
    rw [plv_get _ _ _ hj] at hlv2
    obtain ⟨cp, xs, ys, rfl, hcp, ⟨fs, rfl, hfs⟩, hyv⟩ := hav.split
    show wL _ _ _ [some (.ref cp), some (.ref ut), some (.int lv), some (.int (j : Int))] _
    refine l_cons (s_if (t_w (w_or (t_cmp ?_))))
    walk_at "sts"
    refine ix_t (by exact SqT.of hcp) at0 ?_
    walk_at "sts"
    refine ⟨by show 3 ≤ sizeLine; decide, fun tp H1 e1 n1 h1 => ?_⟩
    refine o_inT (by exact SqT.of h1) rfl rfl ⟨_, rfl, ?_⟩
    rw [up_nm]
    cases hup : a.hd.k.up with
    | true =>
      refine iteT (iteT ?_)
      refine l_cons (s_set (e_bin (e_var (e_int (o_add (l_nil ?_))))))
      refine l_cons (s_set (e_ix (e_call (by exact FP) (by exact hr) (by decide) ?_)))
      walk_at "sts"
      refine ⟨.ref cp, a, rfl, hav.ts (Same.ts e1), ao.hd.1, fun pl us9 H9 e9 n9 h9 hus => ?_⟩
      have hju : j < us9.length := by rw [hus.len]; exact (List.getElem?_eq_some_iff.mp g5).1
      have hyj : us9[j]? = some us9[j] := List.getElem?_eq_getElem hju
      obtain ⟨b2, hb2, hbv⟩ := hus.get hyj
      rw [g5] at hb2
      cases hb2
      refine e_var (ix_l (by exact SqL.of h9) (atI_nat hyj) ?_)
      exact l_nil ⟨b, us9[j], _, _, rfl, g2, hbv, by rw [if_pos (by rw [hup]; rfl)] at hlv2; exact hlv2, fun c o hc => e9 _ _ (e1 _ _ (e _ _ hc))⟩
    | false =>
      refine iteF (w_or1 (t_w (w_and (t_cmp ?_))))
      walk_at "sts"
      refine ix_t (by exact SqT.of (e1 _ _ hcp)) at0 ?_
      walk_at "sts"
      refine ⟨by show 2 ≤ sizeLine; decide, fun tp2 H2 e2 n2 h2 => ?_⟩
      have e12 := e1.trans e2
      refine o_inT (by exact SqT.of h2) rfl rfl ⟨_, rfl, ?_⟩
      rw [tw_nm]
      cases htw : a.hd.k.tw with
      | false =>
        refine iteF (iteF (l_nil ?_))
        refine l_cons (s_set (e_ix (e_call (by exact FP) (by exact hr) (by decide) ?_)))
        walk_at "sts"
        refine ⟨.ref cp, a, rfl, hav.ts (Same.ts e12), ao.hd.1, fun pl us9 H9 e9 n9 h9 hus => ?_⟩
        have hju : j < us9.length := by rw [hus.len]; exact (List.getElem?_eq_some_iff.mp g5).1
        have hyj : us9[j]? = some us9[j] := List.getElem?_eq_getElem hju
        obtain ⟨b2, hb2, hbv⟩ := hus.get hyj
        rw [g5] at hb2
        cases hb2
        refine e_var (ix_l (by exact SqL.of h9) (atI_nat hyj) ?_)
        exact l_nil ⟨b, us9[j], _, _, rfl, g2, hbv, by rw [if_neg (by rw [hup, htw]; simp)] at hlv2; exact hlv2, fun c o hc => e9 _ _ (e12 _ _ (e _ _ hc))⟩
      | true =>
        refine iteT (w_and1 (t_cmp ?_))
        walk_at "sts"
        by_cases h1j : (j : Int) = 1
        · refine ifT h1j ?_
          refine l_cons (s_set (e_bin (e_var (e_int (o_add (l_nil ?_))))))
          refine l_cons (s_set (e_ix (e_call (by exact FP) (by exact hr) (by decide) ?_)))
          walk_at "sts"
          refine ⟨.ref cp, a, rfl, hav.ts (Same.ts e12), ao.hd.1, fun pl us9 H9 e9 n9 h9 hus => ?_⟩
          have hju : j < us9.length := by rw [hus.len]; exact (List.getElem?_eq_some_iff.mp g5).1
          have hyj : us9[j]? = some us9[j] := List.getElem?_eq_getElem hju
          obtain ⟨b2, hb2, hbv⟩ := hus.get hyj
          rw [g5] at hb2
          cases hb2
          refine e_var (ix_l (by exact SqL.of h9) (atI_nat hyj) ?_)
          exact l_nil ⟨b, us9[j], _, _, rfl, g2, hbv, by rw [if_pos (by rw [hup, htw, decide_eq_true h1j]; rfl)] at hlv2; exact hlv2, fun c o hc => e9 _ _ (e12 _ _ (e _ _ hc))⟩
        · refine ifF h1j (l_nil ?_)
          refine l_cons (s_set (e_ix (e_call (by exact FP) (by exact hr) (by decide) ?_)))
          walk_at "sts"
          refine ⟨.ref cp, a, rfl, hav.ts (Same.ts e12), ao.hd.1, fun pl us9 H9 e9 n9 h9 hus => ?_⟩
          have hju : j < us9.length := by rw [hus.len]; exact (List.getElem?_eq_some_iff.mp g5).1
          have hyj : us9[j]? = some us9[j] := List.getElem?_eq_getElem hju
          obtain ⟨b2, hb2, hbv⟩ := hus.get hyj
          rw [g5] at hb2
          cases hb2
          refine e_var (ix_l (by exact SqL.of h9) (atI_nat hyj) ?_)
          exact l_nil ⟨b, us9[j], _, _, rfl, g2, hbv, by rw [if_neg (by rw [hup, htw, decide_eq_false h1j]; decide)] at hlv2; exact hlv2, fun c o hc => e9 _ _ (e12 _ _ (e _ _ hc))⟩
  · intro σ H' pr
    obtain ⟨a, av, lv, x, rfl, ha, hav, hlv, e⟩ := pr
    rw [List.length_map, List.drop_length] at hlv
    have hend : lvL (ts.drop p.length) [] lv = lv := by cases ts.drop p.length <;> rfl
    rw [hend] at hlv
    refine l_cons (s_ret (e_var ?_))
    rw [hlv]
    exact q H' e
end
theorem dep_le : ∀ t : Tr, t.dep + 1 ≤ t.size
  | .le _ => Nat.le_refl _
  | .un _ a => by have := dep_le a; simp only [Tr.dep, Tr.size]; omega
  | .bi _ a b => by have := dep_le a; have := dep_le b; simp only [Tr.dep, Tr.size]; omega
theorem sqL_up {K : PySem.W.Frag} {H H' : Hp} {a : Addr} {xs : List V} (e : Same H H') (h : SqL K H a xs) : SqL K H' a xs := by
  rcases h with h | h
  · rcases h with h | ⟨o, h⟩
    · exact .inl (.inl (e _ _ h))
    · exact .inl (.inr ⟨o, e _ _ h⟩)
  · exact .inr h
section
variable {P : Program} {w : World} {K : PySem.W.Frag} {mg : Str → Option Value} {base : Heap}
def spDrawn (K : PySem.W.Frag) : Sp := fun vs H Q _ => ∃ (a : Addr) (ns : List Int) (k : Nat), vs = [.ref a, .int k] ∧ SqL K H a (ns.map V.int) ∧ ∀ v t H', Same H H' → TrV H' t v → GoodT t → t.size ≤ 60 → Q v H'
theorem ok_drawn (T : Top K mg "_law_drawn" s_drawn) (FPo : Fn P w K mg base 2 "_law_pool" (spPool K)) (FN : Fn P w K mg base 1 "_law_next" spNext) (FD : Fn P w K mg base (2 * 60 + 3) "_law_free" (spDraw 60)) : Fn P w K mg base 124 "_law_drawn" (spDrawn K) := by
  refine fn_ok T sc_drawn so_drawn (fun vs H Q E h => by obtain ⟨a, ns, k, rfl, _⟩ := h; rfl) (fun _ _ _ _ _ _ us hl => match us, hl with | [_, _], _ => rfl) fun f cdv A outer s H vs Q E hr h nd => ?_
  obtain ⟨a, ns, k, rfl, hS, q⟩ := h
  refine l_cons (s_set (e_call (by exact FPo) (by exact hr) (by decide) ?_))
  walk_at "sts"
  refine ⟨a, ns, k, rfl, hS, fun p H1 e1 n1 p1 => ?_⟩
  show wL _ _ _ [some (.ref a), some (.int (k : Int)), some (.ref p), none] _
  refine l_cons (s_set (e_bin (e_int (e_call (by exact FN) (by exact hr) (by decide) ?_))))
  walk_at "sts"
  refine ⟨p, 12, rfl, by decide, by decide, p1, fun d3 H3 c0 c1 b3 p3 => o_add ?_⟩
  obtain ⟨k3, rfl⟩ := Int.eq_ofNat_of_zero_le c0
  rw [show (1 : Int) + (k3 : Int) = ((1 + k3 : Nat) : Int) by omega]
  show wL _ _ _ [some (.ref a), some (.int (k : Int)), some (.ref p), some (.int ((1 + k3 : Nat) : Int))] _
  refine l_cons (s_if (t_cmp (e_call (by exact FN) (by exact hr) (by decide) ?_)))
  walk_at "sts"
  refine ⟨p, 8, rfl, by decide, by decide, p3, fun d4 H4 _ _ b4 p4 => ?_⟩
  have s14 : Same H H4 := fun c o hc => by
    have cp : c ≠ p := fun z => by subst z; rw [n1] at hc; cases hc
    exact b4 _ _ cp (b3 _ _ cp (e1 _ _ hc))
  walk_at "sts"
  have rest : ∀ many : Nat, 1 ≤ many → many ≤ 60 → wL (cxOf CX0 P w K mg base N_drawn "_law_drawn" (defScope s_drawn) f cdv A outer s H E).nox ((defBody s_drawn).drop 3) { nx := fun _ H' => Q .non H', rt := Q } [some (.ref a), some (.int (k : Int)), some (.ref p), some (.int (many : Int))] H4 := by
    intro many hm1 hm2
    refine l_cons (s_ret (e_call (by exact FD) (by exact hr) (by decide) (a_cons (e_d2 fun wa nwa => ?_))))
    have npw : p ≠ wa := fun z => by subst z; obtain ⟨_, _, _, e⟩ := p4; rw [nwa] at e; cases e
    walk_at "sts"
    refine ⟨upd_same, "pool", "offers", rfl, rfl, by decide +kernel, ?_⟩
    have s45 : Same H4 (upd (upd H4 wa (.dK [])) wa (.dK [(Sum.inr "pool", .ref p), (Sum.inr "offers", .int 60)])) := fun c o hc => by
      have cd : c ≠ wa := fun z => by subst z; rw [nwa] at hc; cases hc
      rw [upd_ne cd, upd_ne cd]
      exact hc
    have hw5 : WayAt (upd (upd H4 wa (.dK [])) wa (.dK [(Sum.inr "pool", .ref p), (Sum.inr "offers", .int 60)])) wa p := ⟨60, upd_same⟩
    generalize upd (upd H4 wa (.dK [])) wa (.dK [(Sum.inr "pool", .ref p), (Sum.inr "offers", .int 60)]) = H5 at s45 hw5 ⊢
    walk_at "sts"
    refine ⟨wa, p, many, 0, 200, rfl, hw5, p4.same s45, hm1, hm2, Int.le_refl _, by omega, fun v t H6 f6 hv hg hs => ?_⟩
    exact q v t H6 (fun c o hc => f6.bt c o (fun z => by subst z; rw [n1] at hc; cases hc) (fun z => by subst z; rw [s14 _ _ hc] at nwa; cases nwa) (s45 _ _ (s14 _ _ hc))) hv hg (by omega)
  refine if2 (fun _ => ?_) (fun _ => l_nil (rest (1 + k3) (by omega) (by omega)))
  refine l_cons (s_set (e_int (l_nil ?_)))
  exact rest 60 (by omega) (by omega)
end


theorem tru_t {K : PySem.W.Frag} {H : Hp} {l : Addr} {xs : List V} (h : H l = some (.tup xs)) : TruV K (.ref l) H (!xs.isEmpty) := .inr (.inl ⟨xs, SqT.of h, rfl⟩)
def subE : Expr → Expr
  | .Subscript e _ _ => e
  | e => e
theorem bk_put : BkOk (N_put ++ C_put) [(4, "_law_k"), (0, "_law_tree")] ["_law_row"] 4 "_law_k" (defScope s_put) (lcSc (subE (valE ((defBody s_put).getD 1 (.Pass ⟨0, 0, 0, 0⟩))))) := ⟨by decide +kernel, by decide +kernel, by decide +kernel, by decide +kernel⟩
def setK : Tr → Nat → Tr → Tr
  | .un h _, 0, x => .un h x
  | .bi h _ b, 0, x => .bi h x b
  | .bi h a _, 1, x => .bi h a x
  | t, _, _ => t
/-- the tree with the part at a path replaced -/
def putT : Tr → List Int → Tr → Tr
  | _, [], o => o
  | t, i :: p, o => match t.ks[i.toNat]? with
    | some a => setK t i.toNat (putT a p o)
    | none => t
theorem setK_V {H : Hp} {t x : Tr} {j : Nat} {xs ys : List V} {v : V} {p : Addr} (hj : j < t.ks.length) (hx : HdL H t.hd xs) (hy : TrsV H t.ks ys) (hv : TrV H x v) (hp : H p = some (.tup ((xs ++ ys.take j) ++ [v] ++ ys.drop (j + 1)))) : TrV H (setK t j x) (.ref p) := by
  cases t with
  | le h => simp [Tr.ks] at hj
  | un h a =>
    obtain ⟨y, us, rfl, h1, h2⟩ := hy
    cases (show us = [] from h2)
    have : j = 0 := by simp [Tr.ks] at hj; exact hj
    subst this
    exact ⟨p, xs, v, rfl, by rw [hp]; simp, hx, hv⟩
  | bi h a b =>
    obtain ⟨y, us, rfl, h1, y2, us2, rfl, h2, h3⟩ := hy
    cases (show us2 = [] from h3)
    have : j = 0 ∨ j = 1 := by simp [Tr.ks] at hj; omega
    rcases this with rfl | rfl
    · exact ⟨p, xs, v, y2, rfl, by rw [hp]; simp, hx, hv, h2⟩
    · exact ⟨p, xs, y, v, rfl, by rw [hp]; simp, hx, h1, hv⟩
theorem row_at {H : Hp} {t : Tr} {xs ys : List V} {k : Nat} {x : V} (hx : HdL H t.hd xs) (hy : TrsV H t.ks ys) (h : (xs ++ ys)[k]? = some x) : RowQ H x (decide (xs.length ≤ k)) := by
  obtain ⟨fs, rfl, hfs⟩ := hx
  by_cases hlt : k < (V.str t.hd.k.nm :: (rL t.hd.r ++ fs)).length
  · rw [decide_eq_false (by omega)]
    rw [List.getElem?_append_left hlt] at h
    have hm := List.mem_of_getElem? h
    rcases List.mem_cons.mp hm with rfl | hm
    · exact .inl ⟨rfl, .inr ⟨_, rfl⟩⟩
    · rcases List.mem_append.mp hm with hm | hm
      · cases hr0 : t.hd.r with
        | none => rw [hr0] at hm; cases hm
        | some r => rw [hr0] at hm; rw [List.mem_singleton.mp (show x ∈ [kV r] from hm)]; exact .key r
      · exact FsV.mem hfs hm
  · rw [decide_eq_true (by omega)]
    rw [List.getElem?_append_right (by omega)] at h
    obtain ⟨s, _, hs⟩ := hy.get h
    exact .tr hs
section
variable {P : Program} {w : World} {K : PySem.W.Frag} {mg : Str → Option Value} {base : Heap}
def spPut (n : Nat) : Sp := fun vs H Q _ => ∃ v u x t p o ts, vs = [v, u, x] ∧ TrV H t v ∧ t.Ok ∧ PthI H p u ∧ TrV H o x ∧ alongT t p = some ts ∧ p.length ≤ n ∧ ∀ r H', Same H H' → TrV H' (putT t p o) r → Q r H'
theorem ok_putS (n : Nat) (T : Top K mg "_law_put" s_put) (mLen : mg "len" = none) (mR : mg "range" = none) (FR : Fn P w K mg base 1 "_law_row" spRow) (F : ∀ m, n = m + 1 → Fn P w K mg base (m + 2) "_law_put" (spPut m)) : Fn P w K mg base (n + 2) "_law_put" (spPut n) := by
  refine fn_okC T sc_put so_put (fun vs H Q E h => by obtain ⟨v, u, x, t, p, o, ts, rfl, _⟩ := h; rfl) (fun _ _ _ _ _ _ us hl => match us, hl with | [_, _, _], _ => rfl) fun f cdv A outer s H vs Q E hr h nd => ?_
  obtain ⟨v, u, x, t, p, o, ts, rfl, hv, ho, ⟨ut, rfl, hut⟩, hx, hal, hn, q⟩ := h
  refine l_cons (s_if (t_not (t_tru (e_var ⟨_, tru_t hut, ?_⟩))))
  cases p with
  | nil =>
    refine iteT (l_cons (s_ret (e_var ?_)))
    exact q x H (Same.refl H) hx
  | cons i p =>
    refine iteF (l_nil ?_)
    obtain ⟨m, rfl⟩ : ∃ m, n = m + 1 := ⟨n - 1, by simp only [List.length_cons] at hn; omega⟩
    obtain ⟨f1, f2, f3, f4⟩ := along_facts ho hal
    obtain ⟨a', b, g1, g2, g3, g4⟩ := f4 0 i rfl
    rw [f2] at g1
    cases g1
    obtain ⟨j, rfl⟩ := Int.eq_ofNat_of_zero_le g3
    have g5 : t.ks[j]? = some b := g4
    have hj := (List.getElem?_eq_some_iff.mp g5).1
    rw [along_ok g5] at hal
    obtain ⟨ts', hal', rfl⟩ := Option.map_eq_some_iff.mp hal
    obtain ⟨tp, xs, ys, rfl, htp, hxs, hys⟩ := hv.split
    have lxs := hxs.len ho.hd.1
    have l3 := fs_le t.hd.k
    have lys := hys.len
    have lk := ks_le t
    refine l_cons (s_set (e_ix (e_lcRf (by exact bk_put) (by assumption) ?_)))
    walk_at "sts"
    refine c_lenT (by exact SqT.of htp) ⟨(xs ++ ys).length, rfl, by rw [List.length_append]; omega, fun D nD => ⟨fun k H2 => H2 D = some (.lst ((List.range (k - xs.length)).map fun (z : Nat) => V.int ((xs.length + z : Nat) : Int))) ∧ Same H H2, ⟨by rw [Nat.zero_sub]; exact upd_same, fun c u0 hc => by rw [upd_ne (ne_of_none hc nD)]; exact hc⟩, ?_, ?_⟩⟩
    · intro k H2 hk pr
      obtain ⟨hD, e⟩ := pr
      have hk2 : (xs ++ ys)[k]? = some (xs ++ ys)[k] := List.getElem?_eq_getElem hk
      have hq := row_at (hxs.ts (Same.ts e)) (hys.ts (Same.ts e)) hk2
      intro s0 H0 C cl fp IB
      refine t_val (b_call (by exact FR) (by exact hr) (by omega) ?_)
      refine a_cons (e_ix (b_var (b_var (ix_t (by exact SqT.of (e _ _ htp)) (atI_nat hk2) (a_nil ?_)))))
      refine ⟨_, _, rfl, hq, fun H3 e3 => ⟨_, rfl, ?_⟩⟩
      rw [List.length_append] at hk
      by_cases hle : xs.length ≤ k
      · refine ifT hle ?_
        intro s0 H0 C cl fp IB
        refine b_var ⟨_, e3 _ _ hD, by rw [List.length_map, List.length_range]; show _ < 2 ^ 24; omega, ?_, fresh_keep nD (Same.trans e e3)⟩
        rw [show k + 1 - xs.length = (k - xs.length) + 1 by omega, List.range_succ, List.map_append]
        rw [upd_same]
        show _ = some (HO.lst (_ ++ [V.int ((xs.length + (k - xs.length) : Nat) : Int)]))
        rw [show xs.length + (k - xs.length) = k by omega]
      · refine ifF hle ⟨?_, Same.trans e e3⟩
        rw [show k + 1 - xs.length = 0 by omega]
        have := e3 _ _ hD
        rw [show k - xs.length = 0 by omega] at this
        exact this
    · intro H2 pr
      obtain ⟨hD, e⟩ := pr
      rw [List.length_append, Nat.add_sub_cancel_left] at hD
      have hat : ((List.range ys.length).map fun (z : Nat) => V.int ((xs.length + z : Nat) : Int))[j]? = some (V.int ((xs.length + j : Nat) : Int)) := by
        rw [List.getElem?_map, List.getElem?_range (by omega)]
        rfl
      refine e_ix (e_var (e_int ?_))
      refine ix_t (by exact SqT.of (e _ _ hut)) at0 ?_
      refine ix_l (by exact SqL.of hD) (atI_nat hat) ?_
      show wL _ _ _ [some (.ref tp), some (.ref ut), some x, some (.int ((xs.length + j : Nat) : Int)), none] _
      have esp : xs ++ ys = (xs ++ ys.take j) ++ ys.drop j := by rw [List.append_assoc, List.take_append_drop]
      have l1 : (xs ++ ys.take j).length = xs.length + j := by rw [List.length_append, List.length_take]; omega
      have hyj : ys[j]? = some ys[j] := List.getElem?_eq_getElem (by omega)
      have esp2 : xs ++ ys = (xs ++ ys.take j ++ [ys[j]]) ++ ys.drop (j + 1) := by
        rw [esp, List.append_assoc (xs ++ ys.take j), List.singleton_append, ← List.drop_eq_getElem_cons]
      have l2 : (xs ++ ys.take j ++ [ys[j]]).length = xs.length + j + 1 := by rw [List.length_append, l1]; rfl
      obtain ⟨b', hb', hbv⟩ := hys.get hyj
      rw [g5] at hb'
      cases hb'
      have htp2 := e _ _ htp
      refine l_cons (s_ret (e_bin (e_bin (e_tHi ?_))))
      refine e_var (e_var ⟨tp, xs ++ ys.take j, ys.drop j, rfl, congrArg V.int (by rw [l1]), by rw [← esp]; exact htp2, fun t1 H3 e3 h3 => ?_⟩)
      refine e_tup (a_cons (e_call (by exact F m rfl) (by exact hr) (by omega) ?_))
      refine a_cons (e_ix (e_var (e_var ?_)))
      refine ix_t (by exact SqT.of (e3 _ _ htp2)) (atI_nat (v := ys[j]) (by rw [List.getElem?_append_right (by omega), Nat.add_sub_cancel_left]; exact hyj)) ?_
      refine a_cons (e_tLo ?_)
      refine e_var (e_int ⟨ut, [V.int (j : Int)], p.map V.int, rfl, rfl, e3 _ _ (e _ _ hut), fun t2 H4 e4 h4 => ?_⟩)
      refine a_cons (e_var (a_nil ?_))
      have e24 := Same.trans e (Same.trans e3 e4)
      refine ⟨_, _, _, b, p, o, ts', rfl, hbv.ts (Same.ts e24), ho.hd.2.2 b (List.mem_of_getElem? g5), ⟨t2, rfl, h4⟩, hx.ts (Same.ts e24), hal', by simp only [List.length_cons] at hn; omega, fun r H5 e5 hr5 => ?_⟩
      refine a_nil ⟨by show 1 ≤ sizeLine; decide, fun t3 H6 e6 n6 h6 => ?_⟩
      have e36 := Same.trans e4 (Same.trans e5 e6)
      have lb : xs.length + ys.length ≤ 10 := by omega
      refine o_catA (e36 _ _ h3) h6 (by rw [l1]; simp only [List.length_cons, List.length_nil]; omega) fun t4 H7 e7 h7 => ?_
      have e27 := Same.trans e (Same.trans e3 (Same.trans e36 e7))
      refine e_tLo ?_
      refine e_var (e_bin (e_var (e_int (o_add ?_))))
      refine ⟨tp, xs ++ ys.take j ++ [ys[j]], ys.drop (j + 1), rfl, congrArg V.int (by rw [l2]; omega), by rw [← esp2]; exact e27 _ _ htp, fun t5 H8 e8 h8 => ?_⟩
      refine o_catA (e8 _ _ h7) h8 (by rw [List.length_append, l1, List.length_drop]; simp only [List.length_cons, List.length_nil]; omega) fun t6 H9 e9 h9 => ?_
      have e29 := Same.trans e27 (Same.trans e8 e9)
      have ep : putT t ((j : Int) :: p) o = setK t j (putT b p o) := by
        show (match t.ks[((j : Int)).toNat]? with | some a => setK t ((j : Int)).toNat (putT a p o) | none => t) = _
        rw [show ((j : Int)).toNat = j from rfl, g5]
      refine q _ H9 e29 ?_
      rw [ep]
      exact setK_V hj (hxs.ts (Same.ts e29)) (hys.ts (Same.ts e29)) (hr5.ts (Same.ts (Same.trans e6 (Same.trans e7 (Same.trans e8 e9))))) h9
theorem ok_put (T : Top K mg "_law_put" s_put) (mLen : mg "len" = none) (mR : mg "range" = none) (FR : Fn P w K mg base 1 "_law_row" spRow) : ∀ n, Fn P w K mg base (n + 2) "_law_put" (spPut n)
  | 0 => ok_putS 0 T mLen mR FR fun m h => by cases h
  | n + 1 => ok_putS (n + 1) T mLen mR FR fun m h => by cases h; exact ok_put T mLen mR FR n
end


/-- a path of indexes that are there -/
abbrev ip (p : List Nat) : List Int := p.map fun (n : Nat) => (n : Int)
theorem at_along : ∀ {t s : Tr} {p : List Nat}, atT t p = some s → ∃ ts, alongT t (ip p) = some ts ∧ ts.getLast? = some s
  | t, s, [], h => by cases h; exact ⟨[t], rfl, rfl⟩
  | t, s, k :: p, h => by
    cases hk : t.ks[k]? with
    | none => simp only [atT, hk] at h; cases h
    | some a =>
      have h' : atT a p = some s := by simpa only [atT, hk] using h
      obtain ⟨ts, h1, h2⟩ := at_along h'
      refine ⟨t :: ts, ?_, ?_⟩
      · show alongT t ((k : Int) :: ip p) = _
        rw [along_ok hk, h1]
        rfl
      · cases ts with
        | nil => cases h2
        | cons b ts => rw [List.getLast?_cons_cons]; exact h2
theorem along_bad : ∀ {t s : Tr} {p : List Nat} {i : Int} {r : List Int}, atT t p = some s → (¬ 0 ≤ i ∨ s.ks[i.toNat]? = none) → alongT t (ip p ++ i :: r) = none
  | t, s, [], i, r, h, hb => by cases h; exact along_no hb
  | t, s, k :: p, i, r, h, hb => by
    cases hk : t.ks[k]? with
    | none => simp only [atT, hk] at h; cases h
    | some a =>
      have h' : atT a p = some s := by simpa only [atT, hk] using h
      show alongT t ((k : Int) :: (ip p ++ i :: r)) = none
      rw [along_ok hk, along_bad h' hb]
      rfl
theorem at_ok : ∀ {t s : Tr} {p : List Nat}, t.Ok → atT t p = some s → s.Ok
  | t, s, [], o, h => by cases h; exact o
  | t, s, k :: p, o, h => by
    cases hk : t.ks[k]? with
    | none => simp only [atT, hk] at h; cases h
    | some a => exact at_ok (o.hd.2.2 a (List.mem_of_getElem? hk)) (by simpa only [atT, hk] using h)
section
variable {P : Program} {w : World} {K : PySem.W.Frag} {mg : Str → Option Value} {base : Heap}
def spWrong : Sp := fun vs H Q _ => ∃ pl v u t p s, vs = [.ref pl, v, u] ∧ PoolAt H pl ∧ TrV H t v ∧ t.Ok ∧ PthV H p u ∧ atT t p = some s ∧ p.length ≤ 1000 ∧ ∀ r p' H', But pl H H' → PoolAt H' pl → PthI H' p' r → alongT t p' = none → p'.length ≤ p.length + 3 → Q r H'
theorem ok_wrong (T : Top K mg "_law_wrong" s_wrong) (mLen : mg "len" = none) (mR : mg "range" = none) (mTup : mg "tuple" = none) (FP : Fn P w K mg base 2 "_law_parts" spParts) (FA : Fn P w K mg base 3 "_law_at" spAt) (FN : Fn P w K mg base 1 "_law_next" spNext) : Fn P w K mg base 4 "_law_wrong" spWrong := by
  refine fn_okC T sc_wrong so_wrong (fun vs H Q E h => by obtain ⟨pl, v, u, t, p, s, rfl, _⟩ := h; rfl) (fun _ _ _ _ _ _ us hl => match us, hl with | [_, _, _], _ => rfl) fun f cdv A outer s H vs Q E hr h nd => ?_
  obtain ⟨pl, v, u, t, p, s0, rfl, hp, hv, ho, hu, hs, hl, q⟩ := h
  have so := at_ok ho hs
  refine l_cons (s_set (e_callB (x := "len") (by assumption) b_len (a_cons (e_call (by exact FP) (by exact hr) (by decide) (a_cons (e_call (by exact FA) (by exact hr) (by decide) ?_))))))
  walk_at "sts"
  refine ⟨v, u, t, p, s0, rfl, hv, ho, hu, hs, by omega, fun v1 H1 e1 hv1 => ?_⟩
  refine a_nil ⟨v1, s0, rfl, hv1, so.hd.1, fun l us H2 e2 n2 h2 hus => a_nil (c_lenL (SqL.of h2) ?_)⟩
  have e12 := e1.trans e2
  have p2 : PoolAt H2 pl := let ⟨x, y, z, w⟩ := hp; ⟨x, y, z, e12 _ _ w⟩
  have lus := hus.len
  have lk := ks_le s0
  show wL _ _ _ [some (.ref pl), some v, some u, some (.int (us.length : Int)), none, none, none] _
  refine l_cons (s_set (e_ix ?_))
  walk_at "sts"
  refine o_pow ⟨by decide, by decide, by decide⟩ ?_
  walk_at "sts"
  refine ⟨by show 4 ≤ sizeLine; decide, fun bl H3 e3 n3 h3 => ?_⟩
  have p3 := let ⟨x, y, z, w⟩ := p2; (⟨x, y, z, e3 _ _ w⟩ : PoolAt H3 pl)
  have nbp : bl ≠ pl := fun z => by subst z; obtain ⟨_, _, _, w⟩ := p2; rw [n3] at w; cases w
  refine e_call (by exact FN) (by exact hr) (by decide) ?_
  walk_at "sts"
  refine ⟨pl, 4, rfl, by decide, by decide, p3, fun d4 H4 a0 a1 b4 p4 => ?_⟩
  have h4 := b4 _ _ nbp h3
  obtain ⟨j, rfl⟩ := Int.eq_ofNat_of_zero_le a0
  have hbad : ∃ i : Int, ([V.int (us.length : Int), V.int 2, V.int (-1), V.int ((10 : Int) ^ (9 : Int).toNat)] : List V)[j]? = some (V.int i) ∧ (¬ 0 ≤ i ∨ s0.ks[i.toNat]? = none) := by
    have hj : j < 4 := by omega
    match j, hj with
    | 0, _ => exact ⟨_, rfl, .inr (List.getElem?_eq_none (by rw [← lus]; simp))⟩
    | 1, _ => exact ⟨_, rfl, .inr (List.getElem?_eq_none lk)⟩
    | 2, _ => exact ⟨_, rfl, .inl (by decide)⟩
    | 3, _ => exact ⟨_, rfl, .inr (List.getElem?_eq_none (Nat.le_trans lk (by decide)))⟩
  obtain ⟨bad, hb1, hb2⟩ := hbad
  refine ix_l (by exact SqL.of h4) (atI_nat hb1) ?_
  show wL _ _ _ [some (.ref pl), some v, some u, some (.int (us.length : Int)), some (.int bad), none, none] _
  refine l_cons (s_lcR (by exact bk_wrong0) (by assumption) (e_call (by exact FN) (by exact hr) (by decide) ?_))
  walk_at "sts"
  refine ⟨pl, 3, rfl, by decide, by decide, p4, fun d5 H5 c0 c1 b5 p5 => ?_⟩
  obtain ⟨m, rfl⟩ := Int.eq_ofNat_of_zero_le c0
  have bH5 : But pl H H5 := fun c o nc hc => b5 _ _ nc (b4 _ _ nc (e3 _ _ (e12 _ _ hc)))
  refine ⟨m, rfl, by omega, fun D nD => ⟨fun k H6 => ∃ ns : List Int, H6 D = some (.lst (ns.map V.int)) ∧ ns.length = k ∧ PoolAt H6 pl ∧ But pl H5 H6, ⟨[], upd_same, rfl, ?_, fun c o nc hc => by rw [upd_ne (ne_of_none hc nD)]; exact hc⟩, ?_, ?_⟩⟩
  · obtain ⟨x, y, z, w⟩ := p5
    exact ⟨x, y, z, by rw [upd_ne (ne_of_none w nD)]; exact w⟩
  · intro k H6 hk pr s0 H0 C cl fp IB
    obtain ⟨ns, hD, hn, p6, b6⟩ := pr
    have nDp : D ≠ pl := fun z => by subst z; obtain ⟨_, _, _, w⟩ := p5; rw [nD] at w; cases w
    refine b_call (by exact FN) (by exact hr) (by decide) ?_
    refine a_cons (b_var (a_cons (e_int (a_nil ?_))))
    refine ⟨pl, 2, rfl, by decide, by decide, p6, fun d7 H7 _ _ b7 p7 => ⟨_, b7 _ _ nDp hD, by rw [List.length_map]; show _ < 2 ^ 24; omega, ns ++ [d7], ?_, by rw [List.length_append, hn]; rfl, ?_, ?_⟩⟩
    · rw [List.map_append]; exact upd_same
    · obtain ⟨x, y, z, w⟩ := p7
      exact ⟨x, y, z, by rw [upd_ne (Ne.symm nDp)]; exact w⟩
    · intro c o nc hc
      rw [upd_ne (fun z => by subst z; rw [nD] at hc; cases hc)]
      exact b7 _ _ nc (b6 _ _ nc hc)
  · intro H6 pr
    obtain ⟨ns, hD, hn, p6, b6⟩ := pr
    have bH6 : But pl H H6 := fun c o nc hc => b6 _ _ nc (bH5 _ _ nc hc)
    obtain ⟨ut, rfl, hut⟩ := hu
    have nup : ut ≠ pl := fun z => by subst z; obtain ⟨_, _, _, w⟩ := hp; rw [hut] at w; cases w
    have hut6 := bH6 _ _ nup hut
    show wL _ _ _ [some (.ref pl), some v, some (.ref ut), some (.int (us.length : Int)), some (.int bad), some (.ref D), none] _
    refine l_cons (s_ret (e_bin (e_bin (e_var (e_tup (a_cons (e_var (a_nil ⟨by show 1 ≤ sizeLine; decide, fun t7 H7 e7 n7 h7 => ?_⟩))))))))
    refine o_catA (e7 _ _ hut6) h7 (by rw [List.length_map]; simp only [List.length_cons, List.length_nil]; omega) fun t8 H8 e8 h8 => ?_
    refine e_callTy (x := "tuple") (by assumption) b_tuple (a_cons (e_var (a_nil ?_)))
    refine c_tupL (SqL.of (e8 _ _ (e7 _ _ hD))) fun t9 H9 e9 n9 h9 => ?_
    refine o_catA (e9 _ _ h8) h9 (by rw [List.length_append, List.length_map, List.length_map]; simp only [List.length_cons, List.length_nil]; omega) fun t10 H10 e10 h10 => ?_
    have e610 := (e7.trans e8).trans (Same.trans e9 e10)
    have pe : ip p ++ bad :: ns = ip p ++ [bad] ++ ns := by simp
    refine q _ (ip p ++ bad :: ns) H10 (fun c o nc hc => e610 _ _ (bH6 _ _ nc hc)) (let ⟨x, y, z, w⟩ := p6; ⟨x, y, z, e610 _ _ w⟩) ⟨t10, rfl, ?_⟩ (along_bad hs hb2) (by rw [List.length_append, List.length_map, List.length_cons, hn]; omega)
    rw [h10, pe, List.map_append, List.map_append, List.map_map]
    rfl
end


section
variable {P : Program} {w : World} {K : PySem.W.Frag} {mg : Str → Option Value} {base : Heap}
theorem ok_numH (T : Top K mg "_law_is_number" s_is_number) (mIs : mg "isinstance" = none) (mInt : mg "int" = none) (mBool : mg "bool" = none) : FnHt P w K mg base 1 "_law_is_number" spNum := by
  refine fn_okH2 T sc_is_number so_is_number (fun vs H Q E h => by obtain ⟨i, rfl, _⟩ := h; rfl) (fun _ _ _ _ _ _ us hl => match us, hl with | [_], _ => rfl) fun f cdv A outer s H vs Q E pp hr h nd hot => ?_
  obtain ⟨i, rfl, q⟩ := h
  walk_at "sts"
  refine c_isi ty_int (.ty _) (kit_ty kb_int_int) ?_
  walk_at "sts"
  refine c_isi ty_int (.ty _) (kit_ty kb_int_bool) ?_
  walk_at "sts"
  exact q
theorem ok_sameHS (n : Nat) (T : Top K mg "_law_same" s_same) (mIs : mg "isinstance" = none) (mStr : mg "str" = none) (mTup : mg "tuple" = none) (mList : mg "list" = none) (mLen : mg "len" = none) (mR : mg "range" = none) (FN : FnHt P w K mg base 1 "_law_is_number" spNum)
    (F : ∀ m, n = m + 1 → FnHt P w K mg base (m + 2) "_law_same" (spSame m)) : FnHt P w K mg base (n + 2) "_law_same" (spSame n) := by
  refine fn_okH2 T sc_same so_same (fun vs H Q E h => by obtain ⟨v, u, rfl, _⟩ := h; rfl) (fun _ _ _ _ _ _ us hl => match us, hl with | [_, _], _ => rfl) fun f cdv A outer s H vs Q E pp hr h nd hot => ?_
  obtain ⟨v, u, rfl, hv, q⟩ := h
  have hsh : (∃ i, v = .int i ∧ u = .int i) ∨ (∃ z, v = .str z ∧ u = .str z) ∨ ∃ m a b xs ys, n = m + 1 ∧ v = .ref a ∧ u = .ref b ∧ ((H a = some (.tup xs) ∧ H b = some (.tup ys)) ∨ (H a = some (.lst xs) ∧ H b = some (.lst ys))) ∧ xs.length = ys.length ∧ xs.length ≤ 2000 ∧ ∀ (i : Nat) x y, xs[i]? = some x → ys[i]? = some y → Eqd H m x y := by
    cases n with
    | zero => rcases hv with h | h
              · exact .inl h
              · exact .inr (.inl h)
    | succ m => rcases hv with h | h | ⟨a, b, xs, ys, h⟩
                · exact .inl h
                · exact .inr (.inl h)
                · exact .inr (.inr ⟨m, a, b, xs, ys, rfl, h⟩)
  rcases hsh with ⟨i, rfl, rfl⟩ | ⟨z, rfl, rfl⟩ | ⟨m, a, b, xs, ys, rfl, rfl, rfl, hs, hl, hz, hi⟩
  · walk_at "sts"
    refine c_isi ty_int (.ty _) (kit_ty kb_int_str) ?_
    walk_at "sts"
    refine ⟨by show 2 ≤ sizeLine; decide, fun p H1 e1 n1 h1 => ?_⟩
    walk_at "sts"
    refine c_isiT ty_int h1 two_ty (kit2 kb_int_tuple kb_int_list) ?_
    walk_at "sts"
    refine e_callH (by exact FN) (by exact hr) (by omega) (by exact hot) ?_
    walk_at "sts"
    rw [decide_eq_true rfl]
    exact q H1 e1
  · walk_at "sts"
    refine c_isi ty_str (.ty _) (kit_ty kb_str_str) ?_
    walk_at "sts"
    refine c_isi ty_str (.ty _) (kit_ty kb_str_str) ?_
    walk_at "sts"
    rw [decide_eq_true rfl]
    exact q H (Same.refl H)
  · have F0 := F m rfl
    rcases hs with ⟨ha, hb⟩ | ⟨ha, hb⟩
    · walk_at "sts"
      refine c_isi (ty_tup hb) (.ty _) (kit_ty kb_tuple_str) ?_
      walk_at "sts"
      refine ⟨by show 2 ≤ sizeLine; decide, fun p1 H1 e1 n1 h1 => ?_⟩
      walk_at "sts"
      refine c_isiT (ty_tup (e1 _ _ hb)) h1 two_ty (kit2 kb_tuple_tuple kb_tuple_list) ?_
      walk_at "sts"
      refine ⟨by show 2 ≤ sizeLine; decide, fun p2 H2 e2 n2 h2 => ?_⟩
      have e12 := e1.trans e2
      walk_at "sts"
      refine c_isiT (ty_tup (e12 _ _ ha)) h2 two_ty (kit2 kb_tuple_tuple kb_tuple_list) ?_
      walk_at "sts"
      refine c_isi (ty_tup (e12 _ _ ha)) (.ty _) (kit_ty kb_tuple_list) ?_
      walk_at "sts"
      refine c_isi (ty_tup (e12 _ _ hb)) (.ty _) (kit_ty kb_tuple_list) ?_
      walk_at "sts"
      refine c_lenT (by exact SqT.of (e12 _ _ ha)) ?_
      walk_at "sts"
      refine c_lenT (by exact SqT.of (e12 _ _ hb)) ?_
      walk_at "sts"
      rw [decide_eq_true (show (xs.length : Int) = (ys.length : Int) by omega)]
      walk_at "sts"
      refine s_forRH (by assumption) (by exact hot) ?_
      walk_at "sts"
      refine c_lenT (by exact SqT.of (e12 _ _ hb)) ⟨ys.length, rfl, by omega, fun k σ H' => ∃ x, σ = [some (.ref a), some (.ref b), x] ∧ Same H H', ⟨none, rfl, e12⟩, ?_, ?_⟩
      · intro k σ H3 hk pr
        obtain ⟨x, rfl, e3⟩ := pr
        show wL _ _ _ [some (.ref a), some (.ref b), some (.int (k : Int))] _
        have hx : xs[k]? = some xs[k] := List.getElem?_eq_getElem (by omega)
        have hy : ys[k]? = some ys[k] := List.getElem?_eq_getElem hk
        refine l_cons (s_if (t_not (t_val ?_)))
        refine e_callH (by exact F0) (by exact hr) (by omega) (by exact hot) ?_
        walk_at "sts"
        refine ix_t (by exact SqT.of (e3 _ _ ha)) (atI_nat hx) ?_
        walk_at "sts"
        refine ix_t (by exact SqT.of (e3 _ _ hb)) (atI_nat hy) ?_
        walk_at "sts"
        refine ⟨xs[k], ys[k], rfl, (hi k _ _ hx hy).up e3, fun H4 e4 => ⟨_, rfl, iteF (l_nil (l_nil ⟨_, rfl, e3.trans e4⟩))⟩⟩
      · intro σ H3 pr
        obtain ⟨x, rfl, e3⟩ := pr
        walk_at "sts"
        exact q H3 e3
    · walk_at "sts"
      refine c_isi (ty_lst hb) (.ty _) (kit_ty kb_list_str) ?_
      walk_at "sts"
      refine ⟨by show 2 ≤ sizeLine; decide, fun p1 H1 e1 n1 h1 => ?_⟩
      walk_at "sts"
      refine c_isiT (ty_lst (e1 _ _ hb)) h1 two_ty (kit2 kb_list_tuple kb_list_list) ?_
      walk_at "sts"
      refine ⟨by show 2 ≤ sizeLine; decide, fun p2 H2 e2 n2 h2 => ?_⟩
      have e12 := e1.trans e2
      walk_at "sts"
      refine c_isiT (ty_lst (e12 _ _ ha)) h2 two_ty (kit2 kb_list_tuple kb_list_list) ?_
      walk_at "sts"
      refine c_isi (ty_lst (e12 _ _ ha)) (.ty _) (kit_ty kb_list_list) ?_
      walk_at "sts"
      refine c_isi (ty_lst (e12 _ _ hb)) (.ty _) (kit_ty kb_list_list) ?_
      walk_at "sts"
      refine c_lenL (by exact SqL.of (e12 _ _ ha)) ?_
      walk_at "sts"
      refine c_lenL (by exact SqL.of (e12 _ _ hb)) ?_
      walk_at "sts"
      rw [decide_eq_true (show (xs.length : Int) = (ys.length : Int) by omega)]
      walk_at "sts"
      refine s_forRH (by assumption) (by exact hot) ?_
      walk_at "sts"
      refine c_lenL (by exact SqL.of (e12 _ _ hb)) ⟨ys.length, rfl, by omega, fun k σ H' => ∃ x, σ = [some (.ref a), some (.ref b), x] ∧ Same H H', ⟨none, rfl, e12⟩, ?_, ?_⟩
      · intro k σ H3 hk pr
        obtain ⟨x, rfl, e3⟩ := pr
        show wL _ _ _ [some (.ref a), some (.ref b), some (.int (k : Int))] _
        have hx : xs[k]? = some xs[k] := List.getElem?_eq_getElem (by omega)
        have hy : ys[k]? = some ys[k] := List.getElem?_eq_getElem hk
        refine l_cons (s_if (t_not (t_val ?_)))
        refine e_callH (by exact F0) (by exact hr) (by omega) (by exact hot) ?_
        walk_at "sts"
        refine ix_l (by exact SqL.of (e3 _ _ ha)) (atI_nat hx) ?_
        walk_at "sts"
        refine ix_l (by exact SqL.of (e3 _ _ hb)) (atI_nat hy) ?_
        walk_at "sts"
        refine ⟨xs[k], ys[k], rfl, (hi k _ _ hx hy).up e3, fun H4 e4 => ⟨_, rfl, iteF (l_nil (l_nil ⟨_, rfl, e3.trans e4⟩))⟩⟩
      · intro σ H3 pr
        obtain ⟨x, rfl, e3⟩ := pr
        walk_at "sts"
        exact q H3 e3
theorem ok_sameH (T : Top K mg "_law_same" s_same) (mIs : mg "isinstance" = none) (mStr : mg "str" = none) (mTup : mg "tuple" = none) (mList : mg "list" = none) (mLen : mg "len" = none) (mR : mg "range" = none) (FN : FnHt P w K mg base 1 "_law_is_number" spNum) : ∀ n, FnHt P w K mg base (n + 2) "_law_same" (spSame n)
  | 0 => ok_sameHS 0 T mIs mStr mTup mList mLen mR FN fun m h => by cases h
  | n + 1 => ok_sameHS (n + 1) T mIs mStr mTup mList mLen mR FN fun m h => by cases h; exact ok_sameH T mIs mStr mTup mList mLen mR FN n
end


theorem sg_walk : GScope N_walk P_walk (defScope s_walk) := ⟨rfl, rfl, rfl, by decide +kernel, rfl, by decide +kernel, by decide +kernel⟩
/-- what the walk hands out: a row's path and its name -/
def wk : Tr → List Nat → List (List Nat × Kd)
  | .le h, p => [(p, h.k)]
  | .un h a, p => (p, h.k) :: wk a (p ++ [0])
  | .bi h a b, p => (p, h.k) :: (wk a (p ++ [0]) ++ wk b (p ++ [1]))
def wkL : List Tr → List Nat → Nat → List (List Nat × Kd)
  | [], _, _ => []
  | t :: ts, p, i => wk t (p ++ [i]) ++ wkL ts p (i + 1)
theorem wk_eq (t : Tr) (p : List Nat) : wk t p = (p, t.hd.k) :: wkL t.ks p 0 := by
  cases t <;> simp [wk, wkL, Tr.ks, Tr.hd]
theorem wk_len : ∀ (t : Tr) (p : List Nat), (wk t p).length = t.size
  | .le _, _ => rfl
  | .un _ a, p => by simp [wk, Tr.size, wk_len a]
  | .bi _ a b, p => by simp [wk, Tr.size, wk_len a, wk_len b]
def ItV (H : Hp) (x : List Nat × Kd) (v : V) : Prop := ∃ t u, v = .ref t ∧ H t = some (.tup [u, .str x.2.nm]) ∧ PthV H x.1 u
theorem ItV.ts {H H' : Hp} (e : TS H H') {x : List Nat × Kd} {v : V} : ItV H x v → ItV H' x v := fun ⟨t, u, h1, h2, h3⟩ => ⟨t, u, h1, e _ _ h2, h3.ts e⟩
def ItsV (H : Hp) : List (List Nat × Kd) → List V → Prop
  | [], vs => vs = []
  | x :: xs, vs => ∃ v us, vs = v :: us ∧ ItV H x v ∧ ItsV H xs us
theorem ItsV.ts {H H' : Hp} (e : TS H H') : ∀ {f : List (List Nat × Kd)} {v : List V}, ItsV H f v → ItsV H' f v
  | [], _, h => h
  | _ :: _, _, ⟨v, us, h1, h2, h3⟩ => ⟨v, us, h1, h2.ts e, h3.ts e⟩
theorem ItsV.snoc {H : Hp} {h : List Nat × Kd} {x : V} (hx : ItV H h x) : ∀ {f : List (List Nat × Kd)} {v : List V}, ItsV H f v → ItsV H (f ++ [h]) (v ++ [x])
  | [], _, e => by rw [show _ = _ from e]; exact ⟨x, [], rfl, hx, rfl⟩
  | _ :: _, _, ⟨v, us, h1, h2, h3⟩ => by
    subst h1
    exact ⟨v, _, rfl, h2, h3.snoc hx⟩
theorem ItsV.len {H : Hp} : ∀ {f : List (List Nat × Kd)} {v : List V}, ItsV H f v → v.length = f.length
  | [], _, h => by rw [show _ = _ from h]; rfl
  | _ :: _, _, ⟨v, us, h1, h2, h3⟩ => by rw [h1, List.length_cons, List.length_cons, h3.len]
/-- what waits: a path and a tree -/
def QV (H : Hp) (x : List Nat × Tr) (v : V) : Prop := ∃ t u y, v = .ref t ∧ H t = some (.tup [u, y]) ∧ PthV H x.1 u ∧ TrV H x.2 y
theorem QV.ts {H H' : Hp} (e : TS H H') {x : List Nat × Tr} {v : V} : QV H x v → QV H' x v := fun ⟨t, u, y, h1, h2, h3, h4⟩ => ⟨t, u, y, h1, e _ _ h2, h3.ts e, h4.ts e⟩
def QsV (H : Hp) : List (List Nat × Tr) → List V → Prop
  | [], vs => vs = []
  | x :: xs, vs => ∃ v us, vs = v :: us ∧ QV H x v ∧ QsV H xs us
theorem QsV.ts {H H' : Hp} (e : TS H H') : ∀ {f : List (List Nat × Tr)} {v : List V}, QsV H f v → QsV H' f v
  | [], _, h => h
  | _ :: _, _, ⟨v, us, h1, h2, h3⟩ => ⟨v, us, h1, h2.ts e, h3.ts e⟩
theorem QsV.len {H : Hp} : ∀ {f : List (List Nat × Tr)} {v : List V}, QsV H f v → v.length = f.length
  | [], _, h => by rw [show _ = _ from h]; rfl
  | _ :: _, _, ⟨v, us, h1, h2, h3⟩ => by rw [h1, List.length_cons, List.length_cons, h3.len]
def wkQ (q : List (List Nat × Tr)) : List (List Nat × Kd) := q.flatMap fun x => wk x.2 x.1
def szQ (q : List (List Nat × Tr)) : Nat := szL (q.map (·.2))
/-- the kids of a tree that wait, from the i-th on -/
def kq (ts : List Tr) (p : List Nat) (i : Nat) : List (List Nat × Tr) := (ts.drop i).zipIdx i |>.map fun x => (p ++ [x.2], x.1)
theorem kq_cons {ts : List Tr} {p : List Nat} {i : Nat} {a : Tr} (h : ts[i]? = some a) : kq ts p i = (p ++ [i], a) :: kq ts p (i + 1) := by
  obtain ⟨h1, h2⟩ := List.getElem?_eq_some_iff.mp h
  unfold kq
  rw [List.drop_eq_getElem_cons h1, h2]
  rfl
theorem kq_end (ts : List Tr) (p : List Nat) : kq ts p ts.length = [] := by simp [kq]
theorem wkL_zip (p : List Nat) : ∀ (ts : List Tr) (i : Nat), wkL ts p i = wkQ ((ts.zipIdx i).map fun x => (p ++ [x.2], x.1))
  | [], i => rfl
  | t :: ts, i => by
    rw [wkL, wkL_zip p ts (i + 1)]
    rfl
theorem QsV.append {H : Hp} : ∀ {f g : List (List Nat × Tr)} {v u : List V}, QsV H f v → QsV H g u → QsV H (f ++ g) (v ++ u)
  | [], _, _, _, h, k => by rw [show _ = _ from h]; exact k
  | _ :: _, _, _, _, ⟨v, us, h1, h2, h3⟩, k => by
    subst h1
    exact ⟨v, _, rfl, h2, h3.append k⟩
theorem kq_mem {ts : List Tr} {p : List Nat} : ∀ x ∈ kq ts p 0, x.2 ∈ ts ∧ x.1.length = p.length + 1 := by
  intro x hx
  unfold kq at hx
  obtain ⟨y, hy, rfl⟩ := List.mem_map.mp hx
  rw [List.drop_zero] at hy
  exact ⟨List.fst_mem_of_mem_zipIdx hy, by simp⟩
theorem szQ_app (a b : List (List Nat × Tr)) : szQ (a ++ b) = szQ a + szQ b := by unfold szQ; rw [List.map_append, szL_app]
theorem wkQ_app (a b : List (List Nat × Tr)) : wkQ (a ++ b) = wkQ a ++ wkQ b := List.flatMap_append
theorem szQ_wk : ∀ q : List (List Nat × Tr), (wkQ q).length = szQ q
  | [] => rfl
  | x :: q => by
    rw [show wkQ (x :: q) = wk x.2 x.1 ++ wkQ q from rfl, List.length_append, wk_len, szQ_wk q]
    rfl
theorem kq_wk (ts : List Tr) (p : List Nat) : wkQ (kq ts p 0) = wkL ts p 0 := by rw [wkL_zip]; rfl
theorem kq_sz (ts : List Tr) (p : List Nat) : szQ (kq ts p 0) = szL ts := by
  unfold szQ kq
  rw [List.map_map, List.drop_zero]
  congr 1
  have : ((fun x : List Nat × Tr => x.2) ∘ fun x : Tr × Nat => (p ++ [x.2], x.1)) = fun x => x.1 := rfl
  rw [this]
  simp
/-- a def that hands out, as the top has left it -/
structure GF (P : Program) (w : World) (K : PySem.W.Frag) (mg : Str → Option Value) (base : Heap) (k : Nat) (x : Str) (sp : SpG) : Prop where
  ex : ∃ (f : Addr) (fd : FuncData) (ps : List Str), GFn P w K mg base k f fd ps sp ∧ mg x = some (.ref f) ∧ PySem.W.keepIn K (.ref f) = true ∧ Binds K fd ps []
section
variable {P : Program} {w : World} {K : PySem.W.Frag} {mg : Str → Option Value} {base : Heap}
def spWalk : SpG := fun vs H Q _ => ∃ v t, vs = [v] ∧ TrV H t v ∧ t.Ok ∧ t.size ≤ 1000 ∧ ∀ out H', Same H H' → ItsV H' (wk t []) out → Q out H'
theorem ok_walk (T : Top K mg "walk" s_walk) (mLen : mg "len" = none) (mR : mg "range" = none) (mRv : mg "reversed" = none) (FP : Fn P w K mg base 1 "premises" spPrem) : GF P w K mg base 3 "walk" spWalk := by
  obtain ⟨f, fd, F, hmg⟩ := T.ex
  obtain ⟨oc, od, kV, doc, pm, an, cdv, ct, osl, rfl, lk, hcd⟩ := id F.ex
  refine ⟨f, _, P_walk, gfn_of lk hcd sg_walk (fun vs H Q E h => by obtain ⟨v, t, rfl, _⟩ := h; rfl) (fun A outer s H vs Q E pn hr h => ?_), hmg, F.kp, F.binds fun _ _ _ _ _ _ us hl => match us, hl with | [_], _ => rfl⟩
  obtain ⟨v, t, rfl, hv, ho, hz, q⟩ := h
  have nd : In (gcxOf P w K mg base N_walk "walk" (defScope s_walk) f cdv A outer s H E pn) N_walk G_walk (defScope s_walk) := ⟨so_walk, ⟨[], (List.append_nil _).symm⟩, sg_walk.nd, rfl, rfl, owns_gcx⟩
  refine ⟨_, gss_cons (gs_ps Wk.ps) (gss_cons (gs_while nd.nev pt (gss_cons (gs_ps Wk.ps) (gss_cons (gs_yield pe) (gss_cons (gs_ps Wk.ps) (gss_cons (gs_ps Wk.ps) gss_nil))))) gss_nil), ?_⟩
  show wS _ _ ⟨_, _, _, _⟩ _ _
  refine s_set (e_lst (a_cons (e_tup (a_cons (e_tup (a_nil ⟨by show 0 ≤ sizeLine; decide, fun pa H1 e1 n1 h1 => ?_⟩))))))
  walk_at "sts"
  refine ⟨by show 2 ≤ sizeLine; decide, fun ta H2 e2 n2 h2 => ?_⟩
  walk_at "sts"
  refine ⟨by show 1 ≤ sizeLine; decide, fun wa H3 e3 n3 h3 => ?_⟩
  have e13 := (e1.trans e2).trans e3
  have nHw : H wa = none := none_of (e1.trans e2) n3
  have h2' := e3 _ _ h2
  refine ⟨fun m ys σ H' => ∃ (qs : List (List Nat × Tr)) (ws : List V) (em : List (List Nat × Kd)) (x y z i : Option V), σ = [some v, some (.ref wa), x, y, z, i] ∧ H' wa = some (.lst ws.reverse) ∧ QsV H' qs ws ∧ (∀ a ∈ qs, a.2.Ok ∧ a.1.length + a.2.dep ≤ 1000) ∧ m = szQ qs ∧ ItsV H' em ys ∧ em ++ wkQ qs = wk t [] ∧ Same H H', ⟨szQ [([], t)], [([], t)], [.ref ta], [], none, none, none, none, rfl, h3, ⟨.ref ta, [], rfl, ⟨ta, .ref pa, v, rfl, h2', ⟨pa, rfl, e3 _ _ (e2 _ _ h1)⟩, hv.ts (Same.ts e13)⟩, rfl⟩, fun a ha => by rw [List.mem_singleton.mp ha]; have := dep_le t; exact ⟨ho, by simp only [List.length_nil]; omega⟩, rfl, rfl, by simp [wkQ], e13⟩, ?_⟩
  rintro m ys σ H' ⟨qs, ws, em, x, y, z, i, rfl, hwa, hqs, hok, rfl, hem, heq, keep⟩
  have leh := congrArg List.length heq
  rw [List.length_append, szQ_wk, wk_len] at leh
  have lem := hem.len
  refine t_tru (e_var ⟨_, tru_l hwa, ?_⟩)
  cases qs with
  | nil =>
    cases (show ws = [] from hqs)
    refine iteF ?_
    rw [show wkQ [] = [] from rfl, List.append_nil] at heq
    subst heq
    exact q ys H' keep hem
  | cons a qs =>
    obtain ⟨u, us, rfl, ⟨qt, pu, tv, rfl, hqt, hpu, htv⟩, hus⟩ := hqs
    rw [List.reverse_cons] at hwa ⊢
    rw [show (!(us.reverse ++ [V.ref qt]).isEmpty) = true by simp]
    refine iteT ⟨_, fun _ _ _ z => z, ?_⟩
    show wS _ _ ⟨_, _, _, _⟩ _ _
    refine s_tup2 (e_pop (e_var ⟨wa, us.reverse, .ref qt, rfl, hwa, ?_⟩))
    have t1 : TS H' (upd H' wa (.lst us.reverse)) := TS.upd hwa
    refine ⟨qt, pu, tv, rfl, SqT.of (t1 _ _ hqt), ?_⟩
    obtain ⟨oka, lda⟩ := hok a (List.mem_cons_self ..)
    obtain ⟨cp, xs, ks, rfl, hcp, ⟨fs, rfl, hfs⟩, hks⟩ := htv.split
    have hcp1 := t1 _ _ hcp
    have szc : szQ (a :: qs) = a.2.size + szQ qs := rfl
    refine ⟨by show _ < 2 ^ 24; omega, ?_⟩
    show wE _ _ [some v, some (.ref wa), some pu, some (.ref cp), z, i] _ _
    refine e_tup (a_cons (e_var (a_cons (e_ix ?_))))
    walk_at "sts"
    refine ix_t (by exact SqT.of hcp1) at0 ?_
    refine a_nil ⟨by show 2 ≤ sizeLine; decide, fun yt H4 e4 n4 h4 => ?_⟩
    show wS _ _ ⟨_, _, _, _⟩ _ _
    have hcp4 := e4 _ _ hcp1
    refine s_set (e_call (by exact FP) (by exact hr) (by decide) ?_)
    walk_at "sts"
    refine ⟨cp, a.2.hd.k, _, _, ks, rfl, hcp4, rfl, (HdL.len oka.hd.1 ⟨fs, rfl, hfs⟩), fun ab H5 e5 n5 h5 => ?_⟩
    show wS _ _ ⟨_, _, _, _⟩ [some v, some (.ref wa), some pu, some (.ref cp), some (.ref ab), i] _
    have lks := hks.len
    have lk2 := ks_le a.2
    have sza := size_ks a.2
    have lqs : us.length ≤ szQ qs := by rw [hus.len]; have := len_szL (qs.map (·.2)); rw [List.length_map] at this; exact this
    have e45 := e4.trans e5
    have hwa5 := e45 _ _ (upd_same (H := H') (a := wa) (o := .lst us.reverse))
    have t5 : TS H' H5 := t1.trans (Same.ts e45)
    obtain ⟨put, rfl, hput⟩ := hpu.ts t5
    have nwab : ab ≠ wa := fun z => by subst z; rw [e4 _ _ upd_same] at n5; cases n5
    refine s_forRR (by assumption) (by assumption) ?_
    walk_at "sts"
    refine c_lenL (by exact SqL.of h5) ⟨ks.length, rfl, by omega, fun j σ' H6 => ∃ (wq : List V) (i : Option V), σ' = [some v, some (.ref wa), some (.ref put), some (.ref cp), some (.ref ab), i] ∧ H6 wa = some (.lst (wq ++ us).reverse) ∧ QsV H6 (kq a.2.ks a.1 (ks.length - j)) wq ∧ wq.length = j ∧ But wa H5 H6, ⟨[], i, rfl, by rw [List.nil_append]; exact hwa5, by rw [Nat.sub_zero, lks, kq_end]; exact rfl, rfl, fun _ _ _ z => z⟩, ?_, ?_⟩
    · intro j σ' H6 hj pr
      obtain ⟨wq, i, rfl, hw6, hq6, hl6, b6⟩ := pr
      have t6 : TS H5 H6 := fun c l hc => b6 _ _ (fun z => by subst z; rw [hwa5] at hc; cases hc) hc
      have hkj : ks[ks.length - 1 - j]? = some (ks[ks.length - 1 - j]'(by omega)) := List.getElem?_eq_getElem (by omega)
      obtain ⟨b, hb, hbv⟩ := hks.get hkj
      show wL _ _ _ [some v, some (.ref wa), some (.ref put), some (.ref cp), some (.ref ab), some (.int ((ks.length - 1 - j : Nat) : Int))] _
      refine l_cons (s_expr (e_app (e_var ⟨wa, _, rfl, SqL.of hw6, ?_⟩)))
      refine e_tup (a_cons (e_bin (e_var (e_tup (a_cons (e_var (a_nil ⟨by show 1 ≤ sizeLine; decide, fun p7 H7 e7 n7 h7 => ?_⟩)))))))
      have hput7 := e7 _ _ (t6 _ _ hput)
      refine o_catA hput7 h7 (by rw [List.length_map]; simp only [List.length_cons, List.length_nil]; omega) fun p8 H8 e8 h8 => ?_
      refine a_cons (e_ix (e_var (e_var ?_)))
      have e78 := e7.trans e8
      refine ix_l (by exact SqL.of (e78 _ _ (b6 _ _ nwab h5))) (atI_nat hkj) ?_
      refine a_nil ⟨by show 2 ≤ sizeLine; decide, fun p9 H9 e9 n9 h9 => ?_⟩
      have e79 := e78.trans e9
      have hw9 := e79 _ _ hw6
      refine ⟨_, hw9, by rw [List.length_reverse, List.length_append]; show _ < 2 ^ 24; omega, ?_⟩
      have t9 : TS H9 (upd H9 wa (.lst ((wq ++ us).reverse ++ [.ref p9]))) := TS.upd hw9
      have t59 : TS H5 (upd H9 wa (.lst ((wq ++ us).reverse ++ [.ref p9]))) := (t6.trans (Same.ts e79)).trans t9
      refine l_nil ⟨.ref p9 :: wq, _, rfl, by rw [List.cons_append, List.reverse_cons]; exact upd_same, ?_, by rw [List.length_cons, hl6], fun c o nc hc => by rw [upd_ne nc]; exact e79 _ _ (b6 _ _ nc hc)⟩
      rw [show ks.length - (j + 1) = ks.length - 1 - j by omega, kq_cons hb, show ks.length - 1 - j + 1 = ks.length - j by omega]
      refine ⟨_, _, rfl, ⟨p9, .ref p8, _, rfl, t9 _ _ h9, ⟨p8, rfl, ?_⟩, hbv.ts (t5.trans t59)⟩, hq6.ts ((Same.ts e79).trans t9)⟩
      rw [t9 _ _ (e9 _ _ h8), List.map_append]
      rfl
    · intro σ' H6 pr
      obtain ⟨wq, i, rfl, hw6, hq6, hl6, b6⟩ := pr
      rw [Nat.sub_self] at hq6
      have t6 : TS H5 H6 := fun c l hc => b6 _ _ (fun z => by subst z; rw [hwa5] at hc; cases hc) hc
      have t06 : TS H' H6 := t5.trans t6
      refine ⟨szQ (kq a.2.ks a.1 0 ++ qs), by rw [szQ_app, kq_sz]; omega, kq a.2.ks a.1 0 ++ qs, wq ++ us, em ++ [(a.1, a.2.hd.k)], _, _, _, _, rfl, hw6, hq6.append (hus.ts t06), ?_, rfl, (hem.ts t06).snoc ⟨yt, .ref put, rfl, t6 _ _ (e5 _ _ h4), ⟨put, rfl, t6 _ _ hput⟩⟩, ?_, ?_⟩
      · intro b hb
        rcases List.mem_append.mp hb with hb | hb
        · obtain ⟨m1, m2⟩ := kq_mem b hb
          have := dep_ks b.2 m1
          exact ⟨oka.hd.2.2 b.2 m1, by rw [m2]; omega⟩
        · exact hok b (List.mem_cons_of_mem _ hb)
      · rw [← heq, wkQ_app, kq_wk, show wkQ (a :: qs) = wk a.2 a.1 ++ wkQ qs from rfl, wk_eq]
        simp
      · intro c o hc
        have cw : c ≠ wa := fun z => by subst z; rw [nHw] at hc; cases hc
        exact b6 _ _ cw (e45 _ _ (by rw [upd_ne cw]; exact keep _ _ hc))
end
section
variable {X : Cx} {e : Expr} {es : List Expr} {σ : L2.St} {H : Hp} {Q : VK} {pos p0 p1 pos1 : Pos} {N G : List Str} {sc : Scope}
/-- list(f(e, ..)), f a def that hands out -/
theorem e_listG {g g2 k n : Nat} {x : Str} {sp : SpG} (F : GF X.prog X.w X.K X.mg X.base k x sp) (hr : Room n X.A) (hk : k + 3 ≤ n) (hm : X.mg "list" = none)
    (q : wA X (e :: es) σ H fun vs H1 => sp vs H1 (fun out H2 => ∀ p, H2 p = none → Q (.ref p) (upd H2 p (.lst out))) E0)
    (I : In X N G sc := by assumption) (hG : At G g x := by repeat (first | with_reducible apply At.z | with_reducible apply At.s)) (hG2 : At G g2 ("list" : Str) := by repeat (first | with_reducible apply At.z | with_reducible apply At.s))
    (he : starEach (e :: es) X.env = (false, eval e X.env) :: starEach es X.env := by rfl) (hpl : (backTo pos (starEach es X.env)).any (·.1) = false := by rfl)
    (hs : starEach [.Call (.Name x p0) (e :: es) [] pos] X.env = (false, eval (.Call (.Name x p0) (e :: es) [] pos) X.env) :: starEach [] X.env := by rfl) : wE X (.Call (.Name "list" p1) [.Call (.Name x p0) (e :: es) [] pos] [] pos1) σ H Q := by
  obtain ⟨f, fd, ps, F0, hmf, hkp, hb⟩ := F.ex
  refine e_of (pe_listG (k := k) (E := E0) (pgen_call F0 (hr.mono (by omega)) (I.g hG) hmf hkp hb .nil pa (I.gd hG) he hpl) (fun _ _ _ _ _ _ _ h => by obtain ⟨_, _, _, _, _, _, _, _, _, _, _, _, z⟩ := h; exact z.elim) (fun _ _ _ z => z.elim) (hr.mono hk) (I.g hG2) hm b_list (I.gn hG2) (I.gd hG2) hs) ?_
  show wA X (e :: es) σ H fun vs H1 => sp (vs ++ []) H1 (fun out H2 => ∀ p, H2 p = none → Q (.ref p) (upd H2 p (.lst out))) E0
  refine a_mono q fun vs H1 z => ?_
  rw [List.append_nil]
  exact z
end


/-- what the walk does for a consumer that works at each item; D: the consumer's list -/
def spWk : SpH := fun vs H Wy Wr Q => ∃ v t D us, vs = [v] ∧ TrV H t v ∧ t.Ok ∧ t.size ≤ 1000 ∧ H D = some (.lst us) ∧ ∃ Iv : Nat → Hp → Prop, Iv 0 H ∧
  (∀ j H1 H2, Iv j H1 → H2 D = H1 D → TS H1 H2 → Iv j H2) ∧
  (∀ j y x H1, (wk t [])[j]? = some y → ItV H1 y x → Iv j H1 → Wy j x H1 ∧ ∀ H2, Wr x H1 H2 → Iv (j + 1) H2 ∧ (∃ us, H2 D = some (.lst us)) ∧ ∀ b, b ≠ D → H2 b = H1 b) ∧
  ∀ n H1, Iv (wk t []).length H1 → (∀ b o, b ≠ D → H b = some o → H1 b = some o) → Q n H1
structure GFw (P : Program) (w : World) (K : PySem.W.Frag) (mg : Str → Option Value) (base : Heap) (k : Nat) : Prop where
  ex : ∃ (f : Addr) (fd : FuncData) (ps : List Str) (cd : Value), GFh P w K mg base k f fd ps N_walk "walk" (defScope s_walk) cd spWk ∧ mg "walk" = some (.ref f) ∧ PySem.W.keepIn K (.ref f) = true ∧ Binds K fd ps []
theorem upd_lst {H H2 : Hp} {D : Addr} (h : ∀ b, b ≠ D → H2 b = H b) (hD : ∃ us, H D = some (.lst us)) : TS H H2 := fun b xs e => by
  obtain ⟨us, hD⟩ := hD
  rw [h b (fun z => by rw [z, hD] at e; cases e)]
  exact e
section
variable {P : Program} {w : World} {K : PySem.W.Frag} {mg : Str → Option Value} {base : Heap}
theorem ok_walk2 (T : Top K mg "walk" s_walk) (mLen : mg "len" = none) (mR : mg "range" = none) (mRv : mg "reversed" = none) (FP : Fn P w K mg base 1 "premises" spPrem) : GFw P w K mg base 3 := by
  obtain ⟨f, fd, F, hmg⟩ := T.ex
  obtain ⟨oc, od, kV, doc, pm, an, cdv, ct, osl, rfl, lk, hcd⟩ := id F.ex
  refine ⟨f, _, P_walk, cdv, gfh_of lk hcd sg_walk (fun vs H Wy Wr Q h => by obtain ⟨v, t, D, us, rfl, _⟩ := h; rfl) (fun A outer n0 pn ι ent i0 Pp Wy Wr hr => ?_), hmg, F.kp, F.binds fun _ _ _ _ _ _ us hl => match us, hl with | [_], _ => rfl⟩
  have Fm := fam_gX (P := P) (w := w) (K := K) (mg := mg) (base := base) (N := N_walk) (qual := "walk") (scope := defScope s_walk) (f := f) (cd := cdv) (A := A) (outer := outer) (n0 := n0) (pn := pn) ent i0
  have nds : ∀ i, In (gX P w K mg base N_walk "walk" (defScope s_walk) f cdv A outer n0 pn (ent i)) N_walk G_walk (defScope s_walk) := fun i => ⟨so_walk, ⟨[], (List.append_nil _).symm⟩, sg_walk.nd, rfl, rfl, own_gX⟩
  refine ⟨_, hss_cons (hs_w Fm) (hss_cons (hs_whilew Fm (hss_cons (hs_w Fm) (hss_cons (hs_yieldw Fm) (hss_cons (hs_w Fm) (hss_cons (hs_w Fm) hss_nil))))) hss_nil), fun vs H Q h => ?_⟩
  obtain ⟨v, t, D, us0, rfl, hv, ho, hz, hDl, Iv, iv0, ivS, ivY, ivE⟩ := h
  intro i
  have nd := nds i
  show wS _ _ ⟨_, _, _, _⟩ _ _
  refine s_set (e_lst (a_cons (e_tup (a_cons (e_tup (a_nil ⟨by show 0 ≤ sizeLine; decide, fun pa H1 e1 n1 h1 => ?_⟩))))))
  walk_at "sts"
  refine ⟨by show 2 ≤ sizeLine; decide, fun ta H2 e2 n2 h2 => ?_⟩
  walk_at "sts"
  refine ⟨by show 1 ≤ sizeLine; decide, fun wa H3 e3 n3 h3 => ?_⟩
  have e13 := (e1.trans e2).trans e3
  have nHw : H wa = none := none_of (e1.trans e2) n3
  have nwD : wa ≠ D := fun z => by rw [z, hDl] at nHw; cases nHw
  have h2' := e3 _ _ h2
  refine ⟨fun m j σ H' => ∃ (qs : List (List Nat × Tr)) (ws : List V) (x y z i : Option V), σ = [some v, some (.ref wa), x, y, z, i] ∧ H' wa = some (.lst ws.reverse) ∧ QsV H' qs ws ∧ (∀ a ∈ qs, a.2.Ok ∧ a.1.length + a.2.dep ≤ 1000) ∧ m = szQ qs ∧ (wk t []).drop j = wkQ qs ∧ j + szQ qs = t.size ∧ Iv j H' ∧ (∃ us, H' D = some (.lst us)) ∧ (∀ b o, b ≠ D → H b = some o → H' b = some o), ⟨szQ [([], t)], [([], t)], [.ref ta], none, none, none, none, rfl, h3, ⟨.ref ta, [], rfl, ⟨ta, .ref pa, v, rfl, h2', ⟨pa, rfl, e3 _ _ (e2 _ _ h1)⟩, hv.ts (Same.ts e13)⟩, rfl⟩, fun a ha => by rw [List.mem_singleton.mp ha]; have := dep_le t; exact ⟨ho, by simp only [List.length_nil]; omega⟩, rfl, by simp [wkQ], by simp [szQ, szL], ivS 0 H H3 iv0 (by rw [e13 _ _ hDl, hDl]) (Same.ts e13), ⟨us0, e13 _ _ hDl⟩, fun b o _ hb => e13 _ _ hb⟩, ?_⟩
  rintro m j σ H' ⟨qs, ws, x, y, z, ii, rfl, hwa, hqs, hok, rfl, heq, hjs, iv, ⟨usD, hD'⟩, keep⟩
  intro i
  have nd := nds i
  refine t_tru (e_var ⟨_, tru_l hwa, ?_⟩)
  cases qs with
  | nil =>
    cases (show ws = [] from hqs)
    refine iteF ?_
    have lj : j = (wk t []).length := by rw [wk_len]; have z0 : szQ [] = 0 := rfl; omega
    subst lj
    exact ivE _ _ iv keep
  | cons a qs =>
    obtain ⟨u, us, rfl, ⟨qt, pu, tv, rfl, hqt, hpu, htv⟩, hus⟩ := hqs
    rw [List.reverse_cons] at hwa ⊢
    rw [show (!(us.reverse ++ [V.ref qt]).isEmpty) = true by simp]
    refine iteT ⟨_, fun _ _ _ z => z, ?_⟩
    intro i
    have nd := nds i
    show wS _ _ ⟨_, _, _, _⟩ _ _
    refine s_tup2 (e_pop (e_var ⟨wa, us.reverse, .ref qt, rfl, hwa, ?_⟩))
    have t1 : TS H' (upd H' wa (.lst us.reverse)) := TS.upd hwa
    refine ⟨qt, pu, tv, rfl, SqT.of (t1 _ _ hqt), ?_⟩
    obtain ⟨oka, lda⟩ := hok a (List.mem_cons_self ..)
    obtain ⟨cp, xs, ks, rfl, hcp, ⟨fs, rfl, hfs⟩, hks⟩ := htv.split
    have hcp1 := t1 _ _ hcp
    have szc : szQ (a :: qs) = a.2.size + szQ qs := rfl
    have sza := size_ks a.2
    refine ⟨by show j < 2 ^ 24; omega, ?_⟩
    intro i
    have nd := nds i
    show wE _ _ [some v, some (.ref wa), some pu, some (.ref cp), z, ii] _ _
    refine e_tup (a_cons (e_var (a_cons (e_ix ?_))))
    walk_at "sts"
    refine ix_t (by exact SqT.of hcp1) at0 ?_
    refine a_nil ⟨by show 2 ≤ sizeLine; decide, fun yt H4 e4 n4 h4 => ?_⟩
    have hq0 : (wk t [])[j]? = some (a.1, a.2.hd.k) := by
      have q : (wk t []).drop j = (a.1, a.2.hd.k) :: (wkL a.2.ks a.1 0 ++ wkQ qs) := by
        rw [heq, show wkQ (a :: qs) = wk a.2 a.1 ++ wkQ qs from rfl, wk_eq]; rfl
      rw [← List.head?_drop, q]; rfl
    have hq1 : (wk t []).drop (j + 1) = wkQ (kq a.2.ks a.1 0 ++ qs) := by
      rw [← List.drop_drop, heq, show wkQ (a :: qs) = wk a.2 a.1 ++ wkQ qs from rfl, wk_eq, wkQ_app, kq_wk]; rfl
    have t4 : TS H' H4 := t1.trans (Same.ts e4)
    have hD4 : H4 D = H' D := by rw [hD']; exact e4 _ _ (by rw [upd_ne (Ne.symm nwD)]; exact hD')
    obtain ⟨put0, rfl, hput0⟩ := hpu
    have itv : ItV H4 (a.1, a.2.hd.k) (.ref yt) := ⟨yt, .ref put0, rfl, h4, ⟨put0, rfl, t4 _ _ hput0⟩⟩
    obtain ⟨wy, wr⟩ := ivY j _ _ H4 hq0 itv (ivS j H' H4 iv hD4 t4)
    refine ⟨wy, fun H5 hw5 => ?_⟩
    obtain ⟨iv5, hD5, o5⟩ := wr H5 hw5
    have t45 : TS H4 H5 := upd_lst o5 ⟨usD, by rw [hD4]; exact hD'⟩
    have t5 : TS H' H5 := t4.trans t45
    have hwa5 : H5 wa = some (.lst us.reverse) := by rw [o5 _ nwD]; exact e4 _ _ upd_same
    have keep5 : ∀ b o, b ≠ D → H b = some o → H5 b = some o := fun b o nb hb => by
      rw [o5 _ nb]
      refine e4 _ _ ?_
      rw [upd_ne (fun z => by rw [z, nHw] at hb; cases hb)]
      exact keep b o nb hb
    intro i
    have nd := nds i
    show wS _ _ ⟨_, _, _, _⟩ [some v, some (.ref wa), some (.ref put0), some (.ref cp), z, ii] _
    have hcp5 := t5 _ _ hcp
    refine s_set (e_call (by exact FP) (by exact hr) (by decide) ?_)
    walk_at "sts"
    refine ⟨cp, a.2.hd.k, _, _, ks, rfl, hcp5, rfl, (HdL.len oka.hd.1 ⟨fs, rfl, hfs⟩), fun ab H6 e6 n6 h6 => ?_⟩
    intro i
    have nd := nds i
    show wS _ _ ⟨_, _, _, _⟩ [some v, some (.ref wa), some (.ref put0), some (.ref cp), some (.ref ab), ii] _
    have lks := hks.len
    have lk2 := ks_le a.2
    have lqs : us.length ≤ szQ qs := by rw [hus.len]; have := len_szL (qs.map (·.2)); rw [List.length_map] at this; exact this
    have hwa6 := e6 _ _ hwa5
    have t6 : TS H' H6 := t5.trans (Same.ts e6)
    have hput := t6 _ _ hput0
    have nwab : ab ≠ wa := fun z => by subst z; rw [hwa5] at n6; cases n6
    have keep6 : ∀ b o, b ≠ D → H b = some o → H6 b = some o := fun b o nb hb => e6 _ _ (keep5 b o nb hb)
    obtain ⟨usE, hD5⟩ := hD5
    refine s_forRR (by assumption) (by assumption) ?_
    walk_at "sts"
    refine c_lenL (by exact SqL.of h6) ⟨ks.length, rfl, by omega, fun j' σ' H7 => ∃ (wq : List V) (i : Option V), σ' = [some v, some (.ref wa), some (.ref put0), some (.ref cp), some (.ref ab), i] ∧ H7 wa = some (.lst (wq ++ us).reverse) ∧ QsV H7 (kq a.2.ks a.1 (ks.length - j')) wq ∧ wq.length = j' ∧ But wa H6 H7, ⟨[], ii, rfl, by rw [List.nil_append]; exact hwa6, by rw [Nat.sub_zero, lks, kq_end]; exact rfl, rfl, fun _ _ _ z => z⟩, ?_, ?_⟩
    · intro j' σ' H7 hj pr
      obtain ⟨wq, i', rfl, hw7, hq7, hl7, b7⟩ := pr
      have t7 : TS H6 H7 := fun c l hc => b7 _ _ (fun z => by subst z; rw [hwa6] at hc; cases hc) hc
      have hkj : ks[ks.length - 1 - j']? = some (ks[ks.length - 1 - j']'(by omega)) := List.getElem?_eq_getElem (by omega)
      obtain ⟨b, hb, hbv⟩ := hks.get hkj
      show wL _ _ _ [some v, some (.ref wa), some (.ref put0), some (.ref cp), some (.ref ab), some (.int ((ks.length - 1 - j' : Nat) : Int))] _
      refine l_cons (s_expr (e_app (e_var ⟨wa, _, rfl, SqL.of hw7, ?_⟩)))
      refine e_tup (a_cons (e_bin (e_var (e_tup (a_cons (e_var (a_nil ⟨by show 1 ≤ sizeLine; decide, fun p7 H8 e8 n8 h8 => ?_⟩)))))))
      have hput8 := e8 _ _ (t7 _ _ hput)
      refine o_catA hput8 h8 (by rw [List.length_map]; simp only [List.length_cons, List.length_nil]; omega) fun p8 H9 e9 h9 => ?_
      refine a_cons (e_ix (e_var (e_var ?_)))
      have e89 := e8.trans e9
      refine ix_l (by exact SqL.of (e89 _ _ (b7 _ _ nwab h6))) (atI_nat hkj) ?_
      refine a_nil ⟨by show 2 ≤ sizeLine; decide, fun p9 H10 e10 n10 h10 => ?_⟩
      have e8t := e89.trans e10
      have hw10 := e8t _ _ hw7
      refine ⟨_, hw10, by rw [List.length_reverse, List.length_append]; show _ < 2 ^ 24; omega, ?_⟩
      have t10 : TS H10 (upd H10 wa (.lst ((wq ++ us).reverse ++ [.ref p9]))) := TS.upd hw10
      have t610 : TS H6 (upd H10 wa (.lst ((wq ++ us).reverse ++ [.ref p9]))) := (t7.trans (Same.ts e8t)).trans t10
      refine l_nil ⟨.ref p9 :: wq, _, rfl, by rw [List.cons_append, List.reverse_cons]; exact upd_same, ?_, by rw [List.length_cons, hl7], fun c o nc hc => by rw [upd_ne nc]; exact e8t _ _ (b7 _ _ nc hc)⟩
      rw [show ks.length - (j' + 1) = ks.length - 1 - j' by omega, kq_cons hb, show ks.length - 1 - j' + 1 = ks.length - j' by omega]
      refine ⟨_, _, rfl, ⟨p9, .ref p8, _, rfl, t10 _ _ h10, ⟨p8, rfl, ?_⟩, hbv.ts (t6.trans t610)⟩, hq7.ts ((Same.ts e8t).trans t10)⟩
      rw [t10 _ _ (e10 _ _ h9), List.map_append]
      rfl
    · intro σ' H7 pr
      obtain ⟨wq, i', rfl, hw7, hq7, hl7, b7⟩ := pr
      rw [Nat.sub_self] at hq7
      have t7 : TS H6 H7 := fun c l hc => b7 _ _ (fun z => by subst z; rw [hwa6] at hc; cases hc) hc
      have hD7 : H7 D = H5 D := by rw [hD5]; exact b7 _ _ (Ne.symm nwD) (e6 _ _ hD5)
      refine ⟨szQ (kq a.2.ks a.1 0 ++ qs), by rw [szQ_app, kq_sz]; omega, kq a.2.ks a.1 0 ++ qs, wq ++ us, _, _, _, _, rfl, hw7, hq7.append (hus.ts (t6.trans t7)), ?_, rfl, hq1, by rw [szQ_app, kq_sz]; omega, ivS _ _ _ iv5 hD7 ((Same.ts e6).trans t7), ⟨usE, by rw [hD7]; exact hD5⟩, fun b o nb hb => b7 _ _ (fun z => by rw [z, nHw] at hb; cases hb) (keep6 b o nb hb)⟩
      intro b hb
      rcases List.mem_append.mp hb with hb | hb
      · obtain ⟨m1, m2⟩ := kq_mem b hb
        have := dep_ks b.2 m1
        exact ⟨oka.hd.2.2 b.2 m1, by rw [m2]; omega⟩
      · exact hok b (List.mem_cons_of_mem _ hb)
end


/-- the paths of the cuts, in preorder -/
def cutsQ (l : List (List Nat × Kd)) : List (List Nat) := (l.filter fun x => decide (x.2 = .cut)).map (·.1)
def cutsT (t : Tr) : List (List Nat) := cutsQ (wk t [])
theorem cutsQ_snoc (l : List (List Nat × Kd)) (y : List Nat × Kd) : cutsQ (l ++ [y]) = cutsQ l ++ if y.2 = .cut then [y.1] else [] := by
  unfold cutsQ
  rw [List.filter_append, List.map_append]
  by_cases h : y.2 = .cut
  · rw [if_pos h, List.filter_cons, if_pos (by simp [h])]; rfl
  · rw [if_neg h, List.filter_cons, if_neg (by simp [h])]; rfl
theorem cutsQ_len (l : List (List Nat × Kd)) : (cutsQ l).length ≤ l.length := by
  unfold cutsQ
  rw [List.length_map]
  exact List.length_filter_le _ _
theorem cut_is (k : Kd) : (k.nm = "cut") ↔ k = .cut := by cases k <;> decide +kernel
section
variable {P : Program} {w : World} {K : PySem.W.Frag} {mg : Str → Option Value} {base : Heap} {CP : Addr}
def spCuts : Sp := fun vs H Q _ => ∃ v t, vs = [v] ∧ TrV H t v ∧ t.Ok ∧ t.size ≤ 1000 ∧ ∀ l us H', Same H H' → H l = none → H' l = some (.lst us) → PsV H' (cutsT t) us → Q (.ref l) H'
theorem ok_cut_paths (T : Top K mg "cut_paths" s_cut_paths) (FW : GFw P w K mg base 3) : Fn P w K mg base 6 "cut_paths" spCuts := by
  obtain ⟨fw, fdw, psw, cdw, F, hmw, hkw, hbw⟩ := FW.ex
  refine fn_okC T sc_cut_paths so_cut_paths (fun vs H Q E h => by obtain ⟨v, t, rfl, _⟩ := h; rfl) (fun _ _ _ _ _ _ us hl => match us, hl with | [_], _ => rfl) fun f cdv A outer s H vs Q E hr h nd => ?_
  obtain ⟨v, t, rfl, hv, ho, hz, q⟩ := h
  refine l_cons (s_ret (e_lcG (n := 5) (by exact bk_cut_paths0) (by exact F) (by exact hmw) (by exact hkw) (by exact hbw) (by exact hr) (by decide) ?_))
  refine a_cons (e_var (a_nil fun D nD => ?_))
  have eD : Same H (upd H D (.lst [])) := fun c u hc => by rw [upd_ne (ne_of_none hc nD)]; exact hc
  refine ⟨v, t, D, [], rfl, hv.ts (Same.ts eD), ho, hz, upd_same, fun j H1 => ∃ us, H1 D = some (.lst us) ∧ PsV H1 (cutsQ ((wk t []).take j)) us, ⟨[], upd_same, rfl⟩, ?_, ?_, ?_⟩
  · rintro j H1 H2 ⟨us, h1, h2⟩ e1 e2
    exact ⟨us, by rw [e1]; exact h1, h2.ts e2⟩
  · rintro j y x H1 hy ⟨T, u, rfl, hT, hu⟩ ⟨us, h1, h2⟩
    have hj : j < (wk t []).length := (List.getElem?_eq_some_iff.mp hy).1
    rw [wk_len] at hj
    have lus : us.length ≤ j := by
      rw [h2.len]
      refine Nat.le_trans (cutsQ_len _) ?_
      rw [List.length_take]; omega
    refine ⟨⟨T, u, y.2.nm, us, rfl, hT, h1, by show _ < 2 ^ 24; omega⟩, ?_⟩
    rintro H2 ⟨T', u', nm', us', eT, hT', hD', rfl⟩
    cases eT
    rw [hT] at hT'
    cases hT'
    rw [h1] at hD'
    cases hD'
    by_cases hc : y.2 = .cut
    · rw [if_pos ((cut_is _).mpr hc)]
      have t1 : TS H1 (upd H1 D (.lst (us ++ [u]))) := TS.upd h1
      refine ⟨⟨us ++ [u], upd_same, ?_⟩, ⟨_, upd_same⟩, fun b hb => upd_ne hb⟩
      rw [take_snoc' hy, cutsQ_snoc, if_pos hc]
      exact (h2.ts t1).append ⟨u, [], rfl, hu.ts t1, rfl⟩
    · rw [if_neg (fun z => hc ((cut_is _).mp z))]
      refine ⟨⟨us, h1, ?_⟩, ⟨us, h1⟩, fun b hb => rfl⟩
      rw [take_snoc' hy, cutsQ_snoc, if_neg hc, List.append_nil]
      exact h2
  · rintro n H1 ⟨us, h1, h2⟩ keep
    rw [List.take_length] at h2
    exact q D us H1 (fun c o hc => keep c o (ne_of_none hc nD) (eD c o hc)) nD h1 h2
def spWith (CP : Addr) : Sp := fun vs H Q E => ∃ v u x t p o, vs = [v, u, x] ∧ TrV H t v ∧ t.Ok ∧ PthI H p u ∧ p.length ≤ 2000 ∧ TrV H o x ∧
  ((∃ ts, alongT t p = some ts ∧ ∀ r H', Same H H' → TrV H' (putT t p o) r → Q r H') ∨ (alongT t p = none ∧ ∀ d H', Same H H' → H d = none → H' d = some (.xd [(("path" : Str), u)]) → E (.ref CP) (some d) H'))
theorem ok_with_part (T : Top K mg "with_part" s_with_part) (TB : Tabs w K mg) (mLen : mg "len" = none) (mRv : mg "reversed" = none) (mList : mg "list" = none) (mZip : mg "zip" = none) (F : FnN P w K mg base 3 "rows_along" (spAlong CP)) : FnN P w K mg base 4 "with_part" (spWith CP) := by
  refine fn_okN T sc_with_part so_with_part (fun vs H Q E h => by obtain ⟨v, u, x, t, p, o, rfl, _⟩ := h; rfl) (fun _ _ _ _ _ _ us hl => match us, hl with | [_, _, _], _ => rfl) fun f cdv A outer s H vs Q E hr h nd tk => ?_
  obtain ⟨v, u, x, t, p, o, rfl, hv, ho, hu, hl, hx, q⟩ := h
  obtain ⟨FA, DA, TT, hF, hD, kF, kD, hT⟩ := TB.ex
  refine l_cons (s_set (e_callN (by exact F) (by exact tk) (by exact hr) (by decide) ?_))
  walk_at "sts"
  refine ⟨v, u, t, p, rfl, hv, ho, hu, hl, ?_⟩
  rcases q with ⟨ts, h1, q⟩ | ⟨h1, q⟩
  · refine .inl ⟨ts, h1, fun l us H1 e1 n1 hl1 hus => ?_⟩
    obtain ⟨f1, f2, f3, f4⟩ := along_facts ho h1
    obtain ⟨ut, rfl, hut⟩ := hu
    have lus := hus.len
    refine l_cons (s_set (e_var ?_))
    show wL _ _ _ [some v, some (.ref ut), some x, some (.ref l), some x, none, none, none] _
    refine l_cons (s_forRv2 (by assumption) (e_listZ .l .t (by assumption) (by assumption) (e_var (e_var ⟨l, ut, us, p.map V.int, rfl, rfl, SqL.of hl1, SqT.of (e1 _ _ hut), by rw [List.length_map]; omega, fun L as H2 e2 n2 h2 las has => ?_⟩))))
    have lmin : min us.length (p.map V.int).length = p.length := by rw [List.length_map, lus, f1]; omega
    rw [lmin] at las
    refine ⟨L, as.map V.ref, rfl, SqL.of h2, fun k σ H' => ∃ (mv : V) (a b c : Option V) (s0 : Tr), σ = [some v, some (.ref ut), some x, some (.ref l), some mv, a, b, c] ∧ ts[p.length - k]? = some s0 ∧ TrV H' (putT s0 (p.drop (p.length - k)) o) mv ∧ Same H2 H', ?_, ?_, ?_, ?_⟩
    · have hlast : ts[p.length]? = some ts[p.length] := List.getElem?_eq_getElem (by omega)
      refine ⟨x, none, none, none, ts[p.length], rfl, by rw [Nat.sub_zero]; exact hlast, ?_, Same.refl _⟩
      rw [Nat.sub_zero, List.drop_length]
      exact hx.ts (Same.ts (e1.trans e2))
    · intro k σ H' _ pr
      obtain ⟨_, _, _, _, _, _, _, _, e⟩ := pr
      exact SqL.of (e _ _ h2)
    · intro k y σ H' hy pr
      obtain ⟨mv, a, b, c, s0, rfl, hs0, hmv, e⟩ := pr
      have hk : k < p.length := by
        have := (List.getElem?_eq_some_iff.mp hy).1
        rw [List.length_reverse, List.length_map, las] at this
        exact this
      rw [List.getElem?_reverse (by rw [List.length_map, las]; exact hk), List.length_map, las, List.getElem?_map] at hy
      obtain ⟨T, hT0, rfl⟩ := Option.map_eq_some_iff.mp hy
      obtain ⟨xr, yi, hxr, hyi, hTu⟩ := has _ _ hT0
      rw [List.getElem?_map] at hyi
      obtain ⟨i, hi, rfl⟩ := Option.map_eq_some_iff.mp hyi
      obtain ⟨s1, s2, g1, g2, g3, g4⟩ := f4 _ i hi
      have hj1 : p.length - 1 - k + 1 = p.length - k := by omega
      rw [hj1, hs0] at g2
      cases g2
      obtain ⟨s1', g1', hsv⟩ := hus.get hxr
      rw [g1] at g1'
      cases g1'
      obtain ⟨j, rfl⟩ := Int.eq_ofNat_of_zero_le g3
      have g5 : s1.ks[j]? = some s0 := g4
      have hj := (List.getElem?_eq_some_iff.mp g5).1
      have os1 := f3 s1 (List.mem_of_getElem? g1)
      have e12 := Same.trans e2 e
      obtain ⟨cp, xs, ys, rfl, hcp, hxs, hys⟩ := (hsv.ts (Same.ts e12)).split
      have lxs := hxs.len os1.hd.1
      have lys := hys.len
      have l3 := fs_le s1.hd.k
      have lk := ks_le s1
      refine ⟨T, .ref cp, .int (j : Int), rfl, SqT.of (e _ _ hTu), ?_⟩
      show wL _ _ _ [some v, some (.ref ut), some x, some (.ref l), some mv, some (.ref cp), some (.int (j : Int)), c] _
      obtain ⟨fs0, exs, hfs0⟩ := id hxs
      have hp0 : H' cp = some (.tup (.str (Kd.nm s1.hd.k) :: (rL s1.hd.r ++ fs0 ++ ys))) := by rw [hcp, exs]; rfl
      refine l_cons (s_set ?_)
      walk_at "sts"
      refine e_glob (x := "FIELDS") (v := .ref FA) (u := .ref FA) (by exact hF) (by exact rfl) ?_
      walk_at "sts"
      refine ix_t (by exact SqT.of hp0) at0 ?_
      refine ix_kd (by exact kF) (by exact fs_val TT s1.hd.k) ?_
      walk_at "sts"
      refine c_lenT (hT _ s1.hd.k) ?_
      refine o_add (e_var (o_add ?_))
      have eat : (1 : Int) + ((s1.hd.k.fs.map V.str).length : Int) + (j : Int) = ((xs.length + j : Nat) : Int) := by rw [List.length_map, lxs]; omega
      rw [eat]
      show wL _ _ _ [some v, some (.ref ut), some x, some (.ref l), some mv, some (.ref cp), some (.int (j : Int)), some (.int ((xs.length + j : Nat) : Int))] _
      have esp : xs ++ ys = (xs ++ ys.take j) ++ ys.drop j := by rw [List.append_assoc, List.take_append_drop]
      have l1 : (xs ++ ys.take j).length = xs.length + j := by rw [List.length_append, List.length_take]; omega
      have hyj : ys[j]? = some ys[j] := List.getElem?_eq_getElem (by omega)
      have esp2 : xs ++ ys = (xs ++ ys.take j ++ [ys[j]]) ++ ys.drop (j + 1) := by
        rw [esp, List.append_assoc (xs ++ ys.take j), List.singleton_append, ← List.drop_eq_getElem_cons]
      have l2 : (xs ++ ys.take j ++ [ys[j]]).length = xs.length + j + 1 := by rw [List.length_append, l1]; rfl
      refine l_cons (s_set (e_bin (e_bin (e_tHi ?_))))
      refine e_var (e_var ⟨cp, xs ++ ys.take j, ys.drop j, rfl, congrArg V.int (by rw [l1]), by rw [← esp]; exact hcp, fun t1 H3 e3 h3 => ?_⟩)
      refine e_tup (a_cons (e_var (a_nil ⟨by show 1 ≤ sizeLine; decide, fun t3 H6 e6 n6 h6 => ?_⟩)))
      refine o_catA (e6 _ _ h3) h6 (by rw [l1]; simp only [List.length_cons, List.length_nil]; omega) fun t4 H7 e7 h7 => ?_
      have e37 := Same.trans e3 (Same.trans e6 e7)
      refine e_tLo ?_
      refine e_var (e_bin (e_var (e_int (o_add ?_))))
      refine ⟨cp, xs ++ ys.take j ++ [ys[j]], ys.drop (j + 1), rfl, congrArg V.int (by rw [l2]; omega), by rw [← esp2]; exact e37 _ _ hcp, fun t5 H8 e8 h8 => ?_⟩
      refine o_catA (e8 _ _ h7) h8 (by rw [List.length_append, l1, List.length_drop]; simp only [List.length_cons, List.length_nil]; omega) fun t6 H9 e9 h9 => ?_
      have e39 := Same.trans e37 (Same.trans e8 e9)
      have eix : p.length - (k + 1) = p.length - 1 - k := by omega
      have hpj : p.drop (p.length - 1 - k) = (j : Int) :: p.drop (p.length - k) := by
        obtain ⟨q1, q2⟩ := List.getElem?_eq_some_iff.mp hi
        rw [List.drop_eq_getElem_cons q1, q2, hj1]
      refine l_nil ⟨.ref t6, _, _, _, s1, rfl, by rw [eix]; exact g1, ?_, Same.trans e e39⟩
      rw [eix, hpj]
      have ep : putT s1 ((j : Int) :: p.drop (p.length - k)) o = setK s1 j (putT s0 (p.drop (p.length - k)) o) := by
        show (match s1.ks[((j : Int)).toNat]? with | some a => setK s1 ((j : Int)).toNat (putT a (p.drop (p.length - k)) o) | none => s1) = _
        rw [show ((j : Int)).toNat = j from rfl, g5]
      rw [ep]
      exact setK_V hj (hxs.ts (Same.ts e39)) (hys.ts (Same.ts e39)) (hmv.ts (Same.ts e39)) h9
    · intro σ H' pr
      obtain ⟨mv, a, b, c, s0, rfl, hs0, hmv, e⟩ := pr
      rw [List.length_map, las, Nat.sub_self] at hs0 hmv
      rw [f2] at hs0
      cases hs0
      rw [List.drop_zero] at hmv
      refine l_cons (s_ret (e_var ?_))
      exact q mv H' (Same.trans e1 (Same.trans e2 e)) hmv
  · exact .inr ⟨h1, fun d H1 e1 nd1 hd => q d H1 e1 nd1 hd⟩
end


theorem wk_ps : ∀ (t : Tr) (p : List Nat), wk t p = (ps t).map fun x => (p ++ x.1, x.2.hd.k)
  | .le _, p => by simp [wk, ps, Tr.hd]
  | .un _ a, p => by simp [wk, ps, wk_ps a, Tr.hd, Function.comp_def]
  | .bi _ a b, p => by simp [wk, ps, wk_ps a, wk_ps b, Tr.hd, Function.comp_def]
theorem ints_eq (H : Hp) (n : Nat) : ∀ l : List Nat, EqL H n (l.map fun (k : Nat) => V.int (k : Int)) (l.map fun (k : Nat) => V.int (k : Int))
  | [] => trivial
  | k :: l => ⟨.int H n k, ints_eq H n l⟩
theorem PthV.eq {H : Hp} {p : List Nat} {v u : V} (hl : p.length ≤ 2000) : PthV H p v → PthV H p u → Eqd H 1 v u := fun ⟨a, e, ha⟩ ⟨b, e', hb⟩ => by
  subst e e'
  exact (ints_eq H 0 p).tup ha hb (by rw [List.length_map]; exact hl)
theorem PsV.eq {H : Hp} : ∀ {f : List (List Nat)} {v u : List V}, (∀ p ∈ f, p.length ≤ 2000) → PsV H f v → PsV H f u → EqL H 1 v u
  | [], _, _, _, h, k => by rw [show _ = _ from h, show _ = _ from k]; trivial
  | p :: _, _, _, hl, ⟨v, us, rfl, h2, h3⟩, ⟨v', us', rfl, k2, k3⟩ => ⟨h2.eq (hl p (List.mem_cons_self ..)) k2, h3.eq (fun q hq => hl q (List.mem_cons_of_mem _ hq)) k3⟩
theorem ItV.eq {H : Hp} {x : List Nat × Kd} {v u : V} (hl : x.1.length ≤ 2000) : ItV H x v → ItV H x u → Eqd H 2 v u := fun ⟨a, y, e, ha, hy⟩ ⟨b, z, e', hb, hz⟩ => by
  subst e e'
  exact EqL.tup (xs := [y, .str x.2.nm]) (ys := [z, .str x.2.nm]) ⟨hy.eq hl hz, .str H 1 _, trivial⟩ ha hb (by simp)
theorem ItsV.eq {H : Hp} : ∀ {f : List (List Nat × Kd)} {v u : List V}, (∀ p ∈ f, p.1.length ≤ 2000) → ItsV H f v → ItsV H f u → EqL H 2 v u
  | [], _, _, _, h, k => by rw [show _ = _ from h, show _ = _ from k]; trivial
  | p :: _, _, _, hl, ⟨v, us, rfl, h2, h3⟩, ⟨v', us', rfl, k2, k3⟩ => ⟨h2.eq (hl p (List.mem_cons_self ..)) k2, h3.eq (fun q hq => hl q (List.mem_cons_of_mem _ hq)) k3⟩
theorem ItsV.get {H : Hp} : ∀ {f : List (List Nat × Kd)} {v : List V} {i : Nat} {x : V}, ItsV H f v → v[i]? = some x → ∃ h, f[i]? = some h ∧ ItV H h x
  | [], _, i, x, h, e => by rw [show _ = _ from h] at e; cases e
  | f :: _, _, 0, x, ⟨v, us, h1, h2, h3⟩, e => by subst h1; cases e; exact ⟨f, rfl, h2⟩
  | _ :: fs, _, i + 1, x, ⟨v, us, h1, h2, h3⟩, e => by
    subst h1
    exact h3.get (i := i) (by simpa using e)
theorem TrsV.eq {H : Hp} {n : Nat} : ∀ {f : List Tr} {v u : List V}, (∀ t ∈ f, t.Ok ∧ t.dep + 3 ≤ n) → TrsV H f v → TrsV H f u → EqL H n v u
  | [], _, _, _, h, k => by rw [show _ = _ from h, show _ = _ from k]; trivial
  | t :: _, _, _, hl, ⟨v, us, rfl, h2, h3⟩, ⟨v', us', rfl, k2, k3⟩ => ⟨(TrV.eq (hl t (List.mem_cons_self ..)).1 h2 k2).more (hl t (List.mem_cons_self ..)).2, h3.eq (fun q hq => hl q (List.mem_cons_of_mem _ hq)) k3⟩
theorem EqL.lst {H : Hp} {n : Nat} {a b : Addr} {xs ys : List V} (h : EqL H n xs ys) (ha : H a = some (.lst xs)) (hb : H b = some (.lst ys)) (hl : xs.length ≤ 2000) : Eqd H (n + 1) (.ref a) (.ref b) :=
  .inr (.inr ⟨a, b, xs, ys, rfl, rfl, .inr ⟨ha, hb⟩, h.len, hl, h.get⟩)
theorem wk_short {t : Tr} : ∀ x ∈ wk t [], x.1.length ≤ t.dep := by
  intro x hx
  rw [wk_ps] at hx
  obtain ⟨y, hy, rfl⟩ := List.mem_map.mp hx
  exact (ps_at t y hy).2.2
theorem cuts_short {t : Tr} : ∀ p ∈ cutsT t, p.length ≤ t.dep := by
  intro p hp
  obtain ⟨y, hy, rfl⟩ := List.mem_map.mp hp
  exact wk_short y (List.mem_filter.mp hy).1
theorem pth_ps (t : Tr) : pth t [] = (ps t).map (·.1) := by
  rw [ps_pth]
  simp
theorem all_no {α : Type} (f g : α → Bool) : ∀ l : List α, (l.all fun x => !(f x || g x)) = !(l.any f || l.any g)
  | [] => rfl
  | a :: l => by
    rw [List.all_cons, List.any_cons, List.any_cons, all_no f g l]
    cases f a <;> cases g a <;> simp
theorem bare_any (t : Tr) : bareT t = !(((wk t []).any fun x => decide (x.2 = .cut)) || (wk t []).any fun x => decide (x.2 = .cite)) := by
  rw [bareT, ← ps_hds, wk_ps, List.all_map, List.any_map, List.any_map]
  exact all_no _ _ _
theorem in_cut (l : List (List Nat × Kd)) : inV (.str "cut") (l.map fun x => V.str x.2.nm) = l.any fun x => decide (x.2 = .cut) := by
  unfold inV
  rw [List.any_map]
  congr 1
  funext x
  show eqV (.str x.2.nm) (.str "cut") = _
  cases x.2 <;> decide +kernel
theorem in_cite (l : List (List Nat × Kd)) : inV (.str "cite") (l.map fun x => V.str x.2.nm) = l.any fun x => decide (x.2 = .cite) := by
  unfold inV
  rw [List.any_map]
  congr 1
  funext x
  show eqV (.str x.2.nm) (.str "cite") = _
  cases x.2 <;> decide +kernel
theorem flat_nm (l : List (List Nat × Kd)) : (l.map fun x => V.str x.2.nm).all flatV = true := by
  rw [List.all_map, List.all_eq_true]
  intro x _
  rfl
theorem lc_nm {X : Cx} {σ : L2.St} {H1 : Hp} {Qd : Hp → Prop} {D D3 : Addr} {due : List V} {l : List (List Nat × Kd)} {scope : Scope} {p1 p2 p3 : Pos} {k0 : Nat} (hD : H1 D = some (.lst due)) (hdue : ItsV H1 l due) (nD3 : H1 D3 = none) (hl : due.length ≤ 1000)
    (hσ : ∀ x, ((wipe σ [8]).set 8 (some x))[8]? = some (some x)) (q : ∀ H2, Same H1 H2 → H2 D3 = some (.lst (l.map fun x => V.str x.2.nm)) → Qd H2) :
    LcL X [(8, "_law_row_here")] [] (.Subscript (.Name "_law_row_here" p1) (.Constant (.int 1) k0 p3) p2) scope 8 D due D3 σ H1 Qd := by
  refine ⟨fun k H2 => H2 D3 = some (.lst ((l.take k).map fun x => V.str x.2.nm)) ∧ Same H1 H2, ⟨by rw [List.take_zero]; exact upd_same, fun c o hc => by rw [upd_ne (ne_of_none hc nD3)]; exact hc⟩, ?_, ?_, ?_⟩
  · rintro k H2 _ ⟨_, e⟩
    exact SqL.of (e _ _ hD)
  · rintro k x H2 hk ⟨h2, e⟩ s0 H0 C cl fp IB
    obtain ⟨y, hy, T0, u, rfl, hT, hu⟩ := hdue.get hk
    have hk2 := (List.getElem?_eq_some_iff.mp hk).1
    refine e_ix (b_var (hσ := hσ _) (e_int (ix_t (by exact SqT.of (e _ _ hT)) rfl ⟨_, h2, ?_, ?_⟩)))
    · rw [List.length_map, List.length_take]
      show _ < 2 ^ 24
      omega
    · refine ⟨?_, fresh_keep nD3 e⟩
      rw [take_snoc' hy, List.map_append]
      exact upd_same
  · rintro H2 ⟨h2, e⟩
    rw [hdue.len, List.take_length] at h2
    exact q H2 e h2
section
variable {P : Program} {w : World} {K : PySem.W.Frag} {mg : Str → Option Value} {base : Heap}
theorem bk_walked2 : BkOk (N_walked ++ C_walked) [(8, "_law_row_here")] [] 8 "_law_row_here" (defScope s_walked) (xSc (exA (exA (exA (exA (stE ((defBody s_walked).getD 10 nS)) 1) 1) 0) 1)) := ⟨by decide +kernel, by decide +kernel, by decide +kernel, by decide +kernel⟩
theorem bk_walked3 : BkOk (N_walked ++ C_walked) [(8, "_law_row_here")] [] 8 "_law_row_here" (defScope s_walked) (xSc (exA (exA (exA (exA (stE ((defBody s_walked).getD 10 nS)) 1) 1) 1) 1)) := ⟨by decide +kernel, by decide +kernel, by decide +kernel, by decide +kernel⟩
def spWalked : Sp := fun vs H Q _ => ∃ v lp us t, vs = [v, .ref lp] ∧ TrV H t v ∧ t.Ok ∧ t.size ≤ 60 ∧ H lp = some (.lst us) ∧ PsV H (pth t []) us ∧ ∀ H', Same H H' → Q (.bl true) H'
theorem ok_walked (T : Top K mg "_law_walked" s_walked) (mLen : mg "len" = none) (mList : mg "list" = none) (mIs : mg "isinstance" = none) (mBool : mg "bool" = none) (FA : Fn P w K mg base 3 "_law_at" spAt) (FSm : ∀ n, Fn P w K mg base (n + 2) "_law_same" (spSame n)) (FG : GF P w K mg base 3 "walk" spWalk)
    (FC : Fn P w K mg base 3 "row_count" spRC) (FCu : Fn P w K mg base 6 "cut_paths" spCuts) (FP : Fn P w K mg base 1 "premises" spPrem) (FPa : Fn P w K mg base 2 "_law_parts" spParts) (FB : Fn P w K mg base 3 "is_bare" spBare) : Fn P w K mg base 70 "_law_walked" spWalked := by
  refine fn_okC T sc_walked so_walked (fun vs H Q E h => by obtain ⟨v, lp, us, t, rfl, _⟩ := h; rfl) (fun _ _ _ _ _ _ us hl => match us, hl with | [_, _], _ => rfl) fun f cdv A outer s H vs Q E hr h nd => ?_
  obtain ⟨v, lp, us, t, rfl, hv, ho, hz, hlp, hus, q⟩ := h
  have hdep := dep_le t
  have lus := hus.len
  rw [pth_len] at lus
  refine l_cons (s_lcL (by exact bk_walked0) (e_var ⟨lp, us, rfl, SqL.of hlp, fun D nD => ⟨fun k H2 => ∃ xs, H2 D = some (.lst xs) ∧ ItsV H2 ((wk t []).take k) xs ∧ Same H H2, ⟨[], upd_same, rfl, fun c o hc => by rw [upd_ne (ne_of_none hc nD)]; exact hc⟩, ?_, ?_, ?_⟩⟩))
  · rintro k H2 _ ⟨_, _, _, e⟩
    exact SqL.of (e _ _ hlp)
  · rintro k x H2 hk ⟨xs, hD, hxs, e⟩ s0 H0 C cl fp IB
    obtain ⟨p, hp, hpx⟩ := hus.get hk
    rw [pth_ps, List.getElem?_map] at hp
    obtain ⟨y, hy, rfl⟩ := Option.map_eq_some_iff.mp hp
    obtain ⟨a1, a2, a3⟩ := ps_at t y (List.mem_of_getElem? hy)
    have hlt := (List.getElem?_eq_some_iff.mp hk).1
    have lxs := hxs.len
    rw [List.length_take, wk_len] at lxs
    refine e_tup (a_cons (b_var (a_cons (e_ix (b_call (by exact FA) (by exact hr) (by decide) (a_cons (b_var (a_cons (b_var (a_nil ?_))))))))))
    refine ⟨v, x, t, y.1, y.2, rfl, hv.ts (Same.ts e), ho, hpx.ts (Same.ts e), a1, by omega, fun v1 H3 e3 hv1 => ?_⟩
    obtain ⟨cp, zs, ys, rfl, hcp, ⟨fs, rfl, hfs⟩, hys⟩ := hv1.split
    refine e_int (ix_t (by exact SqT.of hcp) at0 (a_nil ⟨by show 2 ≤ sizeLine; decide, fun yt H4 e4 n4 h4 => ?_⟩))
    have e24 := e3.trans e4
    refine ⟨xs, e24 _ _ hD, by show _ < 2 ^ 24; omega, xs ++ [.ref yt], upd_same, ?_, fresh_keep nD (Same.trans e e24)⟩
    have hwk : (wk t [])[k]? = some (y.1, y.2.hd.k) := by rw [wk_ps, List.getElem?_map, hy]; rfl
    have tD : TS H4 (upd H4 D (.lst (xs ++ [.ref yt]))) := TS.upd (e24 _ _ hD)
    rw [take_snoc' hwk]
    exact (hxs.ts ((Same.ts e24).trans tD)).snoc ⟨yt, x, rfl, tD _ _ h4, hpx.ts ((Same.ts (Same.trans e e24)).trans tD)⟩
  · rintro H1 ⟨due, hD, hdue, e1⟩
    rw [lus, ← wk_len t [], List.take_length] at hdue
    have ldue := hdue.len
    rw [wk_len] at ldue
    show wL _ _ _ [some v, some (.ref lp), some (.ref D), none, none, none, none, none, none] _
    have short : ∀ x ∈ wk t [], x.1.length ≤ 2000 := fun x hx => by have := wk_short x hx; omega
    refine l_cons (s_if (t_w (w_or (t_not (t_val (e_call (by exact FSm 3) (by exact hr) (by decide) (a_cons (e_listG FG (by exact hr) (by decide) (by assumption) ?_))))))))
    refine a_cons (e_var (a_nil ⟨v, t, rfl, hv.ts (Same.ts e1), ho, by omega, fun out H2 e2 hout la nla => ?_⟩))
    have e3 : Same H2 (upd H2 la (.lst out)) := fun c o hc => by rw [upd_ne (ne_of_none hc nla)]; exact hc
    have e23 := e2.trans e3
    refine a_cons (e_var (a_nil ⟨.ref la, .ref D, rfl, ?_, fun H4 e4 => ⟨_, rfl, iteF ?_⟩⟩))
    · exact (ItsV.eq short (hout.ts (Same.ts e3)) (hdue.ts (Same.ts e23))).lst upd_same (e23 _ _ hD) (by rw [hout.len, wk_len]; omega)
    have e24 := e23.trans e4
    refine w_or1 (t_not (t_val (e_call (by exact FSm 0) (by exact hr) (by decide) (a_cons (e_call (by exact FC) (by exact hr) (by decide) (a_cons (e_var (a_nil ?_))))))))
    refine ⟨v, t, rfl, hv.ts (Same.ts (e1.trans e24)), ho, by omega, fun H5 e5 => ?_⟩
    have e25 := e24.trans e5
    refine a_cons (e_callB (x := "len") (by assumption) b_len (a_cons (e_var (a_nil (c_lenL (SqL.of (e25 _ _ hD)) (a_nil ?_))))))
    rw [ldue]
    refine ⟨_, _, rfl, .int _ 0 _, fun H6 e6 => ⟨_, rfl, iteF (l_nil ?_)⟩⟩
    have e26 := e25.trans e6
    refine l_cons (s_lcLf (by exact bk_walked1) (e_var ⟨D, due, rfl, SqL.of (e26 _ _ hD), fun D2 nD2 => ⟨fun k H7 => ∃ xs, H7 D2 = some (.lst xs) ∧ PsV H7 (cutsQ ((wk t []).take k)) xs ∧ Same H6 H7, ⟨[], upd_same, rfl, fun c o hc => by rw [upd_ne (ne_of_none hc nD2)]; exact hc⟩, ?_, ?_, ?_⟩⟩))
    · rintro k H7 _ ⟨_, _, _, e⟩
      exact SqL.of (e _ _ (e26 _ _ hD))
    · rintro k x H7 hk ⟨xs, hD7, hxs, e⟩
      obtain ⟨y, hy, T0, u, rfl, hT, hu⟩ := hdue.get hk
      have e27 := e26.trans e
      have hk2 := (List.getElem?_eq_some_iff.mp hk).1
      have lxs : xs.length ≤ k := by
        rw [hxs.len]
        refine Nat.le_trans (cutsQ_len _) ?_
        rw [List.length_take]; omega
      intro s0 H0 C cl fp IB
      refine t_cmp (e_ix (b_var (e_int (ix_t (by exact SqT.of (e27 _ _ hT)) rfl (e_str (o_eqS ⟨_, rfl, ?_⟩))))))
      by_cases hc : y.2 = .cut
      · rw [decide_eq_true ((cut_is _).mpr hc)]
        refine iteT ?_
        intro s0 H0 C cl fp IB
        refine e_ix (b_var (e_int (ix_t (by exact SqT.of (e27 _ _ hT)) rfl ⟨_, hD7, by show _ < 2 ^ 24; omega, ?_⟩)))
        have tD : TS H7 (upd H7 D2 (.lst (xs ++ [u]))) := TS.upd hD7
        refine ⟨_, upd_same, ?_, fresh_keep nD2 e⟩
        rw [take_snoc' hy, cutsQ_snoc, if_pos hc]
        exact (hxs.ts tD).append ⟨u, [], rfl, hu.ts ((Same.ts e27).trans tD), rfl⟩
      · rw [decide_eq_false (fun z => hc ((cut_is _).mp z))]
        refine iteF ⟨xs, hD7, ?_, e⟩
        rw [take_snoc' hy, cutsQ_snoc, if_neg hc, List.append_nil]
        exact hxs
    · rintro H7 ⟨cuts, hD2, hcuts, e7⟩
      rw [ldue, ← wk_len t [], List.take_length] at hcuts
      have hcuts : PsV H7 (cutsT t) cuts := hcuts
      have e27 := e26.trans e7
      have lcut : (cutsT t).length ≤ 60 := by
        have := cutsQ_len (wk t [])
        rw [wk_len] at this
        exact Nat.le_trans this hz
      have shc : ∀ p ∈ cutsT t, p.length ≤ 2000 := fun p hp => by have := cuts_short p hp; omega
      show wL _ _ _ [some v, some (.ref lp), some (.ref D), some (.ref D2), none, none, none, none, none] _
      refine l_cons (s_set (e_call (by exact FCu) (by exact hr) (by decide) (a_cons (e_var (a_nil ?_)))))
      refine ⟨v, t, rfl, hv.ts (Same.ts (e1.trans e27)), ho, by omega, fun lt told H8 e8 n8 h8 htold => ?_⟩
      show wL _ _ _ [some v, some (.ref lp), some (.ref D), some (.ref D2), some (.ref lt), none, none, none, none] _
      have e28 := e27.trans e8
      refine l_cons (s_if (t_not (t_val (e_call (by exact FSm 2) (by exact hr) (by decide) (a_cons (e_var (a_cons (e_var (a_nil ?_)))))))))
      refine ⟨.ref lt, .ref D2, rfl, (PsV.eq shc htold (hcuts.ts (Same.ts e8))).lst h8 (e8 _ _ hD2) (by rw [htold.len]; omega), fun H9 e9 => ⟨_, rfl, iteF (l_nil ?_)⟩⟩
      refine l_cons (s_expr (e_app (e_var ⟨lt, told, rfl, SqL.of (e9 _ _ h8), ?_⟩)))
      refine e_tup (a_nil ⟨by show 0 ≤ sizeLine; decide, fun p10 H10 e10 n10 h10 => ?_⟩)
      have e810 := e9.trans e10
      refine ⟨told, e810 _ _ h8, by rw [htold.len]; show _ < 2 ^ 24; omega, ?_⟩
      generalize hH11 : upd H10 lt (.lst (told ++ [.ref p10])) = H11
      have e711 : Same H7 H11 := by rw [← hH11]; exact fresh_keep n8 (Same.trans e8 e810)
      have e0 : Same H H11 := (e1.trans e27).trans e711
      obtain ⟨cp, xs0, ks, rfl, hcp, ⟨fs, rfl, hfs⟩, hks⟩ := id hv.split
      have lks := ks_le t
      have oks : ∀ a ∈ t.ks, a.Ok ∧ a.dep + 3 ≤ 63 := fun a ha => ⟨ho.hd.2.2 a ha, by have := dep_ks a ha; omega⟩
      refine l_cons (s_set (e_call (by exact FP) (by exact hr) (by decide) (a_cons (e_var (a_nil ?_)))))
      refine ⟨cp, t.hd.k, _, _, ks, rfl, e0 _ _ hcp, rfl, (HdL.len ho.hd.1 ⟨fs, rfl, hfs⟩), fun fl H12 e12 n12 h12 => ?_⟩
      show wL _ _ _ [some (.ref cp), some (.ref lp), some (.ref D), some (.ref D2), some (.ref lt), some (.ref fl), none, none, none] _
      have e012 := e0.trans e12
      refine l_cons (s_if (t_not (t_val (e_call (by exact FSm 64) (by exact hr) (by decide) (a_cons (e_var (a_cons (e_call (by exact FPa) (by exact hr) (by decide) (a_cons (e_var (a_nil ?_)))))))))))
      refine ⟨.ref cp, t, rfl, hv.ts (Same.ts e012), ho.hd.1, fun pl us2 H13 e13 n13 h13 hus2 => a_nil ⟨.ref fl, .ref pl, rfl, (TrsV.eq oks (hks.ts (Same.ts (e012.trans e13))) hus2).lst (e13 _ _ h12) h13 (by rw [hks.len]; omega), fun H14 e14 => ⟨_, rfl, iteF (l_nil ?_)⟩⟩⟩
      have e1214 := e13.trans e14
      refine l_cons (s_expr (e_app (e_var ⟨fl, ks, rfl, SqL.of (e1214 _ _ h12), e_var ⟨ks, e1214 _ _ h12, by rw [hks.len]; show _ < 2 ^ 24; omega, ?_⟩⟩)))
      generalize hH15 : upd H14 fl (.lst (ks ++ [.ref cp])) = H15
      have e1115 : Same H11 H15 := by rw [← hH15]; exact fresh_keep n12 (Same.trans e12 e1214)
      have e015 := e0.trans e1115
      have e715 := e711.trans e1115
      refine l_cons (s_set (e_call (by exact FB) (by exact hr) (by decide) (a_cons (e_var (a_nil ?_)))))
      refine ⟨.ref cp, t, rfl, hv.ts (Same.ts e015), ho, by omega, fun H16 e16 => ?_⟩
      show wL _ _ _ [some (.ref cp), some (.ref lp), some (.ref D), some (.ref D2), some (.ref lt), some (.ref fl), some (.bl (bareT t)), none, none] _
      have hD16 := e16 _ _ (e715 _ _ (e27 _ _ hD))
      have hdue16 := hdue.ts (Same.ts (e27.trans (e715.trans e16)))
      refine l_cons (s_if (t_w (w_or (t_not (t_val ?_)))))
      walk_at "sts"
      refine c_isi ty_bl (.ty _) (kit_ty kb_bool_bool) ?_
      refine ⟨_, rfl, iteF (w_or1 (t_cmp (e_var (e_or (e_cmp (e_str (e_lcL (by exact bk_walked2) (e_var ⟨D, due, rfl, SqL.of hD16, fun D3 nD3 => lc_nm hD16 hdue16 nD3 (by omega) (fun _ => rfl) fun H17 e17 h17 => ?_⟩))))))))⟩
      refine o_in (by exact SqL.of h17) rfl (flat_nm _) ⟨_, rfl, ?_⟩
      rw [in_cut]
      have fin : ∀ H18, Same H16 H18 → wL (cxOf CX0 P w K mg base (N_walked ++ C_walked) "_law_walked" (defScope s_walked) f cdv A outer s H E).nox [(defBody s_walked).getD 11 nS] { nx := fun _ H' => Q .non H', rt := Q } [some (.ref cp), some (.ref lp), some (.ref D), some (.ref D2), some (.ref lt), some (.ref fl), some (.bl (bareT t)), none, none] H18 := by
        intro H18 e1618
        have e1118 := (e1115.trans e16).trans e1618
        have e018 := e0.trans e1118
        have e718 := e711.trans e1118
        refine l_cons (s_ret (e_and (e_call (by exact FSm 2) (by exact hr) (by decide) (a_cons (e_call (by exact FCu) (by exact hr) (by decide) (a_cons (e_var (a_nil ?_))))))))
        refine ⟨.ref cp, t, rfl, hv.ts (Same.ts e018), ho, by omega, fun l2 told2 H19 e19 n19 h19 htold2 => a_cons (e_var (a_nil ?_))⟩
        refine ⟨.ref l2, .ref D2, rfl, (PsV.eq shc htold2 (hcuts.ts (Same.ts (e718.trans e19)))).lst h19 (e19 _ _ (e718 _ _ hD2)) (by rw [htold2.len]; omega), fun H20 e20 => ⟨_, rfl, iteT (e_one (e_call (by exact FSm 64) (by exact hr) (by decide) (a_cons (e_call (by exact FP) (by exact hr) (by decide) (a_cons (e_var (a_nil ?_)))))))⟩⟩
        have e020 := e018.trans (e19.trans e20)
        refine ⟨cp, t.hd.k, _, _, ks, rfl, e020 _ _ hcp, rfl, (HdL.len ho.hd.1 ⟨fs, rfl, hfs⟩), fun f2 H21 e21 n21 h21 => ?_⟩
        have e021 := e020.trans e21
        refine a_cons (e_call (by exact FPa) (by exact hr) (by decide) (a_cons (e_var (a_nil ?_))))
        refine ⟨.ref cp, t, rfl, hv.ts (Same.ts e021), ho.hd.1, fun p2 us3 H22 e22 n22 h22 hus3 => a_nil ?_⟩
        refine ⟨.ref f2, .ref p2, rfl, (TrsV.eq oks (hks.ts (Same.ts (e021.trans e22))) hus3).lst (e22 _ _ h21) h22 (by rw [hks.len]; omega), fun H23 e23 => ?_⟩
        exact q H23 (e021.trans (e22.trans e23))
      have hb := bare_any t
      cases hc : (wk t []).any fun x => decide (x.2 = .cut) with
      | true =>
        rw [hc] at hb
        refine iteT (o_eqB ⟨_, rfl, ?_⟩)
        rw [hb]
        refine iteF (l_nil ?_)
        rw [← hb]
        exact fin _ e17
      | false =>
        rw [hc] at hb
        refine iteF (e_one (e_cmp (e_str (e_lcL (by exact bk_walked3) (e_var ⟨D, due, rfl, SqL.of (e17 _ _ hD16), fun D4 nD4 => lc_nm (e17 _ _ hD16) (hdue16.ts (Same.ts e17)) nD4 (by omega) (fun _ => rfl) fun H18 e18 h18 => ?_⟩)))))
        refine o_in (by exact SqL.of h18) rfl (flat_nm _) (o_eqB ⟨_, rfl, ?_⟩)
        rw [in_cite, hb]
        cases hd : (wk t []).any fun x => decide (x.2 = .cite) with
        | true =>
          rw [hd] at hb
          refine iteF (l_nil ?_)
          rw [← hb]
          exact fin _ (e17.trans e18)
        | false =>
          rw [hd] at hb
          refine iteF (l_nil ?_)
          rw [← hb]
          exact fin _ (e17.trans e18)
end


structure Errs (K : PySem.W.Frag) (mg : Str → Option Value) (CP CH CN : Addr) : Prop where
  mP : mg "NoPart" = some (.ref CP)
  mH : mg "HeldError" = some (.ref CH)
  mN : mg "NotBare" = some (.ref CN)
  mV : mg "ValueError" = none
  ec : EcC K CP
  xf : XfC K CP
  no : PySem.W.findIn K (.ref CP) "path" = some none
  xP : PySem.W.exmOne K (.ref CP) (.ref CP) = some true
  kH : PySem.W.kitOne K (.ref CP) (.ref CH) = some true
  kV : PySem.W.kitOne K (.ref CP) (.type "ValueError") = some true
  kN : PySem.W.kitOne K (.ref CP) (.ref CN) = some false
theorem b_ve : bootBuiltins "ValueError" = some (.type "ValueError") := by decide +kernel
theorem intsI_eq (H : Hp) (n : Nat) : ∀ l : List Int, EqL H n (l.map V.int) (l.map V.int)
  | [] => trivial
  | k :: l => ⟨.int H n k, intsI_eq H n l⟩
theorem PthI.eq {H : Hp} {p : List Int} {v : V} (hl : p.length ≤ 2000) : PthI H p v → Eqd H 1 v v := fun ⟨a, e, ha⟩ => by
  subst e
  exact (intsI_eq H 0 p).tup ha ha (by rw [List.length_map]; exact hl)
section
variable {P : Program} {w : World} {K : PySem.W.Frag} {mg : Str → Option Value} {base : Heap} {CP CH CN : Addr}
theorem ok_no {C : Addr} (T : TopM K C "__init__" "NoPart.__init__" s_NoPart___init) (O : OexC K C) (no : PySem.W.findIn K (.ref C) "path" = some none) (hm : mg "NoPart" = some (.ref C)) : Er P w K mg base "NoPart" C "path" := by
  obtain ⟨f, fd, F, hb, hf, hi, hk⟩ := me_ok (P := P) (w := w) (mg := mg) (base := base) (k := 0) (sp := sp1 C "path") T sc_NoPart___init so_NoPart___init (fun vs H Q E h => by obtain ⟨a, v, rfl, _⟩ := h; rfl) (fun _ _ _ _ _ _ us hl => match us, hl with | [_, _], _ => rfl) fun f cdv A outer s H vs Q E hr h nd => by
    obtain ⟨a, v, rfl, ha, q⟩ := h
    refine l_cons (s_ost ?_)
    walk_at "sts"
    refine ⟨a, C, rfl, O, no, ha, fun dx nd ne => ?_⟩
    refine l_nil ?_
    exact q dx nd ne
  exact ⟨O, hm, f, fd, _, F, hf, beq_iff_eq.mp hi, hb⟩
def spRefd : Sp := fun vs H Q _ => ∃ (n : Int), ∃ v u x t p o, vs = [.int n, v, u, x] ∧ TrV H t v ∧ t.Ok ∧ PthI H p u ∧ p.length ≤ 2000 ∧ alongT t p = none ∧ TrV H o x ∧ ∀ H', Same H H' → Q (.bl true) H'
theorem ok_refused (T : Top K mg "_law_refused" s_refused) (mIs : mg "isinstance" = none) (R : Errs K mg CP CH CN) (FPt : FnN P w K mg base 4 "part" (spPart CP)) (FW : FnN P w K mg base 4 "with_part" (spWith CP)) (FL : FnN P w K mg base 4 "level_at" (spLevel CP)) (FS : FnHt P w K mg base 3 "_law_same" (spSame 1)) : Fn P w K mg base 6 "_law_refused" spRefd := by
  refine fn_ok T sc_refused so_refused (fun vs H Q E h => by obtain ⟨n, v, u, x, t, p, o, rfl, _⟩ := h; rfl) (fun _ _ _ _ _ _ us hl => match us, hl with | [_, _, _, _], _ => rfl) fun f cdv A outer s H vs Q E hr h nd => ?_
  obtain ⟨n, v, u, x, t, p, o, rfl, hv, ho, hu, hl, hal, hx, q⟩ := h
  have mV := R.mV
  refine l_cons ?_
  refine s_tryN (by exact R.mP) takesN0 fun pn xe tk nd' => ?_
  refine l_cons (s_if (t_cmp (e_var (e_int (o_eqI ⟨_, rfl, ?_⟩)))))
  by_cases h0 : n = 0
  · rw [decide_eq_true h0]
    refine iteT (l_cons (s_expr (e_callN (by exact FPt) (by exact tk) (by exact hr) (by decide) ?_)))
    refine a_cons (e_var (a_cons (e_var (a_nil ?_))))
    refine ⟨v, u, t, p, rfl, hv, ho, hu, hl, .inr ⟨hal, fun d H1 e1 nd1 hd => ?_⟩⟩
    refine ⟨true, R.xP, fun _ a na => ?_, fun z => nomatch z⟩
    intro oe pn2 hz2 hf nd2 hot
    have hdd : ∀ dd, some d = some dd → H1 dd = some (.xd [(("path" : Str), u)]) := fun dd e => by cases e; exact hd
    walk_at "sts"
    refine e_glob (v := .ref CH) (by exact R.mH) rfl ?_
    walk_at "sts"
    refine c_isE R.ec hz2 hf hdd (.own _) R.kH ?_
    walk_at "sts"
    refine e_bltn (v := .ty "ValueError") (by assumption) b_ve rfl ?_
    walk_at "sts"
    refine c_isE R.ec hz2 hf hdd (.ty _) R.kV ?_
    walk_at "sts"
    refine e_glob (v := .ref CN) (by exact R.mN) rfl ?_
    walk_at "sts"
    refine c_isE R.ec hz2 hf hdd (.own _) R.kN ?_
    walk_at "sts"
    refine e_callH (by exact FS) (by exact L2H.roomH_mark hr _) (by decide) (by exact hot) ?_
    refine a_cons (e_xf R.xf R.no hz2 hf ?_)
    walk_at "sts"
    refine ⟨rfl, d, _, u, rfl, hd, by simp [List.lookup], ?_⟩
    walk_at "sts"
    refine ⟨u, u, rfl, PthI.eq hl (hu.ts (Same.ts e1)), fun H2 e2 => ?_⟩
    exact q H2 (e1.trans e2)
  · rw [decide_eq_false h0]
    refine iteF (l_cons (s_if (t_cmp (e_var (e_int (o_eqI ⟨_, rfl, ?_⟩))))))
    by_cases h1 : n = 1
    · rw [decide_eq_true h1]
      refine iteT (l_cons (s_expr (e_callN (by exact FW) (by exact tk) (by exact hr) (by decide) ?_)))
      refine a_cons (e_var (a_cons (e_var (a_cons (e_var (a_nil ?_))))))
      refine ⟨v, u, x, t, p, o, rfl, hv, ho, hu, hl, hx, .inr ⟨hal, fun d H1 e1 nd1 hd => ?_⟩⟩
      refine ⟨true, R.xP, fun _ a na => ?_, fun z => nomatch z⟩
      intro oe pn2 hz2 hf nd2 hot
      have hdd : ∀ dd, some d = some dd → H1 dd = some (.xd [(("path" : Str), u)]) := fun dd e => by cases e; exact hd
      walk_at "sts"
      refine e_glob (v := .ref CH) (by exact R.mH) rfl ?_
      walk_at "sts"
      refine c_isE R.ec hz2 hf hdd (.own _) R.kH ?_
      walk_at "sts"
      refine e_bltn (v := .ty "ValueError") (by assumption) b_ve rfl ?_
      walk_at "sts"
      refine c_isE R.ec hz2 hf hdd (.ty _) R.kV ?_
      walk_at "sts"
      refine e_glob (v := .ref CN) (by exact R.mN) rfl ?_
      walk_at "sts"
      refine c_isE R.ec hz2 hf hdd (.own _) R.kN ?_
      walk_at "sts"
      refine e_callH (by exact FS) (by exact L2H.roomH_mark hr _) (by decide) (by exact hot) ?_
      refine a_cons (e_xf R.xf R.no hz2 hf ?_)
      walk_at "sts"
      refine ⟨rfl, d, _, u, rfl, hd, by simp [List.lookup], ?_⟩
      walk_at "sts"
      refine ⟨u, u, rfl, PthI.eq hl (hu.ts (Same.ts e1)), fun H2 e2 => ?_⟩
      exact q H2 (e1.trans e2)
    · rw [decide_eq_false h1]
      refine iteF (l_cons (s_expr (e_callN (by exact FL) (by exact tk) (by exact hr) (by decide) ?_)))
      refine a_cons (e_var (a_cons (e_var (a_nil ?_))))
      refine ⟨v, u, t, p, rfl, hv, ho, hu, hl, .inr ⟨hal, fun d H1 e1 nd1 hd => ?_⟩⟩
      refine ⟨true, R.xP, fun _ a na => ?_, fun z => nomatch z⟩
      intro oe pn2 hz2 hf nd2 hot
      have hdd : ∀ dd, some d = some dd → H1 dd = some (.xd [(("path" : Str), u)]) := fun dd e => by cases e; exact hd
      walk_at "sts"
      refine e_glob (v := .ref CH) (by exact R.mH) rfl ?_
      walk_at "sts"
      refine c_isE R.ec hz2 hf hdd (.own _) R.kH ?_
      walk_at "sts"
      refine e_bltn (v := .ty "ValueError") (by assumption) b_ve rfl ?_
      walk_at "sts"
      refine c_isE R.ec hz2 hf hdd (.ty _) R.kV ?_
      walk_at "sts"
      refine e_glob (v := .ref CN) (by exact R.mN) rfl ?_
      walk_at "sts"
      refine c_isE R.ec hz2 hf hdd (.own _) R.kN ?_
      walk_at "sts"
      refine e_callH (by exact FS) (by exact L2H.roomH_mark hr _) (by decide) (by exact hot) ?_
      refine a_cons (e_xf R.xf R.no hz2 hf ?_)
      walk_at "sts"
      refine ⟨rfl, d, _, u, rfl, hd, by simp [List.lookup], ?_⟩
      walk_at "sts"
      refine ⟨u, u, rfl, PthI.eq hl (hu.ts (Same.ts e1)), fun H2 e2 => ?_⟩
      exact q H2 (e1.trans e2)
end


theorem ps_dep : ∀ (t : Tr), ∀ x ∈ ps t, x.2.dep ≤ t.dep
  | .le h, x, hx => by rw [List.mem_singleton.mp hx]; exact Nat.le_refl _
  | .un h a, x, hx => by
    rcases List.mem_cons.mp hx with rfl | hx
    · exact Nat.le_refl _
    · obtain ⟨y, hy, rfl⟩ := List.mem_map.mp hx
      have := ps_dep a y hy
      simp only [Tr.dep]
      omega
  | .bi h a b, x, hx => by
    rcases List.mem_cons.mp hx with rfl | hx
    · exact Nat.le_refl _
    · rcases List.mem_append.mp hx with hx | hx
      · obtain ⟨y, hy, rfl⟩ := List.mem_map.mp hx
        have := ps_dep a y hy
        simp only [Tr.dep]
        omega
      · obtain ⟨y, hy, rfl⟩ := List.mem_map.mp hx
        have := ps_dep b y hy
        simp only [Tr.dep]
        omega
theorem setK_ok {t x : Tr} {j : Nat} (ho : t.Ok) (hx : x.Ok) : (setK t j x).Ok ∧ (setK t j x).dep ≤ max t.dep (x.dep + 1) := by
  cases t with
  | le h => cases j <;> exact ⟨ho, Nat.le_max_left _ _⟩
  | un h a =>
    cases j with
    | zero => exact ⟨⟨ho.1, ho.2.1, hx⟩, Nat.le_max_right _ _⟩
    | succ j => exact ⟨ho, Nat.le_max_left _ _⟩
  | bi h a b =>
    match j with
    | 0 => exact ⟨⟨ho.1, ho.2.1, hx, ho.2.2.2⟩, by simp only [setK, Tr.dep]; omega⟩
    | 1 => exact ⟨⟨ho.1, ho.2.1, ho.2.2.1, hx⟩, by simp only [setK, Tr.dep]; omega⟩
    | j + 2 => exact ⟨ho, Nat.le_max_left _ _⟩
theorem putT_ok : ∀ {t o : Tr} {p : List Int}, t.Ok → o.Ok → (putT t p o).Ok ∧ (putT t p o).dep ≤ t.dep + o.dep
  | t, o, [], ht, h => ⟨h, Nat.le_add_left _ _⟩
  | t, o, i :: p, ht, h => by
    unfold putT
    cases hk : t.ks[i.toNat]? with
    | none => exact ⟨ht, Nat.le_add_right _ _⟩
    | some a =>
      have hm := List.mem_of_getElem? hk
      obtain ⟨h1, h2⟩ := putT_ok (p := p) (ht.hd.2.2 a hm) h
      have h3 := dep_ks a hm
      obtain ⟨h4, h5⟩ := setK_ok (j := i.toNat) ht h1
      refine ⟨h4, ?_⟩
      show (setK t i.toNat (putT a p o)).dep ≤ _
      omega
theorem but_ts {H H' : Hp} {p : Addr} (hp : PoolAt H p) (b : But p H H') : TS H H' := fun c xs hc => by
  obtain ⟨x, y, z, h⟩ := hp
  exact b c _ (fun e => by rw [e, h] at hc; cases hc) hc
section
variable {P : Program} {w : World} {K : PySem.W.Frag} {mg : Str → Option Value} {base : Heap} {CP : Addr}
def spLaw (K : PySem.W.Frag) : Sp := fun vs H Q _ => ∃ (a : Addr) (ns : List Int), vs = [.ref a] ∧ SqL K H a (ns.map V.int) ∧ ns.length ≤ 63 ∧ ∀ H', Q (.bl true) H'
theorem ok_law {f : Addr} {fd : FuncData} (F : Fun K "law" "law" s_law f fd) (mLen : mg "len" = none) (mR : mg "range" = none) (FD : Fn P w K mg base 124 "_law_drawn" (spDrawn K)) (FPs : ∀ n, Fn P w K mg base (n + 3) "_law_paths" (spPaths n)) (FWk : Fn P w K mg base 70 "_law_walked" spWalked) (FA : Fn P w K mg base 3 "_law_at" spAt)
    (FSm : ∀ n, Fn P w K mg base (n + 2) "_law_same" (spSame n)) (FPt : FnN P w K mg base 4 "part" (spPart CP)) (FW : FnN P w K mg base 4 "with_part" (spWith CP)) (FLv : FnN P w K mg base 4 "level_at" (spLevel CP)) (FPr : Fn P w K mg base 1 "premises" spPrem) (FPa : Fn P w K mg base 2 "_law_parts" spParts)
    (FLl : Fn P w K mg base 3 "_law_level" spLvl) (FPo : Fn P w K mg base 2 "_law_pool" (spPool K)) (FN : Fn P w K mg base 1 "_law_next" spNext) (FPu : ∀ n, Fn P w K mg base (n + 2) "_law_put" (spPut n)) (FWr : Fn P w K mg base 4 "_law_wrong" spWrong) (FR : Fn P w K mg base 6 "_law_refused" spRefd) :
    FnOk P w K mg base CX0 200 f fd ["_law_script"] (spLaw K) := by
  refine run_ok F sc_law so_law (fun vs H Q E h => by obtain ⟨a, ns, rfl, _⟩ := h; rfl) fun f cdv A outer s H vs Q E hr h nd => ?_
  obtain ⟨sa, ns, rfl, hS, hns, q⟩ := h
  refine l_cons (s_set (e_call (by exact FD) (by exact hr) (by decide) (a_cons (e_var (a_cons (e_int (a_nil ?_)))))))
  refine ⟨sa, ns, 0, rfl, hS, fun v t H1 e1 hv1 hg hz => ?_⟩
  show wL _ _ _ [some (.ref sa), some v, none, none, none, none, none, none, none, none] _
  refine l_cons (s_set (e_call (by exact FD) (by exact hr) (by decide) (a_cons (e_var (a_cons (e_int (a_nil ?_)))))))
  refine ⟨sa, ns, 1, rfl, sqL_up e1 hS, fun v2 o H2 e2 hv2 hgo hzo => ?_⟩
  show wL _ _ _ [some (.ref sa), some v, some v2, none, none, none, none, none, none, none] _
  have ht := hg.1
  have ho := hgo.1
  have hd := dep_le t
  have hdo := dep_le o
  refine l_cons (s_set (e_call (by exact FPs 60) (by exact hr) (by decide) (a_cons (e_var (a_cons (e_tup (a_nil ⟨by show 0 ≤ sizeLine; decide, fun pe H3 e3 n3 h3 => a_nil ?_⟩)))))))
  refine ⟨v, .ref pe, t, [], rfl, hv1.ts (Same.ts (e2.trans e3)), ht, by omega, by omega, ⟨pe, rfl, h3⟩, by simp, fun lp us H4 e4 n4 h4 hus => ?_⟩
  show wL _ _ _ [some (.ref sa), some v, some v2, some (.ref lp), none, none, none, none, none, none] _
  have e24 := e2.trans (e3.trans e4)
  have hv4 := hv1.ts (Same.ts e24)
  have ho4 := hv2.ts (Same.ts (e3.trans e4))
  have hS4 := sqL_up (e1.trans e24) hS
  refine l_cons (s_if (t_not (t_val (e_call (by exact FWk) (by exact hr) (by decide) (a_cons (e_var (a_cons (e_var (a_nil ?_)))))))))
  refine ⟨v, lp, us, t, rfl, hv4, ht, hz, h4, hus, fun H5 e5 => ⟨_, rfl, iteF (l_nil ?_)⟩⟩
  have lus := hus.len
  rw [pth_len] at lus
  have pick : ∀ (k : Nat) (x : V), us[k]? = some x → ∃ y, y ∈ ps t ∧ PthV H4 y.1 x := fun k x hk => by
    obtain ⟨p, hp, hpx⟩ := hus.get hk
    rw [pth_ps, List.getElem?_map] at hp
    obtain ⟨y, hy, rfl⟩ := Option.map_eq_some_iff.mp hp
    exact ⟨y, List.mem_of_getElem? hy, hpx⟩
  refine l_cons (s_forL ?_)
  refine e_var ⟨lp, us, rfl, SqL.of (e5 _ _ h4), fun k σ H' => ∃ x y, σ = [some (.ref sa), some v, some v2, some (.ref lp), x, y, none, none, none, none] ∧ Same H5 H', ⟨none, none, rfl, Same.refl _⟩, ?_, ?_, ?_⟩
  · rintro k σ H' _ ⟨_, _, _, e⟩
    exact SqL.of (e _ _ (e5 _ _ h4))
  · rintro k x σ H6 hk ⟨x0, y0, rfl, e6⟩
    obtain ⟨y, hy, hyx⟩ := pick k x hk
    obtain ⟨a1, a2, a3⟩ := ps_at t y hy
    have a4 := ps_dep t y hy
    have so := a2 ht
    have e46 := e5.trans e6
    show wL _ _ _ [some (.ref sa), some v, some v2, some (.ref lp), some x, y0, none, none, none, none] _
    refine l_cons (s_set (e_call (by exact FA) (by exact hr) (by decide) (a_cons (e_var (a_cons (e_var (a_nil ?_)))))))
    refine ⟨v, x, t, y.1, y.2, rfl, hv4.ts (Same.ts e46), ht, hyx.ts (Same.ts e46), a1, by omega, fun v7 H7 e7 hv7 => ?_⟩
    show wL _ _ _ [some (.ref sa), some v, some v2, some (.ref lp), some x, some v7, none, none, none, none] _
    have e47 := e46.trans e7
    obtain ⟨ts, al1, al2⟩ := at_along a1
    refine l_cons (s_if (t_w (w_or (t_not (t_val (e_call (by exact FSm 63) (by exact hr) (by decide) (a_cons (e_callN (by exact FPt) takesN0 (by exact hr) (by decide) (a_cons (e_var (a_cons (e_var (a_nil ?_)))))))))))))
    refine ⟨v, x, t, ip y.1, rfl, hv4.ts (Same.ts e47), ht, (hyx.ts (Same.ts e47)).i, by rw [List.length_map]; omega, .inl ⟨ts, y.2, al1, al2, fun v8 H8 e8 hv8 => a_cons (e_var (a_nil ?_))⟩⟩
    refine ⟨v8, v7, rfl, (TrV.eq so hv8 (hv7.ts (Same.ts e8))).more (by omega), fun H9 e9 => ⟨_, rfl, iteF (w_or1 (t_not (t_val (e_call (by exact FSm 64) (by exact hr) (by decide) (a_cons (e_call (by exact FPr) (by exact hr) (by decide) (a_cons (e_var (a_nil ?_)))))))))⟩⟩
    have e79 := e8.trans e9
    obtain ⟨cp, xs0, ks, rfl, hcp, ⟨fs, rfl, hfs⟩, hks⟩ := id hv7.split
    have lks := ks_le y.2
    have oks : ∀ a ∈ y.2.ks, a.Ok ∧ a.dep + 3 ≤ 63 := fun a ha => ⟨so.hd.2.2 a ha, by have := dep_ks a ha; omega⟩
    refine ⟨cp, y.2.hd.k, _, _, ks, rfl, e79 _ _ hcp, rfl, (HdL.len so.hd.1 ⟨fs, rfl, hfs⟩), fun fl H10 e10 n10 h10 => ?_⟩
    refine a_cons (e_call (by exact FPa) (by exact hr) (by decide) (a_cons (e_var (a_nil ?_))))
    refine ⟨.ref cp, y.2, rfl, hv7.ts (Same.ts (e79.trans e10)), so.hd.1, fun pl us2 H11 e11 n11 h11 hus2 => a_nil ?_⟩
    refine ⟨.ref fl, .ref pl, rfl, (TrsV.eq oks (hks.ts (Same.ts (e79.trans (e10.trans e11)))) hus2).lst (e11 _ _ h10) h11 (by rw [hks.len]; omega), fun H12 e12 => ⟨_, rfl, iteF (l_nil ?_)⟩⟩
    have e712 := e79.trans (e10.trans (e11.trans e12))
    have e412 := e47.trans e712
    refine l_cons (s_if (t_not (t_val (e_call (by exact FSm 0) (by exact hr) (by decide) (a_cons (e_callN (by exact FLv) takesN0 (by exact hr) (by decide) (a_cons (e_var (a_cons (e_var (a_nil ?_)))))))))))
    refine ⟨v, x, t, ip y.1, rfl, hv4.ts (Same.ts e412), ht, (hyx.ts (Same.ts e412)).i, by rw [List.length_map]; omega, .inl ⟨ts, al1, fun H13 e13 => ?_⟩⟩
    refine a_cons (e_call (by exact FLl) (by exact hr) (by decide) (a_cons (e_var (a_cons (e_var (a_nil ?_))))))
    refine ⟨v, x, t, ip y.1, ts, rfl, hv4.ts (Same.ts (e412.trans e13)), ht, (hyx.ts (Same.ts (e412.trans e13))).i, al1, fun H14 e14 => a_nil ?_⟩
    refine ⟨_, _, rfl, .int _ 0 _, fun H15 e15 => ⟨_, rfl, iteF (l_nil (l_nil ⟨_, _, rfl, ?_⟩))⟩⟩
    exact e6.trans (e7.trans (e712.trans (e13.trans (e14.trans e15))))
  · rintro σ H6 ⟨x0, y0, rfl, e6⟩
    have e46 := e5.trans e6
    refine l_cons (s_set (e_call (by exact FPo) (by exact hr) (by decide) (a_cons (e_var (a_cons (e_int (a_nil ?_)))))))
    refine ⟨sa, ns, 2, rfl, sqL_up e46 hS4, fun p H7 e7 n7 p7 => ?_⟩
    have e47 := e46.trans e7
    have nlp : lp ≠ p := fun z => by rw [← z, e46 _ _ h4] at n7; cases n7
    show wL _ _ _ [some (.ref sa), some v, some v2, some (.ref lp), x0, y0, some (.ref p), none, none, none] _
    refine l_cons (s_forR (by assumption) (e_bin (e_int (e_call (by exact FN) (by exact hr) (by decide) ?_))))
    refine a_cons (e_var (a_cons (e_int (a_nil ?_))))
    refine ⟨p, 8, rfl, by decide, by decide, p7, fun d8 H8 c0 c1 b8 p8 => o_add ?_⟩
    obtain ⟨m, rfl⟩ := Int.eq_ofNat_of_zero_le c0
    have t7 : TS H4 H7 := Same.ts e47
    refine ⟨1 + m, congrArg V.int (by omega), by omega, fun k σ H' => ∃ a b c d e, σ = [some (.ref sa), some v, some v2, some (.ref lp), a, b, some (.ref p), c, d, e] ∧ PoolAt H' p ∧ TS H4 H' ∧ H' lp = some (.lst us), ⟨x0, y0, none, none, none, rfl, p8, fun c xs hc => but_ts p7 b8 _ _ (t7 _ _ hc), b8 _ _ nlp (e47 _ _ h4)⟩, ?_, ?_⟩
    · rintro k σ H9 hk ⟨a, b, c, d, e, rfl, p9, t9, hl9⟩
      show wL _ _ _ [some (.ref sa), some v, some v2, some (.ref lp), a, b, some (.ref p), some (.int (k : Int)), d, e] _
      refine l_cons (s_set (e_ix (e_var (e_call (by exact FN) (by exact hr) (by decide) ?_))))
      refine a_cons (e_var (a_cons (e_callB (x := "len") (by assumption) b_len (a_cons (e_var (a_nil (c_lenL (SqL.of hl9) (a_nil ?_))))))))
      have hpos : 0 < us.length := by rw [lus]; omega
      refine ⟨p, (us.length : Int), rfl, by omega, by omega, p9, fun d10 H10 g0 g1 b10 p10 => ?_⟩
      obtain ⟨j, rfl⟩ := Int.eq_ofNat_of_zero_le g0
      have hj : us[j]? = some us[j] := List.getElem?_eq_getElem (by omega)
      have hl10 := b10 _ _ nlp hl9
      have t10 : TS H4 H10 := fun c xs hc => but_ts p9 b10 _ _ (t9 _ _ hc)
      refine ix_l (by exact SqL.of hl10) (atI_nat hj) ?_
      obtain ⟨y, hy, hyx⟩ := pick j _ hj
      obtain ⟨a1, a2, a3⟩ := ps_at t y hy
      obtain ⟨ts, al1, al2⟩ := at_along a1
      show wL _ _ _ [some (.ref sa), some v, some v2, some (.ref lp), some us[j], b, some (.ref p), some (.int (k : Int)), d, e] _
      refine l_cons (s_if (t_not (t_val (e_call (by exact FSm 122) (by exact hr) (by decide) (a_cons (e_callN (by exact FW) takesN0 (by exact hr) (by decide) (a_cons (e_var (a_cons (e_var (a_cons (e_var (a_nil ?_)))))))))))))
      refine ⟨v, us[j], v2, t, ip y.1, o, rfl, hv4.ts t10, ht, (hyx.ts t10).i, by rw [List.length_map]; omega, ho4.ts t10, .inl ⟨ts, al1, fun r H11 e11 hr11 => ?_⟩⟩
      have t11 : TS H4 H11 := t10.trans (Same.ts e11)
      refine a_cons (e_call (by exact FPu 60) (by exact hr) (by decide) (a_cons (e_var (a_cons (e_var (a_cons (e_var (a_nil ?_))))))))
      refine ⟨v, us[j], v2, t, ip y.1, o, ts, rfl, hv4.ts t11, ht, (hyx.ts t11).i, ho4.ts t11, al1, by rw [List.length_map]; omega, fun r2 H12 e12 hr12 => a_nil ?_⟩
      obtain ⟨pok, pdp⟩ := putT_ok (p := ip y.1) ht ho
      refine ⟨r, r2, rfl, (TrV.eq pok (hr11.ts (Same.ts e12)) hr12).more (by omega), fun H13 e13 => ⟨_, rfl, iteF (l_nil ?_)⟩⟩
      have e1013 := e11.trans (e12.trans e13)
      have t13 : TS H4 H13 := t10.trans (Same.ts e1013)
      have p13 : PoolAt H13 p := let ⟨x, y, z, h⟩ := p10; ⟨x, y, z, e1013 _ _ h⟩
      have hl13 := e1013 _ _ hl10
      refine l_cons (s_set (e_call (by exact FWr) (by exact hr) (by decide) (a_cons (e_var (a_cons (e_var (a_cons (e_var (a_nil ?_)))))))))
      refine ⟨p, v, us[j], t, y.1, y.2, rfl, p13, hv4.ts t13, ht, hyx.ts t13, a1, by omega, fun wr p' H14 b14 p14 hp' hal' hlen => ?_⟩
      have t14 : TS H4 H14 := fun c xs hc => but_ts p13 b14 _ _ (t13 _ _ hc)
      have hl14 := b14 _ _ nlp hl13
      show wL _ _ _ [some (.ref sa), some v, some v2, some (.ref lp), some us[j], b, some (.ref p), some (.int (k : Int)), some wr, e] _
      refine l_cons (s_forR (by assumption) (e_int ⟨3, rfl, by decide, fun i σ H' => ∃ e, σ = [some (.ref sa), some v, some v2, some (.ref lp), some us[j], b, some (.ref p), some (.int (k : Int)), some wr, e] ∧ Same H14 H', ⟨e, rfl, Same.refl _⟩, ?_, ?_⟩))
      · rintro i σ H15 hi ⟨e0, rfl, e15⟩
        show wL _ _ _ [some (.ref sa), some v, some v2, some (.ref lp), some us[j], b, some (.ref p), some (.int (k : Int)), some wr, some (.int (i : Int))] _
        refine l_cons (s_if (t_not (t_val (e_call (by exact FR) (by exact hr) (by decide) (a_cons (e_var (a_cons (e_var (a_cons (e_var (a_cons (e_var (a_nil ?_)))))))))))))
        refine ⟨(i : Int), v, wr, v2, t, p', o, rfl, (hv4.ts t14).ts (Same.ts e15), ht, hp'.ts (Same.ts e15), by omega, hal', (ho4.ts t14).ts (Same.ts e15), fun H16 e16 => ⟨_, rfl, iteF (l_nil (l_nil ⟨_, rfl, e15.trans e16⟩))⟩⟩
      · rintro σ H15 ⟨e0, rfl, e15⟩
        exact l_nil ⟨_, _, _, _, _, rfl, let ⟨x, y, z, h⟩ := p14; ⟨x, y, z, e15 _ _ h⟩, t14.trans (Same.ts e15), e15 _ _ hl14⟩
    · rintro σ H9 ⟨a, b, c, d, e, rfl, p9, t9, hl9⟩
      refine l_cons (s_ret (e_call (by exact FWk) (by exact hr) (by decide) (a_cons (e_var (a_cons (e_var (a_nil ?_)))))))
      refine ⟨v, lp, us, t, rfl, hv4.ts t9, ht, hz, hl9, hus.ts t9, fun H10 _ => ?_⟩
      exact q H10
end

section
theorem kit_sub {K : PySem.W.Frag} {D C : Addr} (hd : PySem.W.hasDictIn K C = true) (ht : PySem.W.typeIn K (.ref C) = some (.type "type")) (h : PySem.W.subIn K (.ref D) (.ref C) = some true) : PySem.W.kitOne K (.ref D) (.ref C) = some true := by
  obtain ⟨cd, hc, _⟩ := PySem.W.any_some hd
  unfold PySem.W.kitOne
  split
  · rfl
  · show (if ((PySem.W.clsIn K C).isSome && PySem.W.typeIn K (.ref C) == some (.type "type")) = true then PySem.W.subIn K (.ref D) (.ref C) else none) = some true
    rw [hc, ht, h]
    rfl
theorem kit_not {K : PySem.W.Frag} {D C : Addr} (hd : PySem.W.hasDictIn K C = true) (ht : PySem.W.typeIn K (.ref C) = some (.type "type")) (h : PySem.W.subIn K (.ref D) (.ref C) = some false) (hs : PySem.W.subIn K (.ref D) (.ref D) = some true) : PySem.W.kitOne K (.ref D) (.ref C) = some false := by
  obtain ⟨cd, hc, _⟩ := PySem.W.any_some hd
  have ne : D ≠ C := fun z => by
    subst z
    rw [hs] at h
    cases h
  unfold PySem.W.kitOne
  rw [if_neg (fun z => ne (Value.ref.inj (beq_iff_eq.mp z)))]
  show (if ((PySem.W.clsIn K C).isSome && PySem.W.typeIn K (.ref C) == some (.type "type")) = true then PySem.W.subIn K (.ref D) (.ref C) else none) = some false
  rw [hc, ht, h]
  rfl
theorem kit_typ {K : PySem.W.Frag} {D : Addr} (h : PySem.W.subIn K (.ref D) (.type "ValueError") = some true) : PySem.W.kitOne K (.ref D) (.type "ValueError") = some true := by
  unfold PySem.W.kitOne
  rw [if_neg (by simp)]
  show (if PySem.W.kitMeta "ValueError" = true then PySem.W.subIn K (.ref D) (.type "ValueError") else none) = some true
  rw [if_pos (by decide +kernel), h]
theorem all_mk {l : PySem.W.OpenLaw} {w : World} {K : PySem.W.Frag} {h : Heap} {mg : Str → Option Value} {fa : Addr} (X : K.In h) (G : h.Ns mainGlobals mg) (hfa : mg "law" = some (.ref fa))
    {f0 : Addr} {od0 an0 : Option Addr} {sl0 : Array (Option Value)} {oc0 kV0 dc0 pm0 cd0 ct0 : Value}
    {f1 : Addr} {od1 an1 : Option Addr} {sl1 : Array (Option Value)} {oc1 kV1 dc1 pm1 cd1 ct1 : Value}
    {f2 : Addr} {od2 an2 : Option Addr} {sl2 : Array (Option Value)} {oc2 kV2 dc2 pm2 cd2 ct2 : Value}
    {f3 : Addr} {od3 an3 : Option Addr} {sl3 : Array (Option Value)} {oc3 kV3 dc3 pm3 cd3 ct3 : Value}
    {f4 : Addr} {od4 an4 : Option Addr} {sl4 : Array (Option Value)} {oc4 kV4 dc4 pm4 cd4 ct4 : Value}
    {f5 : Addr} {od5 an5 : Option Addr} {sl5 : Array (Option Value)} {oc5 kV5 dc5 pm5 cd5 ct5 : Value}
    {f6 : Addr} {od6 an6 : Option Addr} {sl6 : Array (Option Value)} {oc6 kV6 dc6 pm6 cd6 ct6 : Value}
    {f7 : Addr} {od7 an7 : Option Addr} {sl7 : Array (Option Value)} {oc7 kV7 dc7 pm7 cd7 ct7 : Value}
    {f8 : Addr} {od8 an8 : Option Addr} {sl8 : Array (Option Value)} {oc8 kV8 dc8 pm8 cd8 ct8 : Value}
    {f9 : Addr} {od9 an9 : Option Addr} {sl9 : Array (Option Value)} {oc9 kV9 dc9 pm9 cd9 ct9 : Value}
    {f10 : Addr} {od10 an10 : Option Addr} {sl10 : Array (Option Value)} {oc10 kV10 dc10 pm10 cd10 ct10 : Value}
    {f11 : Addr} {od11 an11 : Option Addr} {sl11 : Array (Option Value)} {oc11 kV11 dc11 pm11 cd11 ct11 : Value}
    {f12 : Addr} {od12 an12 : Option Addr} {sl12 : Array (Option Value)} {oc12 kV12 dc12 pm12 cd12 ct12 : Value}
    {f13 : Addr} {od13 an13 : Option Addr} {sl13 : Array (Option Value)} {oc13 kV13 dc13 pm13 cd13 ct13 : Value}
    {f14 : Addr} {od14 an14 : Option Addr} {sl14 : Array (Option Value)} {oc14 kV14 dc14 pm14 cd14 ct14 : Value}
    {f15 : Addr} {od15 an15 : Option Addr} {sl15 : Array (Option Value)} {oc15 kV15 dc15 pm15 cd15 ct15 : Value}
    {f16 : Addr} {od16 an16 : Option Addr} {sl16 : Array (Option Value)} {oc16 kV16 dc16 pm16 cd16 ct16 : Value}
    {f17 : Addr} {od17 an17 : Option Addr} {sl17 : Array (Option Value)} {oc17 kV17 dc17 pm17 cd17 ct17 : Value}
    {f18 : Addr} {od18 an18 : Option Addr} {sl18 : Array (Option Value)} {oc18 kV18 dc18 pm18 cd18 ct18 : Value}
    {f19 : Addr} {od19 an19 : Option Addr} {sl19 : Array (Option Value)} {oc19 kV19 dc19 pm19 cd19 ct19 : Value}
    {f20 : Addr} {od20 an20 : Option Addr} {sl20 : Array (Option Value)} {oc20 kV20 dc20 pm20 cd20 ct20 : Value}
    {f21 : Addr} {od21 an21 : Option Addr} {sl21 : Array (Option Value)} {oc21 kV21 dc21 pm21 cd21 ct21 : Value}
    {f22 : Addr} {od22 an22 : Option Addr} {sl22 : Array (Option Value)} {oc22 kV22 dc22 pm22 cd22 ct22 : Value}
    {f23 : Addr} {od23 an23 : Option Addr} {sl23 : Array (Option Value)} {oc23 kV23 dc23 pm23 cd23 ct23 : Value}
    {f24 : Addr} {od24 an24 : Option Addr} {sl24 : Array (Option Value)} {oc24 kV24 dc24 pm24 cd24 ct24 : Value}
    {f25 : Addr} {od25 an25 : Option Addr} {sl25 : Array (Option Value)} {oc25 kV25 dc25 pm25 cd25 ct25 : Value}
    {f26 : Addr} {od26 an26 : Option Addr} {sl26 : Array (Option Value)} {oc26 kV26 dc26 pm26 cd26 ct26 : Value}
    {f27 : Addr} {od27 an27 : Option Addr} {sl27 : Array (Option Value)} {oc27 kV27 dc27 pm27 cd27 ct27 : Value}
    {f28 : Addr} {od28 an28 : Option Addr} {sl28 : Array (Option Value)} {oc28 kV28 dc28 pm28 cd28 ct28 : Value}
    {f29 : Addr} {od29 an29 : Option Addr} {sl29 : Array (Option Value)} {oc29 kV29 dc29 pm29 cd29 ct29 : Value}
    {f30 : Addr} {od30 an30 : Option Addr} {sl30 : Array (Option Value)} {oc30 kV30 dc30 pm30 cd30 ct30 : Value}
    {f31 : Addr} {od31 an31 : Option Addr} {sl31 : Array (Option Value)} {oc31 kV31 dc31 pm31 cd31 ct31 : Value}
    {FA DA : Addr} {nF nD : Nat} {r0_ : Addr} {tF0 tD0 tP0 : Tok} {nT0 : Nat} {r1_ : Addr} {tF1 tD1 tP1 : Tok} {nT1 : Nat} {r2_ : Addr} {tF2 tD2 tP2 : Tok} {nT2 : Nat} {r3_ : Addr} {tF3 tD3 tP3 : Tok} {nT3 : Nat} {r4_ : Addr} {tF4 tD4 tP4 : Tok} {nT4 : Nat} {r5_ : Addr} {tF5 tD5 tP5 : Tok} {nT5 : Nat} {r6_ : Addr} {tF6 tD6 tP6 : Tok} {nT6 : Nat} {r7_ : Addr} {tF7 tD7 tP7 : Tok} {nT7 : Nat} {r8_ : Addr} {tF8 tD8 tP8 : Tok} {nT8 : Nat} {tT0_0 : Tok} {tT3_0 : Tok} {tT3_1 : Tok} {tT4_0 : Tok} {tT4_1 : Tok} {tT5_0 : Tok} {tT5_1 : Tok} {tT6_0 : Tok} {tT6_1 : Tok} {tT6_2 : Tok} {tT7_0 : Tok} {tT7_1 : Tok} {tT8_0 : Tok}
    {BA : Addr} {nB : Nat} {tB0 : Tok} {tB1 : Tok} {tB2 : Tok} {tB3 : Tok} {tB4 : Tok}
    {CP CH CN : Addr}
    {nmCP qnCP : Str} {NaCP : Addr} {bsCP : List Value} {snCP : List Str} {subCP : List Value} {abCP : Bool} {colCP : Option Bool} {ddCP : Option Addr} {x0CP x1CP x2CP x3CP x5CP : Option Value}
    {f32 : Addr} {od32 an32 : Option Addr} {sl32 : Array (Option Value)} {oc32 kV32 dc32 pm32 cd32 ct32 : Value}
    (a0 : PySem.W.nsIn K mainGlobals "premises" = some (some (.ref f0)))
    (l0 : K.lookup f0 = some ⟨oc0, od0, .func (PySem.W.fnOf "premises" "premises" (defArgs s_premises) (defBody s_premises) (defScope s_premises) .none kV0 dc0 pm0 an0 cd0 ct0), sl0⟩)
    (c0 : PySem.W.codeIn K cd0 "premises" = true)
    (k0 : PySem.W.keepIn K (.ref f0) = true)
    (a1 : PySem.W.nsIn K mainGlobals "premise_levels" = some (some (.ref f1)))
    (l1 : K.lookup f1 = some ⟨oc1, od1, .func (PySem.W.fnOf "premise_levels" "premise_levels" (defArgs s_premise_levels) (defBody s_premise_levels) (defScope s_premise_levels) .none kV1 dc1 pm1 an1 cd1 ct1), sl1⟩)
    (c1 : PySem.W.codeIn K cd1 "premise_levels" = true)
    (k1 : PySem.W.keepIn K (.ref f1) = true)
    (a2 : PySem.W.nsIn K mainGlobals "head_of" = some (some (.ref f2)))
    (l2 : K.lookup f2 = some ⟨oc2, od2, .func (PySem.W.fnOf "head_of" "head_of" (defArgs s_head_of) (defBody s_head_of) (defScope s_head_of) .none kV2 dc2 pm2 an2 cd2 ct2), sl2⟩)
    (c2 : PySem.W.codeIn K cd2 "head_of" = true)
    (k2 : PySem.W.keepIn K (.ref f2) = true)
    (a3 : PySem.W.nsIn K mainGlobals "heads" = some (some (.ref f3)))
    (l3 : K.lookup f3 = some ⟨oc3, od3, .func (PySem.W.fnOf "heads" "heads" (defArgs s_heads) (defBody s_heads) (defScope s_heads) .none kV3 dc3 pm3 an3 cd3 ct3), sl3⟩)
    (c3 : PySem.W.codeIn K cd3 "heads" = true)
    (k3 : PySem.W.keepIn K (.ref f3) = true)
    (a4 : PySem.W.nsIn K mainGlobals "rows_along" = some (some (.ref f4)))
    (l4 : K.lookup f4 = some ⟨oc4, od4, .func (PySem.W.fnOf "rows_along" "rows_along" (defArgs s_rows_along) (defBody s_rows_along) (defScope s_rows_along) .none kV4 dc4 pm4 an4 cd4 ct4), sl4⟩)
    (c4 : PySem.W.codeIn K cd4 "rows_along" = true)
    (k4 : PySem.W.keepIn K (.ref f4) = true)
    (a5 : PySem.W.nsIn K mainGlobals "part" = some (some (.ref f5)))
    (l5 : K.lookup f5 = some ⟨oc5, od5, .func (PySem.W.fnOf "part" "part" (defArgs s_part) (defBody s_part) (defScope s_part) .none kV5 dc5 pm5 an5 cd5 ct5), sl5⟩)
    (c5 : PySem.W.codeIn K cd5 "part" = true)
    (k5 : PySem.W.keepIn K (.ref f5) = true)
    (a6 : PySem.W.nsIn K mainGlobals "with_part" = some (some (.ref f6)))
    (l6 : K.lookup f6 = some ⟨oc6, od6, .func (PySem.W.fnOf "with_part" "with_part" (defArgs s_with_part) (defBody s_with_part) (defScope s_with_part) .none kV6 dc6 pm6 an6 cd6 ct6), sl6⟩)
    (c6 : PySem.W.codeIn K cd6 "with_part" = true)
    (k6 : PySem.W.keepIn K (.ref f6) = true)
    (a7 : PySem.W.nsIn K mainGlobals "level_at" = some (some (.ref f7)))
    (l7 : K.lookup f7 = some ⟨oc7, od7, .func (PySem.W.fnOf "level_at" "level_at" (defArgs s_level_at) (defBody s_level_at) (defScope s_level_at) .none kV7 dc7 pm7 an7 cd7 ct7), sl7⟩)
    (c7 : PySem.W.codeIn K cd7 "level_at" = true)
    (k7 : PySem.W.keepIn K (.ref f7) = true)
    (a8 : PySem.W.nsIn K mainGlobals "row_count" = some (some (.ref f8)))
    (l8 : K.lookup f8 = some ⟨oc8, od8, .func (PySem.W.fnOf "row_count" "row_count" (defArgs s_row_count) (defBody s_row_count) (defScope s_row_count) .none kV8 dc8 pm8 an8 cd8 ct8), sl8⟩)
    (c8 : PySem.W.codeIn K cd8 "row_count" = true)
    (k8 : PySem.W.keepIn K (.ref f8) = true)
    (a9 : PySem.W.nsIn K mainGlobals "walk" = some (some (.ref f9)))
    (l9 : K.lookup f9 = some ⟨oc9, od9, .func (PySem.W.fnOf "walk" "walk" (defArgs s_walk) (defBody s_walk) (defScope s_walk) .none kV9 dc9 pm9 an9 cd9 ct9), sl9⟩)
    (c9 : PySem.W.codeIn K cd9 "walk" = true)
    (k9 : PySem.W.keepIn K (.ref f9) = true)
    (a10 : PySem.W.nsIn K mainGlobals "cut_paths" = some (some (.ref f10)))
    (l10 : K.lookup f10 = some ⟨oc10, od10, .func (PySem.W.fnOf "cut_paths" "cut_paths" (defArgs s_cut_paths) (defBody s_cut_paths) (defScope s_cut_paths) .none kV10 dc10 pm10 an10 cd10 ct10), sl10⟩)
    (c10 : PySem.W.codeIn K cd10 "cut_paths" = true)
    (k10 : PySem.W.keepIn K (.ref f10) = true)
    (a11 : PySem.W.nsIn K mainGlobals "is_bare" = some (some (.ref f11)))
    (l11 : K.lookup f11 = some ⟨oc11, od11, .func (PySem.W.fnOf "is_bare" "is_bare" (defArgs s_is_bare) (defBody s_is_bare) (defScope s_is_bare) .none kV11 dc11 pm11 an11 cd11 ct11), sl11⟩)
    (c11 : PySem.W.codeIn K cd11 "is_bare" = true)
    (k11 : PySem.W.keepIn K (.ref f11) = true)
    (a12 : PySem.W.nsIn K mainGlobals "_law_cell" = some (some (.ref f12)))
    (l12 : K.lookup f12 = some ⟨oc12, od12, .func (PySem.W.fnOf "_law_cell" "_law_cell" (defArgs s_cell) (defBody s_cell) (defScope s_cell) .none kV12 dc12 pm12 an12 cd12 ct12), sl12⟩)
    (c12 : PySem.W.codeIn K cd12 "_law_cell" = true)
    (k12 : PySem.W.keepIn K (.ref f12) = true)
    (a13 : PySem.W.nsIn K mainGlobals "_law_pool" = some (some (.ref f13)))
    (l13 : K.lookup f13 = some ⟨oc13, od13, .func (PySem.W.fnOf "_law_pool" "_law_pool" (defArgs s_pool) (defBody s_pool) (defScope s_pool) .none kV13 dc13 pm13 an13 cd13 ct13), sl13⟩)
    (c13 : PySem.W.codeIn K cd13 "_law_pool" = true)
    (k13 : PySem.W.keepIn K (.ref f13) = true)
    (a14 : PySem.W.nsIn K mainGlobals "_law_next" = some (some (.ref f14)))
    (l14 : K.lookup f14 = some ⟨oc14, od14, .func (PySem.W.fnOf "_law_next" "_law_next" (defArgs s_next) (defBody s_next) (defScope s_next) .none kV14 dc14 pm14 an14 cd14 ct14), sl14⟩)
    (c14 : PySem.W.codeIn K cd14 "_law_next" = true)
    (k14 : PySem.W.keepIn K (.ref f14) = true)
    (a15 : PySem.W.nsIn K mainGlobals "_law_is_number" = some (some (.ref f15)))
    (l15 : K.lookup f15 = some ⟨oc15, od15, .func (PySem.W.fnOf "_law_is_number" "_law_is_number" (defArgs s_is_number) (defBody s_is_number) (defScope s_is_number) .none kV15 dc15 pm15 an15 cd15 ct15), sl15⟩)
    (c15 : PySem.W.codeIn K cd15 "_law_is_number" = true)
    (k15 : PySem.W.keepIn K (.ref f15) = true)
    (a16 : PySem.W.nsIn K mainGlobals "_law_row" = some (some (.ref f16)))
    (l16 : K.lookup f16 = some ⟨oc16, od16, .func (PySem.W.fnOf "_law_row" "_law_row" (defArgs s_row) (defBody s_row) (defScope s_row) .none kV16 dc16 pm16 an16 cd16 ct16), sl16⟩)
    (c16 : PySem.W.codeIn K cd16 "_law_row" = true)
    (k16 : PySem.W.keepIn K (.ref f16) = true)
    (a17 : PySem.W.nsIn K mainGlobals "_law_parts" = some (some (.ref f17)))
    (l17 : K.lookup f17 = some ⟨oc17, od17, .func (PySem.W.fnOf "_law_parts" "_law_parts" (defArgs s_parts) (defBody s_parts) (defScope s_parts) .none kV17 dc17 pm17 an17 cd17 ct17), sl17⟩)
    (c17 : PySem.W.codeIn K cd17 "_law_parts" = true)
    (k17 : PySem.W.keepIn K (.ref f17) = true)
    (a18 : PySem.W.nsIn K mainGlobals "_law_paths" = some (some (.ref f18)))
    (l18 : K.lookup f18 = some ⟨oc18, od18, .func (PySem.W.fnOf "_law_paths" "_law_paths" (defArgs s_paths) (defBody s_paths) (defScope s_paths) .none kV18 dc18 pm18 an18 cd18 ct18), sl18⟩)
    (c18 : PySem.W.codeIn K cd18 "_law_paths" = true)
    (k18 : PySem.W.keepIn K (.ref f18) = true)
    (a19 : PySem.W.nsIn K mainGlobals "_law_at" = some (some (.ref f19)))
    (l19 : K.lookup f19 = some ⟨oc19, od19, .func (PySem.W.fnOf "_law_at" "_law_at" (defArgs s_at) (defBody s_at) (defScope s_at) .none kV19 dc19 pm19 an19 cd19 ct19), sl19⟩)
    (c19 : PySem.W.codeIn K cd19 "_law_at" = true)
    (k19 : PySem.W.keepIn K (.ref f19) = true)
    (a20 : PySem.W.nsIn K mainGlobals "_law_level" = some (some (.ref f20)))
    (l20 : K.lookup f20 = some ⟨oc20, od20, .func (PySem.W.fnOf "_law_level" "_law_level" (defArgs s_level) (defBody s_level) (defScope s_level) .none kV20 dc20 pm20 an20 cd20 ct20), sl20⟩)
    (c20 : PySem.W.codeIn K cd20 "_law_level" = true)
    (k20 : PySem.W.keepIn K (.ref f20) = true)
    (a21 : PySem.W.nsIn K mainGlobals "_law_same" = some (some (.ref f21)))
    (l21 : K.lookup f21 = some ⟨oc21, od21, .func (PySem.W.fnOf "_law_same" "_law_same" (defArgs s_same) (defBody s_same) (defScope s_same) .none kV21 dc21 pm21 an21 cd21 ct21), sl21⟩)
    (c21 : PySem.W.codeIn K cd21 "_law_same" = true)
    (k21 : PySem.W.keepIn K (.ref f21) = true)
    (a22 : PySem.W.nsIn K mainGlobals "_law_mode" = some (some (.ref f22)))
    (l22 : K.lookup f22 = some ⟨oc22, od22, .func (PySem.W.fnOf "_law_mode" "_law_mode" (defArgs s_mode) (defBody s_mode) (defScope s_mode) .none kV22 dc22 pm22 an22 cd22 ct22), sl22⟩)
    (c22 : PySem.W.codeIn K cd22 "_law_mode" = true)
    (k22 : PySem.W.keepIn K (.ref f22) = true)
    (a23 : PySem.W.nsIn K mainGlobals "_law_free_one" = some (some (.ref f23)))
    (l23 : K.lookup f23 = some ⟨oc23, od23, .func (PySem.W.fnOf "_law_free_one" "_law_free_one" (defArgs s_free_one) (defBody s_free_one) (defScope s_free_one) .none kV23 dc23 pm23 an23 cd23 ct23), sl23⟩)
    (c23 : PySem.W.codeIn K cd23 "_law_free_one" = true)
    (k23 : PySem.W.keepIn K (.ref f23) = true)
    (a24 : PySem.W.nsIn K mainGlobals "_law_free_two" = some (some (.ref f24)))
    (l24 : K.lookup f24 = some ⟨oc24, od24, .func (PySem.W.fnOf "_law_free_two" "_law_free_two" (defArgs s_free_two) (defBody s_free_two) (defScope s_free_two) .none kV24 dc24 pm24 an24 cd24 ct24), sl24⟩)
    (c24 : PySem.W.codeIn K cd24 "_law_free_two" = true)
    (k24 : PySem.W.keepIn K (.ref f24) = true)
    (a25 : PySem.W.nsIn K mainGlobals "_law_free" = some (some (.ref f25)))
    (l25 : K.lookup f25 = some ⟨oc25, od25, .func (PySem.W.fnOf "_law_free" "_law_free" (defArgs s_free) (defBody s_free) (defScope s_free) .none kV25 dc25 pm25 an25 cd25 ct25), sl25⟩)
    (c25 : PySem.W.codeIn K cd25 "_law_free" = true)
    (k25 : PySem.W.keepIn K (.ref f25) = true)
    (a26 : PySem.W.nsIn K mainGlobals "_law_drawn" = some (some (.ref f26)))
    (l26 : K.lookup f26 = some ⟨oc26, od26, .func (PySem.W.fnOf "_law_drawn" "_law_drawn" (defArgs s_drawn) (defBody s_drawn) (defScope s_drawn) .none kV26 dc26 pm26 an26 cd26 ct26), sl26⟩)
    (c26 : PySem.W.codeIn K cd26 "_law_drawn" = true)
    (k26 : PySem.W.keepIn K (.ref f26) = true)
    (a27 : PySem.W.nsIn K mainGlobals "_law_walked" = some (some (.ref f27)))
    (l27 : K.lookup f27 = some ⟨oc27, od27, .func (PySem.W.fnOf "_law_walked" "_law_walked" (defArgs s_walked) (defBody s_walked) (defScope s_walked) .none kV27 dc27 pm27 an27 cd27 ct27), sl27⟩)
    (c27 : PySem.W.codeIn K cd27 "_law_walked" = true)
    (k27 : PySem.W.keepIn K (.ref f27) = true)
    (a28 : PySem.W.nsIn K mainGlobals "_law_put" = some (some (.ref f28)))
    (l28 : K.lookup f28 = some ⟨oc28, od28, .func (PySem.W.fnOf "_law_put" "_law_put" (defArgs s_put) (defBody s_put) (defScope s_put) .none kV28 dc28 pm28 an28 cd28 ct28), sl28⟩)
    (c28 : PySem.W.codeIn K cd28 "_law_put" = true)
    (k28 : PySem.W.keepIn K (.ref f28) = true)
    (a29 : PySem.W.nsIn K mainGlobals "_law_wrong" = some (some (.ref f29)))
    (l29 : K.lookup f29 = some ⟨oc29, od29, .func (PySem.W.fnOf "_law_wrong" "_law_wrong" (defArgs s_wrong) (defBody s_wrong) (defScope s_wrong) .none kV29 dc29 pm29 an29 cd29 ct29), sl29⟩)
    (c29 : PySem.W.codeIn K cd29 "_law_wrong" = true)
    (k29 : PySem.W.keepIn K (.ref f29) = true)
    (a30 : PySem.W.nsIn K mainGlobals "_law_refused" = some (some (.ref f30)))
    (l30 : K.lookup f30 = some ⟨oc30, od30, .func (PySem.W.fnOf "_law_refused" "_law_refused" (defArgs s_refused) (defBody s_refused) (defScope s_refused) .none kV30 dc30 pm30 an30 cd30 ct30), sl30⟩)
    (c30 : PySem.W.codeIn K cd30 "_law_refused" = true)
    (k30 : PySem.W.keepIn K (.ref f30) = true)
    (a31 : PySem.W.nsIn K mainGlobals "law" = some (some (.ref f31)))
    (l31 : K.lookup f31 = some ⟨oc31, od31, .func (PySem.W.fnOf "law" "law" (defArgs s_law) (defBody s_law) (defScope s_law) .none kV31 dc31 pm31 an31 cd31 ct31), sl31⟩)
    (c31 : PySem.W.codeIn K cd31 "law" = true)
    (k31 : PySem.W.keepIn K (.ref f31) = true)
    (z_isinstance : PySem.W.nsIn K mainGlobals "isinstance" = some none)
    (z_int : PySem.W.nsIn K mainGlobals "int" = some none)
    (z_bool : PySem.W.nsIn K mainGlobals "bool" = some none)
    (z_str : PySem.W.nsIn K mainGlobals "str" = some none)
    (z_tuple : PySem.W.nsIn K mainGlobals "tuple" = some none)
    (z_list : PySem.W.nsIn K mainGlobals "list" = some none)
    (z_len : PySem.W.nsIn K mainGlobals "len" = some none)
    (z_range : PySem.W.nsIn K mainGlobals "range" = some none)
    (z_abs : PySem.W.nsIn K mainGlobals "abs" = some none)
    (z_reversed : PySem.W.nsIn K mainGlobals "reversed" = some none)
    (z_zip : PySem.W.nsIn K mainGlobals "zip" = some none)
    (z_ValueError : PySem.W.nsIn K mainGlobals "ValueError" = some none)
    (aF : PySem.W.nsIn K mainGlobals "FIELDS" = some (some (.ref FA)))
    (aD : PySem.W.nsIn K mainGlobals "PREMISES" = some (some (.ref DA)))
    (lF : K.lookup FA = some { cls := .type "dict", data := .dict #[⟨PyData.keyHash w.params "own", .str "own" tF0, .ref r0_⟩, ⟨PyData.keyHash w.params "take", .str "take" tF1, .ref r1_⟩, ⟨PyData.keyHash w.params "offer", .str "offer" tF2, .ref r2_⟩, ⟨PyData.keyHash w.params "pick", .str "pick" tF3, .ref r3_⟩, ⟨PyData.keyHash w.params "pay", .str "pay" tF4, .ref r4_⟩, ⟨PyData.keyHash w.params "make", .str "make" tF5, .ref r5_⟩, ⟨PyData.keyHash w.params "open", .str "open" tF6, .ref r6_⟩, ⟨PyData.keyHash w.params "cut", .str "cut" tF7, .ref r7_⟩, ⟨PyData.keyHash w.params "cite", .str "cite" tF8, .ref r8_⟩] nF })
    (lD : K.lookup DA = some { cls := .type "dict", data := .dict #[⟨PyData.keyHash w.params "own", .str "own" tD0, .int 0 tP0⟩, ⟨PyData.keyHash w.params "take", .str "take" tD1, .int 1 tP1⟩, ⟨PyData.keyHash w.params "offer", .str "offer" tD2, .int 2 tP2⟩, ⟨PyData.keyHash w.params "pick", .str "pick" tD3, .int 1 tP3⟩, ⟨PyData.keyHash w.params "pay", .str "pay" tD4, .int 2 tP4⟩, ⟨PyData.keyHash w.params "make", .str "make" tD5, .int 1 tP5⟩, ⟨PyData.keyHash w.params "open", .str "open" tD6, .int 1 tP6⟩, ⟨PyData.keyHash w.params "cut", .str "cut" tD7, .int 2 tP7⟩, ⟨PyData.keyHash w.params "cite", .str "cite" tD8, .int 0 tP8⟩] nD })
    (lT0 : K.lookup r0_ = some { cls := .type "tuple", data := .seq #[.str "ref" tT0_0] nT0 })
    (lT1 : K.lookup r1_ = some { cls := .type "tuple", data := .seq #[] nT1 })
    (lT2 : K.lookup r2_ = some { cls := .type "tuple", data := .seq #[] nT2 })
    (lT3 : K.lookup r3_ = some { cls := .type "tuple", data := .seq #[.str "ref" tT3_0, .str "side" tT3_1] nT3 })
    (lT4 : K.lookup r4_ = some { cls := .type "tuple", data := .seq #[.str "ref" tT4_0, .str "kind" tT4_1] nT4 })
    (lT5 : K.lookup r5_ = some { cls := .type "tuple", data := .seq #[.str "name" tT5_0, .str "index" tT5_1] nT5 })
    (lT6 : K.lookup r6_ = some { cls := .type "tuple", data := .seq #[.str "ref" tT6_0, .str "name" tT6_1, .str "index" tT6_2] nT6 })
    (lT7 : K.lookup r7_ = some { cls := .type "tuple", data := .seq #[.str "kind" tT7_0, .str "sentence" tT7_1] nT7 })
    (lT8 : K.lookup r8_ = some { cls := .type "tuple", data := .seq #[.str "name" tT8_0] nT8 })
    (aB : PySem.W.nsIn K mainGlobals "BRINGING" = some (some (.ref BA)))
    (lB : K.lookup BA = some { cls := .type "tuple", data := .seq #[.str "take" tB0, .str "pick" tB1, .str "pay" tB2, .str "open" tB3, .str "cut" tB4] nB })
    (mCP : PySem.W.nsIn K mainGlobals "NoPart" = some (some (.ref CP)))
    (mCH : PySem.W.nsIn K mainGlobals "HeldError" = some (some (.ref CH)))
    (mCN : PySem.W.nsIn K mainGlobals "NotBare" = some (some (.ref CN)))
    (xLCP : K.lookup CP = some (excClassObj nmCP qnCP CP NaCP bsCP [.ref CH, .type "ValueError", .type "Exception", .type "BaseException", .type "object"] true snCP subCP abCP colCP ddCP x0CP x1CP x2CP x3CP x5CP "ValueError.__new__"))
    (a32 : PySem.W.findIn K (.ref CP) "__init__" = some (some (.ref f32)))
    (i32 : PySem.W.isFn K (.ref f32) = true)
    (l32 : K.lookup f32 = some ⟨oc32, od32, .func (PySem.W.fnOf "__init__" "NoPart.__init__" (defArgs s_NoPart___init) (defBody s_NoPart___init) (defScope s_NoPart___init) .none kV32 dc32 pm32 an32 cd32 ct32), sl32⟩)
    (c32 : PySem.W.codeIn K cd32 "NoPart.__init__" = true)
    (k32 : PySem.W.keepIn K (.ref f32) = true)
    (saCP : PySem.W.findIn K (.ref CP) "__setattr__" = some (some (.builtin "object.__setattr__")))
    (gaCP : PySem.W.findIn K (.ref CP) "__getattribute__" = some (some (.builtin "BaseException.__getattribute__")))
    (ggCP : PySem.W.findIn K (.ref CP) "__getattr__" = some none)
    (nkCP : PySem.W.findIn K (.ref CP) "path" = some none)
    (kCCP : PySem.W.keepIn K (.ref CP) = true)
    (eCCP : PySem.W.subIn K (.ref CP) (.type "BaseException") = some true)
    (tCCP : PySem.W.typeIn K (.ref CP) = some (.type "type"))
    (hCCP : PySem.W.hasDictIn K CP = true)
    (haCP : PySem.W.findIn K (.ref CP) "__class__" = some (some (.builtin "object.__class__")))
    (hmCP : PySem.W.mroIn K CP (.type "object") = some true)
    (sVCP : PySem.W.subIn K (.ref CP) (.type "ValueError") = some true)
    (sICP : PySem.W.subIn K (.ref CP) (.ref CP) = some true)
    (sHCP : PySem.W.subIn K (.ref CP) (.ref CH) = some true)
    (sCPCN : PySem.W.subIn K (.ref CP) (.ref CN) = some false)
    (hn : PySem.W.specialIn K (.builtin "object.__class__") "__get__" = some (some (.builtin "getset_descriptor.__get__")))
    (ht : PySem.W.takesIn K (.builtin "object.__class__") = some true)
    (tCCH : PySem.W.typeIn K (.ref CH) = some (.type "type"))
    (dCCH : PySem.W.hasDictIn K CH = true)
    (tCCN : PySem.W.typeIn K (.ref CN) = some (.type "type"))
    (dCCN : PySem.W.hasDictIn K CN = true) :
    ∃ fd : FuncData, (∀ (s : Shared) (v : Value), BindsTo s fd ⟨[v], []⟩ [("_law_script", v)]) ∧ ∀ base : Heap, K.In base → base.Ns mainGlobals mg → FnOk l.prog w K mg base CX0 200 fa fd ["_law_script"] (spLaw K) := by
  have e := hfa.symm.trans (PySem.W.mg_of X G a31)
  cases e
  have TB : Tabs w K mg := by
    refine ⟨FA, DA, fun | .own => r0_ | .take => r1_ | .offer => r2_ | .pick => r3_ | .pay => r4_ | .make => r5_ | .open_ => r6_ | .cut => r7_ | .cite => r8_, PySem.W.mg_of X G aF, PySem.W.mg_of X G aD, ?_, ?_, ?_⟩
    · exact kdict_mk [("own", tF0, .ref r0_), ("take", tF1, .ref r1_), ("offer", tF2, .ref r2_), ("pick", tF3, .ref r3_), ("pay", tF4, .ref r4_), ("make", tF5, .ref r5_), ("open", tF6, .ref r6_), ("cut", tF7, .ref r7_), ("cite", tF8, .ref r8_)] lF ⟨rfl, rfl, rfl⟩ rfl ((.cons ⟨rfl, rfl⟩ (.cons ⟨rfl, rfl⟩ (.cons ⟨rfl, rfl⟩ (.cons ⟨rfl, rfl⟩ (.cons ⟨rfl, rfl⟩ (.cons ⟨rfl, rfl⟩ (.cons ⟨rfl, rfl⟩ (.cons ⟨rfl, rfl⟩ (.cons ⟨rfl, rfl⟩ .nil)))))))))) (by show (allKd.map Kd.nm).Nodup; decide +kernel)
    · exact kdict_mk [("own", tD0, .int 0 tP0), ("take", tD1, .int 1 tP1), ("offer", tD2, .int 2 tP2), ("pick", tD3, .int 1 tP3), ("pay", tD4, .int 2 tP4), ("make", tD5, .int 1 tP5), ("open", tD6, .int 1 tP6), ("cut", tD7, .int 2 tP7), ("cite", tD8, .int 0 tP8)] lD ⟨rfl, rfl, rfl⟩ rfl ((.cons ⟨rfl, ⟨_, rfl⟩⟩ (.cons ⟨rfl, ⟨_, rfl⟩⟩ (.cons ⟨rfl, ⟨_, rfl⟩⟩ (.cons ⟨rfl, ⟨_, rfl⟩⟩ (.cons ⟨rfl, ⟨_, rfl⟩⟩ (.cons ⟨rfl, ⟨_, rfl⟩⟩ (.cons ⟨rfl, ⟨_, rfl⟩⟩ (.cons ⟨rfl, ⟨_, rfl⟩⟩ (.cons ⟨rfl, ⟨_, rfl⟩⟩ .nil)))))))))) (by show (allKd.map Kd.nm).Nodup; decide +kernel)
    · intro H k
      cases k with
      | own => exact .inr ⟨_, _, _, lT0, rfl, rfl, by show 1 ≤ 2 ^ 24; decide, ((.cons ⟨_, rfl⟩ .nil))⟩
      | take => exact .inr ⟨_, _, _, lT1, rfl, rfl, by show 0 ≤ 2 ^ 24; decide, .nil⟩
      | offer => exact .inr ⟨_, _, _, lT2, rfl, rfl, by show 0 ≤ 2 ^ 24; decide, .nil⟩
      | pick => exact .inr ⟨_, _, _, lT3, rfl, rfl, by show 2 ≤ 2 ^ 24; decide, ((.cons ⟨_, rfl⟩ (.cons ⟨_, rfl⟩ .nil)))⟩
      | pay => exact .inr ⟨_, _, _, lT4, rfl, rfl, by show 2 ≤ 2 ^ 24; decide, ((.cons ⟨_, rfl⟩ (.cons ⟨_, rfl⟩ .nil)))⟩
      | make => exact .inr ⟨_, _, _, lT5, rfl, rfl, by show 2 ≤ 2 ^ 24; decide, ((.cons ⟨_, rfl⟩ (.cons ⟨_, rfl⟩ .nil)))⟩
      | open_ => exact .inr ⟨_, _, _, lT6, rfl, rfl, by show 3 ≤ 2 ^ 24; decide, ((.cons ⟨_, rfl⟩ (.cons ⟨_, rfl⟩ (.cons ⟨_, rfl⟩ .nil))))⟩
      | cut => exact .inr ⟨_, _, _, lT7, rfl, rfl, by show 2 ≤ 2 ^ 24; decide, ((.cons ⟨_, rfl⟩ (.cons ⟨_, rfl⟩ .nil)))⟩
      | cite => exact .inr ⟨_, _, _, lT8, rfl, rfl, by show 1 ≤ 2 ^ 24; decide, ((.cons ⟨_, rfl⟩ .nil))⟩
  have BG : Brg K mg := ⟨BA, PySem.W.mg_of X G aB, fun H => .inr ⟨_, _, _, lB, rfl, rfl, by show 5 ≤ 2 ^ 24; decide, (.cons ⟨_, rfl⟩ (.cons ⟨_, rfl⟩ (.cons ⟨_, rfl⟩ (.cons ⟨_, rfl⟩ (.cons ⟨_, rfl⟩ .nil)))))⟩⟩
  have mIs := (PySem.W.mg_none_of X G z_isinstance)
  have mInt := (PySem.W.mg_none_of X G z_int)
  have mBool := (PySem.W.mg_none_of X G z_bool)
  have mStr := (PySem.W.mg_none_of X G z_str)
  have mTup := (PySem.W.mg_none_of X G z_tuple)
  have mList := (PySem.W.mg_none_of X G z_list)
  have mLen := (PySem.W.mg_none_of X G z_len)
  have mR := (PySem.W.mg_none_of X G z_range)
  have mAbs := (PySem.W.mg_none_of X G z_abs)
  have mRev := (PySem.W.mg_none_of X G z_reversed)
  have mZip := (PySem.W.mg_none_of X G z_zip)
  have mVE := (PySem.W.mg_none_of X G z_ValueError)
  have FL := fun_mk (st := s_law) l31 c31 k31
  have cX : (PySem.W.clsIn K CP).isSome = true := by
    obtain ⟨cd, hc, _⟩ := PySem.W.any_some hCCP
    rw [hc]
    rfl
  have OB : OexC K CP := ⟨⟨_, _, _, _, _, _, _, _, _, _, _, _, _, _, _, xLCP, by first | rfl | simp [PySem.HandSPX.refsVE]⟩, saCP, eCCP, tCCP, kCCP⟩
  have R : Errs K mg CP CH CN := ⟨PySem.W.mg_of X G mCP, PySem.W.mg_of X G mCH, PySem.W.mg_of X G mCN, mVE, ⟨cX, gaCP, ggCP, eCCP, haCP, hn, ht, hmCP⟩, ⟨gaCP, ggCP, eCCP, hCCP⟩, nkCP, PySem.W.exm_ref eCCP hCCP tCCP sICP, kit_sub dCCH tCCH sHCP, kit_typ sVCP, kit_not dCCN tCCN sCPCN sICP⟩
  refine ⟨PySem.W.fnOf "law" "law" (defArgs s_law) (defBody s_law) (defScope s_law) .none kV31 dc31 pm31 an31 cd31 ct31, fun s v => .of_eq rfl, fun base _ _ => ?_⟩
  have Fcell : Fn l.prog w K mg base 1 "_law_cell" (spCell K) := ok_cell (top_mk X G a12 l12 c12 k12) mLen mAbs
  have Fpool := ok_pool (top_mk X G a13 l13 c13 k13) Fcell mInt
  have Fnext : Fn l.prog w K mg base 1 "_law_next" spNext := ok_next (top_mk X G a14 l14 c14 k14) mInt
  have Fprem : Fn l.prog w K mg base 1 "premises" spPrem := ok_premises (top_mk X G a0 l0 c0 k0) TB mList mLen
  have Fhead : Fn l.prog w K mg base 1 "head_of" spHead := ok_head_of (top_mk X G a2 l2 c2 k2) TB mLen
  have Fheads := ok_heads (top_mk X G a3 l3 c3 k3) Fhead Fprem
  have ER : Er l.prog w K mg base "NoPart" CP "path" := ok_no (topM_mk a32 i32 l32 c32 k32) OB nkCP R.mP
  have Falong := ok_rows_along (top_mk X G a4 l4 c4 k4) mLen ER Fprem
  have Fpart := ok_part (top_mk X G a5 l5 c5 k5) Falong
  have Fwith := ok_with_part (top_mk X G a6 l6 c6 k6) TB mLen mRev mList mZip Falong
  have Fpl : Fn l.prog w K mg base 1 "premise_levels" spPL := ok_premise_levels (top_mk X G a1 l1 c1 k1) TB BG
  have Flev := ok_level_at (top_mk X G a7 l7 c7 k7) mZip Falong Fpl
  have Frc := ok_row_count (top_mk X G a8 l8 c8 k8) mLen Fheads
  have Fbare := ok_is_bare (top_mk X G a11 l11 c11 k11) Fheads
  have Gwalk := ok_walk (top_mk X G a9 l9 c9 k9) mLen mR mRev Fprem
  have Gwalk2 := ok_walk2 (top_mk X G a9 l9 c9 k9) mLen mR mRev Fprem
  have Fcuts := ok_cut_paths (top_mk X G a10 l10 c10 k10) Gwalk2
  have Fnum : Fn l.prog w K mg base 1 "_law_is_number" spNum := ok_num (top_mk X G a15 l15 c15 k15) mIs mInt mBool
  have FnumH : FnHt l.prog w K mg base 1 "_law_is_number" spNum := ok_numH (top_mk X G a15 l15 c15 k15) mIs mInt mBool
  have Frow : Fn l.prog w K mg base 1 "_law_row" spRow := ok_row (top_mk X G a16 l16 c16 k16) mIs mTup mLen
  have Fparts := ok_parts (top_mk X G a17 l17 c17 k17) Frow
  have Fpaths := ok_paths (top_mk X G a18 l18 c18 k18) mLen mR Fparts
  have Fat := ok_at (top_mk X G a19 l19 c19 k19) Fparts
  have Flevel := ok_level (top_mk X G a20 l20 c20 k20) Fparts
  have Fsame := ok_same (top_mk X G a21 l21 c21 k21) mIs mStr mTup mList mLen mR Fnum
  have FsameH := ok_sameH (top_mk X G a21 l21 c21 k21) mIs mStr mTup mList mLen mR FnumH
  have Fmode := ok_mode (top_mk X G a22 l22 c22 k22) Fnext
  have Fdraw := ok_free (top_mk X G a25 l25 c25 k25) (top_mk X G a23 l23 c23 k23) (top_mk X G a24 l24 c24 k24) mInt Fnext Fmode
  have Fdrawn := ok_drawn (top_mk X G a26 l26 c26 k26) Fpool Fnext (Fdraw 60)
  have Fput := ok_put (top_mk X G a28 l28 c28 k28) mLen mR Frow
  have Fwrong := ok_wrong (top_mk X G a29 l29 c29 k29) mLen mR mTup Fparts Fat Fnext
  have Fref := ok_refused (top_mk X G a30 l30 c30 k30) mIs R Fpart Fwith Flev (FsameH 1)
  have Fwalked := ok_walked (top_mk X G a27 l27 c27 k27) mLen mList mIs mBool Fat Fsame Gwalk Frc Fcuts Fprem Fparts Fbare
  exact ok_law FL mLen mR Fdrawn Fpaths Fwalked Fat Fsame Fpart Fwith Flev Fprem Fparts Flevel Fpool Fnext Fput Fwrong Fref
theorem walk {l : PySem.W.OpenLaw} {q : Program} {loose : List Str} {XP : (Str → Option Value) → Heap → Prop} {YP : World → Heap → Prop} {d : DefRec} {K : Params → PySem.W.Frag} (hn : l.most = some 63) (hdf : d.params.defaults = [])
    (hY : ∀ (w : World) (h : Heap), YP w h → (K w.params).In h)
    (F : ∀ (w : World) (mg : Str → Option Value) (fa : Addr) (h : Heap), (K w.params).In h → h.Ns mainGlobals mg → mg d.name = some (.ref fa) →
      ∃ fd : FuncData, (∀ (s : Shared) (u : Value), BindsTo s fd ⟨[u], []⟩ [("_law_script", u)]) ∧ ∀ base : Heap, (K w.params).In base → base.Ns mainGlobals mg → FnOk l.prog w (K w.params) mg base CX0 200 fa fd ["_law_script"] (spLaw (K w.params))) :
    PySem.W.WalkO q loose XP YP l.row.toRowW d [] (fun f vs => PySem.call f vs) :=
  L2.walk_of (n := 63) (k := 200) (x := "_law_script") (CX := fun _ => CX0) (sp := fun w => spLaw (K w.params)) hn (by decide) hdf ⟨rfl, by decide, by decide⟩ hY F (fun _ _ a ns hl _ hS => ⟨a, ns, rfl, hS, hl, fun _ => rfl⟩) fun _ _ _ _ _ z => z
end
end K04
open PySem PySem.W PyProof.Rows
set_option maxRecDepth 100000 in
set_option maxHeartbeats 0 in
theorem PySem.Challenge.cw_heldproofs_k04_parts_and_paths_holds : PySem.Challenge.rw_heldproofs_k04_parts_and_paths.Holds := by
  w_on; o_law; k_head; (case hw => w_witness2)
  k_fill
  refine K04.walk (l := PySem.Challenge.rw_heldproofs_k04_parts_and_paths) rfl rfl (fun w h Y => PySem.W.kIn_of Y) ?F
  case F =>
    intro w mg fa h KX G hmg
    refine' K04.all_mk KX G hmg ?a0 ?l0 ?c0 ?k0 ?a1 ?l1 ?c1 ?k1 ?a2 ?l2 ?c2 ?k2 ?a3 ?l3 ?c3 ?k3 ?a4 ?l4 ?c4 ?k4 ?a5 ?l5 ?c5 ?k5 ?a6 ?l6 ?c6 ?k6 ?a7 ?l7 ?c7 ?k7 ?a8 ?l8 ?c8 ?k8 ?a9 ?l9 ?c9 ?k9 ?a10 ?l10 ?c10 ?k10 ?a11 ?l11 ?c11 ?k11 ?a12 ?l12 ?c12 ?k12 ?a13 ?l13 ?c13 ?k13 ?a14 ?l14 ?c14 ?k14 ?a15 ?l15 ?c15 ?k15 ?a16 ?l16 ?c16 ?k16 ?a17 ?l17 ?c17 ?k17 ?a18 ?l18 ?c18 ?k18 ?a19 ?l19 ?c19 ?k19 ?a20 ?l20 ?c20 ?k20 ?a21 ?l21 ?c21 ?k21 ?a22 ?l22 ?c22 ?k22 ?a23 ?l23 ?c23 ?k23 ?a24 ?l24 ?c24 ?k24 ?a25 ?l25 ?c25 ?k25 ?a26 ?l26 ?c26 ?k26 ?a27 ?l27 ?c27 ?k27 ?a28 ?l28 ?c28 ?k28 ?a29 ?l29 ?c29 ?k29 ?a30 ?l30 ?c30 ?k30 ?a31 ?l31 ?c31 ?k31 ?z_isinstance ?z_int ?z_bool ?z_str ?z_tuple ?z_list ?z_len ?z_range ?z_abs ?z_reversed ?z_zip ?z_ValueError ?aF ?aD ?lF ?lD ?lT0 ?lT1 ?lT2 ?lT3 ?lT4 ?lT5 ?lT6 ?lT7 ?lT8 ?aB ?lB ?mCP ?mCH ?mCN ?xLCP ?a32 ?i32 ?l32 ?c32 ?k32 ?saCP ?gaCP ?ggCP ?nkCP ?kCCP ?eCCP ?tCCP ?hCCP ?haCP ?hmCP ?sVCP ?sICP ?sHCP ?sCPCN ?hn ?ht ?tCCH ?dCCH ?tCCN ?dCCN
    (case a0 => k_is)
    (case l0 => k_is)
    (case c0 => k_is)
    (case k0 => k_is)
    (case a1 => k_is)
    (case l1 => k_is)
    (case c1 => k_is)
    (case k1 => k_is)
    (case a2 => k_is)
    (case l2 => k_is)
    (case c2 => k_is)
    (case k2 => k_is)
    (case a3 => k_is)
    (case l3 => k_is)
    (case c3 => k_is)
    (case k3 => k_is)
    (case a4 => k_is)
    (case l4 => k_is)
    (case c4 => k_is)
    (case k4 => k_is)
    (case a5 => k_is)
    (case l5 => k_is)
    (case c5 => k_is)
    (case k5 => k_is)
    (case a6 => k_is)
    (case l6 => k_is)
    (case c6 => k_is)
    (case k6 => k_is)
    (case a7 => k_is)
    (case l7 => k_is)
    (case c7 => k_is)
    (case k7 => k_is)
    (case a8 => k_is)
    (case l8 => k_is)
    (case c8 => k_is)
    (case k8 => k_is)
    (case a9 => k_is)
    (case l9 => k_is)
    (case c9 => k_is)
    (case k9 => k_is)
    (case a10 => k_is)
    (case l10 => k_is)
    (case c10 => k_is)
    (case k10 => k_is)
    (case a11 => k_is)
    (case l11 => k_is)
    (case c11 => k_is)
    (case k11 => k_is)
    (case a12 => k_is)
    (case l12 => k_is)
    (case c12 => k_is)
    (case k12 => k_is)
    (case a13 => k_is)
    (case l13 => k_is)
    (case c13 => k_is)
    (case k13 => k_is)
    (case a14 => k_is)
    (case l14 => k_is)
    (case c14 => k_is)
    (case k14 => k_is)
    (case a15 => k_is)
    (case l15 => k_is)
    (case c15 => k_is)
    (case k15 => k_is)
    (case a16 => k_is)
    (case l16 => k_is)
    (case c16 => k_is)
    (case k16 => k_is)
    (case a17 => k_is)
    (case l17 => k_is)
    (case c17 => k_is)
    (case k17 => k_is)
    (case a18 => k_is)
    (case l18 => k_is)
    (case c18 => k_is)
    (case k18 => k_is)
    (case a19 => k_is)
    (case l19 => k_is)
    (case c19 => k_is)
    (case k19 => k_is)
    (case a20 => k_is)
    (case l20 => k_is)
    (case c20 => k_is)
    (case k20 => k_is)
    (case a21 => k_is)
    (case l21 => k_is)
    (case c21 => k_is)
    (case k21 => k_is)
    (case a22 => k_is)
    (case l22 => k_is)
    (case c22 => k_is)
    (case k22 => k_is)
    (case a23 => k_is)
    (case l23 => k_is)
    (case c23 => k_is)
    (case k23 => k_is)
    (case a24 => k_is)
    (case l24 => k_is)
    (case c24 => k_is)
    (case k24 => k_is)
    (case a25 => k_is)
    (case l25 => k_is)
    (case c25 => k_is)
    (case k25 => k_is)
    (case a26 => k_is)
    (case l26 => k_is)
    (case c26 => k_is)
    (case k26 => k_is)
    (case a27 => k_is)
    (case l27 => k_is)
    (case c27 => k_is)
    (case k27 => k_is)
    (case a28 => k_is)
    (case l28 => k_is)
    (case c28 => k_is)
    (case k28 => k_is)
    (case a29 => k_is)
    (case l29 => k_is)
    (case c29 => k_is)
    (case k29 => k_is)
    (case a30 => k_is)
    (case l30 => k_is)
    (case c30 => k_is)
    (case k30 => k_is)
    (case a31 => k_is)
    (case l31 => k_is)
    (case c31 => k_is)
    (case k31 => k_is)
    (case z_isinstance => k_is)
    (case z_int => k_is)
    (case z_bool => k_is)
    (case z_str => k_is)
    (case z_tuple => k_is)
    (case z_list => k_is)
    (case z_len => k_is)
    (case z_range => k_is)
    (case z_abs => k_is)
    (case z_reversed => k_is)
    (case z_zip => k_is)
    (case z_ValueError => k_is)
    (case aF => k_is)
    (case aD => k_is)
    (case lF => k_is)
    (case lD => k_is)
    (case lT0 => k_is)
    (case lT1 => k_is)
    (case lT2 => k_is)
    (case lT3 => k_is)
    (case lT4 => k_is)
    (case lT5 => k_is)
    (case lT6 => k_is)
    (case lT7 => k_is)
    (case lT8 => k_is)
    (case aB => k_is)
    (case lB => k_is)
    (case mCP => k_is)
    (case mCH => k_is)
    (case mCN => k_is)
    (case xLCP => k_is)
    (case a32 => k_is)
    (case i32 => k_is)
    (case l32 => k_is)
    (case c32 => k_is)
    (case k32 => k_is)
    (case saCP => k_is)
    (case gaCP => k_is)
    (case ggCP => k_is)
    (case nkCP => k_is)
    (case kCCP => k_is)
    (case eCCP => k_is)
    (case tCCP => k_is)
    (case hCCP => k_is)
    (case haCP => k_is)
    (case hmCP => k_is)
    (case sVCP => k_is)
    (case sICP => k_is)
    (case sHCP => k_is)
    (case sCPCN => k_is)
    (case hn => k_is)
    (case ht => k_is)
    (case tCCH => k_is)
    (case dCCH => k_is)
    (case tCCN => k_is)
    (case dCCN => k_is)
