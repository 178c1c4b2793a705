import PyProof.Rows.All
import Wide.All
import OpenK.AllK
import Wide.FinOn
import HandS.ForMost
import HandS.IsInst
import HandS.Codes
import HandS.ForExc
import HandS.ExcInit
import HandS.ExcField
import HandS.CallSlots
import HandS.TupLe
import KE.KExcIs
import HandS.Flt
import HandS.ExcCtx
import HandS.HotCalls
import HandS.ExcInitHot
import HandS.Text
import HandS.Iter
import HandS.Wide
import HandS.Defaults
import HandS.More
import HandS.Conv
import HandS.Deep
import HandS.Set
import HandS.SetFor
import HandS.Strs
import HandS.Rev
import HandS.TupSets
import HandS.DictComp
import HandS.Dict
import HandS.Finally
import HandS.Flow
import HandS.Style
import HandS.TupAny
import KE.GoesMore
import KE.GoesEnum
import HandS.Zip
import HandS.RevRange
import HandS.GenBody
import HandS.GenYield
import HandS.GenCall
import HandS.GenList
import KE.KDictZip
import HandS.WordsDict
import HandS.Sort
import KE.DataEq
import HandS.Ends
import PyProof.ReprRoads
import HandS.Small
import HandS.ExcValue
import HandS.FStr
import HandS.ExcIs
import PySem.Challenge.RW_heldproofs_k26_whole_sentence_errors
set_option Elab.async false
set_option linter.all false
set_option maxRecDepth 100000
/-! My own layer over the hand layer: the weakest reading of a piece of syntax, and a rule a construct, chosen where the values are known. -/
namespace Wk
open PySem PySem.Spec PyProof.Rows L2
section
variable (X : Cx)
@[irreducible] def wE (e : Expr) : TE := fun σ H Q => ∀ (pins : List (Addr × Obj)) (s : Shared), Inv X pins σ H s → wpAny (model X.prog X.w) X.A (eval e X.env) (EP X pins σ Q) X.xe s
@[irreducible] def wT (e : Expr) : TT := fun σ H Q => ∀ (pins : List (Addr × Obj)) (s : Shared), Inv X pins σ H s → wpAny (model X.prog X.w) X.A (isTrue e X.env (eval e X.env)) (TP X pins σ Q) X.xe s
@[irreducible] def wW (e : Expr) : TT := fun σ H Q => ∀ (whole : Sem Value) (pins : List (Addr × Obj)) (s : Shared), Inv X pins σ H s → wpAny (model X.prog X.w) X.A (isTrue e X.env whole) (TP X pins σ Q) X.xe s
@[irreducible] def wA (es : List Expr) : TA := fun σ H Q => ∀ (pos : Pos) (pins : List (Addr × Obj)) (s : Shared), Inv X pins σ H s → wpAny (model X.prog X.w) X.A (spliced (backTo pos (starEach es X.env))) (AP X pins σ Q) X.xe s
@[irreducible] def wS (st : Stmt) : TS := fun D σ H => ∀ (pins : List (Addr × Obj)) (s : Shared), Inv X pins σ H s → wpAny (model X.prog X.w) X.A (exec st X.env) (SP X pins D) X.xe s
@[irreducible] def wL (st : List Stmt) : TS := fun D σ H => ∀ (pins : List (Addr × Obj)) (s : Shared), Inv X pins σ H s → wpAny (model X.prog X.w) X.A (execs st X.env) (SP X pins D) X.xe s
@[irreducible] def wO (f : Value → Value → Sem Value) : R2 := fun x y H Q => ∀ (pins : List (Addr × Obj)) (s : Shared) (σ : L2.St) (v u : Value), Inv X pins σ H s → RelV x v → RelV y u → wpAny (model X.prog X.w) X.A (f v u) (EP X pins σ Q) X.xe s
@[irreducible] def wB (op : Operator) : R2 := fun x y H Q => wO X (binaryOp op) x y H Q
@[irreducible] def wK (op : CmpOp) : R2 := fun x y H Q => wO X (compareOp op) x y H Q
@[irreducible] def wIx : R2 := fun x y H Q => ∀ (value slice : Expr) (pins : List (Addr × Obj)) (s : Shared) (σ : L2.St) (v u : Value), Inv X pins σ H s → RelV x v → RelV y u → subscripted slice false v u = operate [v, u] (getItem v u) → wpAny (model X.prog X.w) X.A (subscriptTail value slice v u) (EP X pins σ Q) X.xe s
@[irreducible] def wC (f : Value) : List V → Hp → VK → Prop := fun xs H Q => ∀ (pins : List (Addr × Obj)) (s : Shared) (σ : L2.St) (us : List Value), Inv X pins σ H s → Vals xs us → wpAny (model X.prog X.w) X.A (call f us) (EP X pins σ Q) X.xe s
@[irreducible] def wSet : V → V → V → Hp → (Hp → Prop) → Prop := fun o i v H Q => ∀ (pins : List (Addr × Obj)) (s : Shared) (σ : L2.St) (ov iv u : Value), Inv X pins σ H s → RelV o ov → RelV i iv → RelV v u → wpAny (model X.prog X.w) X.A (setItem ov iv u) (fun _ s' => ∃ H', Inv X pins σ H' s' ∧ Q H') X.xe s
end
section
variable {X : Cx} {e a b c : Expr} {es rest : List Expr} {st : Stmt} {sts : List Stmt} {σ : L2.St} {H : Hp} {Q : VK} {D : Ends} {pos p0 : Pos} {QT : Bool → Hp → Prop}
theorem pe : PE X e (wE X e) := ⟨fun pins s _ _ _ I h => by unfold wE at h; exact h pins s I⟩
theorem pt : PT X e (wT X e) := ⟨fun pins s _ _ _ I h => by unfold wT at h; exact h pins s I⟩
theorem pw : PW X e (wW X e) := ⟨fun wh pins s _ _ _ I h => by unfold wW at h; exact h wh pins s I⟩
theorem pa : PA X es (wA X es) := ⟨fun p pins s _ _ _ I h => by unfold wA at h; exact h p pins s I⟩
theorem ps : PS X st (wS X st) := ⟨fun pins s _ _ _ I h => by unfold wS at h; exact h pins s I⟩
theorem pl : PSs X sts (wL X sts) := ⟨fun pins s _ _ _ I h => by unfold wL at h; exact h pins s I⟩
theorem opr {f : Value → Value → Sem Value} : OpR X f (wO X f) := fun pins s σ _ _ _ v u _ I rx ry h => by unfold wO at h; exact h pins s σ v u I rx ry
theorem opb {op : Operator} : OpR X (binaryOp op) (wB X op) := fun pins s σ _ _ _ v u _ I rx ry h => by unfold wB at h; exact opr pins s σ _ _ _ v u _ I rx ry h
theorem opk {op : CmpOp} : OpR X (compareOp op) (wK X op) := fun pins s σ _ _ _ v u _ I rx ry h => by unfold wK at h; exact opr pins s σ _ _ _ v u _ I rx ry h
theorem ixr : IxR X (wIx X) := fun va sl pins s σ _ _ _ v u _ I rx ry h hs => by unfold wIx at h; exact h va sl pins s σ v u I rx ry hs
theorem cr {f : Value} : CallR X f (wC X f) := fun pins s σ _ _ us _ I r h => by unfold wC at h; exact h pins s σ us I r
theorem pset : PSet X (wSet X) := fun pins s σ _ _ _ _ ov iv u _ I ro ri rv h => by unfold wSet at h; exact h pins s σ ov iv u I ro ri rv
theorem e_of {t : TE} (h : PE X e t) (q : t σ H Q) : wE X e σ H Q := by unfold wE; exact fun pins s I => h.run pins s σ H Q I q
theorem t_of {t : TT} (h : PT X e t) (q : t σ H QT) : wT X e σ H QT := by unfold wT; exact fun pins s I => h.run pins s σ H QT I q
theorem w_of {t : TT} (h : PW X e t) (q : t σ H QT) : wW X e σ H QT := by unfold wW; exact fun wh pins s I => h.run wh pins s σ H QT I q
theorem a_of {t : TA} {QA : List V → Hp → Prop} (h : PA X es t) (q : t σ H QA) : wA X es σ H QA := by unfold wA; exact fun p pins s I => h.run p pins s σ H QA I q
theorem s_of {t : TS} (h : PS X st t) (q : t D σ H) : wS X st D σ H := by unfold wS; exact fun pins s I => h.run pins s σ H D I q
theorem l_of {t : TS} (h : PSs X sts t) (q : t D σ H) : wL X sts D σ H := by unfold wL; exact fun pins s I => h.run pins s σ H D I q
theorem o_of {f : Value → Value → Sem Value} {r : R2} {x y : V} (h : OpR X f r) (q : r x y H Q) : wO X f x y H Q := by unfold wO; exact fun pins s σ v u I rx ry => h pins s σ H x y v u Q I rx ry q
theorem b_of {op : Operator} {r : R2} {x y : V} (h : OpR X (binaryOp op) r) (q : r x y H Q) : wB X op x y H Q := by unfold wB; exact o_of h q
theorem k_of {op : CmpOp} {r : R2} {x y : V} (h : OpR X (compareOp op) r) (q : r x y H Q) : wK X op x y H Q := by unfold wK; exact o_of h q
theorem ix_of {r : R2} {x y : V} (h : IxR X r) (q : r x y H Q) : wIx X x y H Q := by unfold wIx; exact fun va sl pins s σ v u I rx ry hs => h va sl pins s σ H x y v u Q I rx ry q hs
theorem c_of {f : Value} {r : List V → Hp → VK → Prop} {xs : List V} (h : CallR X f r) (q : r xs H Q) : wC X f xs H Q := by unfold wC; exact fun pins s σ us I r => h pins s σ H xs us Q I r q
theorem set_of {t : V → V → V → Hp → (Hp → Prop) → Prop} {o i v : V} {QH : Hp → Prop} (h : PSet X t) (q : t o i v H QH) : wSet X o i v H QH := by unfold wSet; exact fun pins s σ ov iv u I ro ri rv => h pins s σ H o i v ov iv u QH I ro ri rv q

theorem e_mono {Q' : VK} (q : wE X e σ H Q) (h : ∀ v H1, Q v H1 → Q' v H1) : wE X e σ H Q' := by
  unfold wE at q ⊢
  exact fun pins s I => wpAny_mono (q pins s I) (fun _ _ ⟨v, H1, I1, r, z⟩ => ⟨v, H1, I1, r, h v H1 z⟩) fun _ _ z => z
theorem a_mono {QA QA' : List V → Hp → Prop} (q : wA X es σ H QA) (h : ∀ v H1, QA v H1 → QA' v H1) : wA X es σ H QA' := by
  unfold wA at q ⊢
  exact fun pp pins s I => wpAny_mono (q pp pins s I) (fun _ _ ⟨v, H1, I1, r, z⟩ => ⟨v, H1, I1, r, h v H1 z⟩) fun _ _ z => z

end
/-- where a name stands in a list; found by its spelling -/
inductive At {α : Type} : List α → Nat → α → Prop where
  | z {x : α} {l : List α} : At (x :: l) 0 x
  | s {x y : α} {l : List α} {i : Nat} (h : At l i x) : At (y :: l) (i + 1) x
theorem At.get {α : Type} {l : List α} {i : Nat} {x : α} (h : At l i x) : l[i]? = some x := by
  induction h with
  | z => rfl
  | s _ ih => simpa using ih
theorem At.mem {α : Type} {l : List α} {i : Nat} {x : α} (h : At l i x) : x ∈ l := List.mem_of_getElem? h.get
instance locDec {sc : Scope} {x : Str} : Decidable (Loc sc x) := inferInstanceAs (Decidable (_ ∨ _))
/-- a def's names: its own, in their slots, and the global ones -/
structure ScOk (N G : List Str) (sc : Scope) : Prop where
  nd : N.Nodup
  lo : ∀ x ∈ N, Loc sc x ∧ (x == ("__debug__" : Str)) = false ∧ (x == ("__classdict__" : Str)) = false
  gl : ∀ x ∈ G, sc.names.lookup x = some .globalImplicit ∧ (x == ("__debug__" : Str)) = false ∧ x ≠ "__name__"
/-- the body that the proof stands in -/
structure In (X : Cx) (N G : List Str) (sc : Scope) : Prop where
  ok : ScOk N G sc
  n : ∃ C, X.N = N ++ C
  nd : X.N.Nodup
  sc : X.env.scope = sc
  fn : X.fn = fun _ => true
  nev : PassesOwn (model X.prog X.w) X.A X.env X.xe
section
variable {X : Cx} {e a b c : Expr} {es rest : List Expr} {st : Stmt} {sts : List Stmt} {σ : L2.St} {H : Hp} {Q : VK} {D : Ends} {pos p0 : Pos} {QT : Bool → Hp → Prop} {N G : List Str} {sc : Scope}
theorem In.loc (I : In X N G sc) {i : Nat} {x : Str} (h : At N i x) : Loc X.env.scope x := by rw [I.sc]; exact (I.ok.lo x h.mem).1
theorem In.vis (I : In X N G sc) {i : Nat} {x : Str} (h : At N i x) : Vis X.env.scope x := by
  rcases I.loc h with z | z
  · exact .inl z
  · exact .inr (.inl z)
theorem In.hi (I : In X N G sc) {i : Nat} {x : Str} (h : At N i x) : X.N[i]? = some x := by
  obtain ⟨C, e⟩ := I.n
  have hl : i < N.length := by
    have := h.get
    exact (List.getElem?_eq_some_iff.mp this).1
  rw [e, List.getElem?_append_left hl]
  exact h.get
theorem In.f (I : In X N G sc) {x : Str} : X.fn x = true ∨ X.env.scope.names.lookup x = some .local := .inl (by rw [I.fn])
theorem In.g (I : In X N G sc) {i : Nat} {x : Str} (h : At G i x) : Gl X x := by
  show X.env.scope.names.lookup x = _
  rw [I.sc]
  exact (I.ok.gl x h.mem).1
theorem In.gd (I : In X N G sc) {i : Nat} {x : Str} (h : At G i x) : (x == ("__debug__" : Str)) = false := (I.ok.gl x h.mem).2.1
theorem In.gn (I : In X N G sc) {i : Nat} {x : Str} (h : At G i x) : x ≠ "__name__" := (I.ok.gl x h.mem).2.2
theorem In.never (I : In X N G sc) : PassesOwn (model X.prog X.w) X.A X.env X.xe := I.nev

/-! ### statements -/
theorem l_nil {nx : L2.St → Hp → Prop} {rt : VK} {bk ct : L2.St → Hp → Prop} (q : nx σ H) : wL X [] ⟨nx, rt, bk, ct⟩ σ H := l_of pss_nil q
theorem l_cons {nx : L2.St → Hp → Prop} {rt : VK} {bk ct : L2.St → Hp → Prop} (q : wS X st ⟨fun σ' H' => wL X sts ⟨nx, rt, bk, ct⟩ σ' H', rt, bk, ct⟩ σ H) : wL X (st :: sts) ⟨nx, rt, bk, ct⟩ σ H := l_of (pss_cons ps pl) q
theorem s_set {nx : L2.St → Hp → Prop} {rt : VK} {bk ct : L2.St → Hp → Prop} {i : Nat} {x : Str} {pos' : Pos} (q : wE X e σ H fun v H' => nx (σ.set i (some v)) H') (I : In X N G sc := by assumption) (hA : At N i x := by repeat (first | with_reducible apply At.z | with_reducible apply At.s)) (hs : swapsWith e (some (.Name x pos')) pos.line X.env = pure false := by rfl) :
    wS X (.Assign [.Name x pos'] e pos) ⟨nx, rt, bk, ct⟩ σ H := s_of (ps_set I.nd (I.hi hA) (I.loc hA) pe hs I.f) q
theorem s_ret {nx : L2.St → Hp → Prop} {rt : VK} {bk ct : L2.St → Hp → Prop} (q : wE X e σ H rt) : wS X (.Return (some e) pos) ⟨nx, rt, bk, ct⟩ σ H := s_of (ps_ret pe) q
theorem s_retN {nx : L2.St → Hp → Prop} {rt : VK} {bk ct : L2.St → Hp → Prop} (q : rt .non H) : wS X (.Return none pos) ⟨nx, rt, bk, ct⟩ σ H := s_of ps_retN q
theorem s_pass {nx : L2.St → Hp → Prop} {rt : VK} {bk ct : L2.St → Hp → Prop} (q : nx σ H) : wS X (.Pass pos) ⟨nx, rt, bk, ct⟩ σ H := s_of ps_pass q
theorem s_brk {nx : L2.St → Hp → Prop} {rt : VK} {bk ct : L2.St → Hp → Prop} (q : bk σ H) : wS X (.Break pos) ⟨nx, rt, bk, ct⟩ σ H := s_of ps_break q
theorem s_cnt {nx : L2.St → Hp → Prop} {rt : VK} {bk ct : L2.St → Hp → Prop} (q : ct σ H) : wS X (.Continue pos) ⟨nx, rt, bk, ct⟩ σ H := s_of ps_continue q
theorem s_expr {nx : L2.St → Hp → Prop} {rt : VK} {bk ct : L2.St → Hp → Prop} (q : wE X e σ H fun _ H' => nx σ H') (hs : swapsWith e none pos.line X.env = pure false := by rfl) : wS X (.Expr e pos) ⟨nx, rt, bk, ct⟩ σ H := s_of (ps_expr pe hs) q
theorem s_if {nx : L2.St → Hp → Prop} {rt : VK} {bk ct : L2.St → Hp → Prop} {A B : List Stmt} (q : wT X c σ H fun k H1 => if k = true then wL X A ⟨nx, rt, bk, ct⟩ σ H1 else wL X B ⟨nx, rt, bk, ct⟩ σ H1) : wS X (.If c A B pos) ⟨nx, rt, bk, ct⟩ σ H := s_of (ps_if pt pl pl) q
theorem s_fld {nx : L2.St → Hp → Prop} {rt : VK} {bk ct : L2.St → Hp → Prop} {o value : Expr} {f : Str} {pos' : Pos} (q : wE X value σ H fun y H1 => wE X o σ H1 fun x H2 => ∃ a C dx fs, x = .ref a ∧ H2 a = some (.ins C dx fs) ∧ Cls X.K C ∧ NoAttr X.K C f ∧ fs.length < 1000 ∧ nx σ (upd H2 a (.ins C dx (putF f y fs))))
    (hs : swapsWith value (some (.Attribute o f pos')) pos.line X.env = pure false := by rfl) : wS X (.Assign [.Attribute o f pos'] value pos) ⟨nx, rt, bk, ct⟩ σ H := s_of (ps_fld pe pe hs) q
/-- o[i] = v -/
theorem s_sub {nx : L2.St → Hp → Prop} {rt : VK} {bk ct : L2.St → Hp → Prop} {o i value : Expr} {pos' : Pos} (q : wE X value σ H fun v H1 => wE X o σ H1 fun x H2 => wE X i σ H2 fun y H3 => wSet X x y v H3 fun H4 => nx σ H4)
    (hs : swapsWithSole [.Subscript o i pos'] value pos.line X.env = pure false := by rfl) (hw : swappedStores [.Subscript o i pos'] value X.env = pure none := by rfl) (h1 : (assignEach [.Subscript o i pos'] X.env).map (·.2) = [assign (.Subscript o i pos') X.env] := by rfl)
    (ha : ∀ v, assign (.Subscript o i pos') X.env v = (do let ov ← holding [v] (eval o X.env); let iv ← holding [v, ov] (eval i X.env); standAt pos'; holding [v, ov, iv] (setItem ov iv v); release [v, ov, iv] []) := by intro _; rfl) : wS X (.Assign [.Subscript o i pos'] value pos) ⟨nx, rt, bk, ct⟩ σ H := s_of (ps_asg pe (pg_sub pe pe pset ha) hs hw h1) q
/-- two names from a tuple -/
theorem s_tup2 {nx : L2.St → Hp → Prop} {rt : VK} {bk ct : L2.St → Hp → Prop} {i j : Nat} {x y : Str} {k : Nat} {px py pt : Pos} (q : wE X e σ H fun v H1 => ∃ a u w, v = .ref a ∧ SqT X.K H1 a [u, w] ∧ nx ((σ.set i (some u)).set j (some w)) H1)
    (I : In X N G sc := by assumption) (hc : X.calm = true := by rfl) (hA : At N i x := by repeat (first | with_reducible apply At.z | with_reducible apply At.s)) (hB : At N j y := by repeat (first | with_reducible apply At.z | with_reducible apply At.s))
    (hs : swapsWithSole [.Tuple [.Name x px, .Name y py] k pt] e pos.line X.env = pure false := by rfl) (hw : swappedStores [.Tuple [.Name x px, .Name y py] k pt] e X.env = pure none := by rfl) (h1 : (assignEach [.Tuple [.Name x px, .Name y py] k pt] X.env).map (·.2) = [assign (.Tuple [.Name x px, .Name y py] k pt) X.env] := by rfl) :
    wS X (.Assign [.Tuple [.Name x px, .Name y py] k pt] e pos) ⟨nx, rt, bk, ct⟩ σ H := by
  refine s_of (ps_asg pe (pg_tup hc (pgs_cons (pg_name I.nd (I.hi hA) (I.loc hA) I.f) (pgs_cons (pg_name I.nd (I.hi hB) (I.loc hB) I.f) pgs_nil))) hs hw h1) (e_mono q fun v H1 q1 => ?_)
  obtain ⟨ad, u, w, ev, hq, q2⟩ := q1
  exact ⟨ad, [u, w], ev, hq, rfl, u, [w], rfl, w, [], rfl, rfl, q2⟩
/-! ### expressions -/
theorem e_var {i : Nat} {x : Str} {v : V} (q : Q v H) (I : In X N G sc := by assumption) (hA : At N i x := by repeat (first | with_reducible apply At.z | with_reducible apply At.s)) (hσ : σ[i]? = some (some v) := by exact rfl) : wE X (.Name x pos) σ H Q :=
  e_of (pe_var (I.hi hA) (I.vis hA) (I.ok.lo x hA.mem).2.1 (I.ok.lo x hA.mem).2.2) ⟨v, hσ, q⟩
theorem e_int {i : Int} {j} (q : Q (.int i) H) : wE X (.Constant (.int i) j pos) σ H Q := e_of pe_int q
theorem e_bl {k : Bool} {j} (q : Q (.bl k) H) : wE X (.Constant (.bool k) j pos) σ H Q := e_of pe_bl q
theorem e_non {j} (q : Q .non H) : wE X (.Constant .none j pos) σ H Q := e_of pe_non q
theorem e_str {x : Str} {j} (q : Q (.str x) H) : wE X (.Constant (.str x) j pos) σ H Q := e_of pe_str q
theorem e_bin {op : Operator} (q : wE X a σ H fun x H1 => wE X b σ H1 fun y H2 => wB X op x y H2 Q) : wE X (.BinOp a op b pos) σ H Q := e_of (pe_op opb pe pe) q
theorem e_cmp {op : CmpOp} (q : wE X a σ H fun x H1 => wE X b σ H1 fun y H2 => wK X op x y H2 Q) (hm : behindInMarks op b = false := by first | exact nomark _ | rfl) : wE X (.Compare a [op] [b] pos) σ H Q := e_of (pe_cmpR opk pe pe hm) q
theorem t_cmp {op : CmpOp} (q : wE X a σ H fun x H1 => wE X b σ H1 fun y H2 => wK X op x y H2 fun z H3 => ∃ k, z = .bl k ∧ QT k H3) (hm : behindInMarks op b = false := by first | exact nomark _ | rfl) : wT X (.Compare a [op] [b] pos) σ H QT := t_of (pt_cmpR opk pe pe hm) q
theorem t_val (q : wE X e σ H fun z H3 => ∃ k, z = .bl k ∧ QT k H3) (he : ∀ whole, isTrue e X.env whole = (do let v ← whole; standAt e.pos; holding [v] (truthy v)) := by intro _; rfl) : wT X e σ H QT := t_of (pt_val pe he) q
theorem t_not (q : wT X a σ H fun k H1 => QT (!k) H1) : wT X (.UnaryOp .Not a pos) σ H QT := t_of (pt_not pt) q
theorem t_w (q : wW X e σ H QT) : wT X e σ H QT := t_of pw.pt q
theorem w_and1 (q : wT X a σ H QT) : wW X (.BoolOp .And [a] pos) σ H QT := w_of (pw_and1 pt) q
theorem w_or1 (q : wT X a σ H QT) : wW X (.BoolOp .Or [a] pos) σ H QT := w_of (pw_or1 pt) q
theorem w_and (q : wT X a σ H fun k H1 => if k = true then wW X (.BoolOp .And (b :: rest) pos) σ H1 QT else QT false H1) : wW X (.BoolOp .And (a :: b :: rest) pos) σ H QT := w_of (pw_and pt pw) q
theorem w_or (q : wT X a σ H fun k H1 => if k = true then QT true H1 else wW X (.BoolOp .Or (b :: rest) pos) σ H1 QT) : wW X (.BoolOp .Or (a :: b :: rest) pos) σ H QT := w_of (pw_or pt pw) q
theorem e_one {op} (q : wE X a σ H Q) : wE X (.BoolOp op [a] pos) σ H Q := e_of (pe_one pe) q
theorem e_and (q : wE X a σ H fun x H1 => ∃ k, x = .bl k ∧ if k = true then wE X (.BoolOp .And (b :: rest) pos) σ H1 Q else Q (.bl false) H1) : wE X (.BoolOp .And (a :: b :: rest) pos) σ H Q := e_of (pe_and pe pe) q
theorem e_or (q : wE X a σ H fun x H1 => ∃ k, x = .bl k ∧ if k = true then Q (.bl true) H1 else wE X (.BoolOp .Or (b :: rest) pos) σ H1 Q) : wE X (.BoolOp .Or (a :: b :: rest) pos) σ H Q := e_of (pe_or pe pe) q
theorem e_not (q : wE X a σ H fun x H1 => ∃ k, x = .bl k ∧ Q (.bl (!k)) H1) : wE X (.UnaryOp .Not a pos) σ H Q := e_of (pe_not pe) q
theorem e_ifExp (q : wT X c σ H fun k H1 => if k = true then wE X a σ H1 Q else wE X b σ H1 Q) : wE X (.IfExp c a b pos) σ H Q := e_of (pe_ifExp pt pe pe) q
theorem e_ix (q : wE X a σ H fun x H1 => wE X b σ H1 fun y H2 => wIx X x y H2 Q) (hs : PlainIx b := by intro _ _; rfl) : wE X (.Subscript a b pos) σ H Q := e_of (pe_ix ixr pe pe hs) q
theorem e_fld {f : Str} (q : wE X e σ H fun x H1 => ∃ a C dx fs v, x = .ref a ∧ H1 a = some (.ins C dx fs) ∧ Cls X.K C ∧ NoAttr X.K C f ∧ fs.lookup f = some v ∧ Q v H1) (hb : attributeBase e f X.env (eval e X.env) = eval e X.env := by rfl) : wE X (.Attribute e f pos) σ H Q := e_of (pe_fld pe hb) q
theorem a_nil {QA : List V → Hp → Prop} (q : QA [] H) : wA X [] σ H QA := a_of pa_nil q
theorem a_cons {QA : List V → Hp → Prop} (q : wE X e σ H fun x H1 => wA X es σ H1 fun xs H2 => QA (x :: xs) H2) (hs : starEach (e :: es) X.env = (false, eval e X.env) :: starEach es X.env := by rfl) : wA X (e :: es) σ H QA := a_of (pa_cons pe pa hs) q
theorem e_tup {k} (q : wA X es σ H fun xs H1 => xs.length ≤ sizeLine ∧ ∀ p H2, Same H1 H2 → H1 p = none → H2 p = some (.tup xs) → Q (.ref p) H2) : wE X (.Tuple es k pos) σ H Q :=
  e_of (pe_tup pa) (a_mono q fun xs H1 z => ⟨z.1, fun p np => z.2 p _ (fun b o eo => by rw [upd_ne (ne_of_none eo np)]; exact eo) np upd_same⟩)
theorem e_lst (q : wA X es σ H fun xs H1 => xs.length ≤ sizeLine ∧ ∀ p H2, Same H1 H2 → H1 p = none → H2 p = some (.lst xs) → Q (.ref p) H2) : wE X (.List es pos) σ H Q :=
  e_of (pe_lst pa) (a_mono q fun xs H1 z => ⟨z.1, fun p np => z.2 p _ (fun b o eo => by rw [upd_ne (ne_of_none eo np)]; exact eo) np upd_same⟩)
/-! ### calls -/
/-- a def of the module that no exception leaves -/
structure Fn (P : Program) (w : World) (K : PySem.W.Frag) (mg : Str → Option Value) (base : Heap) (k : Nat) (x : Str) (sp : Sp) : Prop where
  ex : ∃ (f : Addr) (fd : FuncData) (ps : List Str), FnOk P w K mg base CX0 k f fd ps sp ∧ mg x = some (.ref f) ∧ PySem.W.keepIn K (.ref f) = true ∧ Binds K fd ps []
theorem e_call {g : Nat} {k n : Nat} {x : Str} {sp : Sp} (F : Fn X.prog X.w X.K X.mg X.base k x sp) (hr : Room n X.A) (hk : k ≤ n) (q : wA X (e :: es) σ H fun vs H1 => sp vs H1 Q E0) (I : In X N G sc := by assumption) (hG : At G g x := by repeat (first | with_reducible apply At.z | with_reducible apply At.s))
    (he : starEach (e :: es) X.env = (false, eval e X.env) :: starEach es X.env := by rfl) (hpl : (backTo pos (starEach es X.env)).any (·.1) = false := by rfl) : wE X (.Call (.Name x p0) (e :: es) [] pos) σ H Q := by
  obtain ⟨f, fd, ps, F0, hm, hkp, hb⟩ := F.ex
  refine e_of (pe_call F0 (hr.mono hk) (I.g hG) hm hkp hb .nil pass0 pa (I.gd hG) he hpl) ?_
  show wA X (e :: es) σ H fun vs H1 => sp (vs ++ []) H1 Q E0
  simp only [List.append_nil]
  exact q
theorem e_call0 {g : Nat} {k n : Nat} {x : Str} {sp : Sp} (F : Fn X.prog X.w X.K X.mg X.base k x sp) (hr : Room n X.A) (hk : k ≤ n) (q : sp [] H Q E0) (I : In X N G sc := by assumption) (hG : At G g x := by repeat (first | with_reducible apply At.z | with_reducible apply At.s)) : wE X (.Call (.Name x p0) [] [] pos) σ H Q := by
  obtain ⟨f, fd, ps, F0, hm, hkp, hb⟩ := F.ex
  exact e_of (pe_call0 F0 (hr.mono hk) (I.g hG) hm hkp hb .nil pass0 (I.gd hG)) q
theorem e_callB {g : Nat} {x : Str} {id : String} (hm : X.mg x = none) (hv : bootBuiltins x = some (.builtin id)) (q : wA X (e :: es) σ H fun vs H1 => wC X (.builtin id) vs H1 Q) (I : In X N G sc := by assumption) (hG : At G g x := by repeat (first | with_reducible apply At.z | with_reducible apply At.s))
    (he : starEach (e :: es) X.env = (false, eval e X.env) :: starEach es X.env := by rfl) (hpl : (backTo pos (starEach es X.env)).any (·.1) = false := by rfl) : wE X (.Call (.Name x p0) (e :: es) [] pos) σ H Q := e_of (pe_callB cr (I.g hG) hm hv pa (I.gn hG) (I.gd hG) he hpl) q
theorem e_callTy {g : Nat} {x : Str} {T : String} (hm : X.mg x = none) (hv : bootBuiltins x = some (.type T)) (q : wA X (e :: es) σ H fun vs H1 => wC X (.type T) vs H1 Q) (I : In X N G sc := by assumption) (hG : At G g x := by repeat (first | with_reducible apply At.z | with_reducible apply At.s))
    (he : starEach (e :: es) X.env = (false, eval e X.env) :: starEach es X.env := by rfl) (hpl : (backTo pos (starEach es X.env)).any (·.1) = false := by rfl) : wE X (.Call (.Name x p0) (e :: es) [] pos) σ H Q := e_of (pe_callTy cr (I.g hG) hm hv pa (I.gn hG) (I.gd hG) he hpl) q
theorem e_glob {g : Nat} {x : Str} {v : V} {u : Value} (hm : X.mg x = some u) (r : RelV v u) (q : Q v H) (I : In X N G sc := by assumption) (hG : At G g x := by repeat (first | with_reducible apply At.z | with_reducible apply At.s)) : wE X (.Name x pos) σ H Q := e_of (pe_glob (I.g hG) hm r (I.gd hG)) q
theorem e_bltn {g : Nat} {x : Str} {v : V} {u : Value} (hm : X.mg x = none) (hv : bootBuiltins x = some u) (r : RelV v u) (q : Q v H) (I : In X N G sc := by assumption) (hG : At G g x := by repeat (first | with_reducible apply At.z | with_reducible apply At.s)) : wE X (.Name x pos) σ H Q := e_of (pe_bltn (I.g hG) hm hv r (I.gn hG) (I.gd hG)) q
/-- a method of a class that no exception leaves -/
structure Mt (P : Program) (w : World) (K : PySem.W.Frag) (mg : Str → Option Value) (base : Heap) (k : Nat) (C : Addr) (m : Str) (sp : Sp) : Prop where
  ex : ∃ (f : Addr) (fd : FuncData) (ps : List Str), FnOk P w K mg base CX0 k f fd ps sp ∧ Meth K C m f ∧ Binds K fd ps [] ∧ Cls K C
theorem e_meth {k n : Nat} {o : Expr} {m : Str} {C : Addr} {apos : Pos} {pl : Sem Bool} {sp : Sp} (F : Mt X.prog X.w X.K X.mg X.base k C m sp) (hr : Room n X.A) (hk : k ≤ n)
    (q : wE X o σ H fun x H1 => ∃ a dx fs, x = .ref a ∧ H1 a = some (.ins C dx fs) ∧ fs.lookup m = none ∧ wA X (e :: es) σ H1 fun vs H2 => sp (x :: vs) H2 Q E0)
    (hst : starEach (e :: es) X.env = (false, eval e X.env) :: starEach es X.env := by rfl) (hpl : (backTo pos (starEach es X.env)).any (·.1) = false := by rfl)
    (ht : eval (.Call (.Attribute o m apos) (e :: es) [] pos) X.env = (do let ov ← eval o X.env; standAt apos.atName; let (f, first) ← holding [ov] (getMethod ov m pl); callWith pos f first (backTo pos (starEach (e :: es) X.env)) (backToKw pos (keywordEach [] X.env))) := by rfl) :
    wE X (.Call (.Attribute o m apos) (e :: es) [] pos) σ H Q := by
  obtain ⟨f, fd, ps, F0, M, hb, c⟩ := F.ex
  refine e_of (pe_meth (pl := pl) pe c M F0 (hr.mono hk) hb .nil pass0 pa hst hpl ht) ?_
  show wE X o σ H fun x H1 => ∃ a dx fs, x = .ref a ∧ H1 a = some (.ins C dx fs) ∧ fs.lookup m = none ∧ wA X (e :: es) σ H1 fun vs H2 => sp (x :: (vs ++ [])) H2 Q E0
  simp only [List.append_nil]
  exact q
theorem e_meth0 {k n : Nat} {o : Expr} {m : Str} {C : Addr} {apos : Pos} {pl : Sem Bool} {sp : Sp} (F : Mt X.prog X.w X.K X.mg X.base k C m sp) (hr : Room n X.A) (hk : k ≤ n)
    (q : wE X o σ H fun x H1 => ∃ a dx fs, x = .ref a ∧ H1 a = some (.ins C dx fs) ∧ fs.lookup m = none ∧ sp [x] H1 Q E0)
    (ht : eval (.Call (.Attribute o m apos) [] [] pos) X.env = (do let ov ← eval o X.env; standAt apos.atName; let (f, first) ← holding [ov] (getMethod ov m pl); callWith pos f first (backTo pos (starEach [] X.env)) (backToKw pos (keywordEach [] X.env))) := by rfl) :
    wE X (.Call (.Attribute o m apos) [] [] pos) σ H Q := by
  obtain ⟨f, fd, ps, F0, M, hb, c⟩ := F.ex
  exact e_of (pe_meth0 (pl := pl) pe c M F0 (hr.mono hk) hb .nil pass0 ht) q
/-- an own class whose __init__ no exception leaves -/
structure Kl (P : Program) (w : World) (K : PySem.W.Frag) (mg : Str → Option Value) (base : Heap) (k : Nat) (x : Str) (C : Addr) (sp : Sp) : Prop where
  ex : ∃ (f : Addr) (fd : FuncData) (ps : List Str), FnOk P w K mg base CX0 k f fd ps sp ∧ mg x = some (.ref C) ∧ Mk K C f ∧ Binds K fd ps []
theorem e_make {g : Nat} {k n : Nat} {x : Str} {C : Addr} {sp : Sp} (F : Kl X.prog X.w X.K X.mg X.base k x C sp) (hr : Room n X.A) (hk : k + 1 ≤ n)
    (q : wA X (e :: es) σ H fun vs H1 => ∀ x dx, H1 x = none → H1 dx = none → dx ≠ x → sp (.ref x :: vs) (upd (upd H1 dx (.own x)) x (.ins C dx [])) (fun v H2 => v = .non ∧ Q (.ref x) H2) E0)
    (I : In X N G sc := by assumption) (hG : At G g x := by repeat (first | with_reducible apply At.z | with_reducible apply At.s)) (he : starEach (e :: es) X.env = (false, eval e X.env) :: starEach es X.env := by rfl) (hpl : (backTo pos (starEach es X.env)).any (·.1) = false := by rfl) : wE X (.Call (.Name x p0) (e :: es) [] pos) σ H Q := by
  obtain ⟨f, fd, ps, F0, hm, M, hb⟩ := F.ex
  refine e_of (pe_make M F0 (hr.mono hk) (I.g hG) hm hb .nil pass0 pa (I.gd hG) he hpl) ?_
  show wA X (e :: es) σ H fun vs H1 => ∀ x dx, H1 x = none → H1 dx = none → dx ≠ x → sp (.ref x :: (vs ++ [])) (upd (upd H1 dx (.own x)) x (.ins C dx [])) (fun v H2 => v = .non ∧ Q (.ref x) H2) E0
  simp only [List.append_nil]
  exact q
end
/-! ### values -/
section
variable {X : Cx} {H : Hp} {Q : VK} {i j : Int} {σ : L2.St} {D : Ends}
theorem o_add (q : Q (.int (i + j)) H) : wB X .Add (.int i) (.int j) H Q := b_of op_add ⟨i, j, rfl, rfl, q⟩
theorem o_sub (q : Q (.int (i - j)) H) : wB X .Sub (.int i) (.int j) H Q := b_of op_sub ⟨i, j, rfl, rfl, q⟩
theorem o_mul (c : CMul i j) (q : Q (.int (i * j)) H) : wB X .Mult (.int i) (.int j) H Q := b_of op_mul ⟨i, j, rfl, rfl, c, q⟩
theorem o_mod (c : 0 < j) (q : Q (.int (i % j)) H) : wB X .Mod (.int i) (.int j) H Q := b_of op_mod ⟨i, j, rfl, rfl, c, q⟩
theorem o_fdiv (c : 0 < j ∧ j < 1073741824) (q : Q (.int (i / j)) H) : wB X .FloorDiv (.int i) (.int j) H Q := b_of op_fdiv ⟨i, j, rfl, rfl, c, q⟩
theorem o_pow (c : CPow i j) (q : Q (.int (i ^ j.toNat)) H) : wB X .Pow (.int i) (.int j) H Q := b_of op_pow ⟨i, j, rfl, rfl, c, q⟩
theorem o_lt (q : Q (.bl (decide (i < j))) H) : wK X .Lt (.int i) (.int j) H Q := k_of op_lt ⟨i, j, rfl, rfl, q⟩
theorem o_le (q : Q (.bl (decide (i ≤ j))) H) : wK X .LtE (.int i) (.int j) H Q := k_of op_le ⟨i, j, rfl, rfl, q⟩
theorem o_gt (q : Q (.bl (decide (j < i))) H) : wK X .Gt (.int i) (.int j) H Q := k_of op_gt ⟨i, j, rfl, rfl, q⟩
theorem o_ge (q : Q (.bl (decide (j ≤ i))) H) : wK X .GtE (.int i) (.int j) H Q := k_of op_ge ⟨i, j, rfl, rfl, q⟩
theorem dint {i j : Int} : decide (V.int i = V.int j) = decide (i = j) := by simp
theorem dbl {i j : Bool} : decide (V.bl i = V.bl j) = decide (i = j) := by simp
theorem dstr {i j : Str} : decide (V.str i = V.str j) = decide (i = j) := by simp
theorem o_eqI (q : Q (.bl (decide (i = j))) H) : wK X .Eq (.int i) (.int j) H Q := k_of op_eq ⟨rfl, dint ▸ q⟩
theorem o_neI (q : Q (.bl (!decide (i = j))) H) : wK X .NotEq (.int i) (.int j) H Q := k_of op_ne ⟨rfl, dint ▸ q⟩
theorem o_eqB {i j : Bool} (q : Q (.bl (decide (i = j))) H) : wK X .Eq (.bl i) (.bl j) H Q := k_of op_eq ⟨rfl, dbl ▸ q⟩
theorem o_neB {i j : Bool} (q : Q (.bl (!decide (i = j))) H) : wK X .NotEq (.bl i) (.bl j) H Q := k_of op_ne ⟨rfl, dbl ▸ q⟩
theorem o_eqS {i j : Str} (q : Q (.bl (decide (i = j))) H) : wK X .Eq (.str i) (.str j) H Q := k_of op_eq ⟨rfl, dstr ▸ q⟩
theorem o_neS {i j : Str} (q : Q (.bl (!decide (i = j))) H) : wK X .NotEq (.str i) (.str j) H Q := k_of op_ne ⟨rfl, dstr ▸ q⟩
/-- a pair of ints beside a text -/
theorem o_eqPS {n : Nat} {a : Addr} {u v : Int} {z : Str} (hr : Room n X.A) (h : H a = some (.tup [.int u, .int v])) (hz : SeqAt.shaped (.str z) = true) (q : Q (.bl false) H) : wK X .Eq (.ref a) (.str z) H Q :=
  k_of (op_eqD hr.units) ⟨.tuple [.int u, .int v], .str z, .tup (SqT.of h) (.cons (.int u) (.cons (.int v) .nil)), .str z, rfl, hz, q⟩
theorem ix_l {a : Addr} {xs : List V} {v : V} (h : SqL X.K H a xs) (e : atI xs i = some v) (q : Q v H) : wIx X (.ref a) (.int i) H Q := ix_of ix_list ⟨a, xs, i, v, rfl, rfl, h, e, q⟩
theorem ix_t {a : Addr} {xs : List V} {v : V} (h : SqT X.K H a xs) (e : atI xs i = some v) (q : Q v H) : wIx X (.ref a) (.int i) H Q := ix_of ix_tup ⟨a, xs, i, v, rfl, rfl, h, e, q⟩
theorem set_l {a : Addr} {xs : List V} {v : V} {k : Nat} {QH : Hp → Prop} (h : H a = some (.lst xs)) (e : ixN xs.length i = some k) (q : QH (upd H a (.lst (xs.set k v)))) : wSet X (.ref a) (.int i) v H QH := set_of set_list ⟨a, xs, i, k, rfl, rfl, h, e, q⟩
theorem c_int (q : Q (.int i) H) : wC X (.type "int") [.int i] H Q := c_of call_int1 (.inl ⟨i, rfl, q⟩)
theorem c_abs (q : Q (.int (if i < 0 then -i else i)) H) : wC X (.builtin "abs") [.int i] H Q := c_of call_abs ⟨i, rfl, q⟩
theorem c_max (hc : X.calm = true) (q : Q (.int (if j > i then j else i)) H) : wC X (.builtin "max") [.int i, .int j] H Q := c_of (call_max2 hc) ⟨i, j, rfl, q⟩
theorem c_min (hc : X.calm = true) (q : Q (.int (if j < i then j else i)) H) : wC X (.builtin "min") [.int i, .int j] H Q := c_of (call_min2 hc) ⟨i, j, rfl, q⟩
theorem c_lenL {a : Addr} {xs : List V} (h : SqL X.K H a xs) (q : Q (.int xs.length) H) : wC X (.builtin "len") [.ref a] H Q := c_of call_len_seq ⟨a, xs, rfl, .inl h, q⟩
theorem c_lenT {a : Addr} {xs : List V} (h : SqT X.K H a xs) (q : Q (.int xs.length) H) : wC X (.builtin "len") [.ref a] H Q := c_of call_len_seq ⟨a, xs, rfl, .inr h, q⟩
theorem c_isi {x c : V} {t u : Value} {b : Bool} (ty : TyX X.K H x t) (k : ClsV c u) (e : PySem.W.kitOne X.K t u = some b) (q : Q (.bl b) H) : wC X (.builtin "isinstance") [x, c] H Q := c_of call_isi ⟨x, c, t, u, b, rfl, k, ty, e, q⟩
theorem c_isiT {x : V} {tp : Addr} {cs : List V} {t : Value} {us : List Value} {b : Bool} (ty : TyX X.K H x t) (h : H tp = some (.tup cs)) (k : Paired ClsV cs us) (e : PySem.W.kitAny X.K t us = some b) (q : Q (.bl b) H) : wC X (.builtin "isinstance") [x, .ref tp] H Q :=
  c_of call_isiT ⟨x, tp, cs, t, us, b, rfl, h, k, ty, e, q⟩
theorem ty_non : TyX X.K H .non (.type "NoneType") := .base .non
theorem ty_bl {b : Bool} : TyX X.K H (.bl b) (.type "bool") := .base (.bl b)
theorem ty_int : TyX X.K H (.int i) (.type "int") := .base (.int i)
theorem ty_str {z : Str} : TyX X.K H (.str z) (.type "str") := .base (.str z)
theorem ty_tup {a : Addr} {xs : List V} (h : H a = some (.tup xs)) : TyX X.K H (.ref a) (.type "tuple") := .base (.tup h)
theorem ty_lst {a : Addr} {xs : List V} (h : H a = some (.lst xs)) : TyX X.K H (.ref a) (.type "list") := .base (.lst h)
theorem two_ty {a b : String} : Paired ClsV [.ty a, .ty b] [.type a, .type b] := .cons (.ty a) (.cons (.ty b) .nil)
theorem kit2 {K : PySem.W.Frag} {t a b : String} {x y : Bool} (h1 : kitB t a = some x) (h2 : kitB t b = some y) : PySem.W.kitAny K (.type t) [.type a, .type b] = some (x || y) := by
  cases x with
  | true => exact kitAny_cons (kit_ty h1) (fun z => nomatch z) fun _ => rfl
  | false =>
    refine kitAny_cons (kit_ty h1) (fun _ => ?_) (fun z => nomatch z)
    cases y with
    | true => exact kitAny_cons (kit_ty h2) (fun z => nomatch z) fun _ => rfl
    | false => exact kitAny_cons (kit_ty h2) (fun _ => rfl) (fun z => nomatch z)
theorem kb_int_tuple : kitB "int" "tuple" = some false := by decide +kernel
theorem kb_int_list : kitB "int" "list" = some false := by decide +kernel
theorem kb_int_int : kitB "int" "int" = some true := by decide +kernel
theorem kb_int_bool : kitB "int" "bool" = some false := by decide +kernel
theorem kb_int_str : kitB "int" "str" = some false := by decide +kernel
theorem kb_tuple_tuple : kitB "tuple" "tuple" = some true := by decide +kernel
theorem kb_tuple_list : kitB "tuple" "list" = some false := by decide +kernel
theorem kb_tuple_str : kitB "tuple" "str" = some false := by decide +kernel
theorem kb_tuple_int : kitB "tuple" "int" = some false := by decide +kernel
theorem kb_tuple_bool : kitB "tuple" "bool" = some false := by decide +kernel
theorem kb_list_tuple : kitB "list" "tuple" = some false := by decide +kernel
theorem kb_list_list : kitB "list" "list" = some true := by decide +kernel
theorem kb_list_str : kitB "list" "str" = some false := by decide +kernel
theorem kb_list_int : kitB "list" "int" = some false := by decide +kernel
theorem kb_list_bool : kitB "list" "bool" = some false := by decide +kernel
theorem kb_bool_bool : kitB "bool" "bool" = some true := by decide +kernel
theorem kb_bool_int : kitB "bool" "int" = some true := by decide +kernel
theorem kb_bool_str : kitB "bool" "str" = some false := by decide +kernel
theorem kb_bool_tuple : kitB "bool" "tuple" = some false := by decide +kernel
theorem kb_bool_list : kitB "bool" "list" = some false := by decide +kernel
theorem kb_str_str : kitB "str" "str" = some true := by decide +kernel
theorem kb_str_bool : kitB "str" "bool" = some false := by decide +kernel
theorem kb_str_int : kitB "str" "int" = some false := by decide +kernel
theorem kb_str_tuple : kitB "str" "tuple" = some false := by decide +kernel
theorem kb_str_list : kitB "str" "list" = some false := by decide +kernel
theorem kb_non_bool : kitB "NoneType" "bool" = some false := by decide +kernel
theorem kb_non_int : kitB "NoneType" "int" = some false := by decide +kernel
theorem kb_non_str : kitB "NoneType" "str" = some false := by decide +kernel
theorem kb_non_tuple : kitB "NoneType" "tuple" = some false := by decide +kernel
theorem kb_non_list : kitB "NoneType" "list" = some false := by decide +kernel
theorem b_int : bootBuiltins "int" = some (.type "int") := by decide +kernel
theorem b_bool : bootBuiltins "bool" = some (.type "bool") := by decide +kernel
theorem b_str : bootBuiltins "str" = some (.type "str") := by decide +kernel
theorem b_tuple : bootBuiltins "tuple" = some (.type "tuple") := by decide +kernel
theorem b_list : bootBuiltins "list" = some (.type "list") := by decide +kernel
theorem b_isi : bootBuiltins "isinstance" = some (.builtin "isinstance") := by decide +kernel
theorem b_len : bootBuiltins "len" = some (.builtin "len") := by decide +kernel
theorem b_abs : bootBuiltins "abs" = some (.builtin "abs") := by decide +kernel
theorem b_max : bootBuiltins "max" = some (.builtin "max") := by decide +kernel
theorem b_min : bootBuiltins "min" = some (.builtin "min") := by decide +kernel
/-! ### loops -/
theorem s_forR {nx : L2.St → Hp → Prop} {rt : VK} {bk ct : L2.St → Hp → Prop} {g : Nat} {N G : List Str} {sc : Scope} {x : Str} {i : Nat} {a : Expr} {body : List Stmt} {px p cp pos : Pos} (hm : X.mg "range" = none)
    (q : wE X a σ H fun v H1 => ∃ n : Nat, v = .int n ∧ n < 2 ^ 62 ∧ ∃ Pv : Nat → L2.St → Hp → Prop, Pv 0 σ H1 ∧ (∀ k σ H, k < n → Pv k σ H → wL X body ⟨Pv (k + 1), rt, nx, Pv (k + 1)⟩ (σ.set i (some (.int (k : Int)))) H) ∧ ∀ σ H, Pv n σ H → nx σ H)
    (I : In X N G sc := by assumption) (hc : X.calm = true := by rfl) (hA : At N i x := by repeat (first | with_reducible apply At.z | with_reducible apply At.s))
    (hG : At G g ("range" : Str) := by repeat (first | with_reducible apply At.z | with_reducible apply At.s)) (hs : starEach [a] X.env = [(false, eval a X.env)] := by rfl) (hs2 : ∀ z, foldedSetIterable (.Call (.Name "range" p) [a] [] cp) X.env z = pure z := by intro _; rfl)
    (hs1 : starEach (a :: []) X.env = (false, eval a X.env) :: starEach [] X.env := by rfl) :
    wS X (.For (.Name x px) (.Call (.Name "range" p) [a] [] cp) body [] pos) ⟨nx, rt, bk, ct⟩ σ H := by
  refine s_of (ps_for I.never hc (pi_range1 (I.g hG) hm (pa_cons pe pa_nil hs1) hs) (pg_name I.nd (I.hi hA) (I.loc hA) I.f) pl hs2) (e_mono q fun v H1 q1 => ?_)
  obtain ⟨n, rfl, hn, Pv, h0, hb, hd⟩ := q1
  refine ⟨(n : Int), rfl, by omega, by omega, ?_⟩
  rw [Int.toNat_natCast]
  refine for_range (n := n) Pv h0 (fun k σ H hk p => ?_) hd
  rw [Int.zero_add]
  exact hb k σ H hk p
theorem s_forL {nx : L2.St → Hp → Prop} {rt : VK} {bk ct : L2.St → Hp → Prop} {N G : List Str} {sc : Scope} {x : Str} {i : Nat} {a : Expr} {body : List Stmt} {px pos : Pos}
    (q : wE X a σ H fun v H1 => ∃ ad xs, v = .ref ad ∧ SqL X.K H1 ad xs ∧ ∃ Pv : Nat → L2.St → Hp → Prop, Pv 0 σ H1 ∧ (∀ k σ H, k ≤ xs.length → Pv k σ H → SqL X.K H ad xs) ∧ (∀ k y σ H, xs[k]? = some y → Pv k σ H → wL X body ⟨Pv (k + 1), rt, nx, Pv (k + 1)⟩ (σ.set i (some y)) H) ∧ ∀ σ H, Pv xs.length σ H → nx σ H)
    (I : In X N G sc := by assumption) (hc : X.calm = true := by rfl) (hA : At N i x := by repeat (first | with_reducible apply At.z | with_reducible apply At.s))
    (hs2 : ∀ z, foldedSetIterable a X.env z = pure z := by intro _; rfl) :
    wS X (.For (.Name x px) a body [] pos) ⟨nx, rt, bk, ct⟩ σ H := by
  refine s_of (ps_for I.never hc (pi_list pe) (pg_name I.nd (I.hi hA) (I.loc hA) I.f) pl hs2) (e_mono q fun v H1 q1 => ?_)
  obtain ⟨ad, xs, rfl, hl, Pv, h0, hk, hb, hd⟩ := q1
  exact ⟨ad, rfl, ⟨xs, hl⟩, for_list Pv h0 hk hb hd⟩
theorem s_forT {nx : L2.St → Hp → Prop} {rt : VK} {bk ct : L2.St → Hp → Prop} {N G : List Str} {sc : Scope} {x : Str} {i : Nat} {a : Expr} {body : List Stmt} {px pos : Pos}
    (q : wE X a σ H fun v H1 => ∃ ad xs, v = .ref ad ∧ SqT X.K H1 ad xs ∧ ∃ Pv : Nat → L2.St → Hp → Prop, Pv 0 σ H1 ∧ (∀ k σ H, k ≤ xs.length → Pv k σ H → SqT X.K H ad xs) ∧ (∀ k y σ H, xs[k]? = some y → Pv k σ H → wL X body ⟨Pv (k + 1), rt, nx, Pv (k + 1)⟩ (σ.set i (some y)) H) ∧ ∀ σ H, Pv xs.length σ H → nx σ H)
    (I : In X N G sc := by assumption) (hc : X.calm = true := by rfl) (hA : At N i x := by repeat (first | with_reducible apply At.z | with_reducible apply At.s))
    (hs2 : ∀ z, foldedSetIterable a X.env z = pure z := by intro _; rfl) :
    wS X (.For (.Name x px) a body [] pos) ⟨nx, rt, bk, ct⟩ σ H := by
  refine s_of (ps_for I.never hc (pi_tup pe) (pg_name I.nd (I.hi hA) (I.loc hA) I.f) pl hs2) (e_mono q fun v H1 q1 => ?_)
  obtain ⟨ad, xs, rfl, hl, Pv, h0, hk, hb, hd⟩ := q1
  exact ⟨ad, rfl, ⟨xs, hl⟩, for_tup Pv h0 hk hb hd⟩
/-! ### an own operator of an own class -/
theorem op_own {op : Operator} {k n : Nat} {C f : Addr} {fd : FuncData} {pn : List Str} {sp : Sp} (F : FnOk X.prog X.w X.K X.mg X.base CX0 k f fd pn sp) (hs : PySem.W.findIn X.K (.ref C) (PySem.dunder op.info.2) = some (some (.ref f))) (hf : PySem.W.isFn X.K (.ref f) = true)
    (hc : PySem.W.selfFirst X.K C = true) (hb : Binds X.K fd pn []) (hr : Room n X.A) (hk : k ≤ n) :
    OpR X (binaryOp op) (fun x y H Q => ∃ a b dx dy fs gs, x = .ref a ∧ y = .ref b ∧ H a = some (.ins C dx fs) ∧ H b = some (.ins C dy gs) ∧ sp [x, y] H (fun v H' => (∃ p, v = .ref p) ∧ Q v H') E0) := by
  intro pins s σ H x y u v Q I rx ry h
  obtain ⟨a, b, dx, dy, fs, gs, rfl, rfl, ha, hb', hsp⟩ := h
  cases rx
  cases ry
  obtain ⟨mA, J, _⟩ := ins_get I.hok ha
  obtain ⟨mB, J', _⟩ := ins_get I.hok hb'
  obtain ⟨od, J, _⟩ := J.look
  obtain ⟨od', J', _⟩ := J'.look
  obtain ⟨m, hF⟩ := I.fr
  refine PySem.W.binop_K hF I.ok.mod.kin J J'.type hc hs hf ?_
  refine wpAny_mono (run_fn (E := E0) F (hr.mono hk) hb .nil pass0 I (show Vals [V.ref a, V.ref b] [Value.ref a, Value.ref b] from .cons rfl (.cons rfl .nil)) (by rw [List.append_nil]; exact hsp)) (fun w s' z => ?_) fun _ _ z => z
  obtain ⟨v', H', I', rz, ⟨p, rfl⟩, q⟩ := z
  cases rz
  exact ⟨.ref p, H', I', rfl, q⟩
structure Op2 (P : Program) (w : World) (K : PySem.W.Frag) (mg : Str → Option Value) (base : Heap) (k : Nat) (C : Addr) (op : Operator) (sp : Sp) : Prop where
  ex : ∃ (f : Addr) (fd : FuncData) (pn : List Str), FnOk P w K mg base CX0 k f fd pn sp ∧ PySem.W.findIn K (.ref C) (PySem.dunder op.info.2) = some (some (.ref f)) ∧ PySem.W.isFn K (.ref f) = true ∧ PySem.W.selfFirst K C = true ∧ Binds K fd pn []
theorem o_own {op : Operator} {k n : Nat} {C a b dx dy : Addr} {fs gs : List (Str × V)} {sp : Sp} (F : Op2 X.prog X.w X.K X.mg X.base k C op sp) (hr : Room n X.A) (hk : k ≤ n) (ha : H a = some (.ins C dx fs)) (hb : H b = some (.ins C dy gs))
    (q : sp [.ref a, .ref b] H (fun v H' => (∃ p, v = .ref p) ∧ Q v H') E0) : wB X op (.ref a) (.ref b) H Q := by
  obtain ⟨f, fd, pn, G, hs, hf, hc, hb'⟩ := F.ex
  exact b_of (op_own G hs hf hc hb' hr hk) ⟨a, b, dx, dy, fs, gs, rfl, rfl, ha, hb, q⟩
end
/-! ### heaps -/
/-- all but a stays -/
def But (a : Addr) (H H' : Hp) : Prop := ∀ b o, b ≠ a → H b = some o → H' b = some o
theorem But.refl {a : Addr} {H : Hp} : But a H H := fun _ _ _ h => h
theorem But.trans {a : Addr} {H H1 H2 : Hp} (x : But a H H1) (y : But a H1 H2) : But a H H2 := fun b o n h => y b o n (x b o n h)
theorem But.of {a : Addr} {H H1 : Hp} (x : Same H H1) : But a H H1 := fun b o _ h => x b o h
theorem But.upd {a : Addr} {H H1 : Hp} {o : HO} (x : But a H H1) : But a H (L2.upd H1 a o) := fun b u n h => by
  rw [upd_ne n]
  exact x b u n h
theorem But.tup {a p : Addr} {H H1 : Hp} {l xs : List V} (x : But a H H1) (ha : H a = some (.lst l)) (hp : H p = some (.tup xs)) : H1 p = some (.tup xs) := x p _ (ne_of hp ha (by intro z; cases z)) hp
theorem But.ins {a p C dx : Addr} {H H1 : Hp} {l : List V} {fs : List (Str × V)} (x : But a H H1) (ha : H a = some (.lst l)) (hp : H p = some (.ins C dx fs)) : H1 p = some (.ins C dx fs) := x p _ (ne_of hp ha (by intro z; cases z)) hp
theorem But.frz {a p : Addr} {H H1 : Hp} {l : List V} {o : Obj} {u : HO} (x : But a H H1) (ha : H a = some (.lst l)) (hp : H p = some (.frz o u)) : H1 p = some (.frz o u) := x p _ (ne_of hp ha (by intro z; cases z)) hp
section
variable {P : Program} {w : World} {K : PySem.W.Frag} {mg : Str → Option Value} {base : Heap}
/-- a def of the module where the top has left it -/
structure Top (K : PySem.W.Frag) (mg : Str → Option Value) (x : Str) (st : Stmt) : Prop where
  ex : ∃ (f : Addr) (fd : FuncData), Fun K x x st f fd ∧ mg x = some (.ref f)
theorem top_mk {h : Heap} {x : Str} {st : Stmt} {f : Addr} {oc : Value} {od an : Option Addr} {osl : Array (Option Value)} {kV doc pm cdv ct : Value} (X : K.In h) (G : h.Ns mainGlobals mg) (a : PySem.W.nsIn K mainGlobals x = some (some (.ref f)))
    (l : K.lookup f = some ⟨oc, od, .func (PySem.W.fnOf x x (defArgs st) (defBody st) (defScope st) .none kV doc pm an cdv ct), osl⟩) (c : PySem.W.codeIn K cdv x = true) (k : PySem.W.keepIn K (.ref f) = true) : Top K mg x st :=
  ⟨f, _, fun_mk l c k, PySem.W.mg_of X G a⟩
theorem fn_ok {x : Str} {st : Stmt} {N G ps : List Str} {k : Nat} {sp : Sp} (T : Top K mg x st) (S : FnScope N ps (defScope st)) (O : ScOk N G (defScope st)) (len : ∀ vs H Q E, sp vs H Q E → vs.length = ps.length)
    (hb : ∀ (kV doc pm : Value) (an : Option Addr) (cdv ct : Value) (us : List Value), us.length = ps.length → bindArgs (PySem.W.fnOf x x (defArgs st) (defBody st) (defScope st) .none kV doc pm an cdv ct) ⟨us, []⟩ = pure (ps.zip us))
    (hbody : ∀ (f : Addr) (cdv : Value) (A : Around) (outer : List Env) (s : Shared) (H : Hp) (vs : List V) (Q : VK) (E : XK), Room k (A.deeper (envOfC x (defScope st) s.heap.objs.size f cdv)) → sp vs H Q E → In (cxOf CX0 P w K mg base N x (defScope st) f cdv A outer s H E).nox N G (defScope st) →
      wL (cxOf CX0 P w K mg base N x (defScope st) f cdv A outer s H E).nox (defBody st) { nx := fun _ H' => Q .non H', rt := Q } (start N vs) H) : Fn P w K mg base (k + 1) x sp := by
  obtain ⟨f, fd, F, hm⟩ := T.ex
  exact ⟨f, fd, ps, F.ok S len (fun cdv A outer s H vs Q E hr h => ⟨_, pl, hbody f cdv A outer s H vs Q E hr h ⟨O, ⟨[], (List.append_nil _).symm⟩, S.nd, rfl, rfl, PassesOwn.never⟩⟩), hm, F.kp, F.binds hb⟩
/-- a method where the top has left it -/
structure TopM (K : PySem.W.Frag) (C : Addr) (x qual : Str) (st : Stmt) : Prop where
  ex : ∃ (f : Addr) (fd : FuncData), Fun K x qual st f fd ∧ PySem.W.findIn K (.ref C) x = some (some (.ref f)) ∧ PySem.W.isFn K (.ref f) = true
theorem topM_mk {x qual : Str} {st : Stmt} {C f : Addr} {oc : Value} {od an : Option Addr} {osl : Array (Option Value)} {kV doc pm cdv ct : Value} (a : PySem.W.findIn K (.ref C) x = some (some (.ref f))) (i : PySem.W.isFn K (.ref f) = true)
    (l : K.lookup f = some ⟨oc, od, .func (PySem.W.fnOf x qual (defArgs st) (defBody st) (defScope st) .none kV doc pm an cdv ct), osl⟩) (c : PySem.W.codeIn K cdv qual = true) (k : PySem.W.keepIn K (.ref f) = true) : TopM K C x qual st :=
  ⟨f, _, fun_mk l c k, a, i⟩
theorem me_ok {x qual : Str} {C : Addr} {st : Stmt} {N G ps : List Str} {k : Nat} {sp : Sp} (T : TopM K C x qual st) (S : FnScope N ps (defScope st)) (O : ScOk N G (defScope st)) (len : ∀ vs H Q E, sp vs H Q E → vs.length = ps.length)
    (hb : ∀ (kV doc pm : Value) (an : Option Addr) (cdv ct : Value) (us : List Value), us.length = ps.length → bindArgs (PySem.W.fnOf x qual (defArgs st) (defBody st) (defScope st) .none kV doc pm an cdv ct) ⟨us, []⟩ = pure (ps.zip us))
    (hbody : ∀ (f : Addr) (cdv : Value) (A : Around) (outer : List Env) (s : Shared) (H : Hp) (vs : List V) (Q : VK) (E : XK), Room k (A.deeper (envOfC qual (defScope st) s.heap.objs.size f cdv)) → sp vs H Q E → In (cxOf CX0 P w K mg base N qual (defScope st) f cdv A outer s H E).nox N G (defScope st) →
      wL (cxOf CX0 P w K mg base N qual (defScope st) f cdv A outer s H E).nox (defBody st) { nx := fun _ H' => Q .non H', rt := Q } (start N vs) H) :
    ∃ (f : Addr) (fd : FuncData), FnOk P w K mg base CX0 (k + 1) f fd ps sp ∧ Binds K fd ps [] ∧ PySem.W.findIn K (.ref C) x = some (some (.ref f)) ∧ PySem.W.isFn K (.ref f) = true ∧ PySem.W.keepIn K (.ref f) = true := by
  obtain ⟨f, fd, F, hf, hi⟩ := T.ex
  exact ⟨f, fd, F.ok S len (fun cdv A outer s H vs Q E hr h => ⟨_, pl, hbody f cdv A outer s H vs Q E hr h ⟨O, ⟨[], (List.append_nil _).symm⟩, S.nd, rfl, rfl, PassesOwn.never⟩⟩), F.binds hb, hf, hi, F.kp⟩
end
/-- a bool test that is decided by a fact -/
theorem ifT {c A B : Prop} [Decidable c] (hc : c) (h : A) : if decide c = true then A else B := by
  rw [decide_eq_true hc]
  exact iteT h
theorem ifF {c A B : Prop} [Decidable c] (hc : ¬ c) (h : B) : if decide c = true then A else B := by
  rw [decide_eq_false hc]
  exact iteF h
theorem if2 {c A B : Prop} [Decidable c] (h1 : c → A) (h2 : ¬ c → B) : if decide c = true then A else B := by
  by_cases h : c
  · exact ifT h (h1 h)
  · exact ifF h (h2 h)
theorem ite_t {c : Bool} {A B : Prop} (hc : c = true) (h : A) : if c = true then A else B := by
  rw [hc]
  exact iteT h
theorem ite_f {c : Bool} {A B : Prop} (hc : c = false) (h : B) : if c = true then A else B := by
  rw [hc]
  exact iteF h
section
variable {P : Program} {w : World} {K : PySem.W.Frag} {mg : Str → Option Value} {base : Heap}
theorem run_ok {x qual : Str} {st : Stmt} {N G ps : List Str} {k : Nat} {sp : Sp} {f : Addr} {fd : FuncData} (F : Fun K x qual st f fd) (S : FnScope N ps (defScope st)) (O : ScOk N G (defScope st)) (len : ∀ vs H Q E, sp vs H Q E → vs.length = ps.length)
    (hbody : ∀ (f : Addr) (cdv : Value) (A : Around) (outer : List Env) (s : Shared) (H : Hp) (vs : List V) (Q : VK) (E : XK), Room k (A.deeper (envOfC qual (defScope st) s.heap.objs.size f cdv)) → sp vs H Q E → In (cxOf CX0 P w K mg base N qual (defScope st) f cdv A outer s H E).nox N G (defScope st) →
      wL (cxOf CX0 P w K mg base N qual (defScope st) f cdv A outer s H E).nox (defBody st) { nx := fun _ H' => Q .non H', rt := Q } (start N vs) H) : FnOk P w K mg base CX0 (k + 1) f fd ps sp :=
  F.ok S len (fun cdv A outer s H vs Q E hr h => ⟨_, pl, hbody f cdv A outer s H vs Q E hr h ⟨O, ⟨[], (List.append_nil _).symm⟩, S.nd, rfl, rfl, PassesOwn.never⟩⟩)
end
end Wk

/-! My own layer, errors: an own class of errors with fields, raised, caught, asked. -/
namespace Wk
open PySem PySem.Spec PyProof.Rows L2
section
variable {X : Cx} {N G : List Str} {sc : Scope} {e o : Expr} {es : List Expr} {σ : L2.St} {H : Hp} {Q : VK} {pos p0 np : Pos}
theorem o_isN {x : V} (q : Q (.bl (decide (x = .non))) H) : wK X .Is x .non H Q := k_of op_isN ⟨rfl, q⟩
theorem o_nisB {a b : Bool} (q : Q (.bl (!decide (a = b))) H) : wK X .IsNot (.bl a) (.bl b) H Q := k_of op_isnot_bl ⟨a, b, rfl, rfl, q⟩
/-- a def of the module that may raise -/
structure FnX (P : Program) (w : World) (K : PySem.W.Frag) (mg : Str → Option Value) (base : Heap) (k : Nat) (x : Str) (sp : Sp) : Prop where
  ex : ∃ (f : Addr) (fd : FuncData) (ps : List Str), FnOk P w K mg base (L2.CX P w) k f fd ps sp ∧ mg x = some (.ref f) ∧ PySem.W.keepIn K (.ref f) = true ∧ Binds K fd ps []
theorem e_callX {g k n : Nat} {x : Str} {sp : Sp} {W : WX} (F : FnX X.prog X.w X.K X.mg X.base k x sp) (tk : Takes X W) (hr : Room n X.A) (hk : k ≤ n) (q : wA X (e :: es) σ H fun vs H1 => sp vs H1 Q (fun cls d H' => W cls d σ H'))
    (I : In X N G sc := by assumption) (hG : At G g x := by repeat (first | with_reducible apply At.z | with_reducible apply At.s)) (he : starEach (e :: es) X.env = (false, eval e X.env) :: starEach es X.env := by rfl) (hpl : (backTo pos (starEach es X.env)).any (·.1) = false := by rfl) :
    wE X (.Call (.Name x p0) (e :: es) [] pos) σ H Q := by
  obtain ⟨f, fd, ps, F0, hm, hkp, hb⟩ := F.ex
  refine e_of (pe_callSD (E := fun σ cls d H' => W cls d σ H') F0 (hr.mono hk) (I.g hG) hm hkp hb .nil (fun σ => passAt tk σ) pa (I.gd hG) he hpl) ?_
  show wA X (e :: es) σ H fun vs H1 => sp (vs ++ []) H1 Q (fun cls d H' => W cls d σ H')
  simp only [List.append_nil]
  exact q
/-- an own class of errors whose __init__ stores its one argument in the field f -/
def sp1 (C : Addr) (f : Str) : Sp := fun vs H Q _ => ∃ (a : Addr) (v : V), vs = [.ref a, v] ∧ H a = some (exo a C none) ∧ ∀ dx, H dx = none → dx ≠ a → Q .non (upd (upd H dx (exd dx [(f, v)])) a (exo a C (some dx)))
structure Er (P : Program) (w : World) (K : PySem.W.Frag) (mg : Str → Option Value) (base : Heap) (x : Str) (C : Addr) (f : Str) : Prop where
  o : OexC K C
  mgC : mg x = some (.ref C)
  ex : ∃ (fI : Addr) (fd : FuncData) (ps : List Str), FnOk P w K mg base CX0 1 fI fd ps (sp1 C f) ∧ PySem.W.findIn K (.ref C) "__init__" = some (some (.ref fI)) ∧ PySem.W.typeIn K (.ref fI) = some (.type "function") ∧ Binds K fd ps []
/-- self.f = e of an error that is being made -/
theorem s_ost {nx : L2.St → Hp → Prop} {rt : VK} {bk ct : L2.St → Hp → Prop} {f : Str} {value : Expr} {pos' : Pos} (q : wE X value σ H fun y H1 => wE X o σ H1 fun x H2 => ∃ a C : Addr, x = .ref a ∧ OexC X.K C ∧ PySem.W.findIn X.K (.ref C) f = some none ∧ H2 a = some (exo a C none) ∧ ∀ dx, H2 dx = none → dx ≠ a → nx σ (upd (upd H2 dx (exd dx [(f, y)])) a (exo a C (some dx))))
    (hs : swapsWith value (some (.Attribute o f pos')) pos.line X.env = pure false := by rfl) : wS X (.Assign [.Attribute o f pos'] value pos) ⟨nx, rt, bk, ct⟩ σ H :=
  s_of (ps_ost pe pe hs) (e_mono q fun y H1 z => e_mono z fun x H2 ⟨a, C, h1, h2, h3, h4, h5⟩ => ⟨a, C, h1, h2, h3, .inl ⟨h4, h5⟩⟩)
/-- raise C(e) -/
theorem s_raise1 {nx : L2.St → Hp → Prop} {rt : VK} {bk ct : L2.St → Hp → Prop} {g n : Nat} {x f : Str} {C : Addr} {W : WX} {pos' : Pos} (R : Er X.prog X.w X.K X.mg X.base x C f) (tk : Takes X W) (hr : Room n X.A) (hn : 2 ≤ n)
    (q : wE X e σ H fun v H1 => ∀ d H', Same H1 H' → H1 d = none → H' d = some (.xd [(f, v)]) → W (.ref C) (some d) σ H')
    (I : In X N G sc := by assumption) (hG : At G g x := by repeat (first | with_reducible apply At.z | with_reducible apply At.s)) (hc : X.calm = true := by rfl)
    (he : starEach (e :: []) X.env = (false, eval e X.env) :: starEach [] X.env := by rfl) (hpl : (backTo pos (starEach [] X.env)).any (·.1) = false := by rfl) :
    wS X (.Raise (some (.Call (.Name x p0) [e] [] pos)) none pos') ⟨nx, rt, bk, ct⟩ σ H := by
  obtain ⟨fI, fd, ps, F0, hi, ht, hb⟩ := R.ex
  refine s_of (ps_raise hc tk (pmk_oex R.o hi ht F0 (hr.mono hn) hb .nil pass0 (I.g hG) R.mgC pa (I.gd hG) he hpl)) ?_
  refine a_cons (e_mono q fun v H1 z => a_nil ⟨by show 1 ≤ 1000; decide, fun a na => ?_⟩) he
  refine ⟨a, v, rfl, upd_same, fun dx nd ne => ⟨rfl, dx, [(f, v)], upd_same, ?_, ?_, ?_⟩⟩
  · rw [upd_ne ne, upd_same]
  · rw [upd_ne ne] at nd
    exact nd
  · refine z dx _ (fun b u hb => ?_) (by rw [upd_ne ne] at nd; exact nd) upd_same
    have h1 : b ≠ a := ne_of_none hb na
    have h2 : b ≠ dx := ne_of_none hb (by rw [upd_ne ne] at nd; exact nd)
    rw [upd_ne h2, del_ne h1, upd_ne h1, upd_ne h2, upd_ne h1]
    exact hb
/-- the suite of an except clause -/
def tsS (X : Cx) (N G : List Str) (sc : Scope) (sts : List Stmt) : Addr → Value → Option Addr → TS := fun a cls d D σ H => ∀ (oe : Obj) (pn : List (Addr × Obj)), Zc cls d oe → (∃ vs, oe.data = .fields vs) → In (X.suite a ((a, oe) :: pn)) N G sc → wL (X.suite a ((a, oe) :: pn)) sts D σ H
theorem In.tr (I : In X N G sc) {pn : List (Addr × Obj)} {xe : Value → Shared → Prop} (h : PassesOwn (model X.prog X.w) X.A X.env xe) : In (X.tr pn xe) N G sc := ⟨I.ok, I.n, I.nd, I.sc, I.fn, h⟩
theorem In.suite (I : In X N G sc) {a : Addr} {pn : List (Addr × Obj)} : In (X.suite a pn) N G sc := ⟨I.ok, I.n, I.nd, I.sc, I.fn, PassesOwn.never⟩
/-- try: body, except x as n: suite -/
theorem s_tryAs {nx : L2.St → Hp → Prop} {rt : VK} {bk ct : L2.St → Hp → Prop} {i g : Nat} {x n : Str} {c : Value} {body suite : List Stmt} {b0 : Stmt} {pos' : Pos} {Wout : WX} (hm : X.mg x = some c) (tk : Takes X Wout)
    (q : ∀ (pn : List (Addr × Obj)) (xe : Value → Shared → Prop), Takes (X.tr pn xe) (wAs X.K c i (tsS X N G sc (b0 :: suite)) Wout ⟨nx, rt, bk, ct⟩) → In (X.tr pn xe) N G sc → wL (X.tr pn xe) body ⟨nx, rt, bk, ct⟩ σ H)
    (I : In X N G sc := by assumption) (hA : At N i n := by repeat (first | with_reducible apply At.z | with_reducible apply At.s)) (hG : At G g x := by repeat (first | with_reducible apply At.z | with_reducible apply At.s))
    (hln : X.env.kindOf n = some .local := by rfl) (hs : X.stack = X.env :: X.outer := by rfl) (hf : X.env.frame = some X.env.locals := by rfl) :
    wS X (.Try body [.ExceptHandler (some (.Name x np)) (some n) (b0 :: suite) pos'] [] [] pos) ⟨nx, rt, bk, ct⟩ σ H :=
  s_of (ps_try_as (tb := fun W D σ H => ∀ (pn : List (Addr × Obj)) (xe : Value → Shared → Prop), Takes (X.tr pn xe) W → In (X.tr pn xe) N G sc → wL (X.tr pn xe) body D σ H) hs hf I.nd (I.hi hA) hln ⟨I.g hG, I.gd hG, .inl hm⟩ tk
    (fun W pn xe tk' po => ⟨fun pins s σ H D Iv h => pl.run pins s σ H D Iv (h pn xe tk' (I.tr po))⟩)
    (fun a oe cls d pn hz hd => ⟨fun pins s σ H D Iv h => pl.run pins s σ H D Iv (h oe pn hz hd I.suite)⟩)) q
/-- what the class D must say, so that isinstance asks its errors rightly -/
structure EcC (K : PySem.W.Frag) (D : Addr) : Prop where
  cl : (PySem.W.clsIn K D).isSome = true
  hg : PySem.W.findIn K (.ref D) "__getattribute__" = some (some (.builtin "BaseException.__getattribute__"))
  hk : PySem.W.findIn K (.ref D) "__getattr__" = some none
  hs : PySem.W.subIn K (.ref D) (.type "BaseException") = some true
  ha : PySem.W.findIn K (.ref D) "__class__" = some (some (.builtin "object.__class__"))
  hn : PySem.W.specialIn K (.builtin "object.__class__") "__get__" = some (some (.builtin "getset_descriptor.__get__"))
  ht : PySem.W.takesIn K (.builtin "object.__class__") = some true
  hm : PySem.W.mroIn K D (.type "object") = some true
/-- the caught error at a stands as an instance -/
theorem inst_of {pins : List (Addr × Obj)} {s : Shared} {a D : Addr} {d : Option Addr} {oe : Obj} {pn : List (Addr × Obj)} {fs : List (Str × V)} (I : Inv (X.suite a ((a, oe) :: pn)) pins σ H s) (hz : Zc (.ref D) d oe) (hf : ∃ vs, oe.data = .fields vs)
    (hd : ∀ dd, d = some dd → H dd = some (.xd fs)) : ∃ od, PySem.W.InstAt s.heap a oe D od := by
  obtain ⟨hget, _⟩ := I.pin (a, oe) (List.mem_append.mpr (.inl List.mem_cons_self))
  obtain ⟨vs, hv⟩ := hf
  have nc : PySem.W.notCls oe := by unfold PySem.W.notCls; rw [hv] <;> trivial
  cases d with
  | none => exact ⟨none, hget, hz.1, nc, by rw [hz.2]; trivial⟩
  | some dd =>
    obtain ⟨mA, hns, _⟩ := (show ObjOk X.prog X.w H s.heap dd (.xd fs) from I.hok dd _ (hd dd rfl))
    obtain ⟨od, ho, _⟩ := lookIn_ns hns
    exact ⟨some od, hget, hz.1, nc, by rw [hz.2]; exact ho⟩
theorem c_isE {a D : Addr} {d : Option Addr} {oe : Obj} {pn : List (Addr × Obj)} {fs : List (Str × V)} {c : V} {cv : Value} {b : Bool} (C : EcC X.K D) (hz : Zc (.ref D) d oe) (hf : ∃ vs, oe.data = .fields vs) (hd : ∀ dd, d = some dd → H dd = some (.xd fs))
    (k : ClsV c cv) (e : PySem.W.kitOne X.K (.ref D) cv = some b) (q : Q (.bl b) H) : wC (X.suite a ((a, oe) :: pn)) (.builtin "isinstance") [.ref a, c] H Q := by
  unfold wC
  intro pins s σ us I r
  obtain ⟨u1, u2, rfl, r1, r2⟩ := vals2 r
  cases (show u1 = Value.ref a from r1)
  have ec := k.eq r2
  subst ec
  obtain ⟨od, J⟩ := inst_of I hz hf hd
  exact PySem.W.kia_one (PySem.W.kitx_exc (od := od) C.cl C.hg C.hk C.hs C.ha C.hn C.ht C.hm) I.kIn J e (fun z => nomatch z) fun tk => ⟨.bl b, H, I.tok tk, rfl, q⟩
theorem c_isET {a D tp : Addr} {d : Option Addr} {oe : Obj} {pn : List (Addr × Obj)} {fs : List (Str × V)} {cs : List V} {us' : List Value} {b : Bool} (C : EcC X.K D) (hz : Zc (.ref D) d oe) (hf : ∃ vs, oe.data = .fields vs) (hd : ∀ dd, d = some dd → H dd = some (.xd fs))
    (hT : H tp = some (.tup cs)) (k : Paired ClsV cs us') (e : PySem.W.kitAny X.K (.ref D) us' = some b) (q : Q (.bl b) H) : wC (X.suite a ((a, oe) :: pn)) (.builtin "isinstance") [.ref a, .ref tp] H Q := by
  unfold wC
  intro pins s σ us I r
  obtain ⟨u1, u2, rfl, r1, r2⟩ := vals2 r
  cases (show u1 = Value.ref a from r1)
  cases (show u2 = Value.ref tp from r2)
  obtain ⟨od, J⟩ := inst_of I hz hf hd
  obtain ⟨_, its, rv, o, h1, h2, n, h3⟩ := (show ObjOk X.prog X.w H s.heap tp (.tup cs) from I.hok tp _ hT)
  have e3 := ClsV.all k rv
  subst e3
  obtain ⟨oc, odd, dt, sl⟩ := o
  simp only at h2 h3
  subst h2 h3
  exact PySem.W.kia_tup (PySem.W.kitx_exc (od := od) C.cl C.hg C.hk C.hs C.ha C.hn C.ht C.hm) I.kIn J h1 e (fun z => nomatch z) fun tk => ⟨.bl b, H, I.tok tk, rfl, q⟩
/-- e.f of the caught error -/
theorem e_xf {a C : Addr} {oe : Obj} {d : Option Addr} {pn : List (Addr × Obj)} {f : Str} (T : XfC X.K C) (hno : PySem.W.findIn X.K (.ref C) f = some none) (hz : Zc (.ref C) d oe) (hf : ∃ vs, oe.data = .fields vs)
    (q : wE (X.suite a ((a, oe) :: pn)) e σ H fun x H1 => x = .ref a ∧ ∃ (dd : Addr) (fs : List (Str × V)) (v : V), d = some dd ∧ H1 dd = some (.xd fs) ∧ fs.lookup f = some v ∧ Q v H1) (hb : attributeBase e f X.env (eval e X.env) = eval e X.env := by rfl) :
    wE (X.suite a ((a, oe) :: pn)) (.Attribute e f pos) σ H Q := e_of (pe_xf T hno hz hf pe hb) (e_mono q fun x H1 z => ⟨z.1, rfl, z.2⟩)
end
section
variable {P : Program} {w : World} {K : PySem.W.Frag} {mg : Str → Option Value} {base : Heap}
theorem fn_okX {x : Str} {st : Stmt} {N G ps : List Str} {k : Nat} {sp : Sp} (T : Top K mg x st) (S : FnScope N ps (defScope st)) (O : ScOk N G (defScope st)) (len : ∀ vs H Q E, sp vs H Q E → vs.length = ps.length)
    (hb : ∀ (kV doc pm : Value) (an : Option Addr) (cdv ct : Value) (us : List Value), us.length = ps.length → bindArgs (PySem.W.fnOf x x (defArgs st) (defBody st) (defScope st) .none kV doc pm an cdv ct) ⟨us, []⟩ = pure (ps.zip us))
    (hbody : ∀ (f : Addr) (cdv : Value) (A : Around) (outer : List Env) (s : Shared) (H : Hp) (vs : List V) (Q : VK) (E : XK), Room k (A.deeper (envOfC x (defScope st) s.heap.objs.size f cdv)) → sp vs H Q E → In (cxOf (L2.CX P w) P w K mg base N x (defScope st) f cdv A outer s H E) N G (defScope st) →
      Takes (cxOf (L2.CX P w) P w K mg base N x (defScope st) f cdv A outer s H E) (fun cls d _ H => E cls d H) →
      wL (cxOf (L2.CX P w) P w K mg base N x (defScope st) f cdv A outer s H E) (defBody st) { nx := fun _ H' => Q .non H', rt := Q } (start N vs) H) : FnX P w K mg base (k + 1) x sp := by
  obtain ⟨f, fd, F, hm⟩ := T.ex
  exact ⟨f, fd, ps, F.okX S len (fun cdv A outer s H vs Q E hr h => ⟨_, pl, hbody f cdv A outer s H vs Q E hr h ⟨O, ⟨[], (List.append_nil _).symm⟩, S.nd, rfl, rfl, passes_of rfl⟩ (takes_of rfl rfl rfl rfl)⟩), hm, F.kp, F.binds hb⟩
end
end Wk

/-! My own layer, errors whose context is None: raised where nothing is handled, so that defs may be called in the suite that catches them. -/
namespace Wk
open PySem PySem.Spec PyProof.Rows L2
section
variable {X : Cx} {N G : List Str} {sc : Scope} {e o : Expr} {es : List Expr} {σ : L2.St} {H : Hp} {Q : VK} {pos p0 np : Pos}
/-- C(e) of a class whose __init__ stores one field: the made error's fields are known -/
theorem pmkN {n : Nat} {x f : Str} {C : Addr} (R : Er X.prog X.w X.K X.mg X.base x C f) (hr : Room n X.A) (hn : 2 ≤ n) (hg : Gl X x) (hdb : (x == ("__debug__" : Str)) = false)
    (he : starEach (e :: []) X.env = (false, eval e X.env) :: starEach [] X.env) (hpl : (backTo pos (starEach [] X.env)).any (·.1) = false) :
    L2N.PMk X (.Call (.Name x p0) [e] [] pos) (fun σ H Q => wE X e σ H fun v H1 => ∀ d H', Same H1 H' → H1 d = none → H' d = some (.xd [(f, v)]) → Q (.ref C) (some d) H') := by
  intro pins s σ H Q I h
  obtain ⟨fI, fd, ps, F0, hi, ht, hb⟩ := R.ex
  obtain ⟨_, _, _, _, bm, _, _, _, _, _, _, _, _, _, _, hC, hbm⟩ := R.o.cls
  refine wpAny_Call_Name_kw (ld_glob I hg R.mgC ?_ hdb)
  refine PySem.W.callWith_K (h₀ := X.base) I.ok.mod.kin R.o.kC (thn ((pa_cons pe pa_nil he).run pos pins s σ H (fun vs H1 => ∃ v, vs = [v] ∧ ∀ d H', Same H1 H' → H1 d = none → H' d = some (.xd [(f, v)]) → Q (.ref C) (some d) H') I (e_mono h fun v H1 z => ⟨v, rfl, z⟩)) fun us s1 ⟨vs, H1, I1, r1, v, ev, q1⟩ => ⟨I1.kIn, ?_⟩) he hpl
  subst ev
  show wpAny _ _ (call (.ref C) us) _ _ _
  obtain ⟨hp, g, dr, tk, os⟩ := s1
  have hget0 : ((hp.push (PySem.W.kdv_tup us)).push (PySem.HandSPX.excO C hp.objs.size)).get? (hp.objs.size + 1) = some (PySem.HandSPX.excO C hp.objs.size) := by heap_get
  let a := hp.objs.size + 1
  have na : H1 a = none := I1.hok.fresh (Nat.le_succ _)
  let hp2 := (hp.push (PySem.W.kdv_tup us)).push (PySem.HandSPX.excO C hp.objs.size)
  have kk : ∀ b o, hp.get? b = some o → hp2.get? b = some o := fun b o z => Heap.get?_push_of_some _ (Heap.get?_push_of_some _ z)
  have hget : hp2.get? a = some (PySem.HandSPX.excO C hp.objs.size) := hget0
  have I2 : Inv X pins σ (upd H1 a (exo a C none)) ⟨hp2, g, dr, tk, os⟩ := I1.laid (t' := tk) (h' := hp2) kk (Nat.le_succ _) (exo_ok hget)
  have r2 : Vals (V.ref a :: [v]) (Value.ref a :: us) := .cons rfl r1
  have lu : us.length = 1 := r1.length.symm
  -- what __init__ is asked for
  have hq : sp1 C f [.ref a, v] (upd H1 a (exo a C none)) (fun w H2 => w = .non ∧ ∃ d, H2 a = some (exo a C (some d)) ∧ H2 d = some (exd d [(f, v)]) ∧ H1 d = none ∧ Q (.ref C) (some d) (upd (del H2 a) d (.xd [(f, v)]))) (fun _ _ _ => False) := by
    refine ⟨a, v, rfl, upd_same, fun dx nd ne => ⟨rfl, dx, upd_same, by rw [upd_ne ne, upd_same], by rw [upd_ne ne] at nd; exact nd, ?_⟩⟩
    rw [upd_ne ne] at nd
    refine q1 dx _ (fun b u hb => ?_) nd upd_same
    have h1 : b ≠ a := ne_of_none hb na
    have h2 : b ≠ dx := ne_of_none hb nd
    rw [upd_ne h2, del_ne h1, upd_ne h1, upd_ne h2, upd_ne h1]
    exact hb
  have lp : (Value.ref a :: us).length = ps.length := by
    have z1 := r2.length
    rw [F0.len _ _ _ _ hq] at z1
    exact z1.symm
  have bind : BindsTo ⟨hp2, g, dr, tk, os⟩ fd ⟨Value.ref a :: us, []⟩ (ps.zip (Value.ref a :: us)) := by
    have z1 := hb ⟨hp2, g, dr, tk, os⟩ (Value.ref a :: us) I2.kIn (by rw [List.append_nil]; exact lp)
    rwa [List.append_nil] at z1
  have room : Room 1 (X.A.under (.builtin "type.__call__" ⟨.ref C :: us, []⟩)) := (hr.mono hn).make C us []
  have go := F0.run _ X.stack _ _ ⟨Value.ref a :: us, []⟩ (Value.ref a :: us) [V.ref a, v] _ (fun _ _ _ => False) room (I2.env0.make C us []) bind r2 hq
  refine wpAny_call (PySem.HandSPX.call_own F.excBase_ValueError (fun Y => PySem.HandSPX.refsVE_contains Y bm hbm) (I1.kIn _ _ hC) (PySem.W.looks_findIn I1.kIn hi) (fun self => PySem.W.bind_fn I1.kIn self ht) (by rw [lu, sizeLine_eq]; decide) (codeAny_mono go fun r s' back => ?_))
  cases r with
  | error er => exact False.elim back
  | ok fl =>
    cases fl with
    | ret u =>
      obtain ⟨w, H2, o2, b2, un2, ok2, rw2, ew, d, ea, ed, nd1, q2⟩ := back
      subst ew
      obtain ⟨h2, g2, d2, t2, os'⟩ := s'
      obtain ⟨t0, Gh, J, kG, ge, hoe, nH⟩ := mk_end0 (d2 := d2) (t2 := t2) I1 (Nat.le_succ _) kk un2 ok2 o2 b2 ea ed nd1
      refine ⟨rw2, a, _, #[.ref t0, .none, .none, .none, .bool false, .none], ⟨Gh, g2, d2, t2, os'⟩, _, .ref C, some d, rfl, J, kG, ge, hoe, ⟨rfl, rfl, ?_⟩, rfl, rfl, nH, rfl, b2, raises_own R.o.exC R.o.tyC, q2⟩
      intro vs z
      cases z
      rfl
    | next => exact False.elim back
    | brk => exact False.elim back
    | cont => exact False.elim back

theorem e_dict (q : ∀ p H2, Same H H2 → H p = none → H2 p = some (.dK []) → Q (.ref p) H2) : wE X (.Dict [] [] pos) σ H Q :=
  e_of pe_dnewK fun p np => q p _ (fun b u eo => by rw [upd_ne (ne_of_none eo np)]; exact eo) np upd_same
theorem e_neg {a : Expr} (q : wE X a σ H fun x H1 => ∃ i, x = .int i ∧ Q (.int (-i)) H1) : wE X (.UnaryOp .USub a pos) σ H Q := e_of (pe_un un_neg pe) q
theorem o_cat {l b : Addr} {xs zs : List V} (h1 : H l = some (.lst xs)) (h2 : H b = some (.lst zs)) (hz : xs.length + zs.length ≤ sizeLine) (q : ∀ p H2, Same H H2 → H2 p = some (.lst (xs ++ zs)) → Q (.ref p) H2) : wB X .Add (.ref l) (.ref b) H Q :=
  b_of op_cat ⟨l, b, xs, zs, rfl, rfl, h1, h2, hz, fun p np => q p _ (fun c u eo => by rw [upd_ne (ne_of_none eo np)]; exact eo) upd_same⟩
theorem c_str {i : Int} (hl : i.natAbs.log2 < 1920) (q : Q (.str (toString i)) H) : wC X (.type "str") [.int i] H Q := c_of call_str_int ⟨i, rfl, hl, q⟩
theorem o_isB {a b : Bool} (q : Q (.bl (decide (a = b))) H) : wK X .Is (.bl a) (.bl b) H Q := k_of op_is_bl ⟨a, b, rfl, rfl, q⟩
/-- raise C(e), where nothing is handled -/
theorem s_raiseN {nx : L2.St → Hp → Prop} {rt : VK} {bk ct : L2.St → Hp → Prop} {g n : Nat} {x f : Str} {C : Addr} {W : WX} {pos' : Pos} (R : Er X.prog X.w X.K X.mg X.base x C f) (tk : L2N.Takes X W) (hr : Room n X.A) (hn : 2 ≤ n)
    (q : wE X e σ H fun v H1 => ∀ d H', Same H1 H' → H1 d = none → H' d = some (.xd [(f, v)]) → W (.ref C) (some d) σ H')
    (I : In X N G sc := by assumption) (hG : At G g x := by repeat (first | with_reducible apply At.z | with_reducible apply At.s)) (hc : X.calm = true := by rfl)
    (he : starEach (e :: []) X.env = (false, eval e X.env) :: starEach [] X.env := by rfl) (hpl : (backTo pos (starEach [] X.env)).any (·.1) = false := by rfl) :
    wS X (.Raise (some (.Call (.Name x p0) [e] [] pos)) none pos') ⟨nx, rt, bk, ct⟩ σ H :=
  s_of (L2N.ps_raise hc tk (pmkN R hr hn (I.g hG) (I.gd hG) he hpl)) q
/-- a def of the module that may raise so -/
structure FnN (P : Program) (w : World) (K : PySem.W.Frag) (mg : Str → Option Value) (base : Heap) (k : Nat) (x : Str) (sp : Sp) : Prop where
  ex : ∃ (f : Addr) (fd : FuncData) (ps : List Str), FnOk P w K mg base (L2N.CX P w) k f fd ps sp ∧ mg x = some (.ref f) ∧ PySem.W.keepIn K (.ref f) = true ∧ Binds K fd ps []
theorem e_callN {g k n : Nat} {x : Str} {sp : Sp} {W : WX} (F : FnN X.prog X.w X.K X.mg X.base k x sp) (tk : L2N.Takes X W) (hr : Room n X.A) (hk : k ≤ n) (q : wA X (e :: es) σ H fun vs H1 => sp vs H1 Q (fun cls d H' => W cls d σ H'))
    (I : In X N G sc := by assumption) (hG : At G g x := by repeat (first | with_reducible apply At.z | with_reducible apply At.s)) (he : starEach (e :: es) X.env = (false, eval e X.env) :: starEach es X.env := by rfl) (hpl : (backTo pos (starEach es X.env)).any (·.1) = false := by rfl) :
    wE X (.Call (.Name x p0) (e :: es) [] pos) σ H Q := by
  obtain ⟨f, fd, ps, F0, hm, hkp, hb⟩ := F.ex
  refine e_of (pe_callSD (E := fun σ cls d H' => W cls d σ H') F0 (hr.mono hk) (I.g hG) hm hkp hb .nil (fun σ => L2N.passAt tk σ) pa (I.gd hG) he hpl) ?_
  show wA X (e :: es) σ H fun vs H1 => sp (vs ++ []) H1 Q (fun cls d H' => W cls d σ H')
  simp only [List.append_nil]
  exact q
/-- the suite of an except clause that catches such an error -/
def tsN (X : Cx) (N G : List Str) (sc : Scope) (sts : List Stmt) : Addr → Value → Option Addr → TS := fun a cls d D σ H => ∀ (oe : Obj) (pn : List (Addr × Obj)), Zc cls d oe → (∃ vs, oe.data = .fields vs) → In (X.suite a ((a, oe) :: pn)) N G sc → L2H.HotC (X.suite a ((a, oe) :: pn)) → wL (X.suite a ((a, oe) :: pn)) sts D σ H
theorem s_tryN {nx : L2.St → Hp → Prop} {rt : VK} {bk ct : L2.St → Hp → Prop} {i g : Nat} {x n : Str} {c : Value} {body suite : List Stmt} {b0 : Stmt} {pos' : Pos} {Wout : WX} (hm : X.mg x = some c) (tk : L2N.Takes X Wout)
    (q : ∀ (pn : List (Addr × Obj)) (xe : Value → Shared → Prop), L2N.Takes (X.tr pn xe) (wAs X.K c i (tsN X N G sc (b0 :: suite)) Wout ⟨nx, rt, bk, ct⟩) → In (X.tr pn xe) N G sc → wL (X.tr pn xe) body ⟨nx, rt, bk, ct⟩ σ H)
    (I : In X N G sc := by assumption) (hA : At N i n := by repeat (first | with_reducible apply At.z | with_reducible apply At.s)) (hG : At G g x := by repeat (first | with_reducible apply At.z | with_reducible apply At.s))
    (hln : X.env.kindOf n = some .local := by rfl) (hs : X.stack = X.env :: X.outer := by rfl) (hf : X.env.frame = some X.env.locals := by rfl) :
    wS X (.Try body [.ExceptHandler (some (.Name x np)) (some n) (b0 :: suite) pos'] [] [] pos) ⟨nx, rt, bk, ct⟩ σ H :=
  s_of (L2N.ps_try_as (tb := fun W D σ H => ∀ (pn : List (Addr × Obj)) (xe : Value → Shared → Prop), L2N.Takes (X.tr pn xe) W → In (X.tr pn xe) N G sc → wL (X.tr pn xe) body D σ H) hs hf I.nd (I.hi hA) hln ⟨I.g hG, I.gd hG, .inl hm⟩ tk
    (fun W pn xe tk' po => ⟨fun pins s σ H D Iv h => pl.run pins s σ H D Iv (h pn xe tk' (I.tr po))⟩)
    (fun a oe cls d pn hz hd => ⟨fun pins s σ H D Iv h => pl.run pins s σ H D Iv (h oe pn hz.zc hd I.suite (by
      obtain ⟨vs, hv⟩ := hd
      exact ⟨(a, oe), ⟨rfl, vs, hv, hz.2.2 vs hv⟩, List.mem_cons_self⟩))⟩)) q
theorem takesN0 : L2N.Takes X (fun _ _ _ _ => False) := fun _ _ x => by
  obtain ⟨_, _, _, _, _, _, _, _, _, _, _, _, _, _, _, _, z⟩ := x
  exact z.elim
/-- a def that is called where an error is handled -/
structure FnHt (P : Program) (w : World) (K : PySem.W.Frag) (mg : Str → Option Value) (base : Heap) (k : Nat) (x : Str) (sp : Sp) : Prop where
  ex : ∃ (f : Addr) (fd : FuncData) (ps : List Str), L2H.FnH P w K mg base CX0 k f fd ps sp ∧ mg x = some (.ref f) ∧ PySem.W.keepIn K (.ref f) = true ∧ Binds K fd ps []
theorem e_callH {g k n : Nat} {x : Str} {sp : Sp} (F : FnHt X.prog X.w X.K X.mg X.base k x sp) (hr : L2H.RoomH n X.A) (hk : k ≤ n) (hh : L2H.HotC X) (q : wA X (e :: es) σ H fun vs H1 => sp vs H1 Q E0)
    (I : In X N G sc := by assumption) (hG : At G g x := by repeat (first | with_reducible apply At.z | with_reducible apply At.s)) (he : starEach (e :: es) X.env = (false, eval e X.env) :: starEach es X.env := by rfl) (hpl : (backTo pos (starEach es X.env)).any (·.1) = false := by rfl) :
    wE X (.Call (.Name x p0) (e :: es) [] pos) σ H Q := by
  obtain ⟨f, fd, ps, F0, hm, hkp, hb⟩ := F.ex
  exact e_of (L2H.pe_callH (E := fun _ => E0) F0 (hr.mono hk) hh (I.g hG) hm hkp hb (fun σ pins H s e s' I z => z.elim) pa (I.gd hG) he hpl) q
end
section
variable {P : Program} {w : World} {K : PySem.W.Frag} {mg : Str → Option Value} {base : Heap}
theorem fn_okN {x : Str} {st : Stmt} {N G ps : List Str} {k : Nat} {sp : Sp} (T : Top K mg x st) (S : FnScope N ps (defScope st)) (O : ScOk N G (defScope st)) (len : ∀ vs H Q E, sp vs H Q E → vs.length = ps.length)
    (hb : ∀ (kV doc pm : Value) (an : Option Addr) (cdv ct : Value) (us : List Value), us.length = ps.length → bindArgs (PySem.W.fnOf x x (defArgs st) (defBody st) (defScope st) .none kV doc pm an cdv ct) ⟨us, []⟩ = pure (ps.zip us))
    (hbody : ∀ (f : Addr) (cdv : Value) (A : Around) (outer : List Env) (s : Shared) (H : Hp) (vs : List V) (Q : VK) (E : XK), Room k (A.deeper (envOfC x (defScope st) s.heap.objs.size f cdv)) → sp vs H Q E → In (cxOf (L2N.CX P w) P w K mg base N x (defScope st) f cdv A outer s H E) N G (defScope st) →
      L2N.Takes (cxOf (L2N.CX P w) P w K mg base N x (defScope st) f cdv A outer s H E) (fun cls d _ H => E cls d H) →
      wL (cxOf (L2N.CX P w) P w K mg base N x (defScope st) f cdv A outer s H E) (defBody st) { nx := fun _ H' => Q .non H', rt := Q } (start N vs) H) : FnN P w K mg base (k + 1) x sp := by
  obtain ⟨f, fd, F, hm⟩ := T.ex
  obtain ⟨oc, od, kV, doc, pm, an, cdv, ct, osl, rfl, lk, hcd⟩ := id F.ex
  exact ⟨f, _, ps, fn_of lk hcd S len (fun A outer s H vs Q E hr h => ⟨_, pl, hbody f cdv A outer s H vs Q E hr h ⟨O, ⟨[], (List.append_nil _).symm⟩, S.nd, rfl, rfl, passes_of rfl⟩ (L2N.takes_of rfl rfl rfl rfl)⟩), hm, F.kp, F.binds hb⟩
theorem fn_okH {x : Str} {st : Stmt} {N G ps : List Str} {k : Nat} {sp : Sp} (T : Top K mg x st) (S : FnScope N ps (defScope st)) (O : ScOk N G (defScope st)) (len : ∀ vs H Q E, sp vs H Q E → vs.length = ps.length)
    (hb : ∀ (kV doc pm : Value) (an : Option Addr) (cdv ct : Value) (us : List Value), us.length = ps.length → bindArgs (PySem.W.fnOf x x (defArgs st) (defBody st) (defScope st) .none kV doc pm an cdv ct) ⟨us, []⟩ = pure (ps.zip us))
    (hbody : ∀ (f : Addr) (cdv : Value) (A : Around) (outer : List Env) (s : Shared) (H : Hp) (vs : List V) (Q : VK) (E : XK) (p : Addr × Obj), L2H.RoomH k (A.deeper (envOfC x (defScope st) s.heap.objs.size f cdv)) → sp vs H Q E → In (L2H.cxH CX0 P w K mg base N x (defScope st) f cdv A outer s H E p).nox N G (defScope st) →
      wL (L2H.cxH CX0 P w K mg base N x (defScope st) f cdv A outer s H E p).nox (defBody st) { nx := fun _ H' => Q .non H', rt := Q } (start N vs) H) : FnHt P w K mg base (k + 1) x sp := by
  obtain ⟨f, fd, F, hm⟩ := T.ex
  obtain ⟨oc, od, kV, doc, pm, an, cdv, ct, osl, rfl, lk, hcd⟩ := id F.ex
  exact ⟨f, _, ps, L2H.fn_ofH lk hcd S len (fun A outer s H vs Q E p hot hr h => ⟨_, PSs.nox pl, hbody f cdv A outer s H vs Q E p hr h ⟨O, ⟨[], (List.append_nil _).symm⟩, S.nd, rfl, rfl, PassesOwn.never⟩⟩), hm, F.kp, F.binds hb⟩
end
end Wk

/-! My own layer, texts: chains of comparisons, order and length of texts, a sign of a text, a loop over a text. -/
namespace Wk
open PySem PySem.Spec PyProof.Rows L2
section
variable {X : Cx} {N G : List Str} {sc : Scope} {a b c e : Expr} {es : List Expr} {σ : L2.St} {H : Hp} {Q : VK} {pos : Pos} {QT : Bool → Hp → Prop}
theorem e_chain {op op' : CmpOp} (q : wE X a σ H fun x H1 => wE X b σ H1 fun y H2 => wK X op x y H2 fun z H3 => ∃ k, z = .bl k ∧ (if k = true then wE X c σ H3 fun w H4 => wK X op' y w H4 Q else Q (.bl false) H3)) (hm : lastMarks [op, op'] [b, c] = false := by with_unfolding_all rfl) :
    wE X (.Compare a [op, op'] [b, c] pos) σ H Q := e_of (pe_chain opk opk pe pe pe hm) q
theorem t_chain {op op' : CmpOp} (q : wE X a σ H fun x H1 => wE X b σ H1 fun y H2 => wK X op x y H2 fun z H3 => ∃ k, z = .bl k ∧ (if k = true then wE X c σ H3 fun w H4 => wK X op' y w H4 fun z H5 => ∃ k, z = .bl k ∧ QT k H5 else ∃ k, V.bl false = .bl k ∧ QT k H3)) (hm : lastMarks [op, op'] [b, c] = false := by with_unfolding_all rfl) :
    wT X (.Compare a [op, op'] [b, c] pos) σ H QT := t_of (pt_chain opk opk pe pe pe hm) q
/-- one sign -/
abbrev sg (c : Nat) : Str := ⟨#[c]⟩
theorem lt1 (c d : Nat) : (([c] : List Nat) < [d]) ↔ c < d := by
  constructor
  · intro h
    cases h with
    | rel h => exact h
    | cons h => cases h
  · exact fun h => .rel h
theorem o_le1 {c d : Nat} (q : Q (.bl (decide (c ≤ d))) H) : wK X .LtE (.str (sg c)) (.str (sg d)) H Q := by
  refine k_of op_le_str ⟨sg c, sg d, rfl, rfl, ?_⟩
  have e1 : (!decide (([d] : List Nat) < [c])) = decide (c ≤ d) := by
    by_cases h : c ≤ d
    · have h2 : ¬ (([d] : List Nat) < [c]) := fun z => absurd ((lt1 d c).mp z) (by omega)
      rw [decide_eq_true h, decide_eq_false h2]
      rfl
    · have h2 : ([d] : List Nat) < [c] := (lt1 d c).mpr (by omega)
      rw [decide_eq_false h, decide_eq_true h2]
      rfl
  show Q (.bl (!decide (([d] : List Nat) < [c]))) H
  rw [e1]
  exact q
theorem c_lenS {z : Str} (h : z.length ≤ sizeLine) (q : Q (.int (z.length : Int)) H) : wC X (.builtin "len") [.str z] H Q := c_of call_len ⟨.str z, z.length, rfl, ⟨h, rfl⟩, q⟩
theorem ix_s {z : Str} {i : Int} {c : Nat} (h : z.length ≤ sizeLine) (e : atI z.cps.toList i = some c) (q : Q (.str (sg c)) H) : wIx X (.str z) (.int i) H Q := ix_of ix_str ⟨z, i, c, rfl, rfl, h, e, q⟩
theorem s_forS {nx : L2.St → Hp → Prop} {rt : VK} {bk ct : L2.St → Hp → Prop} {x : Str} {i : Nat} {body : List Stmt} {px : Pos}
    (q : wE X a σ H fun v H1 => ∃ z : Str, v = .str z ∧ ∃ Pv : Nat → L2.St → Hp → Prop, Pv 0 σ H1 ∧ (∀ k c σ H, z.cps[k]? = some c → Pv k σ H → wL X body ⟨Pv (k + 1), rt, nx, Pv (k + 1)⟩ (σ.set i (some (.str (sg c)))) H) ∧ ∀ σ H, Pv z.cps.size σ H → nx σ H)
    (I : In X N G sc := by assumption) (hc : X.calm = true := by rfl) (hA : At N i x := by repeat (first | with_reducible apply At.z | with_reducible apply At.s)) (hs2 : ∀ z, foldedSetIterable a X.env z = pure z := by intro _; rfl) :
    wS X (.For (.Name x px) a body [] pos) ⟨nx, rt, bk, ct⟩ σ H := by
  refine s_of (ps_for I.never hc (pi_str pe) (pg_name I.nd (I.hi hA) (I.loc hA) I.f) pl hs2) (e_mono q fun v H1 q1 => ?_)
  obtain ⟨z, rfl, Pv, h0, hb, hd⟩ := q1
  refine ⟨z, rfl, fun k m σ H => m = z.cps.size - k ∧ k ≤ z.cps.size ∧ Pv k σ H, ⟨z.cps.size, by simp, Nat.zero_le _, h0⟩, ?_⟩
  rintro k m σ H ⟨rfl, hk, p⟩
  by_cases hlt : k < z.cps.size
  · refine .inr ⟨hlt, Pv (k + 1), fun σ' H' p' => ⟨z.cps.size - (k + 1), by omega, rfl, hlt, p'⟩, fun y H' hy => ?_⟩
    obtain ⟨rfl, c, hc', rfl⟩ := hy
    exact hb k c σ _ hc' p
  · have e : k = z.cps.size := by omega
    subst e
    exact .inl ⟨Nat.le_refl _, hd σ H p⟩
end
end Wk

/-! My own layer, comprehensions with their own names, and ground terms: what only makes new objects, over facts that last. -/
namespace Wk
open PySem PySem.Spec PyProof.Rows L2
section
variable {P : Program} {w : World} {K : PySem.W.Frag} {mg : Str → Option Value} {base : Heap}
/-- a def with further slots C for the names of its comprehensions -/
theorem fn_okC {x : Str} {st : Stmt} {N C G ps : List Str} {k : Nat} {sp : Sp} (T : Top K mg x st) (S : FnScope (N ++ C) ps (defScope st)) (O : ScOk N G (defScope st)) (len : ∀ vs H Q E, sp vs H Q E → vs.length = ps.length)
    (hb : ∀ (kV doc pm : Value) (an : Option Addr) (cdv ct : Value) (us : List Value), us.length = ps.length → bindArgs (PySem.W.fnOf x x (defArgs st) (defBody st) (defScope st) .none kV doc pm an cdv ct) ⟨us, []⟩ = pure (ps.zip us))
    (hbody : ∀ (f : Addr) (cdv : Value) (A : Around) (outer : List Env) (s : Shared) (H : Hp) (vs : List V) (Q : VK) (E : XK), Room k (A.deeper (envOfC x (defScope st) s.heap.objs.size f cdv)) → sp vs H Q E → In (cxOf CX0 P w K mg base (N ++ C) x (defScope st) f cdv A outer s H E).nox N G (defScope st) →
      wL (cxOf CX0 P w K mg base (N ++ C) x (defScope st) f cdv A outer s H E).nox (defBody st) { nx := fun _ H' => Q .non H', rt := Q } (start (N ++ C) vs) H) : Fn P w K mg base (k + 1) x sp := by
  obtain ⟨f, fd, F, hm⟩ := T.ex
  exact ⟨f, fd, ps, F.ok S len (fun cdv A outer s H vs Q E hr h => ⟨_, pl, hbody f cdv A outer s H vs Q E hr h ⟨O, ⟨C, rfl⟩, S.nd, rfl, rfl, PassesOwn.never⟩⟩), hm, F.kp, F.binds hb⟩
end
/-! ### blocks -/
instance visDec {sc : Scope} {x : Str} : Decidable (Vis sc x) := inferInstanceAs (Decidable (_ ∨ _))
/-- the names of a comprehension's block: the seen ones with their slots, the global ones, its own at slot i -/
structure BkOk (N : List Str) (Vn : List (Nat × Str)) (G : List Str) (i : Nat) (x : Str) (sc scope : Scope) : Prop where
  lo : ∀ p ∈ Vn, N[p.1]? = some p.2 ∧ Vis (relS scope sc) p.2 ∧ (p.2 == ("__debug__" : Str)) = false ∧ (p.2 == ("__classdict__" : Str)) = false
  gl : ∀ x ∈ G, (relS scope sc).names.lookup x = some .globalImplicit ∧ (x == ("__debug__" : Str)) = false ∧ x ≠ "__name__"
  own : N[i]? = some x ∧ (relS scope sc).names.lookup x = some .local
  blk : blkC N sc scope [(x, i)] = true
structure InB (X : Cx) (Vn : List (Nat × Str)) (G : List Str) : Prop where
  nd : X.N.Nodup
  lo : ∀ p ∈ Vn, X.N[p.1]? = some p.2 ∧ Vis X.env.scope p.2 ∧ (p.2 == ("__debug__" : Str)) = false ∧ (p.2 == ("__classdict__" : Str)) = false
  gl : ∀ x ∈ G, Gl X x ∧ (x == ("__debug__" : Str)) = false ∧ x ≠ "__name__"
abbrev Bk (X : Cx) (s : Shared) (H : Hp) (scope : Scope) (C : Addr) (cl : List (Str × Addr)) (fp : List Addr) : Cx := X.blk s H scope (compEnvC scope cl C X.env) fp
section
variable {X : Cx} {e a b c elt : Expr} {es rest : List Expr} {σ : L2.St} {H : Hp} {Q : VK} {pos p0 : Pos} {N G G' : List Str} {Vn : List (Nat × Str)} {sc scope : Scope}
theorem rel_eq (h : X.env.scope = sc) (C : Addr) (cl : List (Str × Addr)) : (compEnvC scope cl C X.env).scope = relS scope sc := by
  subst h
  rfl
theorem BkOk.inB {i : Nat} {x : Str} (B : BkOk X.N Vn G' i x sc scope) (I : In X N G sc) (s : Shared) (H : Hp) (C : Addr) (cl : List (Str × Addr)) (fp : List Addr) : InB (Bk X s H scope C cl fp) Vn G' := by
  have e : (compEnvC scope cl C X.env).scope = relS scope sc := rel_eq I.sc C cl
  refine ⟨I.nd, fun p hp => ?_, fun y hy => ?_⟩
  · obtain ⟨h1, h2, h3, h4⟩ := B.lo p hp
    exact ⟨h1, by show Vis (compEnvC scope cl C X.env).scope p.2; rw [e]; exact h2, h3, h4⟩
  · obtain ⟨h1, h2, h3⟩ := B.gl y hy
    exact ⟨by show (compEnvC scope cl C X.env).scope.names.lookup y = _; rw [e]; exact h1, h2, h3⟩
theorem BkOk.pg {i : Nat} {x : Str} {px : Pos} (B : BkOk X.N Vn G' i x sc scope) (I : In X N G sc) (s : Shared) (H : Hp) (C : Addr) (cl : List (Str × Addr)) (fp : List Addr) : PG (Bk X s H scope C cl fp) (.Name x px) (gName i) := by
  have e : (compEnvC scope cl C X.env).scope = relS scope sc := rel_eq I.sc C cl
  have l : (Bk X s H scope C cl fp).env.scope.names.lookup x = some .local := by
    show (compEnvC scope cl C X.env).scope.names.lookup x = _
    rw [e]
    exact B.own.2
  exact pg_name I.nd B.own.1 (.inl l) (.inr l)
theorem BkOk.ok {i : Nat} {x : Str} (B : BkOk X.N Vn G' i x sc scope) (I : In X N G sc) : BlkOk X.N X.env.scope scope [(x, i)] := by
  rw [I.sc]
  exact blkOk_by B.blk
theorem InB.g (I : InB X Vn G) {i : Nat} {x : Str} (h : At G i x) : Gl X x := (I.gl x h.mem).1
theorem InB.gd (I : InB X Vn G) {i : Nat} {x : Str} (h : At G i x) : (x == ("__debug__" : Str)) = false := (I.gl x h.mem).2.1
theorem InB.gn (I : InB X Vn G) {i : Nat} {x : Str} (h : At G i x) : x ≠ "__name__" := (I.gl x h.mem).2.2
theorem b_var {j i : Nat} {x : Str} {v : V} (q : Q v H) (I : InB X Vn G := by assumption) (hA : At Vn j (i, x) := by repeat (first | with_reducible apply At.z | with_reducible apply At.s)) (hσ : σ[i]? = some (some v) := by exact rfl) : wE X (.Name x pos) σ H Q :=
  e_of (pe_var (I.lo _ hA.mem).1 (I.lo _ hA.mem).2.1 (I.lo _ hA.mem).2.2.1 (I.lo _ hA.mem).2.2.2) ⟨v, hσ, q⟩
theorem b_call {g : Nat} {k n : Nat} {x : Str} {sp : Sp} (F : Fn X.prog X.w X.K X.mg X.base k x sp) (hr : Room n X.A) (hk : k ≤ n) (q : wA X (e :: es) σ H fun vs H1 => sp vs H1 Q E0) (I : InB X Vn G := by assumption) (hG : At G g x := by repeat (first | with_reducible apply At.z | with_reducible apply At.s))
    (he : starEach (e :: es) X.env = (false, eval e X.env) :: starEach es X.env := by rfl) (hpl : (backTo pos (starEach es X.env)).any (·.1) = false := by rfl) : wE X (.Call (.Name x p0) (e :: es) [] pos) σ H Q := by
  obtain ⟨f, fd, ps, F0, hm, hkp, hb⟩ := F.ex
  refine e_of (pe_call F0 (hr.mono hk) (I.g hG) hm hkp hb .nil pass0 pa (I.gd hG) he hpl) ?_
  show wA X (e :: es) σ H fun vs H1 => sp (vs ++ []) H1 Q E0
  simp only [List.append_nil]
  exact q
theorem b_callB {g : Nat} {x : Str} {id : String} (hm : X.mg x = none) (hv : bootBuiltins x = some (.builtin id)) (q : wA X (e :: es) σ H fun vs H1 => wC X (.builtin id) vs H1 Q) (I : InB X Vn G := by assumption) (hG : At G g x := by repeat (first | with_reducible apply At.z | with_reducible apply At.s))
    (he : starEach (e :: es) X.env = (false, eval e X.env) :: starEach es X.env := by rfl) (hpl : (backTo pos (starEach es X.env)).any (·.1) = false := by rfl) : wE X (.Call (.Name x p0) (e :: es) [] pos) σ H Q := e_of (pe_callB cr (I.g hG) hm hv pa (I.gn hG) (I.gd hG) he hpl) q
theorem b_glob {g : Nat} {x : Str} {v : V} {u : Value} (hm : X.mg x = some u) (r : RelV v u) (q : Q v H) (I : InB X Vn G := by assumption) (hG : At G g x := by repeat (first | with_reducible apply At.z | with_reducible apply At.s)) : wE X (.Name x pos) σ H Q := e_of (pe_glob (I.g hG) hm r (I.gd hG)) q
theorem wipe1 (σ : L2.St) (i : Nat) : wipe σ [i] = σ.set i none := rfl
theorem wipe_set (σ : L2.St) (i : Nat) (v : L2.V) : wipe ((wipe σ [i]).set i (some v)) [i] = wipe σ [i] := by
  simp [wipe1, List.set_set]
/-- what the turns of a comprehension ask: over range(n) -/
def LcR (X : Cx) (Vn : List (Nat × Str)) (G' : List Str) (elt : Expr) (scope : Scope) (i n : Nat) (D : Addr) (σ : L2.St) (H1 : Hp) (Qd : Hp → Prop) : Prop := ∃ Pv : Nat → Hp → Prop, Pv 0 (upd H1 D (.lst [])) ∧
  (∀ k H2, k < n → Pv k H2 → ∀ s0 H0 C cl fp, InB (Bk X s0 H0 scope C cl fp) Vn G' → wE (Bk X s0 H0 scope C cl fp) elt ((wipe σ [i]).set i (some (.int (k : Int)))) H2 fun y H4 => ∃ acc, H4 D = some (.lst acc) ∧ acc.length < sizeLine ∧ Pv (k + 1) (upd H4 D (.lst (acc ++ [y])))) ∧
  ∀ H2, Pv n H2 → Qd H2
/-- .. over a list that stays -/
def LcL (X : Cx) (Vn : List (Nat × Str)) (G' : List Str) (elt : Expr) (scope : Scope) (i : Nat) (ad : Addr) (xs : List L2.V) (D : Addr) (σ : L2.St) (H1 : Hp) (Qd : Hp → Prop) : Prop := ∃ Pv : Nat → Hp → Prop, Pv 0 (upd H1 D (.lst [])) ∧ (∀ k H2, k ≤ xs.length → Pv k H2 → SqL X.K H2 ad xs) ∧
  (∀ k x H2, xs[k]? = some x → Pv k H2 → ∀ s0 H0 C cl fp, InB (Bk X s0 H0 scope C cl fp) Vn G' → wE (Bk X s0 H0 scope C cl fp) elt ((wipe σ [i]).set i (some x)) H2 fun y H4 => ∃ acc, H4 D = some (.lst acc) ∧ acc.length < sizeLine ∧ Pv (k + 1) (upd H4 D (.lst (acc ++ [y])))) ∧
  ∀ H2, Pv xs.length H2 → Qd H2
/-- the turn's reading, where the block may run anywhere -/
@[irreducible] def wBk (X : Cx) (Vn : List (Nat × Str)) (G' : List Str) (elt : Expr) (scope : Scope) : TE := fun σ H Q => ∀ s0 H0 C cl fp, InB (Bk X s0 H0 scope C cl fp) Vn G' → wE (Bk X s0 H0 scope C cl fp) elt σ H Q
theorem pe_bk {s0 : Shared} {H0 : Hp} {C : Addr} {cl : List (Str × Addr)} {fp : List Addr} (I : InB (Bk X s0 H0 scope C cl fp) Vn G') : PE (Bk X s0 H0 scope C cl fp) elt (wBk X Vn G' elt scope) :=
  ⟨fun pins s σ H Q Iv h => by unfold wBk at h; exact pe.run pins s σ H Q Iv (h s0 H0 C cl fp I)⟩
theorem lcR_of {i n : Nat} {D : Addr} {H1 : Hp} {Qd : Hp → Prop} (q : LcR X Vn G' elt scope i n D σ H1 Qd) : ∃ W : Nat → Nat → Hp → Prop, (∃ m, W 0 m (upd H1 D (.lst []))) ∧ ∀ k m H, W k m H →
    ((Itr 0 n).stop k H ∧ Qd H) ∨ ((Itr 0 n).go k H ∧ ∃ Nx : Hp → Prop, (∀ H', Nx H' → ∃ m', m' < m ∧ W (k + 1) m' H') ∧ ∀ x H', (Itr 0 n).yld k H x H' → gName i x (wipe σ [i]) H' fun σ2 H2 => wipe σ2 [i] = wipe σ [i] ∧ tYes σ2 H2 fun b H3 =>
      if b = true then wBk X Vn G' elt scope σ2 H3 fun y H4 => ∃ acc, H4 D = some (.lst acc) ∧ acc.length < sizeLine ∧ Nx (upd H4 D (.lst (acc ++ [y]))) else Nx H3) := by
  obtain ⟨Pv, h0, hs, hd⟩ := q
  refine lc_range Pv h0 (fun k H hk p => ?_) hd
  refine ⟨wipe_set σ i _, ?_⟩
  unfold tYes
  refine iteT ?_
  unfold wBk
  intro s0 H0 C cl fp I
  rw [Int.zero_add]
  exact hs k H hk p s0 H0 C cl fp I
theorem lcL_of {i : Nat} {ad : Addr} {xs : List L2.V} {D : Addr} {H1 : Hp} {Qd : Hp → Prop} (q : LcL X Vn G' elt scope i ad xs D σ H1 Qd) : ∃ W : Nat → Nat → Hp → Prop, (∃ m, W 0 m (upd H1 D (.lst []))) ∧ ∀ k m H, W k m H →
    ((Itl X.K ad).stop k H ∧ Qd H) ∨ ((Itl X.K ad).go k H ∧ ∃ Nx : Hp → Prop, (∀ H', Nx H' → ∃ m', m' < m ∧ W (k + 1) m' H') ∧ ∀ x H', (Itl X.K ad).yld k H x H' → gName i x (wipe σ [i]) H' fun σ2 H2 => wipe σ2 [i] = wipe σ [i] ∧ tYes σ2 H2 fun b H3 =>
      if b = true then wBk X Vn G' elt scope σ2 H3 fun y H4 => ∃ acc, H4 D = some (.lst acc) ∧ acc.length < sizeLine ∧ Nx (upd H4 D (.lst (acc ++ [y]))) else Nx H3) := by
  obtain ⟨Pv, h0, hl, hs, hd⟩ := q
  refine lc_list Pv h0 hl (fun k x H hk p => ?_) hd
  refine ⟨wipe_set σ i _, ?_⟩
  unfold tYes
  refine iteT ?_
  unfold wBk
  intro s0 H0 C cl fp I
  exact hs k x H hk p s0 H0 C cl fp I
/-- [elt for x in range(a)] -/
theorem e_lcR {i g : Nat} {x : Str} {px p cp : Pos} (B : BkOk X.N Vn G' i x sc scope) (hm : X.mg "range" = none)
    (q : wE X a σ H fun v H1 => ∃ n : Nat, v = .int n ∧ n < 2 ^ 62 ∧ ∀ D, H1 D = none → LcR X Vn G' elt scope i n D σ H1 fun H2 => Q (.ref D) H2)
    (I : In X N G sc := by assumption) (hc : X.calm = true := by rfl) (hG : At G g ("range" : Str) := by repeat (first | with_reducible apply At.z | with_reducible apply At.s)) (hs : starEach [a] X.env = [(false, eval a X.env)] := by rfl) (hs2 : ∀ z, foldedSetIterable (.Call (.Name "range" p) [a] [] cp) X.env z = pure z := by intro _; rfl)
    (hs1 : starEach (a :: []) X.env = (false, eval a X.env) :: starEach [] X.env := by rfl) :
    wE X (.ListComp elt [⟨.Name x px, .Call (.Name "range" p) [a] [] cp, [], 0⟩] scope pos) σ H Q := by
  refine e_of (pe_lc (own := [(x, i)]) (g := gName i) (tt := tYes) (te := wBk X Vn G' elt scope) hc I.nd (pi_range1 (I.g hG) hm (pa_cons pe pa_nil hs1) hs) (B.ok I) (fun s H C cl fp => B.pg I s H C cl fp) (fun _ _ _ _ _ => pts_nil) (fun s H C cl fp => pe_bk (B.inB I s H C cl fp)) hs2) (e_mono q fun v H1 q1 => ?_)
  obtain ⟨n, rfl, hn, q2⟩ := q1
  refine ⟨(n : Int), rfl, by omega, by omega, ?_⟩
  rw [Int.toNat_natCast]
  exact fun D hD => lcR_of (q2 D hD)
/-- [elt for x in a], a list -/
theorem e_lcL {i : Nat} {x : Str} {px : Pos} (B : BkOk X.N Vn G' i x sc scope)
    (q : wE X a σ H fun v H1 => ∃ ad xs, v = .ref ad ∧ SqL X.K H1 ad xs ∧ ∀ D, H1 D = none → LcL X Vn G' elt scope i ad xs D σ H1 fun H2 => Q (.ref D) H2)
    (I : In X N G sc := by assumption) (hc : X.calm = true := by rfl) (hs2 : ∀ z, foldedSetIterable a X.env z = pure z := by intro _; rfl) :
    wE X (.ListComp elt [⟨.Name x px, a, [], 0⟩] scope pos) σ H Q := by
  refine e_of (pe_lc (own := [(x, i)]) (g := gName i) (tt := tYes) (te := wBk X Vn G' elt scope) hc I.nd (pi_list pe) (B.ok I) (fun s H C cl fp => B.pg I s H C cl fp) (fun _ _ _ _ _ => pts_nil) (fun s H C cl fp => pe_bk (B.inB I s H C cl fp)) hs2) (e_mono q fun v H1 q1 => ?_)
  obtain ⟨ad, xs, rfl, hl, q2⟩ := q1
  exact ⟨ad, rfl, ⟨xs, hl⟩, fun D hD => lcL_of (q2 D hD)⟩
theorem s_lcR {nx : L2.St → Hp → Prop} {rt : VK} {bk ct : L2.St → Hp → Prop} {i j g : Nat} {x y : Str} {px py p cp spos : Pos} (B : BkOk X.N Vn G' i x sc scope) (hm : X.mg "range" = none)
    (q : wE X a σ H fun v H1 => ∃ n : Nat, v = .int n ∧ n < 2 ^ 62 ∧ ∀ D, H1 D = none → LcR X Vn G' elt scope i n D σ H1 fun H2 => nx (σ.set j (some (.ref D))) H2)
    (I : In X N G sc := by assumption) (hc : X.calm = true := by rfl) (hA : At N j y := by repeat (first | with_reducible apply At.z | with_reducible apply At.s)) (hG : At G g ("range" : Str) := by repeat (first | with_reducible apply At.z | with_reducible apply At.s))
    (hk : X.env.scope.kind = .function := by rfl) (hy : X.env.scope.names.lookup y = some .local := by rfl) (hl : (py.line == pos.line) = true := by rfl) (ha : (scope.names.any fun (n, k) => n == y && (k == .local || k == .cell)) = false := by decide +kernel)
    (hs : starEach [a] X.env = [(false, eval a X.env)] := by rfl) (hs2 : ∀ z, foldedSetIterable (.Call (.Name "range" p) [a] [] cp) X.env z = pure z := by intro _; rfl) (hs1 : starEach (a :: []) X.env = (false, eval a X.env) :: starEach [] X.env := by rfl) :
    wS X (.Assign [.Name y py] (.ListComp elt [⟨.Name x px, .Call (.Name "range" p) [a] [] cp, [], 0⟩] scope pos) spos) ⟨nx, rt, bk, ct⟩ σ H := by
  refine s_of (ps_setLc (own := [(x, i)]) (g := gName i) (tt := tYes) (te := wBk X Vn G' elt scope) hc I.nd (I.hi hA) hy (sw_true hk hy hl ha) (pi_range1 (I.g hG) hm (pa_cons pe pa_nil hs1) hs) (B.ok I) (fun s H C cl fp => B.pg I s H C cl fp) (fun _ _ _ _ _ => pts_nil) (fun s H C cl fp => pe_bk (B.inB I s H C cl fp)) hs2) (e_mono q fun v H1 q1 => ?_)
  obtain ⟨n, rfl, hn, q2⟩ := q1
  refine ⟨(n : Int), rfl, by omega, by omega, ?_⟩
  rw [Int.toNat_natCast]
  exact fun D hD => lcR_of (q2 D hD)
theorem s_lcL {nx : L2.St → Hp → Prop} {rt : VK} {bk ct : L2.St → Hp → Prop} {i j : Nat} {x y : Str} {px py spos : Pos} (B : BkOk X.N Vn G' i x sc scope)
    (q : wE X a σ H fun v H1 => ∃ ad xs, v = .ref ad ∧ SqL X.K H1 ad xs ∧ ∀ D, H1 D = none → LcL X Vn G' elt scope i ad xs D σ H1 fun H2 => nx (σ.set j (some (.ref D))) H2)
    (I : In X N G sc := by assumption) (hc : X.calm = true := by rfl) (hA : At N j y := by repeat (first | with_reducible apply At.z | with_reducible apply At.s))
    (hk : X.env.scope.kind = .function := by rfl) (hy : X.env.scope.names.lookup y = some .local := by rfl) (hl : (py.line == pos.line) = true := by rfl) (ha : (scope.names.any fun (n, k) => n == y && (k == .local || k == .cell)) = false := by decide +kernel) (hs2 : ∀ z, foldedSetIterable a X.env z = pure z := by intro _; rfl) :
    wS X (.Assign [.Name y py] (.ListComp elt [⟨.Name x px, a, [], 0⟩] scope pos) spos) ⟨nx, rt, bk, ct⟩ σ H := by
  refine s_of (ps_setLc (own := [(x, i)]) (g := gName i) (tt := tYes) (te := wBk X Vn G' elt scope) hc I.nd (I.hi hA) hy (sw_true hk hy hl ha) (pi_list pe) (B.ok I) (fun s H C cl fp => B.pg I s H C cl fp) (fun _ _ _ _ _ => pts_nil) (fun s H C cl fp => pe_bk (B.inB I s H C cl fp)) hs2) (e_mono q fun v H1 q1 => ?_)
  obtain ⟨ad, xs, rfl, hl, q2⟩ := q1
  exact ⟨ad, rfl, ⟨xs, hl⟩, fun D hD => lcL_of (q2 D hD)⟩
end
/-! ### ground terms: they make new objects and change none -/
abbrev Rl := Hp → L2.V → Prop
class Lasts (Γ : Hp → Prop) : Prop where
  up : ∀ H H', Same H H' → Γ H → Γ H'
class LastR (R : Rl) : Prop where
  up : ∀ H H' v, Same H H' → R H v → R H' v
def All2 : List Rl → Hp → List L2.V → Prop
  | [], _, vs => vs = []
  | R :: Rs, H, vs => ∃ v us, vs = v :: us ∧ R H v ∧ All2 Rs H us
@[irreducible] def Ev (X : Cx) (e : Expr) (σ : L2.St) (H : Hp) (R : Rl) : Prop := ∀ Q : VK, (∀ v H', Same H H' → R H' v → Q v H') → wE X e σ H Q
@[irreducible] def EvA (X : Cx) (es : List Expr) (σ : L2.St) (H : Hp) (Rs : List Rl) : Prop := ∀ Q : List L2.V → Hp → Prop, (∀ vs H', Same H H' → All2 Rs H' vs → Q vs H') → wA X es σ H Q
/-- a promise of a def that makes new objects alone -/
def spG {α : Type} (A : α → List Rl) (R : α → Rl) : Sp := fun vs H Q _ => ∃ x, All2 (A x) H vs ∧ ∀ v H', Same H H' → R x H' v → Q v H'
section
variable {X : Cx} {e a b c : Expr} {es : List Expr} {σ : L2.St} {H : Hp} {Q : VK} {pos p0 : Pos} {N G : List Str} {sc : Scope} {R R1 R2 : Rl} {Rs : List Rl}
theorem ev_e (h : Ev X e σ H R) (q : ∀ v H', Same H H' → R H' v → Q v H') : wE X e σ H Q := by unfold Ev at h; exact h Q q
theorem ev_of (h : ∀ Q : VK, (∀ v H', Same H H' → R H' v → Q v H') → wE X e σ H Q) : Ev X e σ H R := by unfold Ev; exact h
theorem ev_a {QA : List L2.V → Hp → Prop} (h : EvA X es σ H Rs) (q : ∀ vs H', Same H H' → All2 Rs H' vs → QA vs H') : wA X es σ H QA := by unfold EvA at h; exact h QA q
theorem ev_up {H0 : Hp} (h : Ev X e σ H R) : Ev X e σ H R := h
theorem g_var {i : Nat} {x : Str} {v : V} (r : R H v) (I : In X N G sc := by assumption) (hA : At N i x := by repeat (first | with_reducible apply At.z | with_reducible apply At.s)) (hσ : σ[i]? = some (some v) := by exact rfl) : Ev X (.Name x pos) σ H R :=
  ev_of fun Q q => e_var (q v H (Same.refl H) r) I hA hσ
theorem g_nil : EvA X [] σ H [] := by unfold EvA; exact fun Q q => a_nil (q [] H (Same.refl H) rfl)
theorem g_cons [LastR R] (h1 : Ev X e σ H R) (h2 : ∀ H', Same H H' → EvA X es σ H' Rs) (hs : starEach (e :: es) X.env = (false, eval e X.env) :: starEach es X.env := by rfl) : EvA X (e :: es) σ H (R :: Rs) := by
  unfold EvA
  exact fun Q q => a_cons (ev_e h1 fun v H1 s1 r1 => ev_a (h2 H1 s1) fun vs H2 s2 r2 => q (v :: vs) H2 (s1.trans s2) ⟨v, vs, rfl, LastR.up H1 H2 v s2 r1, r2⟩) hs
theorem g_call {α : Type} {A : α → List Rl} {R : α → Rl} {g k n : Nat} {x : Str} {z : α} (F : Fn X.prog X.w X.K X.mg X.base k x (spG A R)) (hr : Room n X.A) (hk : k ≤ n) (h : EvA X (e :: es) σ H (A z)) (I : In X N G sc := by assumption) (hG : At G g x := by repeat (first | with_reducible apply At.z | with_reducible apply At.s))
    (he : starEach (e :: es) X.env = (false, eval e X.env) :: starEach es X.env := by rfl) (hpl : (backTo pos (starEach es X.env)).any (·.1) = false := by rfl) : Ev X (.Call (.Name x p0) (e :: es) [] pos) σ H (R z) :=
  ev_of fun Q q => e_call F hr hk (ev_a h fun vs H1 s1 r1 => ⟨z, r1, fun v H2 s2 r2 => q v H2 (s1.trans s2) r2⟩) I hG he hpl
theorem g_test {QT : Bool → Hp → Prop} (h : Ev X e σ H fun _ v => v = .bl true) (q : ∀ H', Same H H' → QT true H') (he : ∀ whole, isTrue e X.env whole = (do let v ← whole; standAt e.pos; holding [v] (truthy v)) := by intro _; rfl) : wT X e σ H QT :=
  t_val (ev_e h fun v H' s r => by
    cases (show v = .bl true from r)
    exact ⟨true, rfl, q H' s⟩) he
/-- if not a or not b: return False -/
theorem s_no2 {nx : L2.St → Hp → Prop} {rt : VK} {bk ct : L2.St → Hp → Prop} {body : List Stmt} {p1 p2 p3 p4 : Pos} (h1 : Ev X a σ H fun _ v => v = .bl true) (h2 : ∀ H', Same H H' → Ev X b σ H' fun _ v => v = .bl true) (q : ∀ H', Same H H' → nx σ H')
    (he : ∀ whole, isTrue a X.env whole = (do let v ← whole; standAt a.pos; holding [v] (truthy v)) := by intro _; rfl) (he2 : ∀ whole, isTrue b X.env whole = (do let v ← whole; standAt b.pos; holding [v] (truthy v)) := by intro _; rfl) :
    wS X (.If (.BoolOp .Or [.UnaryOp .Not a p1, .UnaryOp .Not b p2] p3) body [] p4) ⟨nx, rt, bk, ct⟩ σ H := by
  refine s_if (t_w (w_or (t_not (g_test h1 (fun H1 s1 => ?_) he))))
  refine iteF (w_or1 (t_not (g_test (h2 H1 s1) (fun H2 s2 => ?_) he2)))
  exact iteF (l_nil (q H2 (s1.trans s2)))
theorem s_no1 {nx : L2.St → Hp → Prop} {rt : VK} {bk ct : L2.St → Hp → Prop} {body : List Stmt} {p1 p4 : Pos} (h1 : Ev X a σ H fun _ v => v = .bl true) (q : ∀ H', Same H H' → nx σ H')
    (he : ∀ whole, isTrue a X.env whole = (do let v ← whole; standAt a.pos; holding [v] (truthy v)) := by intro _; rfl) :
    wS X (.If (.UnaryOp .Not a p1) body [] p4) ⟨nx, rt, bk, ct⟩ σ H := by
  refine s_if (t_not (g_test h1 (fun H1 s1 => ?_) he))
  exact iteF (l_nil (q H1 s1))
theorem g_and2 (h1 : Ev X a σ H fun _ v => v = .bl true) (h2 : ∀ H', Same H H' → Ev X b σ H' fun _ v => v = .bl true) : Ev X (.BoolOp .And [a, b] pos) σ H fun _ v => v = .bl true :=
  ev_of fun Q q => e_and (ev_e h1 fun v H1 s1 r1 => by
    cases (show v = .bl true from r1)
    exact ⟨true, rfl, iteT (e_one (ev_e (h2 H1 s1) fun v H2 s2 r2 => q v H2 (s1.trans s2) r2))⟩)
theorem g_and3 (h1 : Ev X a σ H fun _ v => v = .bl true) (h2 : ∀ H', Same H H' → Ev X b σ H' fun _ v => v = .bl true) (h3 : ∀ H', Same H H' → Ev X c σ H' fun _ v => v = .bl true) : Ev X (.BoolOp .And [a, b, c] pos) σ H fun _ v => v = .bl true :=
  ev_of fun Q q => e_and (ev_e h1 fun v H1 s1 r1 => by
    cases (show v = .bl true from r1)
    refine ⟨true, rfl, iteT (e_and (ev_e (h2 H1 s1) fun v H2 s2 r2 => ?_))⟩
    cases (show v = .bl true from r2)
    exact ⟨true, rfl, iteT (e_one (ev_e (h3 H2 (s1.trans s2)) fun v H3 s3 r3 => q v H3 ((s1.trans s2).trans s3) r3))⟩)
end
section
variable {X : Cx} {H : Hp} {Q : VK} {i j : Int}
theorem o_mulW (c : CMulW i j) (q : Q (.int (i * j)) H) : wB X .Mult (.int i) (.int j) H Q := b_of op_mulW ⟨i, j, rfl, rfl, c, q⟩
end
end Wk
namespace Wk
open PySem PySem.Spec
/-- the value of a return or of an assignment, a comprehension's scope -/
def valE : Stmt → Expr
  | .Return (some e) _ => e
  | .Assign _ e _ => e
  | .Expr e _ => e
  | _ => .Name "" ⟨0, 0, 0, 0⟩
def lcSc : Expr → Scope
  | .ListComp _ _ sc _ => sc
  | _ => { kind := .function, names := [], isGenerator := false, isCoroutine := false }
end Wk
namespace Wk
open PySem PySem.Spec PyProof.Rows L2
section
variable {X : Cx} {c e : Expr} {body : List Stmt} {σ : L2.St} {H : Hp} {pos : Pos} {N G : List Str} {sc : Scope} {QT QT' : Bool → Hp → Prop}
theorem t_mono (q : wT X c σ H QT) (h : ∀ b H1, QT b H1 → QT' b H1) : wT X c σ H QT' := by
  unfold wT at q ⊢
  exact fun pins s I => wpAny_mono (q pins s I) (fun _ _ ⟨H1, I1, z⟩ => ⟨H1, I1, h _ _ z⟩) fun _ _ z => z
theorem s_while {nx : L2.St → Hp → Prop} {rt : VK} {bk ct : L2.St → Hp → Prop} (Pv : L2.St → Hp → Prop) (μ : L2.St → Hp → Nat) (h0 : Pv σ H)
    (hs : ∀ σ H, Pv σ H → wT X c σ H fun b H1 => if b = true then wL X body ⟨fun σ' H' => Pv σ' H' ∧ μ σ' H' < μ σ H, rt, nx, fun σ' H' => Pv σ' H' ∧ μ σ' H' < μ σ H⟩ σ H1 else nx σ H1)
    (I : In X N G sc := by assumption) : wS X (.While c body [] pos) ⟨nx, rt, bk, ct⟩ σ H :=
  s_of (ps_while I.never pt pl) (while_by Pv μ h0 hs fun _ _ _ _ h q => t_mono q h)
end
end Wk
namespace Wk
open PySem PySem.Spec PyProof.Rows L2
section
variable {X : Cx} {o e : Expr} {σ : L2.St} {H : Hp} {Q : VK} {pos apos : Pos}
/-- o.append(e) -/
theorem e_app (q : wE X o σ H fun x H1 => ∃ l xs0, x = .ref l ∧ SqL X.K H1 l xs0 ∧ wE X e σ H1 fun y H2 => ∃ xs, H2 l = some (.lst xs) ∧ xs.length < sizeLine ∧ Q .non (upd H2 l (.lst (xs ++ [y]))))
    (hbase : attributeBase o "append" X.env (eval o X.env) = eval o X.env := by rfl)
    (hfew : ((backTo pos (starEach (e :: []) X.env)).all (fun x => !x.1) && (backToKw pos (keywordEach [] X.env)).all (fun x => x.1.isSome)
      && decide ((e :: []).length + ([] : List Keyword).length + (if ([] : List Keyword).isEmpty then 0 else 1) < 30)) = true := by rfl)
    (hline : (apos.endLine == pos.line) = true := by rfl) (hs : starEach (e :: []) X.env = (false, eval e X.env) :: starEach [] X.env := by rfl) (hplain : (backTo pos (starEach [] X.env)).any (·.1) = false := by rfl) :
    wE X (.Call (.Attribute o "append" apos) [e] [] pos) σ H Q := by
  refine e_of (pe_bm PySem.F.plainAttrs_list PySem.F.slot_list_append PySem.F.type_list_append mt_append pe (pa_cons pe pa_nil hs) hbase hfew hline hs hplain) (e_mono q fun x H1 z => ?_)
  obtain ⟨l, xs0, rfl, hl, z⟩ := z
  refine ⟨.inl ⟨rfl, _, hl⟩, e_mono z fun y H2 z2 => ?_⟩
  obtain ⟨xs, h1, h2, h3⟩ := z2
  exact ⟨l, xs, y, rfl, rfl, h1, h2, h3⟩
end
end Wk
namespace Wk
open PySem PySem.Spec PyProof.Rows L2
theorem All2.len {Rs : List Rl} {H : Hp} : ∀ {vs : List L2.V}, All2 Rs H vs → vs.length = Rs.length := by
  induction Rs with
  | nil => intro vs h; cases (show vs = [] from h); rfl
  | cons R Rs ih => intro vs h; obtain ⟨v, us, rfl, _, h⟩ := h; simp [ih h]
end Wk
namespace Wk
open PySem PySem.Spec PyProof.Rows L2
/-- from the heap H on -/
def EvS (X : Cx) (e : Expr) (σ : L2.St) (H : Hp) (R : Rl) : Prop := ∀ H', Same H H' → Ev X e σ H' R
def EvSA (X : Cx) (es : List Expr) (σ : L2.St) (H : Hp) (Rs : List Rl) : Prop := ∀ H', Same H H' → EvA X es σ H' Rs
abbrev IsT : Rl := fun _ v => v = .bl true
section
variable {X : Cx} {e a b c : Expr} {es : List Expr} {σ : L2.St} {H H0 : Hp} {Q : VK} {pos p0 : Pos} {N G : List Str} {sc : Scope} {R R1 R2 : Rl} {Rs : List Rl}
theorem EvS.up {H1 : Hp} (h : EvS X e σ H R) (s : Same H H1) : EvS X e σ H1 R := fun H' t => h H' (s.trans t)
theorem EvS.get (h : EvS X e σ H R) (q : ∀ v H', Same H H' → R H' v → Q v H') : wE X e σ H Q := ev_e (h H (Same.refl H)) q
theorem gs_var [LastR R] {i : Nat} {x : Str} {v : L2.V} (r : R H v) (I : In X N G sc := by assumption) (hA : At N i x := by repeat (first | with_reducible apply At.z | with_reducible apply At.s)) (hσ : σ[i]? = some (some v) := by exact rfl) : EvS X (.Name x pos) σ H R :=
  fun H' s => g_var (LastR.up H H' v s r) I hA hσ
theorem gs_int {i : Int} {j} : EvS X (.Constant (.int i) j pos) σ H (fun _ v => v = .int i) := fun H' _ => ev_of fun Q q => e_int (q _ H' (Same.refl H') rfl)
theorem gs_nil : EvSA X [] σ H [] := fun _ _ => g_nil
theorem gs_cons [LastR R] (h1 : EvS X e σ H R) (h2 : EvSA X es σ H Rs) (hs : starEach (e :: es) X.env = (false, eval e X.env) :: starEach es X.env := by rfl) : EvSA X (e :: es) σ H (R :: Rs) := fun H' s => g_cons (h1 H' s) (fun H2 s2 => h2 H2 (s.trans s2)) hs
theorem gs_call {α : Type} {A : α → List Rl} {R : α → Rl} {g k n : Nat} {x : Str} {z : α} (F : Fn X.prog X.w X.K X.mg X.base k x (spG A R)) (hr : Room n X.A) (hk : k ≤ n) (h : EvSA X (e :: es) σ H (A z)) (I : In X N G sc := by assumption) (hG : At G g x := by repeat (first | with_reducible apply At.z | with_reducible apply At.s))
    (he : starEach (e :: es) X.env = (false, eval e X.env) :: starEach es X.env := by rfl) (hpl : (backTo pos (starEach es X.env)).any (·.1) = false := by rfl) : EvS X (.Call (.Name x p0) (e :: es) [] pos) σ H (R z) := fun H' s => g_call F hr hk (h H' s) I hG he hpl
/-- if not a or not b: return False; both hold -/
theorem s_nn {nx : L2.St → Hp → Prop} {rt : VK} {bk ct : L2.St → Hp → Prop} {body : List Stmt} {p1 p2 p3 p4 : Pos} (s0 : Same H0 H) (h1 : EvS X a σ H0 IsT) (h2 : EvS X b σ H0 IsT) (q : ∀ H', Same H0 H' → nx σ H')
    (he : ∀ whole, isTrue a X.env whole = (do let v ← whole; standAt a.pos; holding [v] (truthy v)) := by intro _; rfl) (he2 : ∀ whole, isTrue b X.env whole = (do let v ← whole; standAt b.pos; holding [v] (truthy v)) := by intro _; rfl) :
    wS X (.If (.BoolOp .Or [.UnaryOp .Not a p1, .UnaryOp .Not b p2] p3) body [] p4) ⟨nx, rt, bk, ct⟩ σ H := s_no2 (h1 H s0) (fun H1 s1 => h2 H1 (s0.trans s1)) (fun H1 s1 => q H1 (s0.trans s1)) he he2
theorem s_n {nx : L2.St → Hp → Prop} {rt : VK} {bk ct : L2.St → Hp → Prop} {body : List Stmt} {p1 p4 : Pos} (s0 : Same H0 H) (h1 : EvS X a σ H0 IsT) (q : ∀ H', Same H0 H' → nx σ H')
    (he : ∀ whole, isTrue a X.env whole = (do let v ← whole; standAt a.pos; holding [v] (truthy v)) := by intro _; rfl) :
    wS X (.If (.UnaryOp .Not a p1) body [] p4) ⟨nx, rt, bk, ct⟩ σ H := s_no1 (h1 H s0) (fun H1 s1 => q H1 (s0.trans s1)) he
theorem gs_and2 (h1 : EvS X a σ H IsT) (h2 : EvS X b σ H IsT) : EvS X (.BoolOp .And [a, b] pos) σ H IsT := fun H' s => g_and2 (h1 H' s) fun H2 s2 => h2 H2 (s.trans s2)
theorem gs_and3 (h1 : EvS X a σ H IsT) (h2 : EvS X b σ H IsT) (h3 : EvS X c σ H IsT) : EvS X (.BoolOp .And [a, b, c] pos) σ H IsT := fun H' s => g_and3 (h1 H' s) (fun H2 s2 => h2 H2 (s.trans s2)) fun H2 s2 => h3 H2 (s.trans s2)
theorem s_let {nx : L2.St → Hp → Prop} {rt : VK} {bk ct : L2.St → Hp → Prop} {i : Nat} {x : Str} {pos' : Pos} (s0 : Same H0 H) (h : EvS X e σ H0 R) (q : ∀ v H', Same H0 H' → R H' v → nx (σ.set i (some v)) H')
    (I : In X N G sc := by assumption) (hA : At N i x := by repeat (first | with_reducible apply At.z | with_reducible apply At.s)) (hs : swapsWith e (some (.Name x pos')) pos.line X.env = pure false := by rfl) :
    wS X (.Assign [.Name x pos'] e pos) ⟨nx, rt, bk, ct⟩ σ H := s_set ((h.up s0).get fun v H' s r => q v H' (s0.trans s) r) I hA hs
theorem s_retS {nx : L2.St → Hp → Prop} {rt : VK} {bk ct : L2.St → Hp → Prop} (s0 : Same H0 H) (h : EvS X e σ H0 R) (q : ∀ v H', Same H0 H' → R H' v → rt v H') : wS X (.Return (some e) pos) ⟨nx, rt, bk, ct⟩ σ H := s_ret ((h.up s0).get fun v H' s r => q v H' (s0.trans s) r)
end
end Wk

/-! My own layer, more: defs with loops where an error is handled, a keyword-only parameter with a default, insert. -/
namespace Wk
open PySem PySem.Spec PyProof.Rows L2
section
variable {P : Program} {w : World} {K : PySem.W.Frag} {mg : Str → Option Value} {base : Heap}
theorem fn_okH2 {x : Str} {st : Stmt} {N G ps : List Str} {k : Nat} {sp : Sp} (T : Top K mg x st) (S : FnScope N ps (defScope st)) (O : ScOk N G (defScope st)) (len : ∀ vs H Q E, sp vs H Q E → vs.length = ps.length)
    (hb : ∀ (kV doc pm : Value) (an : Option Addr) (cdv ct : Value) (us : List Value), us.length = ps.length → bindArgs (PySem.W.fnOf x x (defArgs st) (defBody st) (defScope st) .none kV doc pm an cdv ct) ⟨us, []⟩ = pure (ps.zip us))
    (hbody : ∀ (f : Addr) (cdv : Value) (A : Around) (outer : List Env) (s : Shared) (H : Hp) (vs : List L2.V) (Q : VK) (E : XK) (p : Addr × Obj), L2H.RoomH k (A.deeper (envOfC x (defScope st) s.heap.objs.size f cdv)) → sp vs H Q E → In (L2H.cxH CX0 P w K mg base N x (defScope st) f cdv A outer s H E p).nox N G (defScope st) →
      L2H.HotC (L2H.cxH CX0 P w K mg base N x (defScope st) f cdv A outer s H E p).nox →
      wL (L2H.cxH CX0 P w K mg base N x (defScope st) f cdv A outer s H E p).nox (defBody st) { nx := fun _ H' => Q .non H', rt := Q } (start N vs) H) : FnHt P w K mg base (k + 1) x sp := by
  obtain ⟨f, fd, F, hm⟩ := T.ex
  obtain ⟨oc, od, kV, doc, pm, an, cdv, ct, osl, rfl, lk, hcd⟩ := id F.ex
  exact ⟨f, _, ps, L2H.fn_ofH lk hcd S len (fun A outer s H vs Q E p hot hr h => ⟨_, PSs.nox pl, hbody f cdv A outer s H vs Q E p hr h ⟨O, ⟨[], (List.append_nil _).symm⟩, S.nd, rfl, rfl, PassesOwn.never⟩ ⟨p, ⟨hot.1, hot.2⟩, List.mem_cons_self⟩⟩), hm, F.kp, F.binds hb⟩
end
section
variable {X : Cx} {N G : List Str} {sc : Scope} {a e v o : Expr} {es : List Expr} {σ : L2.St} {H : Hp} {Q : VK} {pos p0 kpos apos : Pos}
theorem s_forRH {nx : L2.St → Hp → Prop} {rt : VK} {bk ct : L2.St → Hp → Prop} {g : Nat} {x : Str} {i : Nat} {body : List Stmt} {px p cp : Pos} (hm : X.mg "range" = none) (hot : L2H.HotC X)
    (q : wE X a σ H fun v H1 => ∃ n : Nat, v = .int n ∧ n < 2 ^ 62 ∧ ∃ Pv : Nat → L2.St → Hp → Prop, Pv 0 σ H1 ∧ (∀ k σ H, k < n → Pv k σ H → wL X body ⟨Pv (k + 1), rt, nx, Pv (k + 1)⟩ (σ.set i (some (.int (k : Int)))) H) ∧ ∀ σ H, Pv n σ H → nx σ H)
    (I : In X N G sc := by assumption) (hA : At N i x := by repeat (first | with_reducible apply At.z | with_reducible apply At.s))
    (hG : At G g ("range" : Str) := by repeat (first | with_reducible apply At.z | with_reducible apply At.s)) (hs : starEach [a] X.env = [(false, eval a X.env)] := by rfl) (hs2 : ∀ z, foldedSetIterable (.Call (.Name "range" p) [a] [] cp) X.env z = pure z := by intro _; rfl)
    (hs1 : starEach (a :: []) X.env = (false, eval a X.env) :: starEach [] X.env := by rfl) :
    wS X (.For (.Name x px) (.Call (.Name "range" p) [a] [] cp) body [] pos) ⟨nx, rt, bk, ct⟩ σ H := by
  refine s_of (L2H.ps_forH I.never hot (L2H.pi_range1H (I.g hG) hm (pa_cons pe pa_nil hs1) hs) (pg_name I.nd (I.hi hA) (I.loc hA) I.f) pl hs2) (e_mono q fun v H1 q1 => ?_)
  obtain ⟨n, rfl, hn, Pv, h0, hb, hd⟩ := q1
  refine ⟨(n : Int), rfl, by omega, by omega, ?_⟩
  rw [Int.toNat_natCast]
  refine for_range (n := n) Pv h0 (fun k σ H hk p => ?_) hd
  rw [Int.zero_add]
  exact hb k σ H hk p
/-- a def with one keyword-only parameter kw and its default d, that may raise -/
structure FnKw (P : Program) (w : World) (K : PySem.W.Frag) (mg : Str → Option Value) (base : Heap) (k : Nat) (x kw : Str) (m : Nat) (d : L2.V) (sp : Sp) : Prop where
  ex : ∃ (f : Addr) (fd : FuncData) (ps : List Str), FnOk P w K mg base (L2N.CX P w) k f fd ps sp ∧ mg x = some (.ref f) ∧ PySem.W.keepIn K (.ref f) = true ∧ (∃ ds, Vals [d] ds ∧ Binds K fd ps ds) ∧ ∃ g, KBn K fd ps m [kw] g (fun vs zs => vs ++ zs)
theorem e_callD {g k n m : Nat} {x kw : Str} {d : L2.V} {sp : Sp} {W : WX} (F : FnKw X.prog X.w X.K X.mg X.base k x kw m d sp) (tk : L2N.Takes X W) (hr : Room n X.A) (hk : k ≤ n) (q : wA X (e :: es) σ H fun vs H1 => sp (vs ++ [d]) H1 Q (fun cls d H' => W cls d σ H'))
    (I : In X N G sc := by assumption) (hG : At G g x := by repeat (first | with_reducible apply At.z | with_reducible apply At.s)) (he : starEach (e :: es) X.env = (false, eval e X.env) :: starEach es X.env := by rfl) (hpl : (backTo pos (starEach es X.env)).any (·.1) = false := by rfl) :
    wE X (.Call (.Name x p0) (e :: es) [] pos) σ H Q := by
  obtain ⟨f, fd, ps, F0, hm, hkp, ⟨ds, hd, hb⟩, _⟩ := F.ex
  exact e_of (pe_callSD (E := fun σ cls d H' => W cls d σ H') F0 (hr.mono hk) (I.g hG) hm hkp hb hd (fun σ => L2N.passAt tk σ) pa (I.gd hG) he hpl) q
theorem e_callK {g k n m : Nat} {x kw : Str} {d : L2.V} {sp : Sp} {W : WX} (F : FnKw X.prog X.w X.K X.mg X.base k x kw m d sp) (tk : L2N.Takes X W) (hr : Room n X.A) (hk : k ≤ n) (q : wA X (e :: es) σ H fun vs H1 => wE X v σ H1 fun z H2 => vs.length = m ∧ sp (vs ++ [z]) H2 Q (fun cls d H' => W cls d σ H'))
    (I : In X N G sc := by assumption) (hG : At G g x := by repeat (first | with_reducible apply At.z | with_reducible apply At.s))
    (hall : (backToKw pos (keywordEach [⟨some kw, v, kpos⟩] X.env)).all (·.1.isSome) = true := by rfl) (hks : (backToKw pos (keywordEach [⟨some kw, v, kpos⟩] X.env)).filterMap (·.1) = [kw] := by rfl)
    (he : starEach (e :: es) X.env = (false, eval e X.env) :: starEach es X.env := by rfl) (hpl : ((backTo pos (starEach (e :: es) X.env)).any (·.1) || (backToKw pos (keywordEach [⟨some kw, v, kpos⟩] X.env)).any (·.1.isNone)) = false := by rfl) :
    wE X (.Call (.Name x p0) (e :: es) [⟨some kw, v, kpos⟩] pos) σ H Q := by
  obtain ⟨f, fd, ps, F0, hm, hkp, _, g0, hb⟩ := F.ex
  unfold wE
  intro pins s I0
  refine wpAny_Call_Name_kw (ld_glob I0 (I.g hG) hm ?_ (I.gd hG))
  refine PySem.W.callWith_KW (h₀ := X.base) I0.ok.mod.kin hkp hall (thn (pa.run pos pins s σ H _ I0 q) fun us s1 ⟨vs, H1, I1, r, q1⟩ => ?_) hpl he
  refine thn ((pk_cons pe pk_nil).run pos pins s1 σ H1 (fun zs H2 => ∃ z, zs = [z] ∧ vs.length = m ∧ sp (vs ++ [z]) H2 Q (fun cls d H' => W cls d σ H')) I1 (e_mono q1 fun z H2 z2 => ⟨z, rfl, z2⟩)) fun ws s2 ⟨zs, H2, I2, rz, z, ez, l1, q2⟩ => ⟨I2.kIn, ?_⟩
  subst ez
  rw [hks]
  have r2 := hb.rel r rz
  have l2 : ws.length = [kw].length := rz.length.symm
  refine wpAny_call (codeAny_mono (F0.run X.A X.stack s2 H2 ⟨us, [kw].zip ws⟩ (g0 us ws) (vs ++ [z]) Q (fun cls d H' => W cls d σ H') (hr.mono hk) I2.env0 (hb.to s2 us ws I2.kIn (r.length.symm.trans l1) l2) r2 q2) fun r s' hq => ?_)
  cases r with
  | error e => exact L2N.passAt tk σ pins H2 s2 e s' I2 hq
  | ok fl =>
    cases fl with
    | ret u => exact I2.after hq
    | next => exact False.elim hq
    | brk => exact False.elim hq
    | cont => exact False.elim hq
/-- o.insert(0, v) and its like -/
theorem e_ins {i : Expr} (q : wE X o σ H fun x H1 => ∃ l xs0, x = .ref l ∧ SqL X.K H1 l xs0 ∧ wE X i σ H1 fun j H2 => wE X e σ H2 fun y H3 => ∃ n : Int, ∃ xs, j = .int n ∧ H3 l = some (.lst xs) ∧ xs.length < sizeLine ∧ 0 ≤ n ∧ n < 2 ^ 63 ∧ Q .non (upd H3 l (.lst (xs.take n.toNat ++ [y] ++ xs.drop n.toNat))))
    (hbase : attributeBase o "insert" X.env (eval o X.env) = eval o X.env := by rfl)
    (hfew : ((backTo pos (starEach (i :: [e]) X.env)).all (fun x => !x.1) && (backToKw pos (keywordEach [] X.env)).all (fun x => x.1.isSome)
      && decide ((i :: [e]).length + ([] : List Keyword).length + (if ([] : List Keyword).isEmpty then 0 else 1) < 30)) = true := by rfl)
    (hline : (apos.endLine == pos.line) = true := by rfl) (hs : starEach (i :: [e]) X.env = (false, eval i X.env) :: starEach [e] X.env := by rfl) (hs2 : starEach (e :: []) X.env = (false, eval e X.env) :: starEach [] X.env := by rfl) (hplain : (backTo pos (starEach [e] X.env)).any (·.1) = false := by rfl) :
    wE X (.Call (.Attribute o "insert" apos) [i, e] [] pos) σ H Q := by
  refine e_of (pe_bm PySem.F.plainAttrs_list PySem.F.slot_list_insert PySem.F.type_list_insert mt_insert pe (pa_cons pe (pa_cons pe pa_nil hs2) hs) hbase hfew hline hs hplain) (e_mono q fun x H1 z => ?_)
  obtain ⟨l, xs0, rfl, hl, z⟩ := z
  refine ⟨.inl ⟨rfl, _, hl⟩, e_mono z fun j H2 z2 => e_mono z2 fun y H3 z3 => ?_⟩
  obtain ⟨n, xs, rfl, h1, h2, h3, h4, h5⟩ := z3
  exact ⟨l, xs, n, y, rfl, rfl, h1, h2, h3, h4, h5⟩
end
end Wk
namespace Wk
open PySem PySem.Spec PyProof.Rows L2
section
variable {X : Cx} {N G : List Str} {sc : Scope} {a b e v o i : Expr} {es : List Expr} {σ : L2.St} {H : Hp} {Q : VK} {QT : Bool → Hp → Prop} {pos p0 p2 apos : Pos}
theorem t_tru (q : wE X a σ H fun x H' => ∃ k, TruV X.K x H' k ∧ QT k H') (he : ∀ whole, isTrue a X.env whole = (do let v ← whole; standAt a.pos; holding [v] (truthy v)) := by intro _; rfl) : wT X a σ H QT := t_of (pt_truth pe he) q
theorem tru_l {K : PySem.W.Frag} {l : Addr} {xs : List L2.V} (h : H l = some (.lst xs)) : TruV K (.ref l) H (!xs.isEmpty) := .inl ⟨xs, SqL.of h, rfl⟩
/-- o.pop() -/
theorem e_pop (q : wE X o σ H fun x H1 => ∃ l xs y, x = .ref l ∧ H1 l = some (.lst (xs ++ [y])) ∧ Q y (upd H1 l (.lst xs)))
    (hbase : attributeBase o "pop" X.env (eval o X.env) = eval o X.env := by rfl) (hline : (apos.endLine == pos.line) = true := by rfl) : wE X (.Call (.Attribute o "pop" apos) [] [] pos) σ H Q := by
  refine e_of (pe_bm0 PySem.F.plainAttrs_list PySem.F.slot_list_pop PySem.F.type_list_pop mt_pop pe hbase hline) (e_mono q fun x H1 z => ?_)
  obtain ⟨l, xs, y, rfl, h1, h2⟩ := z
  refine ⟨.inl ⟨rfl, _, SqL.of h1⟩, l, _, y, rfl, rfl, h1, by simp, ?_⟩
  rw [List.dropLast_concat]
  exact h2
theorem e_slL0 {r : L2.V → Option Int → Option Int → Hp → VK → Prop} (hr : SlR X r) (q : wE X e σ H fun x H1 => wE X a σ H1 fun y H2 => ∃ j, y = .int j ∧ r x (some j) none H2 Q) : wE X (.Subscript e (.Slice (some a) none none p2) pos) σ H Q :=
  e_of (pe_slice hr pe (po_some pe) po_none) (e_mono q fun x H1 z => e_mono z fun y H2 ⟨j, e, z2⟩ => ⟨j, e, z2⟩)
theorem e_slL1 {r : L2.V → Option Int → Option Int → Hp → VK → Prop} (hr : SlR X r) (q : wE X e σ H fun x H1 => wE X b σ H1 fun y H2 => ∃ j, y = .int j ∧ r x none (some j) H2 Q) : wE X (.Subscript e (.Slice none (some b) none p2) pos) σ H Q :=
  e_of (pe_slice hr pe po_none (po_some pe)) (e_mono q fun x H1 z => e_mono z fun y H2 ⟨j, e, z2⟩ => ⟨j, e, z2⟩)
theorem s_dput {nx : L2.St → Hp → Prop} {rt : VK} {bk ct : L2.St → Hp → Prop} {pos' : Pos} (hu : X.A.units + 1 < cLine) (q : wE X v σ H fun v H1 => wE X o σ H1 fun x H2 => wE X i σ H2 fun y H3 => ∃ a H4, x = .ref a ∧ DPut H3 a y v H4 ∧ nx σ H4)
    (hs : swapsWith v (some (.Subscript o i pos')) pos.line X.env = pure false := by rfl) : wS X (.Assign [.Subscript o i pos'] v pos) ⟨nx, rt, bk, ct⟩ σ H := s_of (ps_dput hu pe pe pe hs) q
theorem c_listD {p : Addr} {kvs : List (Key × L2.V)} (hc : X.calm = true) (h : H p = some (.dK kvs)) (q : ∀ l H2, Same H H2 → H2 l = some (.lst (kvs.map fun kv => kV kv.1)) → Q (.ref l) H2) : wC X (.type "list") [.ref p] H Q :=
  c_of (call_list_dK hc) ⟨p, kvs, rfl, h, fun l np => q l _ (fun c u eo => by rw [upd_ne (ne_of_none eo np)]; exact eo) upd_same⟩
theorem c_listL {p : Addr} {xs : List L2.V} (h : H p = some (.lst xs)) (q : ∀ l H2, Same H H2 → H l = none → H2 l = some (.lst xs) → Q (.ref l) H2) : wC X (.type "list") [.ref p] H Q :=
  c_of call_list_of ⟨p, xs, rfl, .inl (SqL.of h), fun l np => q l _ (fun c u eo => by rw [upd_ne (ne_of_none eo np)]; exact eo) np upd_same⟩
end
end Wk
namespace Wk
open PySem PySem.Spec PyProof.Rows L2
section
variable {X : Cx} {c e : Expr} {body : List Stmt} {σ : L2.St} {H : Hp} {pos : Pos} {N G : List Str} {sc : Scope}
theorem s_whileN {nx : L2.St → Hp → Prop} {rt : VK} {bk ct : L2.St → Hp → Prop} (Pv : Nat → L2.St → Hp → Prop) (n0 : Nat) (h0 : Pv n0 σ H)
    (hs : ∀ n σ H, Pv n σ H → wT X c σ H fun b H1 => if b = true then wL X body ⟨fun σ' H' => ∃ m, m < n ∧ Pv m σ' H', rt, nx, fun σ' H' => ∃ m, m < n ∧ Pv m σ' H'⟩ σ H1 else nx σ H1)
    (I : In X N G sc := by assumption) : wS X (.While c body [] pos) ⟨nx, rt, bk, ct⟩ σ H := by
  refine s_of (ps_while I.never pt pl) ⟨Pv, ⟨n0, h0⟩, fun n σ H p => ?_⟩
  refine t_mono (hs n σ H p) fun b H1 q => ?_
  cases b with
  | true => exact ⟨fun σ' H' => ∃ m, m < n ∧ Pv m σ' H', fun σ' H' z => z, q⟩
  | false => exact q
end
end Wk
namespace Wk
open PySem PySem.Spec PyProof.Rows L2
/-- a block with two own names -/
structure BkOk2 (N : List Str) (V : List (Nat × Str)) (G : List Str) (i j : Nat) (x y : Str) (sc scope : Scope) : Prop where
  lo : ∀ p ∈ V, N[p.1]? = some p.2 ∧ Vis (relS scope sc) p.2 ∧ (p.2 == ("__debug__" : Str)) = false ∧ (p.2 == ("__classdict__" : Str)) = false
  gl : ∀ x ∈ G, (relS scope sc).names.lookup x = some .globalImplicit ∧ (x == ("__debug__" : Str)) = false ∧ x ≠ "__name__"
  own : N[i]? = some x ∧ (relS scope sc).names.lookup x = some .local
  own2 : N[j]? = some y ∧ (relS scope sc).names.lookup y = some .local
  ne : i ≠ j
  blk : blkC N sc scope [(x, i), (y, j)] = true
section
variable {X : Cx} {e a b c elt : Expr} {es rest : List Expr} {σ : L2.St} {H : Hp} {Q : VK} {pos p0 : Pos} {N G G' : List Str} {Vn : List (Nat × Str)} {sc scope : Scope}
theorem BkOk2.inB {i j : Nat} {x y : Str} (B : BkOk2 X.N Vn G' i j x y sc scope) (I : In X N G sc) (s : Shared) (H : Hp) (C : Addr) (cl : List (Str × Addr)) (fp : List Addr) : InB (Bk X s H scope C cl fp) Vn G' := by
  have e : (compEnvC scope cl C X.env).scope = relS scope sc := rel_eq I.sc C cl
  refine ⟨I.nd, fun p hp => ?_, fun y hy => ?_⟩
  · obtain ⟨h1, h2, h3, h4⟩ := B.lo p hp
    exact ⟨h1, by show Vis (compEnvC scope cl C X.env).scope p.2; rw [e]; exact h2, h3, h4⟩
  · obtain ⟨h1, h2, h3⟩ := B.gl y hy
    exact ⟨by show (compEnvC scope cl C X.env).scope.names.lookup y = _; rw [e]; exact h1, h2, h3⟩
def gT2 (K : PySem.W.Frag) (i j : Nat) : TG := fun v σ H Q => ∃ a u w, v = .ref a ∧ SqT K H a [u, w] ∧ Q ((σ.set i (some u)).set j (some w)) H
theorem BkOk2.pg {i j : Nat} {x y : Str} {px py pt : Pos} {k : Nat} (B : BkOk2 X.N Vn G' i j x y sc scope) (hc : X.calm = true) (I : In X N G sc) (s : Shared) (H : Hp) (C : Addr) (cl : List (Str × Addr)) (fp : List Addr) : PG (Bk X s H scope C cl fp) (.Tuple [.Name x px, .Name y py] k pt) (gT2 X.K i j) := by
  have e : (compEnvC scope cl C X.env).scope = relS scope sc := rel_eq I.sc C cl
  have l : (Bk X s H scope C cl fp).env.scope.names.lookup x = some .local := by
    show (compEnvC scope cl C X.env).scope.names.lookup x = _
    rw [e]
    exact B.own.2
  have l2 : (Bk X s H scope C cl fp).env.scope.names.lookup y = some .local := by
    show (compEnvC scope cl C X.env).scope.names.lookup y = _
    rw [e]
    exact B.own2.2
  refine ⟨fun pins s σ H v u Q I0 r h => ?_⟩
  obtain ⟨ad, u1, w1, rfl, hq, q⟩ := h
  exact (pg_tup (X := Bk X _ _ scope C cl fp) hc (pgs_cons (pg_name I.nd B.own.1 (.inl l) (.inr l)) (pgs_cons (pg_name I.nd B.own2.1 (.inl l2) (.inr l2)) pgs_nil))).run pins s σ H _ u Q I0 r ⟨ad, [u1, w1], rfl, hq, rfl, u1, [w1], rfl, w1, [], rfl, rfl, q⟩
theorem BkOk2.ok {i j : Nat} {x y : Str} (B : BkOk2 X.N Vn G' i j x y sc scope) (I : In X N G sc) : BlkOk X.N X.env.scope scope [(x, i), (y, j)] := by
  rw [I.sc]
  exact blkOk_by B.blk
theorem wipe2 (σ : L2.St) (i j : Nat) : wipe σ [i, j] = (σ.set j none).set i none := rfl
theorem wipe_set2 (σ : L2.St) {i j : Nat} (h : i ≠ j) (u w : L2.V) : wipe (((wipe σ [i, j]).set i (some u)).set j (some w)) [i, j] = wipe σ [i, j] := by
  rw [wipe2, wipe2]
  apply List.ext_getElem?
  intro k
  by_cases h1 : i = k
  · subst h1
    simp [List.getElem?_set, h.symm]
  · by_cases h2 : j = k
    · subst h2
      simp [List.getElem?_set, h1]
    · simp [List.getElem?_set, h1, h2]
/-- [elt for x, y in a], a list of pairs -/
def LcL2 (X : Cx) (Vn : List (Nat × Str)) (G' : List Str) (elt : Expr) (scope : Scope) (i j : Nat) (ad : Addr) (xs : List L2.V) (D : Addr) (σ : L2.St) (H1 : Hp) (Qd : Hp → Prop) : Prop := ∃ Pv : Nat → Hp → Prop, Pv 0 (upd H1 D (.lst [])) ∧ (∀ k H2, k ≤ xs.length → Pv k H2 → SqL X.K H2 ad xs) ∧
  (∀ k x H2, xs[k]? = some x → Pv k H2 → ∃ t u w, x = .ref t ∧ SqT X.K H2 t [u, w] ∧ ∀ s0 H0 C cl fp, InB (Bk X s0 H0 scope C cl fp) Vn G' → wE (Bk X s0 H0 scope C cl fp) elt (((wipe σ [i, j]).set i (some u)).set j (some w)) H2 fun y H4 => ∃ acc, H4 D = some (.lst acc) ∧ acc.length < sizeLine ∧ Pv (k + 1) (upd H4 D (.lst (acc ++ [y])))) ∧
  ∀ H2, Pv xs.length H2 → Qd H2
theorem pe_bk2 {i j : Nat} {x y : Str} {s0 : Shared} {H0 : Hp} {C : Addr} {cl : List (Str × Addr)} {fp : List Addr} (I : InB (Bk X s0 H0 scope C cl fp) Vn G') : PE (Bk X s0 H0 scope C cl fp) elt (wBk X Vn G' elt scope) := pe_bk I
theorem lcL2_of {i j : Nat} (hij : i ≠ j) {ad : Addr} {xs : List L2.V} {D : Addr} {H1 : Hp} {Qd : Hp → Prop} (q : LcL2 X Vn G' elt scope i j ad xs D σ H1 Qd) : ∃ W : Nat → Nat → Hp → Prop, (∃ m, W 0 m (upd H1 D (.lst []))) ∧ ∀ k m H, W k m H →
    ((Itl X.K ad).stop k H ∧ Qd H) ∨ ((Itl X.K ad).go k H ∧ ∃ Nx : Hp → Prop, (∀ H', Nx H' → ∃ m', m' < m ∧ W (k + 1) m' H') ∧ ∀ x H', (Itl X.K ad).yld k H x H' → gT2 X.K i j x (wipe σ [i, j]) H' fun σ2 H2 => wipe σ2 [i, j] = wipe σ [i, j] ∧ tYes σ2 H2 fun b H3 =>
      if b = true then wBk X Vn G' elt scope σ2 H3 fun y H4 => ∃ acc, H4 D = some (.lst acc) ∧ acc.length < sizeLine ∧ Nx (upd H4 D (.lst (acc ++ [y]))) else Nx H3) := by
  obtain ⟨Pv, h0, hl, hs, hd⟩ := q
  refine lc_list Pv h0 hl (fun k x H hk p => ?_) hd
  obtain ⟨t, u, w, rfl, hq, z⟩ := hs k x H hk p
  refine ⟨t, u, w, rfl, hq, wipe_set2 σ hij u w, ?_⟩
  unfold tYes
  refine iteT ?_
  unfold wBk
  intro s0 H0 C cl fp I
  exact z s0 H0 C cl fp I
theorem e_lcL2 {i j : Nat} {x y : Str} {px py pt : Pos} {kt : Nat} (B : BkOk2 X.N Vn G' i j x y sc scope)
    (q : wE X a σ H fun v H1 => ∃ ad xs, v = .ref ad ∧ SqL X.K H1 ad xs ∧ ∀ D, H1 D = none → LcL2 X Vn G' elt scope i j ad xs D σ H1 fun H2 => Q (.ref D) H2)
    (I : In X N G sc := by assumption) (hc : X.calm = true := by rfl) (hs2 : ∀ z, foldedSetIterable a X.env z = pure z := by intro _; rfl) :
    wE X (.ListComp elt [⟨.Tuple [.Name x px, .Name y py] kt pt, a, [], 0⟩] scope pos) σ H Q := by
  refine e_of (pe_lc (own := [(x, i), (y, j)]) (g := gT2 X.K i j) (tt := tYes) (te := wBk X Vn G' elt scope) hc I.nd (pi_list pe) (B.ok I) (fun s H C cl fp => B.pg hc I s H C cl fp) (fun _ _ _ _ _ => pts_nil) (fun s H C cl fp => pe_bk (B.inB I s H C cl fp)) hs2) (e_mono q fun v H1 q1 => ?_)
  obtain ⟨ad, xs, rfl, hl, q2⟩ := q1
  exact ⟨ad, rfl, ⟨xs, hl⟩, fun D hD => lcL2_of B.ne (q2 D hD)⟩
end
end Wk
namespace Wk
open PySem PySem.Spec PyProof.Rows L2
section
variable {P : Program} {w : World} {K : PySem.W.Frag} {mg : Str → Option Value} {base : Heap}
/-- a def of the module with one keyword-only default -/
structure TopK (K : PySem.W.Frag) (mg : Str → Option Value) (x : Str) (st : Stmt) (kw : Str) (d : L2.V) : Prop where
  ex : ∃ (f : Addr) (fd : FuncData), FunD K x x (defArgs st) (defBody st) (defScope st) [] [(kw, d)] f fd ∧ mg x = some (.ref f)
theorem topK_mk {h : Heap} {x kw : Str} {d : L2.V} {u : Value} {st : Stmt} {f D : Addr} {oc : Value} {od an : Option Addr} {osl : Array (Option Value)} {doc pm cdv ct : Value} (X : K.In h) (G : h.Ns mainGlobals mg) (a : PySem.W.nsIn K mainGlobals x = some (some (.ref f)))
    (l : K.lookup f = some ⟨oc, od, .func (PySem.W.fnOf x x (defArgs st) (defBody st) (defScope st) .none (.ref D) doc pm an cdv ct), osl⟩) (c : PySem.W.codeIn K cdv x = true) (k : PySem.W.keepIn K (.ref f) = true)
    (hd : PySem.W.nsIn K D kw = some (some u)) (r : RelV d u) : TopK K mg x st kw d :=
  ⟨f, _, ⟨⟨oc, od, .none, .ref D, doc, pm, an, cdv, ct, osl, rfl, l, c, .inl ⟨rfl, rfl⟩, .inr ⟨D, rfl, fun q hq => by
    simp only [List.mem_singleton] at hq
    subst hq
    exact ⟨u, hd, r⟩⟩⟩, k⟩, PySem.W.mg_of X G a⟩
theorem fn_okKw {x kw : Str} {d : L2.V} {st : Stmt} {N G : List Str} {p1 p2 : Str} {k : Nat} {sp : Sp} (T : TopK K mg x st kw d) (S : FnScope N [p1, p2, kw] (defScope st)) (O : ScOk N G (defScope st)) (len : ∀ vs H Q E, sp vs H Q E → vs.length = 3)
    (hb : ∀ (D : Addr) (doc pm : Value) (an : Option Addr) (cdv ct : Value) (a b u : Value), KwChain D [(kw, u)] (bindArgs (PySem.W.fnOf x x (defArgs st) (defBody st) (defScope st) .none (.ref D) doc pm an cdv ct) ⟨[a, b], []⟩) [(p1, a), (p2, b), (kw, u)])
    (hb2 : ∀ (kV doc pm : Value) (an : Option Addr) (cdv ct : Value) (a b u : Value), bindArgs (PySem.W.fnOf x x (defArgs st) (defBody st) (defScope st) .none kV doc pm an cdv ct) ⟨[a, b], [(kw, u)]⟩ = pure [(p1, a), (p2, b), (kw, u)])
    (hbody : ∀ (f : Addr) (cdv : Value) (A : Around) (outer : List Env) (s : Shared) (H : Hp) (vs : List L2.V) (Q : VK) (E : XK), Room k (A.deeper (envOfC x (defScope st) s.heap.objs.size f cdv)) → sp vs H Q E → In (cxOf (L2N.CX P w) P w K mg base N x (defScope st) f cdv A outer s H E) N G (defScope st) →
      L2N.Takes (cxOf (L2N.CX P w) P w K mg base N x (defScope st) f cdv A outer s H E) (fun cls d _ H => E cls d H) →
      wL (cxOf (L2N.CX P w) P w K mg base N x (defScope st) f cdv A outer s H E) (defBody st) { nx := fun _ H' => Q .non H', rt := Q } (start N vs) H) : FnKw P w K mg base (k + 1) x kw 2 d sp := by
  obtain ⟨f, fd, F, hm⟩ := T.ex
  have hbd := FunD.binds0 (ps := [p1, p2, kw]) F 2 (by simp) rfl (fun D doc pm an cdv ct us ks l1 l2 => by
    match us, ks, l1, l2 with
    | [a, b], [u], _, _ => exact hb D doc pm an cdv ct a b u)
  obtain ⟨oc, od, dV, kV, doc, pm, an, cdv, ct, osl, rfl, lk, hcd, hD, hK⟩ := id F.ex
  obtain rfl : dV = .none := by
    rcases hD with ⟨_, h⟩ | ⟨h, _⟩
    · exact h
    · exact absurd rfl h
  refine ⟨f, _, [p1, p2, kw], fn_of lk hcd S len (fun A outer s H vs Q E hr h => ⟨_, pl, hbody f cdv A outer s H vs Q E hr h ⟨O, ⟨[], (List.append_nil _).symm⟩, S.nd, rfl, rfl, passes_of rfl⟩ (L2N.takes_of rfl rfl rfl rfl)⟩), hm, F.kp, ?_, fun us ws => us ++ ws, ⟨fun s us ws _ l1 l2 => ?_, fun r1 r2 => r1.append r2⟩⟩
  · obtain ⟨ds, h1, h2⟩ := hbd
    exact ⟨ds, h1, h2⟩
  · match us, ws, l1, l2 with
    | [a, b], [u], _, _ => exact .of_eq (hb2 kV doc pm an cdv ct a b u)
end
end Wk

set_option maxHeartbeats 4000000
/-! My own layer: sorted(set(xs)) of a list of texts. -/
namespace Wk
open PySem PySem.Spec PyProof.Rows L2
/-- one more text, if it is new -/
def addL (l : List Str) (z : Str) : List Str := if z ∈ l then l else l ++ [z]
def txE (e : Int × Value) : Str := strOf e.2
def TxE (w : World) (e : Int × Value) : Prop := ∃ z tk, e.2 = Value.str z tk ∧ e.1 = hashStr w z
/-- the set of the texts L -/
def SetTx (w : World) (h : Heap) (a : Addr) (L : List Str) : Prop :=
  ∃ ob es ep tb, h.get? a = some ob ∧ ob.ExactSet ∧ ob.data = .set es ep tb ∧ (∀ e ∈ es.toList, TxE w e) ∧ (es.toList.map txE).Perm L ∧ L.Nodup ∧
    es.size < scanBound ∧ tb.fits es.size = true ∧ Ris tb.place.toList ∧ (w.params.followText "set-order" = true ∨ tb.led = true)
section
variable {P : Program} {w : World} {h h' : Heap} {a : Addr} {L : List Str}
theorem SetTx.moves (R : SetTx w h a L) (k : ∀ o, h.get? a = some o → h'.get? a = some o) : SetTx w h' a L := by
  obtain ⟨ob, es, ep, tb, g1, rest⟩ := R
  exact ⟨ob, es, ep, tb, k ob g1, rest⟩
theorem tx_elems {l : List (Int × Value)} (g : ∀ e ∈ l, TxE w e) : ElemsOf (PySem.strKind P w) l := fun e m => by
  obtain ⟨z, tk, e1, e2⟩ := g e m
  refine ⟨⟨z, by rw [e1]; exact strKind_is P w z tk, e2⟩, ?_⟩
  rw [e1]
  rfl
theorem tx_is {e : Int × Value} (g : TxE w e) (z : Str) : (PySem.strKind P w).is z e.2 = true ↔ txE e = z := by
  obtain ⟨y, tk, e1, _⟩ := g
  have e2 : txE e = y := by unfold txE; rw [e1]; rfl
  rw [e2, e1]
  constructor
  · intro q
    obtain ⟨u, eu⟩ := Value.isStrOf_shape (x := z) (show Value.isStrOf z (.str y tk) = true from q)
    injection eu
  · rintro rfl
    exact strKind_is P w y tk
theorem tx_mem {l : List (Int × Value)} (g : ∀ e ∈ l, TxE w e) (z : Str) : z ∈ l.map txE ↔ ∃ e ∈ l, (PySem.strKind P w).is z e.2 = true := by
  rw [List.mem_map]
  exact ⟨fun ⟨e, m, q⟩ => ⟨e, m, (tx_is (g e m) z).2 q⟩, fun ⟨e, m, q⟩ => ⟨e, m, (tx_is (g e m) z).1 q⟩⟩
theorem tx_fresh (ho : h.get? a = some { cls := .type "set", dict := none, data := .set #[] 0 (.fresh 0 0 (!w.params.followText "set-order")) }) : SetTx w h a [] := by
  refine ⟨_, #[], 0, _, ho, ⟨rfl, rfl, rfl⟩, rfl, (fun e m => by simp at m), .refl _, List.nodup_nil, by decide, rfl, List.Pairwise.nil, ?_⟩
  show _ ∨ (!w.params.followText "set-order") = true
  cases w.params.followText "set-order" with
  | false => exact .inr rfl
  | true => exact .inl rfl
end
section
variable {P : Program} {w : World} {A : Around} {E : Value → Shared → Prop} {s : Shared} {a : Addr} {L : List Str}
theorem tx_tail {g : Bool → Sem Unit} (hg : ∀ (b : Bool) (s1 : Shared) (Q1 : Unit → Shared → Prop), Q1 () s1 → wpAny (model P w) A (g b) Q1 E s1)
    {ob : Obj} {es : Array (Int × Value)} {ep : Nat} {tb : SetTable} (g0 : s.heap.get? a = some ob) (gx : ob.ExactSet) (gd : ob.data = .set es ep tb)
    {fs : Array (Int × Value)} {t2 : SetTable} {M : List Str} (g1 : ∀ e ∈ fs.toList, TxE w e) (pm1 : (fs.toList.map txE).Perm M) (nd1 : M.Nodup)
    (b1 : fs.size < scanBound) (f1 : t2.fits fs.size = true) (r1 : Ris t2.place.toList) (l1 : w.params.followText "set-order" = true ∨ t2.led = true) {wd : Bool} {R : Option Bool → Shared → Prop}
    (hR : ∀ h1, Heap.SameBut a s.heap h1 → SetTx w h1 a M → R (some true) { s with heap := h1 }) :
    wpAny (model P w) A (do
        storeSet a fs t2
        if (!wd && t2.tooFull) = true then do
            g (relayAll t2 fs (SetTable.grown fs.size)).2.2
            storeSet a (relayAll t2 fs (SetTable.grown fs.size)).1 (relayAll t2 fs (SetTable.grown fs.size)).2.1
            pure (some true)
          else pure (some true)) R E s := by
  refine wpAny_bind (wpAny_storeSet_of g0 gd ?_ (fits_of_scanBound b1))
  have g02 := store_at (es' := fs) (t' := t2) g0 gd
  have sb := Heap.SameBut.update s.heap a (Obj.putSet fs t2)
  split
  · have pm := relayAll_perm t2 fs (SetTable.grown fs.size)
    have f3 := relayAll_fits t2 fs (SetTable.grown fs.size)
    have r3 := relayAll_ris t2 fs (SetTable.grown fs.size)
    have l3 := relayAll_led t2 fs (SetTable.grown fs.size)
    generalize relayAll t2 fs (SetTable.grown fs.size) = Z at pm f3 r3 l3 ⊢
    obtain ⟨gs, t3, gave⟩ := Z
    dsimp only at pm f3 r3 l3 ⊢
    have zs : gs.size = fs.size := by rw [← Array.length_toList, pm.length_eq, Array.length_toList]
    have b2 : gs.size < scanBound := zs ▸ b1
    refine wpAny_bind (hg _ _ _ (wpAny_bind (wpAny_storeSet_of g02 rfl ?_ (fits_of_scanBound b2))))
    have g03 := store_at (es' := gs) (t' := t3) g02 rfl
    refine wpAny_pure (hR _ (sb.trans (Heap.SameBut.update _ a _)) ⟨_, gs, _, t3, g03, gx, rfl, fun e m => g1 e (pm.mem_iff.mp m), (pm.map txE).trans pm1, nd1, b2, f3, r3, ?_⟩)
    rw [l3]
    exact l1
  · exact wpAny_pure (hR _ sb ⟨_, fs, _, t2, g02, gx, rfl, g1, pm1, nd1, b1, f1, r1, l1⟩)
theorem addL_in {z : Str} (m : z ∈ L) : addL L z = L := if_pos m
theorem addL_new {z : Str} (m : z ∉ L) : addL L z = L ++ [z] := if_neg m
theorem tx_add {z : Str} {tk : Tok} {Q : Bool → Shared → Prop} (R : SetTx w s.heap a L) (room : L.length + 1 < scanBound)
    (hQ : ∀ (b : Bool) h1, Heap.SameBut a s.heap h1 → SetTx w h1 a (addL L z) → Q b { s with heap := h1 }) :
    wpAny (model P w) A (setAddHashed a (.str z tk) ((PySem.strKind P w).hash z)) Q E s := by
  obtain ⟨ob, es, ep, tb, g0, gx, gd, g, pm0, nd, bb, ff, rr, ll⟩ := R
  have hkey : (PySem.strKind P w).is z (.str z tk) = true := strKind_is P w z tk
  have hsc : (Value.str z tk).scannable = true := rfl
  have hel : ElemsOf (PySem.strKind P w) es.toList := tx_elems g
  unfold setAddHashed setAddHashedIn
  refine wpAny_holding (wpAny_bind (wpAny_setState_of g0 gd ff ?_))
  dsimp only
  rw [byScan_of hsc bb hel]
  simp only [↓reduceIte]
  unfold setAddByScan
  refine wpAny_bind (wpAny_bind (wpAny_rule (wpAny_bind (wpAny_setScan_of hkey g0 gd ff hel ?_))))
  cases fi : List.findIdx? (fun e => (PySem.strKind P w).is z e.2) es.toList with
  | some j =>
    dsimp only
    obtain ⟨hj, pj, _⟩ := List.findIdx?_eq_some_iff_getElem.mp fi
    have m : z ∈ L := pm0.mem_iff.mp ((tx_mem (P := P) g z).2 ⟨es.toList[j], List.getElem_mem hj, pj⟩)
    refine wpAny_pure (wpAny_pure (hQ _ s.heap (Heap.SameBut.refl a s.heap) ?_))
    rw [addL_in m]
    exact ⟨ob, es, ep, tb, g0, gx, gd, g, pm0, nd, bb, ff, rr, ll⟩
  | none =>
    dsimp only
    have nz : z ∉ L := fun m => by
      obtain ⟨e, me, q⟩ := (tx_mem (P := P) g z).1 (pm0.mem_iff.mpr m)
      have c := List.findIdx?_eq_none_iff.mp fi e me
      rw [q] at c
      cases c
    have hgw : ∀ (b : Bool) {s1 : Shared} {Q1 : Unit → Shared → Prop}, Q1 () s1 → wpAny (model P w) A (match b with | true => rule "set.scan.the-table-gave-way" | false => pure ()) Q1 E s1 :=
      fun b s1 Q1 q => by cases b <;> first | exact wpAny_pure q | exact wpAny_rule q
    have pm := layNew_perm tb es ((PySem.strKind P w).hash z) (.str z tk)
    have f1 := layNew_fits tb es ((PySem.strKind P w).hash z) (.str z tk)
    have r1 := layNew_ris tb es ((PySem.strKind P w).hash z) (.str z tk) rr
    have l1 := layNew_led tb es ((PySem.strKind P w).hash z) (.str z tk)
    generalize layNew tb es ((PySem.strKind P w).hash z) (.str z tk) = Z at pm f1 r1 l1 ⊢
    obtain ⟨fs, t1, wd, gave⟩ := Z
    dsimp only at pm f1 r1 l1 ⊢
    rw [Array.toList_push] at pm
    have pk : (fs.toList.map txE).Perm (addL L z) := by
      rw [addL_new nz]
      refine (pm.map txE).trans ?_
      rw [List.map_append]
      exact pm0.append_right _
    have g1 : ∀ e ∈ fs.toList, TxE w e := fun e m => by
      rcases List.mem_append.mp (pm.mem_iff.mp m) with y | y
      · exact g e y
      · rw [List.mem_singleton.mp y]
        exact ⟨z, tk, rfl, rfl⟩
    have nd1 : (addL L z).Nodup := by
      rw [addL_new nz]
      exact List.nodup_append.mpr ⟨nd, by simp, fun x hx y hy e => by rw [List.mem_singleton] at hy; subst hy; subst e; exact nz hx⟩
    have zs : fs.size = L.length + 1 := by
      have q := pk.length_eq
      rw [addL_new nz, List.length_map, List.length_append, Array.length_toList] at q
      exact q
    have b1 : fs.size < scanBound := by rw [zs]; exact room
    have led : w.params.followText "set-order" = true ∨ t1.led = true := by rw [l1]; exact ll
    refine wpAny_bind (hgw _ ?_)
    split
    · refine wpAny_bind ?_
      rw [hashByValue_scannable 8 hsc]
      refine wpAny_pure (tx_tail ?_ g0 gx gd g1 pk nd1 b1 ?_ ?_ ?_ ?_)
      · intro b s1 Q1 q; cases b <;> first | exact wpAny_pure q | exact wpAny_rule q
      · first | (split <;> first | exact f1 | exact SetTable.fits_plain_off f1) | exact f1
      · first | (split <;> exact r1 rr) | exact r1 rr | (split <;> exact r1) | exact r1
      · first | (split <;> exact led) | exact led
      · intro h1 sb r; dsimp only; exact wpAny_pure (hQ true h1 sb r)
    · refine wpAny_bind (wpAny_pure ?_)
      simp only [↓reduceIte]
      refine tx_tail ?_ g0 gx gd g1 pk nd1 b1 f1 ?_ led ?_
      · intro b s1 Q1 q; cases b <;> first | exact wpAny_pure q | exact wpAny_rule q
      · first | exact r1 | exact r1 rr
      · intro h1 sb r; dsimp only; exact wpAny_pure (hQ true h1 sb r)
end
section
variable {P : Program} {w : World} {A : Around} {E : Value → Shared → Prop} {s : Shared}
def uniqL (zs : List Str) : List Str := zs.foldl addL []
theorem uniqL_snoc (zs : List Str) (z : Str) : uniqL (zs ++ [z]) = addL (uniqL zs) z := by unfold uniqL; rw [List.foldl_append]; rfl
theorem addL_len (l : List Str) (z : Str) : (addL l z).length ≤ l.length + 1 := by unfold addL; split <;> simp
theorem foldL_len : ∀ (zs l : List Str), (zs.foldl addL l).length ≤ l.length + zs.length
  | [], l => by simp
  | z :: zs, l => by
    have h1 := foldL_len zs (addL l z)
    have h2 := addL_len l z
    simp only [List.foldl_cons, List.length_cons]
    omega
theorem uniqL_len (zs : List Str) : (uniqL zs).length ≤ zs.length := by
  have h := foldL_len zs []
  simpa [uniqL] using h
theorem tx_loop {I : Addr} {fp wr : List Addr} {G : Array GenState → Array GenState → Prop} {n : Nat} {Pv : Nat → Value → Prop} {St : Nat → Shared → Prop} {R : Result → Shared → Prop}
    (W : WalksS P w A.in1 I fp wr G n Pv St) (D : Addr) (dfp : D ∉ fp) (zs : List Str) (en : n = zs.length) (hb : zs.length + 1 < scanBound) (hv : ∀ i v, Pv i v → ∃ z t, zs[i]? = some z ∧ v = .str z t) :
    ∀ (k i : Nat) (s : Shared), n - i = k → i ≤ n → St i s → SetTx w s.heap D (uniqL (zs.take i)) →
      (∀ s1, Moved (D :: wr) G s s1 → SetTx w s1.heap D (uniqL zs) → R (.ok (.ret .none)) s1) →
      codeAny (model P w) A (.builtin "set.update.loop" ⟨[.ref D, .ref I], []⟩) R s := by
  have dwr : D ∉ wr := fun m => dfp (W.sub _ m)
  have more : ∀ b ∈ wr, b ∈ D :: wr := fun b m => List.mem_cons_of_mem _ m
  intro k
  induction k with
  | zero =>
    intro i s ek hi st hD hR
    obtain rfl : i = n := by omega
    refine codeAny_builtin PyProof.Rows.F.entry_set_update_loop ?_
    rw [Around.under_plainId PyProof.Rows.F.plain_set_update_loop _]
    show wpAny _ A.in1 (pyNext (.ref I) >>= _) _ _ s
    refine wpAny_bind (W.done s _ _ st fun s1 mv => ?_)
    show wpAny _ A.in1 (ret Value.none) _ _ s1
    rw [List.take_of_length_le (by omega)] at hD
    exact wpAny_pure (hR s1 (mv.mono more) (hD.moves fun o e => mv.heap D o dwr e))
  | succ k ih =>
    intro i s ek hi st hD hR
    have lt : i < n := by omega
    refine codeAny_builtin PyProof.Rows.F.entry_set_update_loop ?_
    rw [Around.under_plainId PyProof.Rows.F.plain_set_update_loop _]
    show wpAny _ A.in1 (pyNext (.ref I) >>= _) _ _ s
    refine wpAny_bind (W.item i s _ _ lt st fun v s1 hp st1 mv => ?_)
    obtain ⟨z, t, hz, rfl⟩ := hv i v hp
    have hD1 : SetTx w s1.heap D (uniqL (zs.take i)) := hD.moves fun o e => mv.heap D o dwr e
    show wpAny _ A.in1 (holding [Value.str z t] (setAdd D (.str z t)) >>= _) _ _ s1
    refine wpAny_bind (wpAny_holding ?_)
    unfold setAdd
    refine wpAny_holding (wpAny_bind ((PySem.strKind P w).pyHash (k := z) (strKind_is _ _ _ _) ?_))
    have hl := uniqL_len (zs.take i)
    rw [List.length_take] at hl
    refine tx_add (s := { s1 with toks := s1.toks + 1 }) hD1 (by omega) fun b h1 sb hD2 => ?_
    rw [← uniqL_snoc, show zs.take i ++ [z] = zs.take (i + 1) by rw [List.take_add_one, hz]; rfl] at hD2
    refine wpAny_pure ⟨plainId_quiet PyProof.Rows.F.plain_set_update_loop _, ih (i + 1) _ (by omega) lt (W.frame _ s1 _ _ st1 (Nat.le_succ _) fun b m o e => ?_) hD2 fun s2 mv2 hD3 => ?_⟩
    · rw [sb.2 b (fun q : b = D => dfp (q ▸ m))]
      exact e
    · refine hR s2 (Moved.trans W.gtrans ((mv.mono more).then_heap (Nat.le_succ _) fun b o m e => ?_) mv2) hD3
      rw [sb.2 b (fun q : b = D => m (by rw [q]; exact List.mem_cons_self))]
      exact e
def freshSet (w : World) : Obj := { cls := .type "set", dict := none, data := .set #[] 0 (.fresh 0 0 (!w.params.followText "set-order")) }
theorem call_setTx {l : Addr} {items : Array Value} (zs : List Str) {Q : Value → Shared → Prop} (hh : A.handled = none) (hl : s.heap.IsList l items) (hit : StrsAre items.toList zs) (hb : zs.length + 1 < scanBound)
    (h : ∀ (h1 : Heap) (tk : Nat), SetTx w h1 s.heap.objs.size (uniqL zs) → (∀ b o, s.heap.get? b = some o → h1.get? b = some o) → Q (.ref s.heap.objs.size) { s with heap := h1, toks := tk }) :
    wpAny (model P w) A (call (.type "set") [.ref l]) Q E s := by
  have hisz : items.size = zs.length := by rw [← StrsAre.len_eq hit, Array.length_toList]
  obtain ⟨c, tl, hmro⟩ := PySem.F.called_set.mro
  have hmade := PySem.F.called_set.made
  have hsub := PySem.F.called_set.sub
  refine wpAny_call (codeAny_of_tree ?_)
  show wpAny _ _ (callAny (.type "set") _) _ _ _
  refine wpAny_pure ⟨Code.quiet_builtin _ (by decide +kernel), codeAny_builtin PySem.F.entry_type_call ?_⟩
  rw [Around.under_plain (weight_type_call_type "set" [.ref l] []) rfl]
  have h1 := PySem.F.called_set.notType
  have h2 := PySem.F.called_set.canCreate
  have hct := PySem.F.typeCall_set_1 (.ref l)
  repeat (any_goals (first | assumption | wp_step))
  refine codeAny_mono (code_set_led1 (.ref l) (E := E) (Q₁ := fun ov s1 => ov = .ref s.heap.objs.size ∧ s1 = { s with heap := s.heap.push (freshSet w) }) ⟨rfl, rfl⟩) fun r s1 hr => ?_
  cases r with
  | error e => exact hr
  | ok fl =>
    cases fl with
    | ret ov =>
      obtain ⟨rfl, rfl⟩ := hr
      have gS : (s.heap.push (freshSet w)).get? s.heap.objs.size = some (freshSet w) := Heap.get?_push_size _ rfl
      have gT : Shared.TypeIs { s with heap := s.heap.push (freshSet w) } (.ref s.heap.objs.size) "set" := ⟨_, gS, rfl⟩
      have hli := PySem.F.called_set.init.lookup
      have hbi := PySem.F.called_set.init.bind (.ref s.heap.objs.size)
      repeat (any_goals (first | assumption | wp_step))
      refine codeAny_mono (codeAny_call_builtin (R := wants (fun r s2 => r = .none ∧ ∃ h1 tk, s2 = { s with heap := h1, toks := tk } ∧ SetTx w h1 s.heap.objs.size (uniqL zs) ∧
          (∀ b o, s.heap.get? b = some o → h1.get? b = some o)) E) PySem.F.called_set.init.plain PySem.F.entry_set_init (check_set_init_1 gT ?_)) fun r2 s2 hr2 => ?_
      · obtain ⟨ol, hol, hcl, nl, hdl⟩ := hl
        obtain ⟨ocls, odict, odata, oslots⟩ := ol
        simp only at hcl hdl
        subst hcl; subst hdl
        have hol1 : (s.heap.push (freshSet w)).get? l = some { cls := .type "list", dict := odict, data := .seq items nl, slots := oslots } := Heap.get?_push_of_some _ hol
        have hsls := PySem.F.sub_list_set
        have hslf := PySem.F.sub_list_frozenset
        have hne : (Value.type "list" == Value.type "dict") = false := by decide
        have hl1 : (s.heap.push (freshSet w)).IsList l items := ⟨_, hol1, rfl, nl, rfl⟩
        unfold Builtin.«set.__init__» noKeywords Builtin.Frozenset.updateFrom
        generalize hPI : pyIter = PI
        wp_walk
        subst hPI
        refine wpAny_pyIter_list hl1 ?_
        refine wpAny_bind (wpAny_runValue ?_)
        have hlS : l < s.heap.objs.size := Heap.lt_size hol
        have hh3 : A.in1.in1.in1.handled = none := by simp [hh]
        have hneI : l ≠ (s.heap.push (freshSet w)).objs.size := by
          rw [Heap.size_push]; exact Nat.ne_of_lt (Nat.lt_succ_of_lt hlS)
        have hSf : s.heap.objs.size ∉ [(s.heap.push (freshSet w)).objs.size, l] := by
          rw [Heap.size_push]; simp only [List.mem_cons, List.mem_singleton, List.not_mem_nil, or_false, not_or]
          exact ⟨Nat.ne_of_lt (Nat.lt_succ_self _), Nat.ne_of_gt hlS⟩
        have hval : ∀ (i : Nat) (v : Value), items[i]? = some v → ∃ z t, zs[i]? = some z ∧ v = .str z t := fun i v hv => by
          have hi : i < zs.length := by rw [← hisz]; exact (Array.getElem?_eq_some_iff.mp hv).1
          obtain ⟨t, e⟩ := SS.strs_at hit i v (by rw [Array.getElem?_toList]; exact hv)
          refine ⟨zs[i], t, List.getElem?_eq_getElem hi, ?_⟩
          rw [e, List.getD_eq_getElem?_getD, List.getElem?_eq_getElem hi] <;> rfl
        refine tx_loop ((Walks.list hh3 _ l hneI items).toS) s.heap.objs.size hSf zs hisz hb hval (items.size - 0) 0 _ (by omega) (Nat.zero_le _)
          ⟨⟨_, Heap.get?_push_size _ rfl, rfl, rfl⟩, (hl1.push _)⟩ (tx_fresh (Heap.get?_push_of_some _ gS)) fun s3 hm hD => ?_
        obtain ⟨h3, g3, d3, tk3, os3⟩ := s3
        obtain rfl : g3 = s.gens := hm.gens
        obtain rfl : d3 = s.drawn := hm.drawn
        obtain rfl : os3 = s.os := hm.os
        show wpAny _ _ _ _ _ _
        refine wpAny_pure ?_
        show wpAny _ _ (ret Value.none) _ _ _
        refine wpAny_pure ⟨rfl, h3, tk3, rfl, hD, fun b o e => ?_⟩
        have hb0 : b < s.heap.objs.size := Heap.lt_size e
        refine hm.heap b o ?_ (Heap.get?_push_of_some _ (Heap.get?_push_of_some _ e))
        simp only [List.mem_cons, List.mem_singleton, List.not_mem_nil, or_false, not_or]
        exact ⟨Nat.ne_of_lt hb0, by rw [Heap.size_push]; exact Nat.ne_of_lt (Nat.lt_succ_of_lt hb0)⟩
      · cases r2 with
        | error e => exact hr2
        | ok fl2 =>
          cases fl2 with
          | ret r =>
            obtain ⟨rfl, h3, tk, rfl, hD, hk⟩ := hr2
            repeat (any_goals (first | assumption | wp_step))
            exact h _ _ hD hk
          | _ => exact hr2.elim
    | _ => exact hr.elim
end
end Wk

set_option maxHeartbeats 4000000
/-! My own layer: sorted of a set of texts, tuple(reversed(t)) of a tuple. -/
namespace Wk
open PySem PySem.Spec PyProof.Rows L2
section
variable {P : Program} {w : World} {A : Around} {E : Value → Shared → Prop} {s : Shared} {a : Addr} {L : List Str}
theorem sorted_setTx {Q : Value → Shared → Prop} (R : SetTx w s.heap a L) (hh : A.handled = none) (h64 : L.length < 64)
    (hQ : ∀ s1 p (out : Array Value) (c : Nat) (ys : List Str), (∀ b o, s.heap.get? b = some o → s1.heap.get? b = some o) → s1.gens = s.gens → s1.os = s.os → s.heap.objs.size ≤ p →
      s1.heap.get? p = some (seqObj "list" out c) → StrsAre out.toList ys → ys.Perm L → sortedS ys = true → Q (.ref p) s1) :
    wpAny (model P w) A (call (.builtin "sorted") [.ref a]) Q E s := by
  obtain ⟨ob, es, ep, tb, g0, gx, gd, g, pm0, nd, bb, ff, rr, ll⟩ := R
  refine Calls.call_function_entry kind_sorted plain_sorted entry_sorted (args_sorted1 _) ?_
  unfold Builtin.«sorted»
  refine wpAny_bind (m := checkCount "sorted" 1 1 _) (wpAny_pure ?_)
  refine wpAny_bind (collect_set (A := A.in1) hh ⟨ob, g0, gx.1, gd⟩ ff bb rr ll fun s1 vs k1 hz g1 o1 pm => ?_)
  have hI : StrsAre vs (vs.map strOf) := strsAre_map vs fun v hv => by
    obtain ⟨e, he, q⟩ := List.mem_map.mp (pm.mem_iff.mp hv)
    obtain ⟨z, tk, e1, _⟩ := g e he
    exact ⟨z, tk, q ▸ e1⟩
  have pk : (vs.map strOf).Perm L := by
    have q := pm.map strOf
    rw [List.map_map] at q
    exact q.trans pm0
  have hvl : vs.length = L.length := by have q := pk.length_eq; rwa [List.length_map] at q
  refine wpAny_bind (wpAny_newList ?_ (by rw [hvl, sizeLine_eq]; omega))
  have hoL : (s1.heap.push (seqObj "list" vs.toArray 0)).get? s1.heap.objs.size = some (seqObj "list" vs.toArray 0) := Heap.get?_push_size _ rfl
  refine wpAny_bind (wpAny_holding (wpAny_call_entry slot_list_sort ⟨_, hoL, rfl⟩ entry_list_sort (list_sort_treeK strKind_oneLt hoL hI.keysOf
    (fun v1 v2 rest e => keyKind_strs (ss := vs.map strOf) (by rw [← e]; exact hI)) (by rw [hvl]; exact h64) fun st hp hs => ⟨_, rfl, ?_⟩) (args_list_sort _)))
  obtain ⟨ys, y1, y2, y3⟩ := sorted_out_str hI hp hs
  obtain ⟨c, hc⟩ := sortedHeap_at (vs := vs) (out := (arrOf st).map (·.2)) hoL
  refine wpAny_pure ⟨_, rfl, hQ _ s1.heap.objs.size _ c ys (fun b u e => ?_) g1 o1 hz hc y1 (y2.trans pk) y3⟩
  have q := k1 b u e
  have lt := Heap.lt_size q
  show (sortedHeap (s1.heap.push (seqObj "list" vs.toArray 0)) s1.heap.objs.size vs ((arrOf st).map (·.2))).get? b = some u
  rw [sortedHeap_old (Nat.ne_of_lt lt) (by rw [size_push']; exact Nat.lt_succ_of_lt lt)]
  exact Heap.get?_push_of_some _ q
end
/-- the set of the texts L at a -/
def SetTO (w : World) (a : Addr) (L : List Str) : HO := .ext fun h => SetTx w h a L
section
variable {X : Cx}
theorem setTO_ok {w : World} {P : Program} {H : Hp} {h : Heap} {a : Addr} {L : List Str} (R : SetTx w h a L) : ObjOk P w H h a (SetTO w a L) := by
  have ⟨o, _, _, _, ho, _⟩ := R
  exact ⟨R, ⟨o, ho⟩, fun _ _ p k => SetTx.moves p k⟩
def rSetOfTx (w : World) (K : PySem.W.Frag) : List V → Hp → VK → Prop := fun xs H Q => ∃ (l : Addr) (zs : List Str), xs = [V.ref l] ∧ SqL K H l (zs.map V.str) ∧ zs.length + 1 < scanBound ∧ ∀ p, H p = none → Q (.ref p) (upd H p (SetTO w p (uniqL zs)))
theorem cr_setOfTx (hc : X.calm = true) : CallR X (.type "set") (rSetOfTx X.w X.K) := by
  intro pins s σ H xs us Q I r h
  obtain ⟨l, zs, rfl, hq, hb, q⟩ := h
  rw [Vals.ref1 r]
  obtain ⟨its, rv, pl, hz⟩ := I.list hq
  refine call_setTx zs (I.ok.hd hc) pl.isList (by simpa using strsAre_of rv) hb fun h1 tk hD k => ?_
  exact ⟨.ref _, upd H s.heap.objs.size (SetTO X.w s.heap.objs.size (uniqL zs)), I.laid (t' := tk) k (Nat.le_refl _) (setTO_ok hD), rfl, q _ (I.hok.fresh (Nat.le_refl _))⟩
def rSortedTx (w : World) : List V → Hp → VK → Prop := fun vs H Q => ∃ (a : Addr) (L : List Str), vs = [V.ref a] ∧ H a = some (SetTO w a L) ∧ L.length < 64 ∧
  ∀ (ys : List Str) (p : Addr), ys.Perm L → sortedS ys = true → H p = none → Q (.ref p) (upd H p (.lst (ys.map V.str)))
theorem cr_sortedTx (hc : X.calm = true) : CallR X (.builtin "sorted") (rSortedTx X.w) := by
  intro pins s σ H vs us Q I r h
  obtain ⟨a, L, rfl, ha, h64, q⟩ := h
  have R : SetTx X.w s.heap a L := (I.hok a _ ha).1
  rw [Vals.ref1 r]
  refine sorted_setTx R (I.ok.hd hc) h64 fun s1 p out c ys k g o hp hg hi pm hs => ?_
  have hlen : (ys.map V.str).length ≤ sizeLine := by rw [List.length_map, pm.length_eq, sizeLine_eq]; omega
  have hn : H p = none := I.hok.fresh hp
  have J : Inv X pins σ (upd H p (.lst (ys.map V.str))) { s with heap := s1.heap, gens := s1.gens, drawn := s1.drawn, toks := s1.toks } :=
    I.call (ch := []) (Un.laid k hp hn) (I.hok.laid k hp ⟨hlen, out.toList, c, vals_of_strs hi, hg⟩) (by rw [g]; exact I.bare) (fun _ z => nomatch z)
  have e : s1 = { s with heap := s1.heap, gens := s1.gens, drawn := s1.drawn, toks := s1.toks } := by
    cases s1
    cases s
    cases o
    rfl
  rw [e]
  exact ⟨.ref p, _, J, rfl, q ys p pm hs hn⟩
end
end Wk

set_option maxHeartbeats 4000000
/-! My own layer: tuple(reversed(t)) of a tuple. -/
namespace Wk
open PySem PySem.Spec PyProof.Rows L2 RT
theorem nolen_rt : typeLookup (.type "reversed") "__len__" = pure none := by rw [typeLookup_type, builtinLookup_eq_fast]; kernel_rfl
theorem hint_rt : typeLookup (.type "reversed") "__length_hint__" = pure (some (.builtin "reversed.__length_hint__")) := by rw [typeLookup_type, builtinLookup_eq_fast]; kernel_rfl
theorem slot_rt_hint : Slot "reversed" "__length_hint__" "reversed.__length_hint__" :=
  .of (owner := "reversed") (n := "__length_hint__") (by rw [typeLookup_type, builtinLookup_eq_fast]; kernel_rfl) (by decide +kernel) (by decide +kernel) (by decide +kernel)
    (by first | exact .inl (by decide +kernel) | exact .inr (by decide +kernel)) (by rw [isSubtype_type]; kernel_rfl)
theorem entry_rt_hint : entryFor table "reversed.__length_hint__" = some Builtin.«reversed.__length_hint__» := entryFor_of_tree (by kernel_rfl)
theorem args_rt_hint (a : Value) : argsOk "reversed.__length_hint__" ⟨[a], []⟩ := by
  unfold argsOk; rw [signature?_of (id := "reversed.__length_hint__") (n := ['_', '_', 't', 'n', 'i', 'h', '_', 'h', 't', 'g', 'n', 'e', 'l', '_', '_']) (o := ['d', 'e', 's', 'r', 'e', 'v', 'e', 'r']) (by kernel_rfl) owner_rt]; kernel_rfl
theorem bind_rt_hint (x : Value) : bindSpecial (.builtin "reversed.__length_hint__") x = pure (.builtin "reversed.__length_hint__", [x]) := by
  unfold bindSpecial
  rw [show typeOf (.builtin "reversed.__length_hint__") = pure (.type "method_descriptor") from by kernel_rfl]
  rfl
section
variable {prog : Program} {w : World} {A : Around} {E : Value → Shared → Prop} {s : Shared}
theorem walks_rt (hh : A.handled = none) (it t : Addr) (ne : t ≠ it) (items : Array Value) (hz : items.size ≤ sizeLine) :
    Walks prog w A it [it, t] [it] items.size (fun i v => items[items.size - 1 - i]? = some v) (fun i h => i ≤ items.size ∧ IsRt h it t ((items.size : Int) - 1 - (i : Int)) ∧ IsTup h t items) where
  sub := fun b m => by simp at m; simp [m]
  frame := fun _ _ _ x k => ⟨x.1, x.2.1.at fun o e => k it (by simp) o e, let ⟨o, e, z⟩ := x.2.2; ⟨o, k t (by simp) o e, z⟩⟩
  item := fun i s Q E hi x hQ => by
    have e1 : (items.size : Int) - 1 - (i : Int) = ((items.size - 1 - i : Nat) : Int) := by omega
    have hit := x.2.1
    rw [e1] at hit
    have hx : items[items.size - 1 - i]? = some (items[items.size - 1 - i]'(by omega)) := Array.getElem?_eq_getElem (by omega)
    refine next_rt_item hit x.2.2 hx hz fun h1 st sb => ?_
    have e2 : ((items.size - 1 - i : Nat) : Int) - 1 = (items.size : Int) - 1 - ((i + 1 : Nat) : Int) := by omega
    rw [e2] at st
    exact hQ _ h1 _ hx ⟨hi, st, let ⟨o, eo, z⟩ := x.2.2; ⟨o, (sb.2 t ne).trans eo, z⟩⟩ fun b o nb eo => sb.extBut b o (fun q => nb (by simp [q])) eo
  done := fun s Q E x hQ => by
    have e1 : (items.size : Int) - 1 - (items.size : Int) = -1 := by omega
    have hit := x.2.1
    rw [e1] at hit
    exact next_rt_end hh hit fun h1 he => hQ h1 s.toks fun b o nb eo => he b o (fun q => nb (by simp [q])) eo
  self := fun _ _ _ _ x hQ => iter_rt x.2.1 hQ
theorem call_rt_hint {it t : Addr} {items : Array Value} {Q : Value → Shared → Prop} (hit : IsRt s.heap it t ((items.size : Int) - 1)) (ht : IsTup s.heap t items) (hz : items.size ≤ sizeLine)
    (hQ : ∀ tk u, Q (.int items.size tk) { s with toks := u }) : wpAny (model prog w) A (call (.builtin "reversed.__length_hint__") [.ref it]) Q E s := by
  obtain ⟨o, ho, hc, hd⟩ := id hit
  have z2 := hz
  rw [sizeLine_eq] at z2
  refine wpAny_call_entry slot_rt_hint hit.typeIs entry_rt_hint ?_ (args_rt_hint _)
  unfold Builtin.«reversed.__length_hint__»
  refine wpAny_bind (wpAny_of_eq (a := Value.ref it) rfl ?_)
  try dsimp only
  refine wpAny_bind (wpAny_field ho hd (x := .ref t) rfl ?_)
  try dsimp only
  have nn : (Value.ref t == Value.none) = false := by
    first | rfl | exact beq_eq_false_iff_ne.mpr (fun z => nomatch z)
  rw [nn]
  simp only [Bool.false_eq_true, ↓reduceIte]
  refine wpAny_bind (len_tuple ht (by omega) ?_)
  refine wpAny_bind (wpAny_of_eq (a := some ((items.size : Nat) : Int)) rfl ?_)
  try dsimp only
  refine wpAny_bind (wpAny_field (s := { s with toks := s.toks + 1 + 1 }) ho hd (x := rawInt ((items.size : Int) - 1)) rfl ?_)
  show wpAny _ _ (if (items.size : Int) < (items.size : Int) - 1 + 1 then _ else _) _ _ _
  rw [if_neg (by omega)]
  have e1 : (items.size : Int) - 1 + 1 = items.size := by omega
  show wpAny _ _ (retInt ((items.size : Int) - 1 + 1)) _ _ _
  rw [e1]
  unfold retInt
  refine wpAny_bind (wpAny_mkInt ?_)
  exact wpAny_pure ⟨_, rfl, hQ _ _⟩
theorem collect_rt {it t : Addr} {items : Array Value} {Q : List Value → Shared → Prop} (hh : A.handled = none) (hit : IsRt s.heap it t ((items.size : Int) - 1)) (ht : IsTup s.heap t items) (ne : t ≠ it) (hz : items.size ≤ sizeLine)
    (hQ : ∀ (h1 : Heap) (tk : Nat) (acc : Array Value), (∀ b o, b ≠ it → s.heap.get? b = some o → h1.get? b = some o) → ItemsOf (fun i v => items[items.size - 1 - i]? = some v) acc items.size → Q acc.toList { s with heap := h1, toks := tk }) :
    wpAny (model prog w) A (collect (.ref it)) Q E s := by
  have W := (walks_rt (prog := prog) (w := w) (A := A.in1) hh it t ne items hz).toS
  obtain ⟨oi, hoi, _⟩ := id hit
  obtain ⟨ot, hot, _⟩ := id ht
  have nSi : s.heap.objs.size ≠ it := Nat.ne_of_gt (Heap.lt_size hoi)
  have nSt : s.heap.objs.size ≠ t := Nat.ne_of_gt (Heap.lt_size hot)
  have nSf : s.heap.objs.size ∉ [it, t] := by simp only [List.mem_cons, List.not_mem_nil, or_false, not_or]; exact ⟨nSi, nSt⟩
  unfold collect
  refine wpAny_bind (wpAny_runValue (codeAny_builtin F.entry_proto_collect ?_))
  rw [Around.under_plainId F.plain_proto_collect _]
  show wpAny _ A.in1 (newList [] >>= fun l' => again (.builtin "list.__iadd__" ⟨[l', .ref it], []⟩)) _ _ s
  refine wpAny_bind (wpAny_newObj_type ?_)
  refine wpAny_pure ⟨plainId_quiet F.plain_list_iadd _, codeAny_builtin F.entry_list_iadd ?_⟩
  rw [Around.under_plainId F.plain_list_iadd _]
  have gS : (s.heap.push { cls := .type "list", data := .seq ([] : List Value).toArray }).get? s.heap.objs.size = some { cls := .type "list", data := .seq ([] : List Value).toArray } := Heap.get?_push_size _ rfl
  have hit1 : IsRt (s.heap.push { cls := .type "list", data := .seq ([] : List Value).toArray }) it t ((items.size : Int) - 1) := hit.at fun o e => Heap.get?_push_of_some _ e
  have ht1 : IsTup (s.heap.push { cls := .type "list", data := .seq ([] : List Value).toArray }) t items := let ⟨o, e, z⟩ := ht; ⟨o, Heap.get?_push_of_some _ e, z⟩
  have hT : ({ s with heap := s.heap.push { cls := .type "list", data := .seq ([] : List Value).toArray } } : Shared).TypeIs (.ref it) "reversed" := IsRt.typeIs (s := { s with heap := s.heap.push { cls := .type "list", data := .seq ([] : List Value).toArray } }) hit1
  have q1 : Builtin.List.listSameRef (.ref s.heap.objs.size) (.ref it) = false := by simp [Builtin.List.listSameRef, nSi]
  show wpAny _ A.in1 (Builtin.List.listExtendWith (.ref s.heap.objs.size) (.ref it) (.ref s.heap.objs.size)) _ _ _
  unfold Builtin.List.listExtendWith
  refine wpAny_bind (wpAny_typeOf hT ?_)
  rw [if_neg (by rw [q1]; decide)]
  refine wpAny_bind (iter_rt (s := { s with heap := s.heap.push { cls := .type "list", data := .seq ([] : List Value).toArray } }) hit1 ?_)
  refine wpAny_bind (wpAny_holding ?_)
  unfold Builtin.List.listLengthHint
  refine wpAny_bind (wpAny_specialOf hT nolen_rt ?_)
  show wpAny _ A.in1 (specialOf (Value.ref it) (Str.ofString "__length_hint__") >>= _) _ _ _
  refine wpAny_bind (wpAny_specialOf hT hint_rt ?_)
  generalize hid : ("reversed.__length_hint__" : String) = id0
  wp_delta
  rw [show splitId id0 = some ("reversed", "__length_hint__") from by subst hid; decide +kernel]
  subst hid
  refine wpAny_bind (wpAny_isInstance (b := true) hT (by rw [isSubtype_type]; kernel_rfl) ?_)
  simp only [Bool.not_true, Bool.false_eq_true, ↓reduceIte]
  rw [if_neg (by decide +kernel)]
  refine wpAny_bind (wpAny_rule ?_)
  refine wpAny_bind (wpAny_of_eq (bind_rt_hint _) ?_)
  dsimp only
  have hh1 : A.in1.handled = none := hh
  refine wpAny_bind (wpAny_attempt (call_rt_hint hit1 ht1 hz fun tk u => ?_))
  have ea : asInt? (Value.int ((items.size : Nat) : Int) tk) = pure (some ((items.size : Nat) : Int)) := rfl
  simp only [ea, pure_bind]
  have z2 := hz
  rw [sizeLine_eq] at z2
  have f1 : Builtin.List.listFitsIndex ((items.size : Nat) : Int) = true := by
    unfold Builtin.List.listFitsIndex
    simp only [Bool.and_eq_true, decide_eq_true_eq]
    omega
  have f2 : ¬ (((items.size : Nat) : Int) < 0) := by omega
  have f3 : Builtin.List.listTooLong ((items.size : Nat) : Int).toNat = false := by
    unfold Builtin.List.listTooLong
    simp only [Int.toNat_natCast, decide_eq_false_iff_not]
    omega
  rw [f1]
  simp only [Bool.not_true, Bool.false_eq_true, ↓reduceIte]
  rw [if_neg f2, f3]
  simp only [Bool.false_eq_true, ↓reduceIte]
  refine wpAny_pure ?_
  have e0 : ((items.size : Nat) : Int) - 1 - ((0 : Nat) : Int) = (items.size : Int) - 1 := by omega
  split
  · refine wpAny_bind (wpAny_rule ?_)
    refine wpAny_bind ?_
    show wpAny _ A.in1 (updateSeq s.heap.objs.size (·.push .none) >>= fun _ => updateSeq s.heap.objs.size (·.pop)) _ _ _
    refine wpAny_bind (wpAny_updateSeq gS rfl ?_ (by rw [sizeLine_eq]; decide) (by rw [sizeLine_eq]; decide))
    have gS3 := Heap.get?_update_self (Obj.mapSeq (·.push Value.none)) gS rfl
    refine wpAny_updateSeq gS3 rfl ?_ (by rw [sizeLine_eq]; decide) (by rw [sizeLine_eq]; decide)
    have gS4 := Heap.get?_update_self (Obj.mapSeq (·.pop)) gS3 rfl
    have oth : ∀ b o, b ≠ s.heap.objs.size → (s.heap.push { cls := .type "list", data := .seq ([] : List Value).toArray }).get? b = some o → (((s.heap.push { cls := .type "list", data := .seq ([] : List Value).toArray }).update s.heap.objs.size (Obj.mapSeq (·.push Value.none))).update s.heap.objs.size (Obj.mapSeq (·.pop))).get? b = some o :=
      fun b o nb e => (Heap.get?_update_other _ _ (Ne.symm nb)).trans ((Heap.get?_update_other _ _ (Ne.symm nb)).trans e)
    refine wpAny_pure ⟨plainId_quiet F.plain_extend_loop _, codeAny_extend_loopS W hz _ nSf _ items.size 0 _ _ _ rfl (Nat.zero_le _) ⟨Nat.zero_le _, ?_, ?_⟩ gS4 (ItemsOf.nil _) fun s1 acc c1 hm hS1 hacc => ?_⟩
    · rw [e0]
      exact hit1.at fun o e => oth it o nSi.symm e
    · exact let ⟨o, e, z⟩ := ht1; ⟨o, oth t o nSt.symm e, z⟩
    · show wpAny _ A (load s.heap.objs.size >>= _) _ _ s1
      refine wpAny_bind (wpAny_load hS1 (wpAny_pure ?_))
      rw [Moved.eq_with hm]
      refine hQ s1.heap s1.toks acc (fun b o nb e => ?_) hacc
      have lt := Heap.lt_size e
      refine hm.heap b o (fun mm => ?_) (oth b o (Nat.ne_of_lt lt) (Heap.get?_push_of_some _ e))
      rcases List.mem_cons.mp mm with e' | mm
      · exact absurd lt (by rw [e']; exact Nat.lt_irrefl _)
      · exact nb (List.mem_singleton.mp mm)
  · have oth : ∀ b o, b ≠ s.heap.objs.size → (s.heap.push { cls := .type "list", data := .seq ([] : List Value).toArray }).get? b = some o → (s.heap.push { cls := .type "list", data := .seq ([] : List Value).toArray }).get? b = some o := fun b o _ e => e
    refine wpAny_pure ⟨plainId_quiet F.plain_extend_loop _, codeAny_extend_loopS W hz _ nSf _ items.size 0 _ _ _ rfl (Nat.zero_le _) ⟨Nat.zero_le _, ?_, ?_⟩ gS (ItemsOf.nil _) fun s1 acc c1 hm hS1 hacc => ?_⟩
    · rw [e0]
      exact hit1.at fun o e => oth it o nSi.symm e
    · exact let ⟨o, e, z⟩ := ht1; ⟨o, oth t o nSt.symm e, z⟩
    · show wpAny _ A (load s.heap.objs.size >>= _) _ _ s1
      refine wpAny_bind (wpAny_load hS1 (wpAny_pure ?_))
      rw [Moved.eq_with hm]
      refine hQ s1.heap s1.toks acc (fun b o nb e => ?_) hacc
      have lt := Heap.lt_size e
      refine hm.heap b o (fun mm => ?_) (oth b o (Nat.ne_of_lt lt) (Heap.get?_push_of_some _ e))
      rcases List.mem_cons.mp mm with e' | mm
      · exact absurd lt (by rw [e']; exact Nat.lt_irrefl _)
      · exact nb (List.mem_singleton.mp mm)
theorem code_tuple_rt {it t : Addr} {items : Array Value} {Q1 : Value → Shared → Prop} (hh : A.handled = none) (hit : IsRt s.heap it t ((items.size : Int) - 1)) (ht : IsTup s.heap t items) (ne : t ≠ it) (hz : items.size ≤ sizeLine)
    (hq : ∀ (h1 : Heap) (tk : Nat) (acc : Array Value), (∀ b o, b ≠ it → s.heap.get? b = some o → h1.get? b = some o) → ItemsOf (fun i v => items[items.size - 1 - i]? = some v) acc items.size →
      Q1 (.ref h1.objs.size) { s with heap := h1.push { cls := .type "tuple", data := .seq acc }, toks := tk }) :
    codeAny (model prog w) A (.call (.builtin "tuple.__new__") ⟨[.type "tuple", .ref it], []⟩) (wants Q1 E) s := by
  refine codeAny_of_tree ?_
  show wpAny _ A.in1 (do checkBuiltinCall "tuple.__new__" ⟨[.type "tuple", .ref it], []⟩; again (.builtin "tuple.__new__" ⟨[.type "tuple", .ref it], []⟩)) _ _ s
  refine wpAny_bind (wpAny_of_eq (F.newCall_tuple_1 _) (wpAny_pure ⟨plainId_quiet F.plain_tuple_new _, codeAny_builtin F.entry_tuple_new ?_⟩))
  rw [Around.under_plainId F.plain_tuple_new _]
  have hsub := sub_tuple_self
  have hinit := init_tuple_lookup
  have hmh := madeHere_tuple
  have hTI : s.TypeIs (.ref it) "reversed" := hit.typeIs
  have hh1 : A.in1.handled = none := hh
  wp_walk using wpAny_typeOf hTI, collect_rt (A := A.in1) hh1 hit ht ne hz
  intro h1 tk acc k hacc
  show wpAny _ _ (Builtin.Tuple.tupleExact acc.toList.toArray >>= fun v => ret v) _ _ _
  unfold Builtin.Tuple.tupleExact
  refine wpAny_bind (wpAny_newObj_type ?_ (by show acc.toList.toArray.size ≤ sizeLine; simp only [Array.toArray_toList]; rw [hacc.1]; exact hz))
  refine wpAny_pure ?_
  have e : acc.toList.toArray = acc := by simp
  rw [e]
  exact hq h1 tk acc k hacc
theorem call_tuple_rt {it t : Addr} {items : Array Value} {Q : Value → Shared → Prop} (hh : A.handled = none) (hit : IsRt s.heap it t ((items.size : Int) - 1)) (ht : IsTup s.heap t items) (ne : t ≠ it) (hz : items.size ≤ sizeLine)
    (hQ : ∀ (h1 : Heap) (tk : Nat) (acc : Array Value), (∀ b o, b ≠ it → s.heap.get? b = some o → h1.get? b = some o) → ItemsOf (fun i v => items[items.size - 1 - i]? = some v) acc items.size →
      Q (.ref h1.objs.size) { s with heap := h1.push { cls := .type "tuple", data := .seq acc }, toks := tk }) :
    wpAny (model prog w) A (call (.type "tuple") [.ref it]) Q E s := by
  refine callType_codes (Q₁ := fun ov s1 => s1.TypeIs ov "tuple" ∧ Q ov s1) F.called_tuple (F.typeCall_tuple_1 _) F.entry_object_init
    (code_tuple_rt (A := A.in1) hh hit ht ne hz fun h1 tk acc k hacc => ⟨⟨_, Heap.get?_push_size _ rfl, rfl⟩, hQ h1 tk acc k hacc⟩) fun ov s1 z => ?_
  exact ⟨z.1, F.args_object_init_2 ov _, object_init_meets F.called_tuple.init.lookup F.called_tuple.made (by decide) prog w A.in1 _ s1 ⟨z.1, rfl, z.2⟩⟩
end
section
variable {X : Cx}
/-- tuple(reversed(x)), x a tuple -/
def tTupRt (K : PySem.W.Frag) (te : TE) : TE := fun σ H Q => te σ H fun v H1 => ∃ (a : Addr) (xs : List V), v = .ref a ∧ SqT K H1 a xs ∧ ∀ q, H1 q = none → Q (.ref q) (upd H1 q (.tup xs.reverse))
theorem pe_tupRt {e : Expr} {te : TE} {p p2 pos pos2 : Pos} (hc : X.calm = true) (hg : Gl X "tuple") (hm : X.mg "tuple" = none) (hg2 : Gl X "reversed") (hm2 : X.mg "reversed" = none) (he : PE X e te)
    (hs : starEach [e] X.env = (false, eval e X.env) :: starEach [] X.env := by rfl)
    (hs2 : starEach [.Call (.Name "reversed" p2) [e] [] pos2] X.env = (false, eval (.Call (.Name "reversed" p2) [e] [] pos2) X.env) :: starEach [] X.env := by rfl) :
    PE X (.Call (.Name "tuple" p) [.Call (.Name "reversed" p2) [e] [] pos2] [] pos) (tTupRt X.K te) := by
  refine ⟨fun pins s σ H Q I h => ?_⟩
  refine Call_ (ld_blt I hg hm boot_tuple (PyProof.Rows.callWith_type1 (args_cons (Call_ (ld_blt I hg2 hm2 PyProof.Rows.boot_reversed (PyProof.Rows.callWith_type1 (args_cons (thn (he.run pins s σ H _ I h) fun u s1 ⟨v, H1, I1, r1, q1⟩ => args_nil ?_) hs) hs rfl))) hs2) hs2 rfl))
  obtain ⟨a, xs, ev, hq, q⟩ := q1
  subst ev
  obtain rfl : u = Value.ref a := r1
  obtain ⟨its, rv, p1, hz⟩ := I1.tuple hq
  have hn : its.toArray.size ≤ sizeLine := by rw [List.size_toArray, ← rv.length]; exact hz
  have hn2 := hn
  rw [sizeLine_eq] at hn2
  refine call_reversed_tup p1 (fun A E Q k => len_tuple p1 (by omega) k) (args_nil ?_)
  have I1' : Inv X pins σ H1 { s1 with toks := s1.toks + 1 + 1 } := I1.tok _
  have k0 : ∀ b o, s1.heap.get? b = some o → (s1.heap.push (rtObj a ((its.toArray.size : Int) - 1))).get? b = some o := fun b o e => Heap.get?_push_of_some _ e
  have I2 : Inv X pins σ H1 { s1 with heap := s1.heap.push (rtObj a ((its.toArray.size : Int) - 1)), toks := s1.toks + 1 + 1 } := I1.kept (t' := s1.toks + 1 + 1) k0
  obtain ⟨f0, f1, f2, f3, f4, f5⟩ := I1.fpOk (H' := H1) (b := s1.heap.objs.size) (Nat.le_refl _) (I1.hok.fresh (Nat.le_refl _))
  obtain ⟨ol, hol, hol2⟩ := id p1
  have ne : a ≠ s1.heap.objs.size := Nat.ne_of_lt (Heap.lt_size hol)
  refine call_tuple_rt (s := { s1 with heap := s1.heap.push (rtObj a ((its.toArray.size : Int) - 1)), toks := s1.toks + 1 + 1 }) (I1.ok.hd hc) ⟨_, Heap.get?_push_size _ rfl, rfl, rfl⟩ ⟨ol, k0 _ _ hol, hol2⟩ ne hn fun h1 tk acc hk hi => ?_
  have I3 : Inv X pins σ H1 { s1 with heap := h1, toks := tk } := I2.turned (t' := tk) (fun b o nb e => hk b o nb e) f0 f1 f3 f4 f5
  refine ⟨.ref h1.objs.size, upd H1 h1.objs.size (.tup xs.reverse), I3.laid (t' := tk) (fun c o e => Heap.get?_push_of_some _ e) (Nat.le_refl _) (show ObjOk X.prog X.w _ _ _ (.tup xs.reverse) from ⟨by rw [List.length_reverse]; exact hz, acc.toList, vals_rev rv hi, ?_⟩), rfl, q _ (I3.hok.fresh (Nat.le_refl _))⟩
  rw [Array.toArray_toList]
  exact IsTup.new _ _
end
end Wk

set_option maxHeartbeats 4000000
/-! My own layer: comprehensions with a test, over a list and over a dict; dict comprehensions; dicts; loops over tuples of three. -/
namespace Wk
open PySem PySem.Spec PyProof.Rows L2
section
variable {X : Cx} {e a b c elt kx vx : Expr} {es rest : List Expr} {σ : L2.St} {H : Hp} {Q : VK} {pos p0 : Pos} {N G G' : List Str} {Vn : List (Nat × Str)} {sc scope : Scope}
@[irreducible] def wBkT (X : Cx) (Vn : List (Nat × Str)) (G' : List Str) (c : Expr) (scope : Scope) : TT := fun σ H Q => ∀ s0 H0 C cl fp, InB (Bk X s0 H0 scope C cl fp) Vn G' → wT (Bk X s0 H0 scope C cl fp) c σ H Q
theorem pts_bk {s0 : Shared} {H0 : Hp} {C : Addr} {cl : List (Str × Addr)} {fp : List Addr} (I : InB (Bk X s0 H0 scope C cl fp) Vn G') : PTs (Bk X s0 H0 scope C cl fp) [c] (wBkT X Vn G' c scope) :=
  pts_one ⟨fun pins s σ H Q Iv h => by unfold wBkT at h; exact pt.run pins s σ H Q Iv (h s0 H0 C cl fp I)⟩
/-- what the turns ask where there is a test -/
def Turn1 (X : Cx) (Vn : List (Nat × Str)) (G' : List Str) (elt c : Expr) (scope : Scope) (i : Nat) (D : Addr) (σ : L2.St) (x : L2.V) (H2 : Hp) (Nx : Hp → Prop) : Prop :=
  ∀ s0 H0 C cl fp, InB (Bk X s0 H0 scope C cl fp) Vn G' → wT (Bk X s0 H0 scope C cl fp) c ((wipe σ [i]).set i (some x)) H2 fun b H3 =>
    if b = true then ∀ s0 H0 C cl fp, InB (Bk X s0 H0 scope C cl fp) Vn G' → wE (Bk X s0 H0 scope C cl fp) elt ((wipe σ [i]).set i (some x)) H3 fun y H4 => ∃ acc, H4 D = some (.lst acc) ∧ acc.length < sizeLine ∧ Nx (upd H4 D (.lst (acc ++ [y]))) else Nx H3
theorem turn1_of {i : Nat} {D : Addr} {x : L2.V} {H2 : Hp} {Nx : Hp → Prop} (q : Turn1 X Vn G' elt c scope i D σ x H2 Nx) : gName i x (wipe σ [i]) H2 fun σ2 H3 => wipe σ2 [i] = wipe σ [i] ∧ wBkT X Vn G' c scope σ2 H3 fun b H4 =>
    if b = true then wBk X Vn G' elt scope σ2 H4 fun y H5 => ∃ acc, H5 D = some (.lst acc) ∧ acc.length < sizeLine ∧ Nx (upd H5 D (.lst (acc ++ [y]))) else Nx H4 := by
  refine ⟨wipe_set σ i _, ?_⟩
  unfold wBkT
  intro s0 H0 C cl fp I
  refine t_mono (q s0 H0 C cl fp I) fun b H4 z => ?_
  cases b with
  | true =>
    unfold wBk
    exact iteT z
  | false => exact iteF z
def LcLf (X : Cx) (Vn : List (Nat × Str)) (G' : List Str) (elt c : Expr) (scope : Scope) (i : Nat) (ad : Addr) (xs : List L2.V) (D : Addr) (σ : L2.St) (H1 : Hp) (Qd : Hp → Prop) : Prop := ∃ Pv : Nat → Hp → Prop, Pv 0 (upd H1 D (.lst [])) ∧ (∀ k H2, k ≤ xs.length → Pv k H2 → SqL X.K H2 ad xs) ∧
  (∀ k x H2, xs[k]? = some x → Pv k H2 → Turn1 X Vn G' elt c scope i D σ x H2 (Pv (k + 1))) ∧ ∀ H2, Pv xs.length H2 → Qd H2
def LcDf (X : Cx) (Vn : List (Nat × Str)) (G' : List Str) (elt c : Expr) (scope : Scope) (i : Nat) (d : Addr) (o : Obj) (kvs : List (Key × L2.V)) (D : Addr) (σ : L2.St) (H1 : Hp) (Qd : Hp → Prop) : Prop := ∃ Pv : Nat → Hp → Prop, Pv 0 (upd H1 D (.lst [])) ∧ (∀ k H2, k ≤ kvs.length → Pv k H2 → H2 d = some (.frz o (.dK kvs))) ∧
  (∀ k y v H2, kvs[k]? = some (y, v) → Pv k H2 → Turn1 X Vn G' elt c scope i D σ (kV y) H2 (Pv (k + 1))) ∧ ∀ H2, Pv kvs.length H2 → Qd H2
theorem lcLf_of {i : Nat} {ad : Addr} {xs : List L2.V} {D : Addr} {H1 : Hp} {Qd : Hp → Prop} (q : LcLf X Vn G' elt c scope i ad xs D σ H1 Qd) : ∃ W : Nat → Nat → Hp → Prop, (∃ m, W 0 m (upd H1 D (.lst []))) ∧ ∀ k m H, W k m H →
    ((Itl X.K ad).stop k H ∧ Qd H) ∨ ((Itl X.K ad).go k H ∧ ∃ Nx : Hp → Prop, (∀ H', Nx H' → ∃ m', m' < m ∧ W (k + 1) m' H') ∧ ∀ x H', (Itl X.K ad).yld k H x H' → gName i x (wipe σ [i]) H' fun σ2 H2 => wipe σ2 [i] = wipe σ [i] ∧ wBkT X Vn G' c scope σ2 H2 fun b H3 =>
      if b = true then wBk X Vn G' elt scope σ2 H3 fun y H4 => ∃ acc, H4 D = some (.lst acc) ∧ acc.length < sizeLine ∧ Nx (upd H4 D (.lst (acc ++ [y]))) else Nx H3) := by
  obtain ⟨Pv, h0, hl, hs, hd⟩ := q
  exact lc_list Pv h0 hl (fun k x H hk p => turn1_of (hs k x H hk p)) hd
theorem lcDf_of {i : Nat} {d : Addr} {o : Obj} {kvs : List (Key × L2.V)} {D : Addr} {H1 : Hp} {Qd : Hp → Prop} (q : LcDf X Vn G' elt c scope i d o kvs D σ H1 Qd) : ∃ W : Nat → Nat → Hp → Prop, (∃ m, W 0 m (upd H1 D (.lst []))) ∧ ∀ k m H, W k m H →
    ((Itk d o kvs).stop k H ∧ Qd H) ∨ ((Itk d o kvs).go k H ∧ ∃ Nx : Hp → Prop, (∀ H', Nx H' → ∃ m', m' < m ∧ W (k + 1) m' H') ∧ ∀ x H', (Itk d o kvs).yld k H x H' → gName i x (wipe σ [i]) H' fun σ2 H2 => wipe σ2 [i] = wipe σ [i] ∧ wBkT X Vn G' c scope σ2 H2 fun b H3 =>
      if b = true then wBk X Vn G' elt scope σ2 H3 fun y H4 => ∃ acc, H4 D = some (.lst acc) ∧ acc.length < sizeLine ∧ Nx (upd H4 D (.lst (acc ++ [y]))) else Nx H3) := by
  obtain ⟨Pv, h0, hl, hs, hd⟩ := q
  refine ⟨fun k m H => m = kvs.length - k ∧ k ≤ kvs.length ∧ Pv k H, ⟨kvs.length, rfl, Nat.zero_le _, h0⟩, ?_⟩
  rintro k m H ⟨rfl, hk, p⟩
  have fz := hl k H hk p
  by_cases lt : k < kvs.length
  · refine .inr ⟨⟨fz, lt⟩, Pv (k + 1), fun H' p' => ⟨kvs.length - (k + 1), by omega, rfl, lt, p'⟩, fun x H' y => ?_⟩
    obtain ⟨rfl, ky, v, hkv, rfl⟩ := y
    exact turn1_of (hs k ky v _ hkv p)
  · have ek : k = kvs.length := by omega
    subst ek
    exact .inl ⟨⟨fz, Nat.le_refl _⟩, hd H p⟩
theorem e_lcLf {i : Nat} {x : Str} {px : Pos} (B : BkOk X.N Vn G' i x sc scope)
    (q : wE X a σ H fun v H1 => ∃ ad xs, v = .ref ad ∧ SqL X.K H1 ad xs ∧ ∀ D, H1 D = none → LcLf X Vn G' elt c scope i ad xs D σ H1 fun H2 => Q (.ref D) H2)
    (I : In X N G sc := by assumption) (hc : X.calm = true := by rfl) (hs2 : ∀ z, foldedSetIterable a X.env z = pure z := by intro _; rfl) :
    wE X (.ListComp elt [⟨.Name x px, a, [c], 0⟩] scope pos) σ H Q := by
  refine e_of (pe_lc (own := [(x, i)]) (g := gName i) (tt := wBkT X Vn G' c scope) (te := wBk X Vn G' elt scope) hc I.nd (pi_list pe) (B.ok I) (fun s H C cl fp => B.pg I s H C cl fp) (fun s H C cl fp => pts_bk (B.inB I s H C cl fp)) (fun s H C cl fp => pe_bk (B.inB I s H C cl fp)) hs2) (e_mono q fun v H1 q1 => ?_)
  obtain ⟨ad, xs, rfl, hl, q2⟩ := q1
  exact ⟨ad, rfl, ⟨xs, hl⟩, fun D hD => lcLf_of (q2 D hD)⟩
theorem s_lcLf {nx : L2.St → Hp → Prop} {rt : VK} {bk ct : L2.St → Hp → Prop} {i j : Nat} {x y : Str} {px py spos : Pos} (B : BkOk X.N Vn G' i x sc scope)
    (q : wE X a σ H fun v H1 => ∃ ad xs, v = .ref ad ∧ SqL X.K H1 ad xs ∧ ∀ D, H1 D = none → LcLf X Vn G' elt c scope i ad xs D σ H1 fun H2 => nx (σ.set j (some (.ref D))) H2)
    (I : In X N G sc := by assumption) (hc : X.calm = true := by rfl) (hA : At N j y := by repeat (first | with_reducible apply At.z | with_reducible apply At.s))
    (hk : X.env.scope.kind = .function := by rfl) (hy : X.env.scope.names.lookup y = some .local := by rfl) (hl : (py.line == pos.line) = true := by rfl) (ha : (scope.names.any fun (n, k) => n == y && (k == .local || k == .cell)) = false := by decide +kernel) (hs2 : ∀ z, foldedSetIterable a X.env z = pure z := by intro _; rfl) :
    wS X (.Assign [.Name y py] (.ListComp elt [⟨.Name x px, a, [c], 0⟩] scope pos) spos) ⟨nx, rt, bk, ct⟩ σ H := by
  refine s_of (ps_setLc (own := [(x, i)]) (g := gName i) (tt := wBkT X Vn G' c scope) (te := wBk X Vn G' elt scope) hc I.nd (I.hi hA) hy (sw_true hk hy hl ha) (pi_list pe) (B.ok I) (fun s H C cl fp => B.pg I s H C cl fp) (fun s H C cl fp => pts_bk (B.inB I s H C cl fp)) (fun s H C cl fp => pe_bk (B.inB I s H C cl fp)) hs2) (e_mono q fun v H1 q1 => ?_)
  obtain ⟨ad, xs, rfl, hl, q2⟩ := q1
  exact ⟨ad, rfl, ⟨xs, hl⟩, fun D hD => lcLf_of (q2 D hD)⟩
/-- [elt for x in d if c], d a dict that stands at ad -/
theorem e_lcDf {i : Nat} {x : Str} {px : Pos} {ad : Addr} {kvs : List (Key × L2.V)} (B : BkOk X.N Vn G' i x sc scope) (hd : H ad = some (.dK kvs))
    (q : ∀ o, wE X a σ (upd H ad (.frz o (.dK kvs))) fun v H1 => v = .ref ad ∧ H1 ad = some (.frz o (.dK kvs)) ∧ ∀ D, H1 D = none → LcDf X Vn G' elt c scope i ad o kvs D σ H1 fun H2 => H2 ad = some (.frz o (.dK kvs)) ∧ Q (.ref D) (upd H2 ad (.dK kvs)))
    (I : In X N G sc := by assumption) (hc : X.calm = true := by rfl) (hs2 : ∀ z, foldedSetIterable a X.env z = pure z := by intro _; rfl) :
    wE X (.ListComp elt [⟨.Name x px, a, [c], 0⟩] scope pos) σ H Q := by
  refine e_of (pe_lock (pe_lc (own := [(x, i)]) (g := gName i) (tt := wBkT X Vn G' c scope) (te := wBk X Vn G' elt scope) hc I.nd (pi_keys pe) (B.ok I) (fun s H C cl fp => B.pg I s H C cl fp) (fun s H C cl fp => pts_bk (B.inB I s H C cl fp)) (fun s H C cl fp => pe_bk (B.inB I s H C cl fp)) hs2)) ?_
  refine ⟨ad, .dK kvs, hd, trivial, fun o => e_mono (q o) fun v H1 q1 => ?_⟩
  obtain ⟨rfl, h1, q2⟩ := q1
  exact ⟨ad, o, rfl, .inl ⟨kvs, h1, fun D hD => lcDf_of (q2 D hD)⟩⟩
end
end Wk
namespace Wk
open PySem PySem.Spec PyProof.Rows L2
section
variable {X : Cx} {e a b c elt kx vx o : Expr} {es rest : List Expr} {σ : L2.St} {H : Hp} {Q : VK} {pos p0 apos : Pos} {N G G' : List Str} {Vn : List (Nat × Str)} {sc scope : Scope}
theorem sw_trueD {gs : List Comprehension} {py : Pos} {y : Str} {l : Nat} {env : Env} (hk : env.scope.kind = .function) (hy : env.scope.names.lookup y = some .local) (hl : (py.line == pos.line) = true)
    (ha : (scope.names.any fun (n, k) => n == y && (k == .local || k == .cell)) = false) : swapsWith (.DictComp kx vx gs scope pos) (some (.Name y py)) l env = pure true := by
  have ky : env.kindOf y = some .local := hy
  have hb : env.blockKind = .function := by unfold Env.blockKind; rw [hk]; rfl
  unfold swapsWith
  simp only [hb, ky, ha, Expr.pos, hl]
  rfl
theorem ps_setDc {i : Nat} {y : Str} {py : Pos} {tg iter : Expr} {ifs : List Expr} {own : List (Str × Nat)} {spos : Pos} {wi : TI} {g : TG} {tt : TT} {tk tv : TE} (hc : X.calm = true) (hN : X.N.Nodup) (hy : X.N[i]? = some y) (hyl : X.env.scope.names.lookup y = some .local)
    (hsw : swapsWith (.DictComp kx vx [⟨tg, iter, ifs, 0⟩] scope pos) (some (.Name y py)) spos.line X.env = pure true) (hi : PI X tg iter wi) (ok : BlkOk X.N X.env.scope scope own)
    (hg : ∀ (s : Shared) (H : Hp) (C : Addr) (cl : List (Str × Addr)) (fp : List Addr), PG (X.blk s H scope (compEnvC scope cl C X.env) fp) tg g) (ht : ∀ (s : Shared) (H : Hp) (C : Addr) (cl : List (Str × Addr)) (fp : List Addr), PTs (X.blk s H scope (compEnvC scope cl C X.env) fp) ifs tt)
    (hkx : ∀ (s : Shared) (H : Hp) (C : Addr) (cl : List (Str × Addr)) (fp : List Addr), PE (X.blk s H scope (compEnvC scope cl C X.env) fp) kx tk)
    (hvx : ∀ (s : Shared) (H : Hp) (C : Addr) (cl : List (Str × Addr)) (fp : List Addr), PE (X.blk s H scope (compEnvC scope cl C X.env) fp) vx tv) (hs : ∀ x, foldedSetIterable iter X.env x = pure x) :
    PS X (.Assign [.Name y py] (.DictComp kx vx [⟨tg, iter, ifs, 0⟩] scope pos) spos) (tAsg (tDc wi g tt tk tv (own.map (·.2))) (gName i)) := by
  refine ⟨fun pins s σ H D I h => ?_⟩
  rw [exec_Assign_Name_used _ _ _ _ hsw]
  refine wpAny_bind (wpAny_standAt (wpAny_bind ?_))
  show wpAny _ X.A (do let _ ← comprehension (.DictComp kx vx [⟨tg, iter, ifs, 0⟩] scope pos) scope X.env (firstIterPos [⟨tg, iter, ifs, 0⟩] pos) newDict false (eval iter X.env) (some (assign (.Name y py) X.env))) _ _ s
  have h : tDc wi g tt tk tv (own.map (·.2)) σ H (fun x H1 => gName i x σ H1 D.nx) := h
  refine wpAny_bind (thn (dc_core (Qf := fun _ s' => SP X pins D .next s') hc hN I hi ok hg ht hkx hvx hs h fun L C s' m H' I' q hn f => ?_) fun _ s' hq => wpAny_pure (wpAny_pure hq))
  show wpAny _ _ (assign (.Name y py) X.env (.ref L)) _ _ _
  refine wpAny_assign_Name (store_ok2 (v := V.ref L) I' hN hy (.inl hyl) rfl (fun s2 I2 ⟨ad, sb, had⟩ => ?_) (.inr hyl))
  obtain ⟨f0, f1, f2, f3, f4, f5⟩ := f
  have nC : C ≠ ad := by
    rcases had with z | z
    · rw [z]; exact f1
    · exact fun e => f4 y ad z e.symm
  exact ⟨m, hn.sameBut sb nC, fun h3 sb3 => ⟨_, H', I2.turned (t' := s2.toks) (fun b o hb e => (sb3.2 b hb).trans e) f0 f1 f3 f4 f5, q⟩⟩
/-- d = {k: v for x in a}, a a list that stays -/
def DcL (X : Cx) (Vn : List (Nat × Str)) (G' : List Str) (kx vx : Expr) (scope : Scope) (i : Nat) (ad : Addr) (xs : List L2.V) (D : Addr) (σ : L2.St) (H1 : Hp) (Qd : Hp → Prop) : Prop := ∃ Pv : Nat → Hp → Prop, Pv 0 (upd H1 D (.dK [])) ∧ (∀ k H2, k ≤ xs.length → Pv k H2 → SqL X.K H2 ad xs) ∧
  (∀ k x H2, xs[k]? = some x → Pv k H2 → ∀ s0 H0 C cl fp, InB (Bk X s0 H0 scope C cl fp) Vn G' → wE (Bk X s0 H0 scope C cl fp) kx ((wipe σ [i]).set i (some x)) H2 fun y H3 => ∀ s0 H0 C cl fp, InB (Bk X s0 H0 scope C cl fp) Vn G' →
    wE (Bk X s0 H0 scope C cl fp) vx ((wipe σ [i]).set i (some x)) H3 fun z H4 => ∃ kvs ky, y = kV ky ∧ H4 D = some (.dK kvs) ∧ kvs.length < sizeLine ∧ Pv (k + 1) (upd H4 D (.dK (putK kvs ky z)))) ∧
  ∀ H2, Pv xs.length H2 → Qd H2
theorem dcL_of {i : Nat} {ad : Addr} {xs : List L2.V} {D : Addr} {H1 : Hp} {Qd : Hp → Prop} (q : DcL X Vn G' kx vx scope i ad xs D σ H1 Qd) : ∃ W : Nat → Nat → Hp → Prop, (∃ m, W 0 m (upd H1 D (.dK []))) ∧ ∀ k m H, W k m H →
    ((Itl X.K ad).stop k H ∧ Qd H) ∨ ((Itl X.K ad).go k H ∧ ∃ Nx : Hp → Prop, (∀ H', Nx H' → ∃ m', m' < m ∧ W (k + 1) m' H') ∧ ∀ x H', (Itl X.K ad).yld k H x H' → gName i x (wipe σ [i]) H' fun σ2 H2 => wipe σ2 [i] = wipe σ [i] ∧ tYes σ2 H2 fun b H3 =>
      if b = true then wBk X Vn G' kx scope σ2 H3 fun y H4 => wBk X Vn G' vx scope σ2 H4 fun z H5 => ∃ kvs k, y = kV k ∧ H5 D = some (.dK kvs) ∧ kvs.length < sizeLine ∧ Nx (upd H5 D (.dK (putK kvs k z))) else Nx H3) := by
  obtain ⟨Pv, h0, hl, hs, hd⟩ := q
  refine ⟨fun k m H => m = xs.length - k ∧ k ≤ xs.length ∧ Pv k H, ⟨xs.length, rfl, Nat.zero_le _, h0⟩, ?_⟩
  rintro k m H ⟨rfl, hk, p⟩
  have sq := hl k H hk p
  by_cases lt : k < xs.length
  · refine .inr ⟨⟨xs, xs[k], sq, by simp [lt]⟩, Pv (k + 1), fun H' p' => ⟨xs.length - (k + 1), by omega, rfl, lt, p'⟩, fun x H' y => ?_⟩
    obtain ⟨rfl, y⟩ := y
    refine ⟨wipe_set σ i _, ?_⟩
    unfold tYes
    refine iteT ?_
    unfold wBk
    intro s0 H0 C cl fp I
    exact hs k x _ (y xs sq) p s0 H0 C cl fp I
  · have ek : k = xs.length := by omega
    subst ek
    exact .inl ⟨⟨xs, sq, Nat.le_refl _⟩, hd H p⟩
theorem s_dcL {nx : L2.St → Hp → Prop} {rt : VK} {bk ct : L2.St → Hp → Prop} {i j : Nat} {x y : Str} {px py spos : Pos} (B : BkOk X.N Vn G' i x sc scope)
    (q : wE X a σ H fun v H1 => ∃ ad xs, v = .ref ad ∧ SqL X.K H1 ad xs ∧ ∀ D, H1 D = none → DcL X Vn G' kx vx scope i ad xs D σ H1 fun H2 => nx (σ.set j (some (.ref D))) H2)
    (I : In X N G sc := by assumption) (hc : X.calm = true := by rfl) (hA : At N j y := by repeat (first | with_reducible apply At.z | with_reducible apply At.s))
    (hk : X.env.scope.kind = .function := by rfl) (hy : X.env.scope.names.lookup y = some .local := by rfl) (hl : (py.line == pos.line) = true := by rfl) (ha : (scope.names.any fun (n, k) => n == y && (k == .local || k == .cell)) = false := by decide +kernel) (hs2 : ∀ z, foldedSetIterable a X.env z = pure z := by intro _; rfl) :
    wS X (.Assign [.Name y py] (.DictComp kx vx [⟨.Name x px, a, [], 0⟩] scope pos) spos) ⟨nx, rt, bk, ct⟩ σ H := by
  refine s_of (ps_setDc (own := [(x, i)]) (g := gName i) (tt := tYes) (tk := wBk X Vn G' kx scope) (tv := wBk X Vn G' vx scope) hc I.nd (I.hi hA) hy (sw_trueD hk hy hl ha) (pi_list pe) (B.ok I) (fun s H C cl fp => B.pg I s H C cl fp) (fun _ _ _ _ _ => pts_nil) (fun s H C cl fp => pe_bk (B.inB I s H C cl fp)) (fun s H C cl fp => pe_bk (B.inB I s H C cl fp)) hs2) (e_mono q fun v H1 q1 => ?_)
  obtain ⟨ad, xs, rfl, hl, q2⟩ := q1
  exact ⟨ad, rfl, ⟨xs, hl⟩, fun D hD => dcL_of (q2 D hD)⟩
theorem e_dcL {i : Nat} {x : Str} {px : Pos} (B : BkOk X.N Vn G' i x sc scope)
    (q : wE X a σ H fun v H1 => ∃ ad xs, v = .ref ad ∧ SqL X.K H1 ad xs ∧ ∀ D, H1 D = none → DcL X Vn G' kx vx scope i ad xs D σ H1 fun H2 => Q (.ref D) H2)
    (I : In X N G sc := by assumption) (hc : X.calm = true := by rfl) (hs2 : ∀ z, foldedSetIterable a X.env z = pure z := by intro _; rfl) :
    wE X (.DictComp kx vx [⟨.Name x px, a, [], 0⟩] scope pos) σ H Q := by
  refine e_of (pe_dc (own := [(x, i)]) (g := gName i) (tt := tYes) (tk := wBk X Vn G' kx scope) (tv := wBk X Vn G' vx scope) hc I.nd (pi_list pe) (B.ok I) (fun s H C cl fp => B.pg I s H C cl fp) (fun _ _ _ _ _ => pts_nil) (fun s H C cl fp => pe_bk (B.inB I s H C cl fp)) (fun s H C cl fp => pe_bk (B.inB I s H C cl fp)) hs2) (e_mono q fun v H1 q1 => ?_)
  obtain ⟨ad, xs, rfl, hl, q2⟩ := q1
  exact ⟨ad, rfl, ⟨xs, hl⟩, fun D hD => dcL_of (q2 D hD)⟩
/-- for x, y, z in t, a tuple of triples -/
theorem s_forT3 {nx : L2.St → Hp → Prop} {rt : VK} {bk ct : L2.St → Hp → Prop} {x y z : Str} {i j k : Nat} {body : List Stmt} {px py pz pt : Pos} {kk : Nat}
    (q : wE X a σ H fun v H1 => ∃ ad xs, v = .ref ad ∧ SqT X.K H1 ad xs ∧ ∃ Pv : Nat → L2.St → Hp → Prop, Pv 0 σ H1 ∧ (∀ n σ H, n ≤ xs.length → Pv n σ H → SqT X.K H ad xs) ∧
      (∀ n u σ H, xs[n]? = some u → Pv n σ H → ∃ t u1 u2 u3, u = .ref t ∧ SqT X.K H t [u1, u2, u3] ∧ wL X body ⟨Pv (n + 1), rt, nx, Pv (n + 1)⟩ (((σ.set i (some u1)).set j (some u2)).set k (some u3)) H) ∧ ∀ σ H, Pv xs.length σ H → nx σ H)
    (I : In X N G sc := by assumption) (hc : X.calm = true := by rfl) (hA : At N i x := by repeat (first | with_reducible apply At.z | with_reducible apply At.s)) (hB : At N j y := by repeat (first | with_reducible apply At.z | with_reducible apply At.s)) (hC : At N k z := by repeat (first | with_reducible apply At.z | with_reducible apply At.s))
    (hs2 : ∀ z, foldedSetIterable a X.env z = pure z := by intro _; rfl) :
    wS X (.For (.Tuple [.Name x px, .Name y py, .Name z pz] kk pt) a body [] pos) ⟨nx, rt, bk, ct⟩ σ H := by
  refine s_of (ps_for I.never hc (pi_tup pe) (pg_tup hc (pgs_cons (pg_name I.nd (I.hi hA) (I.loc hA) I.f) (pgs_cons (pg_name I.nd (I.hi hB) (I.loc hB) I.f) (pgs_cons (pg_name I.nd (I.hi hC) (I.loc hC) I.f) pgs_nil)))) pl hs2) (e_mono q fun v H1 q1 => ?_)
  obtain ⟨ad, xs, rfl, hl, Pv, h0, hk, hb, hd⟩ := q1
  refine ⟨ad, rfl, ⟨xs, hl⟩, for_tup Pv h0 hk (fun n u σ H hu p => ?_) hd⟩
  obtain ⟨t, u1, u2, u3, rfl, hq, z⟩ := hb n u σ H hu p
  exact ⟨t, [u1, u2, u3], rfl, hq, rfl, u1, [u2, u3], rfl, u2, [u3], rfl, u3, [], rfl, rfl, z⟩
end
end Wk

set_option maxHeartbeats 4000000
/-! My own layer: dicts, membership, least and greatest of a list, and the like. -/
namespace Wk
open PySem PySem.Spec PyProof.Rows L2
section
variable {X : Cx} {e a b c f o i : Expr} {es rest : List Expr} {σ : L2.St} {H : Hp} {Q : VK} {pos p0 apos : Pos} {N G G' : List Str} {Vn : List (Nat × Str)} {sc scope : Scope} {n : Nat}
theorem e_dg (hr : Room n X.A) (q : wE X o σ H fun x H1 => wE X i σ H1 fun y H2 => ∃ a v, x = .ref a ∧ DGet H2 a y (some v) ∧ Q v H2) (hs : NoSl i := by intro _ _; rfl) : wE X (.Subscript o i pos) σ H Q := e_of (pe_dget (hu_of hr) pe pe hs) q
theorem dg_k {ad : Addr} {kvs : List (Key × L2.V)} {z : Str} {v : L2.V} (h : H ad = some (.dK kvs)) (e : valV kvs (Sum.inr z) = some v) : DGet H ad (.str z) (some v) := by
  have g := DGet.k (k := (Sum.inr z : Key)) h
  rw [e] at g
  exact g
theorem dg_f {ad : Addr} {ob : Obj} {kvs : List (Key × L2.V)} {z : Str} {v : L2.V} (h : H ad = some (.frz ob (.dK kvs))) (e : valV kvs (Sum.inr z) = some v) : DGet H ad (.str z) (some v) :=
  .inl ⟨kvs, Sum.inr z, .inr ⟨ob, h⟩, rfl, e.symm⟩
theorem e_dget2 (hr : Room n X.A) (q : wE X o σ H fun x H1 => ∃ a, x = .ref a ∧ IsD H1 a ∧ wE X e σ H1 fun y H2 => wE X f σ H2 fun z H3 => ∃ o, DGet H3 a y o ∧ Q (o.getD z) H3)
    (m : M2 X o "get" apos e f pos := by exact ⟨rfl, rfl, rfl, rfl⟩) : wE X (.Call (.Attribute o "get" apos) [e, f] [] pos) σ H Q := e_of (pe_dget2 (hu_of hr) pe pe pe m) q
theorem e_dnew (q : ∀ p, H p = none → Q (.ref p) (upd H p (.dK []))) : wE X (.Dict [] [] pos) σ H Q := e_of pe_dnewK q
theorem o_in {x : L2.V} {p : Addr} {xs : List L2.V} (h : SqL X.K H p xs) (hx : flatV x = true) (hs : xs.all flatV = true) (q : Q (.bl (inV x xs)) H) : wK X .In x (.ref p) H Q := k_of op_in_seq ⟨p, xs, rfl, .inl h, hx, hs, q⟩
theorem o_nin {x : L2.V} {p : Addr} {xs : List L2.V} (h : SqL X.K H p xs) (hx : flatV x = true) (hs : xs.all flatV = true) (q : Q (.bl (!inV x xs)) H) : wK X .NotIn x (.ref p) H Q := k_of op_notIn_seq ⟨p, xs, rfl, .inl h, hx, hs, q⟩
theorem o_inS {c : Nat} {z : Str} (q : Q (.bl (decide (c ∈ z.cps.toList))) H) : wK X .In (.str ⟨#[c]⟩) (.str z) H Q := k_of op_in_sign ⟨c, z, rfl, rfl, q⟩
theorem c_minL {p : Addr} {ns : List Int} (hc : X.calm = true) (h : SqL X.K H p (ns.map V.int)) (h0 : 0 < ns.length) {m0 : Int} (h1 : m0 ∈ ns) (h2 : ∀ y ∈ ns, m0 ≤ y) (q : Q (.int m0) H) : wC X (.builtin "min") [.ref p] H Q :=
  c_of (cr_min hc) ⟨p, ns, rfl, h, h0, fun m hm hle => by
    have e : m = m0 := Int.le_antisymm (hle m0 h1) (h2 m hm)
    rw [e]
    exact q⟩
theorem c_maxL {p : Addr} {ns : List Int} (hc : X.calm = true) (h : SqL X.K H p (ns.map V.int)) (h0 : 0 < ns.length) {m0 : Int} (h1 : m0 ∈ ns) (h2 : ∀ y ∈ ns, y ≤ m0) (q : Q (.int m0) H) : wC X (.builtin "max") [.ref p] H Q :=
  c_of (cr_max hc) ⟨p, ns, rfl, h, h0, fun m hm hle => by
    have e : m = m0 := Int.le_antisymm (h2 m hm) (hle m0 h1)
    rw [e]
    exact q⟩
theorem c_setTx {l : Addr} {zs : List Str} (hc : X.calm = true) (h : SqL X.K H l (zs.map V.str)) (hb : zs.length + 1 < scanBound) (q : ∀ p, H p = none → Q (.ref p) (upd H p (SetTO X.w p (uniqL zs)))) : wC X (.type "set") [.ref l] H Q := c_of (cr_setOfTx hc) ⟨l, zs, rfl, h, hb, q⟩
theorem c_sortedTx {p : Addr} {L : List Str} (hc : X.calm = true) (h : H p = some (SetTO X.w p L)) (h64 : L.length < 64) (q : ∀ (ys : List Str) (l : Addr) H2, ys.Perm L → sortedS ys = true → Same H H2 → H l = none → H2 l = some (.lst (ys.map V.str)) → Q (.ref l) H2) : wC X (.builtin "sorted") [.ref p] H Q :=
  c_of (cr_sortedTx hc) ⟨p, L, rfl, h, h64, fun ys l pm hs np => q ys l _ pm hs (fun b o eo => by rw [upd_ne (ne_of_none eo np)]; exact eo) np upd_same⟩
theorem c_sortedL {p : Addr} {zs : List Str} (h : SqL X.K H p (zs.map V.str)) (h64 : zs.length < 64) (q : ∀ (ys : List Str) (l : Addr) H2, ys.Perm zs → sortedS ys = true → Same H H2 → H l = none → H2 l = some (.lst (ys.map V.str)) → Q (.ref l) H2) : wC X (.builtin "sorted") [.ref p] H Q :=
  c_of cr_sortedS ⟨p, zs, rfl, h, h64, fun ys l pm hs np => q ys l _ pm hs (fun b o eo => by rw [upd_ne (ne_of_none eo np)]; exact eo) np upd_same⟩
theorem c_tupL {p : Addr} {xs : List L2.V} (h : SqL X.K H p xs) (q : ∀ l H2, Same H H2 → H l = none → H2 l = some (.tup xs) → Q (.ref l) H2) : wC X (.type "tuple") [.ref p] H Q :=
  c_of call_tuple_of ⟨p, xs, rfl, .inl ⟨h, fun l np => q l _ (fun b o eo => by rw [upd_ne (ne_of_none eo np)]; exact eo) np upd_same⟩⟩
theorem c_strI {k : Int} (h : k.natAbs.log2 < 1920) (q : Q (.str (toString k)) H) : wC X (.type "str") [.int k] H Q := c_of call_str_int ⟨k, rfl, h, q⟩
theorem c_intB {k : Bool} (q : Q (.int (if k then 1 else 0)) H) : wC X (.type "int") [.bl k] H Q := c_of call_int1 (.inr ⟨k, rfl, q⟩)
theorem e_tupRev {g1 g2 : Nat} {p p2 pos2 : Pos} (hm : X.mg "tuple" = none) (hm2 : X.mg "reversed" = none) (q : wE X e σ H fun v H1 => ∃ (a : Addr) (xs : List L2.V), v = .ref a ∧ SqT X.K H1 a xs ∧ ∀ q H2, Same H1 H2 → H1 q = none → H2 q = some (.tup xs.reverse) → Q (.ref q) H2)
    (I : In X N G sc := by assumption) (hc : X.calm = true := by rfl) (hG : At G g1 ("tuple" : Str) := by repeat (first | with_reducible apply At.z | with_reducible apply At.s)) (hG2 : At G g2 ("reversed" : Str) := by repeat (first | with_reducible apply At.z | with_reducible apply At.s))
    (hs : starEach [e] X.env = (false, eval e X.env) :: starEach [] X.env := by rfl) (hs2 : starEach [.Call (.Name "reversed" p2) [e] [] pos2] X.env = (false, eval (.Call (.Name "reversed" p2) [e] [] pos2) X.env) :: starEach [] X.env := by rfl) :
    wE X (.Call (.Name "tuple" p) [.Call (.Name "reversed" p2) [e] [] pos2] [] pos) σ H Q :=
  e_of (pe_tupRt hc (I.g hG) hm (I.g hG2) hm2 pe hs hs2) (e_mono q fun v H1 ⟨a, xs, ev, hq, z⟩ => ⟨a, xs, ev, hq, fun l np => z l _ (fun b o eo => by rw [upd_ne (ne_of_none eo np)]; exact eo) np upd_same⟩)
theorem e_clear (q : wE X o σ H fun x H1 => ∃ l xs, x = .ref l ∧ H1 l = some (.lst xs) ∧ Q .non (upd H1 l (.lst [])))
    (hbase : attributeBase o "clear" X.env (eval o X.env) = eval o X.env := by rfl) (hline : (apos.endLine == pos.line) = true := by rfl) : wE X (.Call (.Attribute o "clear" apos) [] [] pos) σ H Q := by
  refine e_of (pe_bm0 PySem.F.plainAttrs_list PySem.F.slot_list_clear PySem.F.type_list_clear mt_clear pe hbase hline) (e_mono q fun x H1 z => ?_)
  obtain ⟨l, xs, rfl, h1, h2⟩ := z
  exact ⟨.inl ⟨rfl, _, SqL.of h1⟩, l, xs, rfl, rfl, h1, h2⟩
theorem b_callTy {g : Nat} {x : Str} {T : String} (hm : X.mg x = none) (hv : bootBuiltins x = some (.type T)) (q : wA X (e :: es) σ H fun vs H1 => wC X (.type T) vs H1 Q) (I : InB X Vn G := by assumption) (hG : At G g x := by repeat (first | with_reducible apply At.z | with_reducible apply At.s))
    (he : starEach (e :: es) X.env = (false, eval e X.env) :: starEach es X.env := by rfl) (hpl : (backTo pos (starEach es X.env)).any (·.1) = false := by rfl) : wE X (.Call (.Name x p0) (e :: es) [] pos) σ H Q := e_of (pe_callTy cr (I.g hG) hm hv pa (I.gn hG) (I.gd hG) he hpl) q
theorem b_bltn {g : Nat} {x : Str} {v : L2.V} {u : Value} (hm : X.mg x = none) (hv : bootBuiltins x = some u) (r : RelV v u) (q : Q v H) (I : InB X Vn G := by assumption) (hG : At G g x := by repeat (first | with_reducible apply At.z | with_reducible apply At.s)) : wE X (.Name x pos) σ H Q := e_of (pe_bltn (I.g hG) hm hv r (I.gn hG) (I.gd hG)) q
theorem o_eqD {x y : L2.V} {d e : PyData} (hr : Room n X.A) (h1 : Dp X.K H x d) (h2 : Dp X.K H y e) (s1 : SeqAt.shaped d = true) (s2 : SeqAt.shaped e = true) (q : Q (.bl (PyData.eqv d e)) H) : wK X .Eq x y H Q := k_of (op_eqD hr.units) ⟨d, e, h1, h2, s1, s2, q⟩
theorem o_neD {x y : L2.V} {d e : PyData} (hr : Room n X.A) (h1 : Dp X.K H x d) (h2 : Dp X.K H y e) (s1 : SeqAt.shaped d = true) (s2 : SeqAt.shaped e = true) (q : Q (.bl (!PyData.eqv d e)) H) : wK X .NotEq x y H Q := k_of (op_neD hr.units) ⟨d, e, h1, h2, s1, s2, q⟩
theorem b_set : bootBuiltins "set" = some (.type "set") := by decide +kernel
theorem b_sorted : bootBuiltins "sorted" = some (.builtin "sorted") := by decide +kernel
theorem ixr_d (hu : X.A.units + 1 < cLine) : IxR X (fun x y H Q => ∃ a v, x = .ref a ∧ DGet H a y (some v) ∧ Q v H) := by
  intro value slice pins s σ H x y v u Q I rx ry h hs
  obtain ⟨ad, z, rfl, g, q⟩ := h
  cases rx
  have hT := dict_typeIs I g
  unfold subscriptTail
  refine wpAny_bind ?_
  rw [getitemInPython_of_ne hT.not_modules]
  refine wpAny_bind (wpAny_specialOf hT PySem.F.slot_dict_getitem.lookup ?_)
  have fin : wpAny (model X.prog X.w) X.A (subscripted slice false (.ref ad) u) (fun r s3 => wpAny (model X.prog X.w) X.A (letTemporaryGo value (.ref ad) r >>= fun _ => pure r) (EP X pins σ Q) X.xe s3) X.xe s := by
    rw [hs]
    refine wpAny_operating (d_getItem hu I g ry fun w2 s2 I2 r2 => wpAny_bind (wpAny_letTemporaryGo (wpAny_pure ?_)))
    exact ⟨z, H, I2, r2, q⟩
  first
    | exact wpAny_pure (wpAny_bind fin)
    | exact wpAny_bind fin
    | exact wpAny_pure fin
theorem ix_d {x y : L2.V} (hr : Room n X.A) (q : ∃ a v, x = .ref a ∧ DGet H a y (some v) ∧ Q v H) : wIx X x y H Q := ix_of (ixr_d (hu_of hr)) q
end
end Wk

set_option maxHeartbeats 4000000
/-! My own layer: dicts of the module's top, comprehensions over a tuple with a test, slices of tuples, xs[::-1], extend, reversed, displayed dicts, copies and == of dicts, walks over a dict. -/
namespace Wk
open PySem PySem.Spec PyProof.Rows L2
/-- a dict of the module's top, its keys ints and texts -/
def KDict (w : World) (K : PySem.W.Frag) (D : Addr) (kvs : List (Key × L2.V)) : Prop := ∃ (o : Obj) (vs : List (Key × Value)), K.lookup D = some o ∧ KV kvs vs ∧ ∀ P, PySem.Obj.IsDictOf (mixKind P w) o vs
theorem pairs_mk {P : Program} {w : World} : ∀ (ts : List (Str × Tok × Value)), Pairs (mixKind P w) (ts.map fun x => (⟨hashStr w x.1, .str x.1 x.2.1, x.2.2⟩ : DictEntry)) (ts.map fun x => ((Sum.inr x.1 : Key), x.2.2))
  | [] => .nil
  | t :: ts => .cons (mixKind_str P w _ _) rfl (pairs_mk ts)
theorem kdict_mk {w : World} {K : PySem.W.Frag} {D : Addr} {o : Obj} {n : Nat} {kvs : List (Key × L2.V)} (ts : List (Str × Tok × Value)) (l : K.lookup D = some o) (hx : o.ExactDict) (hd : o.data = .dict (ts.map fun x => (⟨hashStr w x.1, .str x.1 x.2.1, x.2.2⟩ : DictEntry)).toArray n)
    (hk : KV kvs (ts.map fun x => ((Sum.inr x.1 : Key), x.2.2))) (nd : (ts.map (·.1)).Nodup) : KDict w K D kvs := by
  refine ⟨o, _, l, hk, fun P => ⟨_, n, hx, hd, ?_, ?_, ?_⟩⟩
  · intro e he
    obtain ⟨t, ht, rfl⟩ := List.mem_map.mp (List.mem_toArray.mp he)
    exact ⟨Sum.inr t.1, mixKind_str P w _ _, rfl⟩
  · rw [List.toList_toArray]
    exact pairs_mk ts
  · rw [List.map_map]
    have e : (ts.map ((fun x : Key × Value => x.1) ∘ fun x : Str × Tok × Value => ((Sum.inr x.1 : Key), x.2.2))) = (ts.map (·.1)).map Sum.inr := by rw [List.map_map]; rfl
    rw [e]
    exact List.pairwise_map.mpr (List.Pairwise.imp (fun h e => h (Sum.inr.inj e)) nd)
section
variable {X : Cx} {e a b c elt : Expr} {es rest : List Expr} {σ : L2.St} {H : Hp} {Q : VK} {pos p0 : Pos} {N G G' : List Str} {Vn : List (Nat × Str)} {sc scope : Scope}
theorem ixr_kd : IxR X (fun x y H Q => ∃ a kvs z v, x = .ref a ∧ y = .str z ∧ KDict X.w X.K a kvs ∧ valV kvs (Sum.inr z) = some v ∧ Q v H) := by
  intro value slice pins s σ H x y v u Q I rx ry h hs
  obtain ⟨ad, kvs, z, v0, rfl, rfl, ⟨o, vs, hl, hkv, hd⟩, hv, q⟩ := h
  cases rx
  have dd : s.heap.DictOf (mixKind X.prog X.w) ad vs := Heap.dictOf_iff.mpr ⟨o, I.kIn ad o hl, hd X.prog⟩
  have hT := dd.typeIs
  unfold subscriptTail
  refine wpAny_bind ?_
  rw [getitemInPython_of_ne hT.not_modules]
  refine wpAny_bind (wpAny_specialOf hT PySem.F.slot_dict_getitem.lookup ?_)
  obtain ⟨w', hw, rw'⟩ := RelO.some_of (v := v0) (o := valueAt vs (Sum.inr z)) (by rw [← hv]; exact hkv.val (Sum.inr z))
  have fin : wpAny (model X.prog X.w) X.A (subscripted slice false (.ref ad) u) (fun r s3 => wpAny (model X.prog X.w) X.A (letTemporaryGo value (.ref ad) r >>= fun _ => pure r) (EP X pins σ Q) X.xe s3) X.xe s := by
    rw [hs]
    refine wpAny_operating (wpAny_getItem_of (knd := mixKind X.prog X.w) (k := (Sum.inr z : Key)) (kV_is (k := Sum.inr z) ry) dd.mapOf hw ?_)
    refine wpAny_bind (wpAny_letTemporaryGo (wpAny_pure ?_))
    exact ⟨v0, H, I.tok _, rw', q⟩
  first
    | exact wpAny_pure (wpAny_bind fin)
    | exact wpAny_bind fin
    | exact wpAny_pure fin
theorem ix_kd {D : Addr} {kvs : List (Key × L2.V)} {z : Str} {v : L2.V} (h : KDict X.w X.K D kvs) (e : valV kvs (Sum.inr z) = some v) (q : Q v H) : wIx X (.ref D) (.str z) H Q := ix_of ixr_kd ⟨D, kvs, z, v, rfl, rfl, h, e, q⟩
theorem o_inT {x : L2.V} {p : Addr} {xs : List L2.V} (h : SqT X.K H p xs) (hx : flatV x = true) (hs : xs.all flatV = true) (q : Q (.bl (inV x xs)) H) : wK X .In x (.ref p) H Q := k_of op_in_seq ⟨p, xs, rfl, .inr h, hx, hs, q⟩
theorem o_catA {p r : Addr} {xs ys : List L2.V} (h1 : H p = some (.tup xs)) (h2 : H r = some (.tup ys)) (hz : xs.length + ys.length ≤ 200000) (q : ∀ t H2, Same H H2 → H2 t = some (.tup (xs ++ ys)) → Q (.ref t) H2) : wB X .Add (.ref p) (.ref r) H Q := by
  refine b_of op_catA ⟨p, r, xs, ys, rfl, rfl, SqT.of h1, SqT.of h2, by show _ ≤ 2 ^ 24; omega, fun e => ?_, fun _ e => ?_, fun _ _ t ht => ?_⟩
  · subst e
    exact q r H (Same.refl H) h2
  · subst e
    refine q p H (Same.refl H) ?_
    rw [List.append_nil]
    exact h1
  · exact q t _ (fun c u eo => by rw [upd_ne (ne_of_none eo ht)]; exact eo) upd_same
theorem cut_hi {xs ys : List L2.V} : cutV (xs ++ ys) none (some (xs.length : Int)) = xs := by
  unfold cutV
  rw [HT.sIx_none, HT.sIx_nat, List.length_append, Nat.min_eq_left (by omega), List.drop_zero, Nat.sub_zero, List.take_left]
theorem cut_lo {xs ys : List L2.V} : cutV (xs ++ ys) (some (xs.length : Int)) none = ys := by
  unfold cutV
  rw [HT.sIx_none, HT.sIx_nat, List.length_append, Nat.min_eq_left (by omega), List.drop_left, Nat.add_sub_cancel_left, List.take_length]
/-- t[:k] of t = xs ++ ys, k the length of xs -/
theorem e_tHi (q : wE X e σ H fun x H1 => wE X b σ H1 fun y H2 => ∃ p xs ys, x = .ref p ∧ y = .int (xs.length : Int) ∧ H2 p = some (.tup (xs ++ ys)) ∧ ∀ t H3, Same H2 H3 → H3 t = some (.tup xs) → Q (.ref t) H3) {p2 : Pos} : wE X (.Subscript e (.Slice none (some b) none p2) pos) σ H Q := by
  refine e_slL1 sl_tupA (e_mono q fun x H1 z => e_mono z fun y H2 ⟨p, xs, ys, ex, ey, ht, q⟩ => ⟨_, ey, p, xs ++ ys, ex, SqT.of ht, fun hw => ?_, fun _ t nt => ?_⟩)
  · refine q p H2 (Same.refl H2) ?_
    have e : xs ++ ys = xs := by
      have h2 := hw.2
      rw [HT.sIx_nat, List.length_append] at h2
      have : ys = [] := by
        cases ys with
        | nil => rfl
        | cons y ys => simp only [List.length_cons] at h2; omega
      rw [this, List.append_nil]
    rw [e] at ht
    exact ht
  · refine q t _ (fun c u eo => by rw [upd_ne (ne_of_none eo nt)]; exact eo) ?_
    rw [cut_hi]
    exact upd_same
theorem e_tLo (q : wE X e σ H fun x H1 => wE X a σ H1 fun y H2 => ∃ p xs ys, x = .ref p ∧ y = .int (xs.length : Int) ∧ H2 p = some (.tup (xs ++ ys)) ∧ ∀ t H3, Same H2 H3 → H3 t = some (.tup ys) → Q (.ref t) H3) {p2 : Pos} : wE X (.Subscript e (.Slice (some a) none none p2) pos) σ H Q := by
  refine e_slL0 sl_tupA (e_mono q fun x H1 z => e_mono z fun y H2 ⟨p, xs, ys, ex, ey, ht, q⟩ => ⟨_, ey, p, xs ++ ys, ex, SqT.of ht, fun hw => ?_, fun _ t nt => ?_⟩)
  · refine q p H2 (Same.refl H2) ?_
    have e : xs ++ ys = ys := by
      have h2 := hw.1
      rw [HT.sIx_nat, List.length_append] at h2
      have : xs = [] := by
        cases xs with
        | nil => rfl
        | cons y xs => simp only [List.length_cons] at h2; omega
      rw [this, List.nil_append]
    rw [e] at ht
    exact ht
  · refine q t _ (fun c u eo => by rw [upd_ne (ne_of_none eo nt)]; exact eo) ?_
    rw [cut_lo]
    exact upd_same
theorem e_rev {k : Nat} {p1 p2 p3 : Pos} (q : wE X e σ H fun x H1 => ∃ p xs, x = .ref p ∧ SqL X.K H1 p xs ∧ ∀ t H2, Same H1 H2 → H1 t = none → H2 t = some (.lst xs.reverse) → Q (.ref t) H2) : wE X (.Subscript e (.Slice none none (some (.UnaryOp .USub (.Constant (.int 1) k p1) p2)) p3) pos) σ H Q :=
  e_of (pe_revL pe) (e_mono q fun x H1 ⟨p, xs, ex, h, q⟩ => ⟨p, xs, ex, h, fun t nt => q t _ (fun c u eo => by rw [upd_ne (ne_of_none eo nt)]; exact eo) nt upd_same⟩)
theorem e_ext {o : Expr} {apos : Pos} (q : wE X o σ H fun x H1 => ∃ l xs0, x = .ref l ∧ SqL X.K H1 l xs0 ∧ wE X e σ H1 fun y H2 => ∃ r xs zs, y = .ref r ∧ H2 l = some (.lst xs) ∧ H2 r = some (.lst zs) ∧ xs.length + zs.length ≤ 200000 ∧ Q .non (upd H2 l (.lst (xs ++ zs))))
    (hbase : attributeBase o "extend" X.env (eval o X.env) = eval o X.env := by rfl)
    (hfew : ((backTo pos (starEach (e :: []) X.env)).all (fun x => !x.1) && (backToKw pos (keywordEach [] X.env)).all (fun x => x.1.isSome)
      && decide ((e :: []).length + ([] : List Keyword).length + (if ([] : List Keyword).isEmpty then 0 else 1) < 30)) = true := by rfl)
    (hline : (apos.endLine == pos.line) = true := by rfl) (hs : starEach (e :: []) X.env = (false, eval e X.env) :: starEach [] X.env := by rfl) (hplain : (backTo pos (starEach [] X.env)).any (·.1) = false := by rfl) :
    wE X (.Call (.Attribute o "extend" apos) [e] [] pos) σ H Q := by
  refine e_of (pe_bm PySem.F.plainAttrs_list PySem.F.slot_list_extend PySem.F.type_list_extend mt_extend pe (pa_cons pe pa_nil hs) hbase hfew hline hs hplain) (e_mono q fun x H1 z => ?_)
  obtain ⟨l, xs0, rfl, hl, z⟩ := z
  refine ⟨.inl ⟨rfl, _, hl⟩, e_mono z fun y H2 z2 => ?_⟩
  obtain ⟨r, xs, zs, rfl, h1, h2, h3, h4⟩ := z2
  exact ⟨l, r, xs, zs, rfl, rfl, h1, h2, by show _ ≤ 2 ^ 24; omega, h4⟩
theorem c_dict {p : Addr} {kvs : List (Key × L2.V)} (h : H p = some (.dK kvs)) (q : ∀ t H2, Same H H2 → H t = none → H2 t = some (.dK kvs) → Q (.ref t) H2) : wC X (.type "dict") [.ref p] H Q :=
  c_of call_dictD ⟨p, kvs, rfl, .inl h, fun t nt => q t _ (fun c u eo => by rw [upd_ne (ne_of_none eo nt)]; exact eo) nt upd_same⟩
theorem c_listT {p : Addr} {xs : List L2.V} (h : H p = some (.tup xs)) (q : ∀ l H2, Same H H2 → H l = none → H2 l = some (.lst xs) → Q (.ref l) H2) : wC X (.type "list") [.ref p] H Q :=
  c_of call_list_of ⟨p, xs, rfl, .inr (SqT.of h), fun l np => q l _ (fun c u eo => by rw [upd_ne (ne_of_none eo np)]; exact eo) np upd_same⟩
theorem c_listDn {p : Addr} {kvs : List (Key × L2.V)} (hc : X.calm = true) (h : H p = some (.dK kvs)) (q : ∀ l H2, Same H H2 → H l = none → H2 l = some (.lst (kvs.map fun kv => kV kv.1)) → Q (.ref l) H2) : wC X (.type "list") [.ref p] H Q :=
  c_of (call_list_dK hc) ⟨p, kvs, rfl, h, fun l np => q l _ (fun c u eo => by rw [upd_ne (ne_of_none eo np)]; exact eo) np upd_same⟩
theorem o_eqDt {n : Nat} {p r : Addr} {ks ls : List (Key × L2.V)} (hr : Room n X.A) (h1 : H p = some (.dK ks)) (h2 : H r = some (.dK ls)) (hl : ks.length = ls.length) (hv : ∀ p ∈ ks, valV ls p.1 = some p.2 ∧ flatB p.2 = true) (q : Q (.bl true) H) : wK X .Eq (.ref p) (.ref r) H Q :=
  k_of (op_eq_dictA (by have := hr.units; omega)) ⟨p, r, ks, ls, rfl, rfl, h1, h2, hl, hv, q⟩
/-- {k: v} and {k: v, k2: v2} -/
theorem e_d1 {k v : Expr} (q : ∀ p, H p = none → wE X k σ (upd H p (.dK [])) fun x H1 => wE X v σ H1 fun y H2 => H2 p = some (.dK []) ∧ ∃ z, x = .str z ∧ Q (.ref p) (upd H2 p (.dK [(Sum.inr z, y)]))) : wE X (.Dict [some k] [v] pos) σ H Q := by
  refine e_of (pe_disp (pps_cons pe pe pps_nil) rfl rfl (by simp) (by simp)) fun p np => e_mono (q p np) fun x H1 q1 => e_mono q1 fun y H2 q2 => ?_
  obtain ⟨h, z, rfl, q3⟩ := q2
  exact ⟨h, [(Sum.inr z, y)], rfl, by simp, q3⟩
theorem e_d2 {k v k2 v2 : Expr} (q : ∀ p, H p = none → wE X k σ (upd H p (.dK [])) fun x H1 => wE X v σ H1 fun y H2 => wE X k2 σ H2 fun x2 H3 => wE X v2 σ H3 fun y2 H4 => H4 p = some (.dK []) ∧ ∃ z z2, x = .str z ∧ x2 = .str z2 ∧ z ≠ z2 ∧ Q (.ref p) (upd H4 p (.dK [(Sum.inr z, y), (Sum.inr z2, y2)]))) :
    wE X (.Dict [some k, some k2] [v, v2] pos) σ H Q := by
  refine e_of (pe_disp (pps_cons pe pe (pps_cons pe pe pps_nil)) rfl rfl (by simp) (by simp)) fun p np => e_mono (q p np) fun x H1 q1 => e_mono q1 fun y H2 q2 => e_mono q2 fun x2 H3 q3 => e_mono q3 fun y2 H4 q4 => ?_
  obtain ⟨h, z, z2, rfl, rfl, ne, q5⟩ := q4
  refine ⟨h, [(Sum.inr z, y), (Sum.inr z2, y2)], rfl, by simp, ?_⟩
  have e : mergeK [] [((Sum.inr z : Key), y), (Sum.inr z2, y2)] = [(Sum.inr z, y), (Sum.inr z2, y2)] := by
    show putK (putK [] (Sum.inr z) y) (Sum.inr z2) y2 = _
    unfold putK
    simp [ne]
  rw [e]
  exact q5
/-- for x in reversed(xs), xs a list -/
theorem s_forRv {nx : L2.St → Hp → Prop} {rt : VK} {bk ct : L2.St → Hp → Prop} {g : Nat} {x : Str} {i : Nat} {body : List Stmt} {px p cp pos : Pos} (hm : X.mg "reversed" = none)
    (q : wE X a σ H fun v H1 => ∃ ad xs, v = .ref ad ∧ SqL X.K H1 ad xs ∧ ∃ Pv : Nat → L2.St → Hp → Prop, Pv 0 σ H1 ∧ (∀ k σ H, k ≤ xs.length → Pv k σ H → SqL X.K H ad xs) ∧ (∀ k y σ H, xs.reverse[k]? = some y → Pv k σ H → wL X body ⟨Pv (k + 1), rt, nx, Pv (k + 1)⟩ (σ.set i (some y)) H) ∧ ∀ σ H, Pv xs.length σ H → nx σ H)
    (I : In X N G sc := by assumption) (hc : X.calm = true := by rfl) (hA : At N i x := by repeat (first | with_reducible apply At.z | with_reducible apply At.s)) (hG : At G g ("reversed" : Str) := by repeat (first | with_reducible apply At.z | with_reducible apply At.s))
    (hs : starEach [a] X.env = (false, eval a X.env) :: starEach [] X.env := by rfl) (hs2 : ∀ z, foldedSetIterable (.Call (.Name "reversed" p) [a] [] cp) X.env z = pure z := by intro _; rfl) :
    wS X (.For (.Name x px) (.Call (.Name "reversed" p) [a] [] cp) body [] pos) ⟨nx, rt, bk, ct⟩ σ H := by
  refine s_of (ps_for I.never hc (RT.pi_revA (I.g hG) hm pe hs) (pg_name I.nd (I.hi hA) (I.loc hA) I.f) pl hs2) (e_mono q fun v H1 q1 => ?_)
  obtain ⟨ad, xs, rfl, hl, Pv, h0, hk, hb, hd⟩ := q1
  refine ⟨ad, xs, rfl, .inl ⟨hl, fun k m σ H => m = xs.length - k ∧ k ≤ xs.length ∧ Pv k σ H, ⟨xs.length, by simp, Nat.zero_le _, h0⟩, ?_⟩⟩
  rintro k m σ H ⟨rfl, hi, p⟩
  have q := hk k σ H hi p
  by_cases hlt : k < xs.length
  · refine .inr ⟨⟨hlt, xs, xs[xs.length - 1 - k]'(by omega), q, by simp⟩, Pv (k + 1), fun σ' H' p' => ⟨xs.length - (k + 1), by omega, rfl, hlt, p'⟩, fun x H' y => ?_⟩
    obtain ⟨e, y⟩ := y
    subst e
    refine hb k x σ _ ?_ p
    rw [List.getElem?_reverse hlt]
    exact y xs q
  · have e : k = xs.length := by omega
    subst e
    exact .inl ⟨Nat.le_refl _, hd σ H p⟩
/-- for x in d, d a dict that stands at ad -/
theorem s_forD {nx : L2.St → Hp → Prop} {rt : VK} {bk ct : L2.St → Hp → Prop} {x : Str} {i : Nat} {body : List Stmt} {px pos : Pos} {ad : Addr} {kvs : List (Key × L2.V)} (h : H ad = some (.dK kvs))
    (q : ∀ o, wE X a σ (upd H ad (.frz o (.dK kvs))) fun v H1 => v = .ref ad ∧ H1 ad = some (.frz o (.dK kvs)) ∧ ∃ Pv : Nat → L2.St → Hp → Prop, Pv 0 σ H1 ∧ (∀ k σ H, k ≤ kvs.length → Pv k σ H → H ad = some (.frz o (.dK kvs))) ∧
      (∀ k y v σ H, kvs[k]? = some (y, v) → Pv k σ H → wL X body ⟨Pv (k + 1), fun v H' => H' ad = some (.frz o (.dK kvs)) ∧ rt v (upd H' ad (.dK kvs)), fun σ' H' => H' ad = some (.frz o (.dK kvs)) ∧ nx σ' (upd H' ad (.dK kvs)), Pv (k + 1)⟩ (σ.set i (some (kV y))) H) ∧ ∀ σ H, Pv kvs.length σ H → nx σ (upd H ad (.dK kvs)))
    (I : In X N G sc := by assumption) (hc : X.calm = true := by rfl) (hA : At N i x := by repeat (first | with_reducible apply At.z | with_reducible apply At.s)) (hs2 : ∀ z, foldedSetIterable a X.env z = pure z := by intro _; rfl) :
    wS X (.For (.Name x px) a body [] pos) ⟨nx, rt, bk, ct⟩ σ H := by
  refine s_of (ps_lock (ps_for I.never hc (pi_keys pe) (pg_name I.nd (I.hi hA) (I.loc hA) I.f) pl hs2)) ?_
  refine ⟨ad, .dK kvs, h, trivial, fun o => e_mono (q o) fun v H1 q1 => ?_⟩
  obtain ⟨rfl, h1, Pv, h0, hk, hb, hd⟩ := q1
  refine ⟨ad, o, rfl, .inl ⟨kvs, h1, fun k m σ H => m = kvs.length - k ∧ k ≤ kvs.length ∧ Pv k σ H, ⟨kvs.length, by simp, Nat.zero_le _, h0⟩, ?_⟩⟩
  rintro k m σ H ⟨rfl, hi, p⟩
  have q := hk k σ H hi p
  by_cases hlt : k < kvs.length
  · refine .inr ⟨⟨q, hlt⟩, Pv (k + 1), fun σ' H' p' => ⟨kvs.length - (k + 1), by omega, rfl, hlt, p'⟩, fun x H' y => ?_⟩
    obtain ⟨rfl, ky, v, hkv, rfl⟩ := y
    exact hb k ky v σ _ hkv p
  · have e : k = kvs.length := by omega
    subst e
    exact .inl ⟨⟨q, Nat.le_refl _⟩, q, hd σ H p⟩
/-- [elt for x in t if c], t a tuple -/
def LcTf (X : Cx) (Vn : List (Nat × Str)) (G' : List Str) (elt c : Expr) (scope : Scope) (i : Nat) (ad : Addr) (xs : List L2.V) (D : Addr) (σ : L2.St) (H1 : Hp) (Qd : Hp → Prop) : Prop := ∃ Pv : Nat → Hp → Prop, Pv 0 (upd H1 D (.lst [])) ∧ (∀ k H2, k ≤ xs.length → Pv k H2 → SqT X.K H2 ad xs) ∧
  (∀ k x H2, xs[k]? = some x → Pv k H2 → Turn1 X Vn G' elt c scope i D σ x H2 (Pv (k + 1))) ∧ ∀ H2, Pv xs.length H2 → Qd H2
theorem e_lcTf {i : Nat} {x : Str} {px : Pos} (B : BkOk X.N Vn G' i x sc scope)
    (q : wE X a σ H fun v H1 => ∃ ad xs, v = .ref ad ∧ SqT X.K H1 ad xs ∧ ∀ D, H1 D = none → LcTf X Vn G' elt c scope i ad xs D σ H1 fun H2 => Q (.ref D) H2)
    (I : In X N G sc := by assumption) (hc : X.calm = true := by rfl) (hs2 : ∀ z, foldedSetIterable a X.env z = pure z := by intro _; rfl) :
    wE X (.ListComp elt [⟨.Name x px, a, [c], 0⟩] scope pos) σ H Q := by
  refine e_of (pe_lc (own := [(x, i)]) (g := gName i) (tt := wBkT X Vn G' c scope) (te := wBk X Vn G' elt scope) hc I.nd (pi_tup pe) (B.ok I) (fun s H C cl fp => B.pg I s H C cl fp) (fun s H C cl fp => pts_bk (B.inB I s H C cl fp)) (fun s H C cl fp => pe_bk (B.inB I s H C cl fp)) hs2) (e_mono q fun v H1 q1 => ?_)
  obtain ⟨ad, xs, rfl, hl, q2⟩ := q1
  refine ⟨ad, rfl, ⟨xs, hl⟩, fun D hD => ?_⟩
  obtain ⟨Pv, h0, hk, hs, hd⟩ := q2 D hD
  exact lc_tup Pv h0 hk (fun k x H hx p => turn1_of (hs k x H hx p)) hd
/-- y = [elt for x in range(a) if c] -/
def LcRf (X : Cx) (Vn : List (Nat × Str)) (G' : List Str) (elt c : Expr) (scope : Scope) (i n : Nat) (D : Addr) (σ : L2.St) (H1 : Hp) (Qd : Hp → Prop) : Prop := ∃ Pv : Nat → Hp → Prop, Pv 0 (upd H1 D (.lst [])) ∧
  (∀ k H2, k < n → Pv k H2 → Turn1 X Vn G' elt c scope i D σ (.int (k : Int)) H2 (Pv (k + 1))) ∧ ∀ H2, Pv n H2 → Qd H2
theorem lcRf_of {i n : Nat} {D : Addr} {H1 : Hp} {Qd : Hp → Prop} (q : LcRf X Vn G' elt c scope i n D σ H1 Qd) : ∃ W : Nat → Nat → Hp → Prop, (∃ m, W 0 m (upd H1 D (.lst []))) ∧ ∀ k m H, W k m H →
    ((Itr 0 n).stop k H ∧ Qd H) ∨ ((Itr 0 n).go k H ∧ ∃ Nx : Hp → Prop, (∀ H', Nx H' → ∃ m', m' < m ∧ W (k + 1) m' H') ∧ ∀ x H', (Itr 0 n).yld k H x H' → gName i x (wipe σ [i]) H' fun σ2 H2 => wipe σ2 [i] = wipe σ [i] ∧ wBkT X Vn G' c scope σ2 H2 fun b H3 =>
      if b = true then wBk X Vn G' elt scope σ2 H3 fun y H4 => ∃ acc, H4 D = some (.lst acc) ∧ acc.length < sizeLine ∧ Nx (upd H4 D (.lst (acc ++ [y]))) else Nx H3) := by
  obtain ⟨Pv, h0, hs, hd⟩ := q
  refine lc_range Pv h0 (fun k H hk p => ?_) hd
  rw [Int.zero_add]
  exact turn1_of (hs k H hk p)
theorem s_lcRf {nx : L2.St → Hp → Prop} {rt : VK} {bk ct : L2.St → Hp → Prop} {i j g : Nat} {x y : Str} {px py p cp spos : Pos} (B : BkOk X.N Vn G' i x sc scope) (hm : X.mg "range" = none)
    (q : wE X a σ H fun v H1 => ∃ n : Nat, v = .int n ∧ n < 2 ^ 62 ∧ ∀ D, H1 D = none → LcRf X Vn G' elt c scope i n D σ H1 fun H2 => nx (σ.set j (some (.ref D))) H2)
    (I : In X N G sc := by assumption) (hc : X.calm = true := by rfl) (hA : At N j y := by repeat (first | with_reducible apply At.z | with_reducible apply At.s)) (hG : At G g ("range" : Str) := by repeat (first | with_reducible apply At.z | with_reducible apply At.s))
    (hk : X.env.scope.kind = .function := by rfl) (hy : X.env.scope.names.lookup y = some .local := by rfl) (hl : (py.line == pos.line) = true := by rfl) (ha : (scope.names.any fun (n, k) => n == y && (k == .local || k == .cell)) = false := by decide +kernel)
    (hs : starEach [a] X.env = [(false, eval a X.env)] := by rfl) (hs2 : ∀ z, foldedSetIterable (.Call (.Name "range" p) [a] [] cp) X.env z = pure z := by intro _; rfl) (hs1 : starEach (a :: []) X.env = (false, eval a X.env) :: starEach [] X.env := by rfl) :
    wS X (.Assign [.Name y py] (.ListComp elt [⟨.Name x px, .Call (.Name "range" p) [a] [] cp, [c], 0⟩] scope pos) spos) ⟨nx, rt, bk, ct⟩ σ H := by
  refine s_of (ps_setLc (own := [(x, i)]) (g := gName i) (tt := wBkT X Vn G' c scope) (te := wBk X Vn G' elt scope) hc I.nd (I.hi hA) hy (sw_true hk hy hl ha) (pi_range1 (I.g hG) hm (pa_cons pe pa_nil hs1) hs) (B.ok I) (fun s H C cl fp => B.pg I s H C cl fp) (fun s H C cl fp => pts_bk (B.inB I s H C cl fp)) (fun s H C cl fp => pe_bk (B.inB I s H C cl fp)) hs2) (e_mono q fun v H1 q1 => ?_)
  obtain ⟨n, rfl, hn, q2⟩ := q1
  refine ⟨(n : Int), rfl, by omega, by omega, ?_⟩
  rw [Int.toNat_natCast]
  exact fun D hD => lcRf_of (q2 D hD)
end
end Wk

set_option maxHeartbeats 4000000
/-! My own layer: a walk over zip(a, b), each of the two a list or a tuple. -/
namespace Wk
open PySem PySem.Spec PyProof.Rows L2
/-- what stands on one side of a zip -/
inductive Side where
  | l | t
def Side.con : Side → Heap → Addr → Array Value → Prop
  | .l => fun h a xs => h.IsList a xs
  | .t => fun h a xs => h.IsTuple a xs
def Side.itr : Side → Heap → Addr → Addr → Nat → Prop
  | .l => fun h it a i => h.IsListIter it a i
  | .t => fun h it a i => h.IsTupleIter it a i
def Side.ob : Side → Addr → Obj
  | .l => fun a => { cls := .type "list_iterator", data := .fields #[.ref a, .int 0 0] }
  | .t => fun a => { cls := .type "tuple_iterator", data := .fields #[.ref a, .int 0 0] }
def Side.sq (K : PySem.W.Frag) : Side → Hp → Addr → List V → Prop
  | .l => SqL K
  | .t => SqT K
theorem Side.begins (c : Side) (a : Addr) (xs : Array Value) : Begins (.ref a) (c.ob a) fun h => c.con h a xs := by
  cases c with
  | l => exact begins_list a xs
  | t => exact begins_tuple a xs
theorem Side.draws {P : Program} {w : World} {A : Around} (c : Side) (hh : A.handled = none) (it a : Addr) (ne : a ≠ it) (xs : Array Value) : Draws P w A it [it, a] xs.size (fun i v => xs[i]? = some v) (fun i h => c.itr h it a i ∧ c.con h a xs) := by
  cases c with
  | l => exact Draws.list hh it a ne xs
  | t => exact Draws.tuple hh it a ne xs
theorem Side.own {X : Cx} {pins : List (Addr × Obj)} {σ : L2.St} {H : Hp} {s : Shared} {a : Addr} {xs : List V} (I : Inv X pins σ H s) (c : Side) (h : c.sq X.K H a xs) : ∃ its : List Value, Vals xs its ∧ c.con s.heap a its.toArray := by
  cases c with
  | l => obtain ⟨its, r, p, _⟩ := I.list h; exact ⟨its, r, p.isList⟩
  | t => obtain ⟨its, r, p, _⟩ := I.tuple h; exact ⟨its, r, p⟩
theorem Side.inj {X : Cx} {pins : List (Addr × Obj)} {σ : L2.St} {H : Hp} {s : Shared} {a : Addr} {xs ys : List V} (I : Inv X pins σ H s) (c : Side) (h : c.sq X.K H a xs) (h' : c.sq X.K H a ys) : xs = ys := by
  cases c with
  | l => exact I.list_inj h h'
  | t => exact I.tuple_inj h h'
theorem Side.up {h h' : Heap} {it a : Addr} {i : Nat} (c : Side) (x : c.itr h it a i) (k : ∀ o, h.get? it = some o → h'.get? it = some o) : c.itr h' it a i := by
  cases c with
  | l => exact x.at k
  | t => exact x.at k
theorem Side.nocell {h : Heap} {it a : Addr} {i : Nat} (c : Side) (x : c.itr h it a i) : ∃ o, h.get? it = some o ∧ ∀ v, o.data ≠ .cell v := by
  cases c with
  | l => obtain ⟨o, e, _, d⟩ := x; exact ⟨o, e, fun v q => by rw [d] at q; cases q⟩
  | t => obtain ⟨o, e, _, d⟩ := x; exact ⟨o, e, fun v q => by rw [d] at q; cases q⟩
theorem Side.start {h : Heap} {it a : Addr} (c : Side) (e : h.get? it = some (c.ob a)) : c.itr h it a 0 := by
  cases c with
  | l => exact ⟨_, e, rfl, rfl⟩
  | t => exact ⟨_, e, rfl, rfl⟩
theorem Side.lt {h : Heap} {a : Addr} {xs : Array Value} (c : Side) (x : c.con h a xs) : a < h.objs.size := by
  cases c with
  | l => obtain ⟨o, e, _⟩ := x; exact Heap.lt_size e
  | t => obtain ⟨o, e, _⟩ := x; exact Heap.lt_size e
/-- pairs out of the two sides, as they stand at each turn -/
def ItM (K : PySem.W.Frag) (c d : Side) (a b : Addr) : It :=
  ⟨fun i H => ∃ (xs ys : List V) (x y : V), c.sq K H a xs ∧ d.sq K H b ys ∧ xs[i]? = some x ∧ ys[i]? = some y,
    fun i H v H' => ∃ T x y, v = .ref T ∧ H T = none ∧ H' = upd H T (.tup [x, y]) ∧ (∀ xs, c.sq K H a xs → xs[i]? = some x) ∧ ∀ ys, d.sq K H b ys → ys[i]? = some y,
    fun i H => ∃ xs ys : List V, c.sq K H a xs ∧ d.sq K H b ys ∧ i ≤ xs.length ∧ i ≤ ys.length ∧ (i = xs.length ∨ i = ys.length)⟩
theorem turn_zipM {P : Program} {w : World} {K : PySem.W.Frag} {es : List Expr} {kk : Nat} {tp : Pos} {c d : Side} {a b z TI TO i1 i2 : Addr} (S : ZipSep2 z TI TO i1 i2 [i1, a] [i2, b]) (na : a ≠ i1) (nb : b ≠ i2) :
    Turn P w K (.Tuple es kk tp) (ItM K c d a b) [z, TI, TO, i1, i2] z (fun i h => IsZip h z TI TO .none ∧ IsTupOf2 h TI (.ref i1) (.ref i2) ∧ (∃ u v, IsTupOf2 h TO u v) ∧ c.itr h i1 a i ∧ d.itr h i2 b i) where
  mem := List.mem_cons_self ..
  obj := fun i h ⟨q1, q2, ⟨u, v, q3⟩, q4, q5⟩ e he => by
    simp only [List.mem_cons, List.not_mem_nil, or_false] at he
    rcases he with rfl | rfl | rfl | rfl | rfl
    · exact ⟨_, q1, fun _ r => nomatch r⟩
    · exact ⟨_, q2, fun _ r => nomatch r⟩
    · exact ⟨_, q3, fun _ r => nomatch r⟩
    · exact c.nocell q4
    · exact d.nocell q5
  keep := fun i h h' ⟨q1, q2, ⟨u, v, q3⟩, q4, q5⟩ kp => ⟨kp z (by simp) _ q1, kp TI (by simp) _ q2, ⟨u, v, kp TO (by simp) _ q3⟩, c.up q4 (kp i1 (by simp)), d.up q5 (kp i2 (by simp))⟩
  item := by
    intro X hP hw hK hc i pins s σ H E I fpk ⟨q1, q2, ⟨u, v, q3⟩, q4, q5⟩ ⟨xs, ys, x, y, sx, sy, ex, ey⟩
    subst hP hw hK
    obtain ⟨us, rus, cx⟩ := c.own I sx
    obtain ⟨vs, rvs, cy⟩ := d.own I sy
    obtain ⟨g, eg, rg⟩ := rus.get ex
    obtain ⟨g2, eg2, rg2⟩ := rvs.get ey
    have hh : X.A.in1.handled = none := I.ok.hd hc
    refine wpAny_pyNext_zipD2_item S (c.draws hh i1 a na us.toArray) (d.draws hh i2 b nb vs.toArray) q1 q2 q3 ⟨q4, cx⟩ ⟨q5, cy⟩ ?_ ?_ fun x1 x2 h1 tk p1 p2 n1 n2 n3 n4 n5 _ n7 => ?_
    · rw [List.size_toArray]; exact (List.getElem?_eq_some_iff.mp eg).1
    · rw [List.size_toArray]; exact (List.getElem?_eq_some_iff.mp eg2).1
    rw [List.getElem?_toArray, eg] at p1
    rw [List.getElem?_toArray, eg2] at p2
    cases p1
    cases p2
    have zl : z < s.heap.objs.size := Heap.lt_size q1
    refine ⟨_, rfl, wpAny_letOwnedTupleGo_zip (s := { s with heap := h1, toks := tk }) n1 fun h2 m1 sb => ?_⟩
    have tup2 : h2.get? s.heap.objs.size = some { cls := .type "tuple", data := .seq #[g, g2] } := (sb.2 _ (Nat.ne_of_gt zl)).trans n5
    have I1 : Inv X pins σ (upd H s.heap.objs.size (.tup [x, y])) { s with heap := h2, toks := tk } := by
      refine I.turnedNew (t' := tk) (ch := [z, TI, TO, i1, i2]) (fun e o hb q => ?_) fpk (Nat.le_refl _) ⟨by show 2 ≤ 2 ^ 24; decide, [g, g2], .cons rg (.cons rg2 .nil), ⟨_, tup2, rfl, _, rfl⟩⟩
      simp only [List.mem_cons, List.not_mem_nil, or_false, not_or] at hb
      exact (sb.2 e hb.1).trans (n7 e o hb.1 hb.2.2.1 hb.2.2.2.1 hb.2.2.2.2 q)
    have up : ∀ {e : Addr} {o : Obj}, e ≠ z → h1.get? e = some o → h2.get? e = some o := fun ne q => (sb.2 _ ne).trans q
    refine ⟨.ref s.heap.objs.size, _, I1, rfl, ⟨_, x, y, rfl, I.hok.fresh (Nat.le_refl _), rfl, fun l hl => by rw [c.inj I hl sx]; exact ex, fun l hl => by rw [d.inj I hl sy]; exact ey⟩,
      ⟨m1, up S.TIz (n7 TI _ S.TIz S.TITO S.TIi1 S.TIi2 q2), ⟨g, g2, up S.TOz n2⟩, c.up n3.1 fun o q => up (Ne.symm S.zi1) q, d.up n4.1 fun o q => up (Ne.symm S.zi2) q⟩, fun e he => ?_⟩
    rw [upd_ne]
    · exact (fpk e he).1
    · have : e < s.heap.objs.size := by
        simp only [List.mem_cons, List.not_mem_nil, or_false] at he
        rcases he with rfl | rfl | rfl | rfl | rfl
        · exact zl
        · exact Heap.lt_size q2
        · exact Heap.lt_size q3
        · obtain ⟨o, eo, _⟩ := c.nocell q4; exact Heap.lt_size eo
        · obtain ⟨o, eo, _⟩ := d.nocell q5; exact Heap.lt_size eo
      exact Nat.ne_of_lt this
  done := by
    intro X hP hw hK hc i pins s σ H E I fpk ⟨q1, q2, ⟨u, v, q3⟩, q4, q5⟩ ⟨xs, ys, sx, sy, l1, l2, le⟩
    subst hP hw hK
    obtain ⟨us, rus, cx⟩ := c.own I sx
    obtain ⟨vs, rvs, cy⟩ := d.own I sy
    have g1 := rus.length
    have g2 := rvs.length
    have hh : X.A.in1.handled = none := I.ok.hd hc
    refine wpAny_pyNext_zipD2_end S (c.draws hh i1 a na us.toArray) (d.draws hh i2 b nb vs.toArray) q1 q2 q3 ⟨q4, cx⟩ ⟨q5, cy⟩ (by rw [List.size_toArray]; omega) (by rw [List.size_toArray]; omega) (by rw [List.size_toArray, List.size_toArray]; omega) fun h1 tk kp => ⟨rfl, ?_⟩
    refine I.turnedL (t' := tk) (ch := [z, TI, TO, i1, i2]) (fun e o hb q => ?_) fpk
    simp only [List.mem_cons, List.not_mem_nil, or_false, not_or] at hb
    exact kp e o hb.1 hb.2.2.1 hb.2.2.2.1 hb.2.2.2.2 q
  self := fun A i s Q E st h => wpAny_pyIter_zip st.1 h
/-- zip(e, e2) -/
def iZipM (K : PySem.W.Frag) (c d : Side) (ta : TA) : TI := fun σ H R => ta σ H fun vs H1 => ∃ a b xs ys, vs = [.ref a, .ref b] ∧ c.sq K H1 a xs ∧ d.sq K H1 b ys ∧ R (ItM K c d a b) H1
theorem pi_zipM {X : Cx} {e e2 : Expr} {ta : TA} {p pos tp : Pos} {es : List Expr} {kk : Nat} {c d : Side} (hg : Gl X "zip") (hm : X.mg "zip" = none) (ha : PA X [e, e2] ta)
    (hs : starEach [e, e2] X.env = (false, eval e X.env) :: starEach [e2] X.env := by rfl) (hpl : (backTo pos (starEach [e2] X.env)).any (·.1) = false := by rfl) :
    PI X (.Tuple es kk tp) (.Call (.Name "zip" p) [e, e2] [] pos) (iZipM X.K c d ta) := by
  refine ⟨fun pins s σ H R I h => Call_ (ld_blt I hg hm PyProof.Rows.boot_zip (PyProof.Rows.callWith_type1 (thn (ha.run pos pins s σ H _ I h) fun us s1 ⟨vs, H1, I1, r1, a, b, xs, ys, ev, sx, sy, q⟩ => ?_) hs hpl))⟩
  subst ev
  obtain ⟨u, v, rfl, ru, rv⟩ : ∃ u v, us = [u, v] ∧ RelV (.ref a) u ∧ RelV (.ref b) v := by
    cases r1 with
    | cons r t => cases t with
      | cons r' t => cases t; exact ⟨_, _, rfl, r, r'⟩
  cases ru
  cases rv
  obtain ⟨ws, rw1, cx⟩ := c.own I1 sx
  obtain ⟨zs, rw2, cy⟩ := d.own I1 sy
  have la := c.lt cx
  have lb := d.lt cy
  generalize hN : s1.heap.objs.size = N at la lb
  have nw : ∀ e ∈ [N + 4, N + 2, N + 3, N, N + 1], FpOk X pins H1 e := fun e he => by
    have hle : s1.heap.objs.size ≤ e := by
      rw [hN]
      simp only [List.mem_cons, List.not_mem_nil, or_false] at he
      rcases he with z | z | z | z | z <;> (rw [z]; first | exact Nat.le_refl _ | exact Nat.le_add_right _ _)
    exact I1.fpOk hle (I1.hok.fresh hle)
  refine zip_begins2 (c.begins a ws.toArray) (d.begins b zs.toArray) cx cy fun h1 g1 g2 g3 g4 g5 _ kp => wpAny_pyIter_zip g1 ?_
  rw [hN] at g1 g2 g3 g4 g5 ⊢
  have S : ZipSep2 (N + 4) (N + 2) (N + 3) N (N + 1) [N, a] [N + 1, b] := zip_sep2 (fun e he => by rw [List.mem_singleton.mp he]; exact la) (fun e he => by rw [List.mem_singleton.mp he]; exact lb)
  exact ⟨N + 4, [N + 4, N + 2, N + 3, N, N + 1], _, ItM X.K c d a b, H1, rfl, I1.kept (t' := s1.toks) kp, turn_zipM S (Nat.ne_of_lt la) (Nat.ne_of_lt (Nat.lt_succ_of_lt lb)), ⟨g1, g2, ⟨_, _, g3⟩, c.start g4, d.start g5⟩, nw, q⟩
section
variable {X : Cx} {e a b : Expr} {σ : L2.St} {H : Hp} {N G : List Str} {sc : Scope}
/-- for x, y in zip(a, b): both sides stay while the loop goes -/
theorem s_forZ {nx : L2.St → Hp → Prop} {rt : VK} {bk ct : L2.St → Hp → Prop} (c d : Side) {g : Nat} {x y : Str} {i j : Nat} {body : List Stmt} {px py pt p cp pos : Pos} {kk : Nat} (hm : X.mg "zip" = none)
    (q : wE X a σ H fun v H1 => wE X b σ H1 fun u H2 => ∃ va vb xs ys, v = .ref va ∧ u = .ref vb ∧ c.sq X.K H2 va xs ∧ d.sq X.K H2 vb ys ∧ ∃ Pv : Nat → L2.St → Hp → Prop, Pv 0 σ H2 ∧ (∀ k σ H, k ≤ min xs.length ys.length → Pv k σ H → c.sq X.K H va xs ∧ d.sq X.K H vb ys) ∧
      (∀ k u1 u2 T σ H, xs[k]? = some u1 → ys[k]? = some u2 → Pv k σ H → H T = none → wL X body ⟨Pv (k + 1), rt, nx, Pv (k + 1)⟩ ((σ.set i (some u1)).set j (some u2)) (upd H T (.tup [u1, u2]))) ∧ ∀ σ H, Pv (min xs.length ys.length) σ H → nx σ H)
    (I : In X N G sc := by assumption) (hc : X.calm = true := by rfl) (hA : At N i x := by repeat (first | with_reducible apply At.z | with_reducible apply At.s)) (hB : At N j y := by repeat (first | with_reducible apply At.z | with_reducible apply At.s))
    (hG : At G g ("zip" : Str) := by repeat (first | with_reducible apply At.z | with_reducible apply At.s)) (hs : starEach [a, b] X.env = (false, eval a X.env) :: starEach [b] X.env := by rfl) (hpl : (backTo cp (starEach [b] X.env)).any (·.1) = false := by rfl)
    (hs1 : starEach (b :: []) X.env = (false, eval b X.env) :: starEach [] X.env := by rfl) (hs2 : ∀ z, foldedSetIterable (.Call (.Name "zip" p) [a, b] [] cp) X.env z = pure z := by intro _; rfl) :
    wS X (.For (.Tuple [.Name x px, .Name y py] kk pt) (.Call (.Name "zip" p) [a, b] [] cp) body [] pos) ⟨nx, rt, bk, ct⟩ σ H := by
  refine s_of (ps_for I.never hc (pi_zipM (c := c) (d := d) (I.g hG) hm (pa_cons pe (pa_cons pe pa_nil hs1) hs) hs hpl) (pg_tup hc (pgs_cons (pg_name I.nd (I.hi hA) (I.loc hA) I.f) (pgs_cons (pg_name I.nd (I.hi hB) (I.loc hB) I.f) pgs_nil))) pl hs2) (e_mono q fun v H1 q1 => e_mono q1 fun u H2 q2 => ?_)
  obtain ⟨va, vb, xs, ys, rfl, rfl, sx, sy, Pv, h0, hk, hb, hd⟩ := q2
  refine ⟨va, vb, xs, ys, rfl, sx, sy, fun k m σ H => m = min xs.length ys.length - k ∧ k ≤ min xs.length ys.length ∧ Pv k σ H, ⟨_, rfl, Nat.zero_le _, h0⟩, ?_⟩
  rintro k m σ H ⟨rfl, hle, pv⟩
  obtain ⟨tx, ty⟩ := hk k σ H hle pv
  by_cases lt : k < min xs.length ys.length
  · have l1 : k < xs.length := by omega
    have l2 : k < ys.length := by omega
    refine .inr ⟨⟨xs, ys, xs[k], ys[k], tx, ty, List.getElem?_eq_getElem l1, List.getElem?_eq_getElem l2⟩, Pv (k + 1), fun σ' H' p' => ⟨_, by omega, rfl, lt, p'⟩, fun w H' yl => ?_⟩
    obtain ⟨T, u1, u2, rfl, nT, rfl, y1, y2⟩ := yl
    exact ⟨T, [u1, u2], rfl, SqT.of upd_same, rfl, u1, [u2], rfl, u2, [], rfl, rfl, hb k u1 u2 T σ H (y1 xs tx) (y2 ys ty) pv nT⟩
  · have ek : k = min xs.length ys.length := by omega
    subst ek
    refine .inl ⟨⟨xs, ys, tx, ty, by omega, by omega, by omega⟩, hd σ H pv⟩
/-- [elt for x in range(a) if c], as a value -/
theorem e_lcRf {X : Cx} {elt c a : Expr} {σ : L2.St} {H : Hp} {Q : VK} {pos : Pos} {N G G' : List Str} {Vn : List (Nat × Str)} {sc scope : Scope} {i g : Nat} {x : Str} {px p cp : Pos} (B : BkOk X.N Vn G' i x sc scope) (hm : X.mg "range" = none)
    (q : wE X a σ H fun v H1 => ∃ n : Nat, v = .int n ∧ n < 2 ^ 62 ∧ ∀ D, H1 D = none → LcRf X Vn G' elt c scope i n D σ H1 fun H2 => Q (.ref D) H2)
    (I : In X N G sc := by assumption) (hc : X.calm = true := by rfl) (hG : At G g ("range" : Str) := by repeat (first | with_reducible apply At.z | with_reducible apply At.s))
    (hs : starEach [a] X.env = [(false, eval a X.env)] := by rfl) (hs2 : ∀ z, foldedSetIterable (.Call (.Name "range" p) [a] [] cp) X.env z = pure z := by intro _; rfl) (hs1 : starEach (a :: []) X.env = (false, eval a X.env) :: starEach [] X.env := by rfl) :
    wE X (.ListComp elt [⟨.Name x px, .Call (.Name "range" p) [a] [] cp, [c], 0⟩] scope pos) σ H Q := by
  refine e_of (pe_lc (own := [(x, i)]) (g := gName i) (tt := wBkT X Vn G' c scope) (te := wBk X Vn G' elt scope) hc I.nd (pi_range1 (I.g hG) hm (pa_cons pe pa_nil hs1) hs) (B.ok I) (fun s H C cl fp => B.pg I s H C cl fp) (fun s H C cl fp => pts_bk (B.inB I s H C cl fp)) (fun s H C cl fp => pe_bk (B.inB I s H C cl fp)) hs2) (e_mono q fun v H1 q1 => ?_)
  obtain ⟨n, rfl, hn, q2⟩ := q1
  refine ⟨(n : Int), rfl, by omega, by omega, ?_⟩
  rw [Int.toNat_natCast]
  exact fun D hD => lcRf_of (q2 D hD)
/-- for x in reversed(range(a)) -/
theorem s_forRR {X : Cx} {a : Expr} {σ : L2.St} {H : Hp} {N G : List Str} {sc : Scope} {nx : L2.St → Hp → Prop} {rt : VK} {bk ct : L2.St → Hp → Prop} {g g2 : Nat} {x : Str} {i : Nat} {body : List Stmt} {px p p2 cp cp2 pos : Pos} (hm : X.mg "reversed" = none) (hm2 : X.mg "range" = none)
    (q : wE X a σ H fun v H1 => ∃ n : Nat, v = .int n ∧ n < 2 ^ 62 ∧ ∃ Pv : Nat → L2.St → Hp → Prop, Pv 0 σ H1 ∧ (∀ k σ H, k < n → Pv k σ H → wL X body ⟨Pv (k + 1), rt, nx, Pv (k + 1)⟩ (σ.set i (some (.int ((n - 1 - k : Nat) : Int)))) H) ∧ ∀ σ H, Pv n σ H → nx σ H)
    (I : In X N G sc := by assumption) (hc : X.calm = true := by rfl) (hA : At N i x := by repeat (first | with_reducible apply At.z | with_reducible apply At.s))
    (hG : At G g ("reversed" : Str) := by repeat (first | with_reducible apply At.z | with_reducible apply At.s)) (hG2 : At G g2 ("range" : Str) := by repeat (first | with_reducible apply At.z | with_reducible apply At.s))
    (hs : starEach [.Call (.Name "range" p2) [a] [] cp2] X.env = (false, eval (.Call (.Name "range" p2) [a] [] cp2) X.env) :: starEach [] X.env := by rfl) (hs1 : starEach [a] X.env = (false, eval a X.env) :: starEach [] X.env := by rfl)
    (hs2 : ∀ z, foldedSetIterable (.Call (.Name "reversed" p) [.Call (.Name "range" p2) [a] [] cp2] [] cp) X.env z = pure z := by intro _; rfl) :
    wS X (.For (.Name x px) (.Call (.Name "reversed" p) [.Call (.Name "range" p2) [a] [] cp2] [] cp) body [] pos) ⟨nx, rt, bk, ct⟩ σ H := by
  refine s_of (ps_for I.never hc (pi_revR (I.g hG) hm (prg_1 (I.g hG2) hm2 pe hs1) hs) (pg_name I.nd (I.hi hA) (I.loc hA) I.f) pl hs2) (e_mono q fun v H1 q1 => ?_)
  obtain ⟨n, rfl, hn, Pv, h0, hb, hd⟩ := q1
  refine ⟨(n : Int), rfl, by omega, by omega, by omega, by omega, ?_⟩
  rw [show ((n : Int) - 0).toNat = n by omega]
  refine for_rangeC (n := n) Pv h0 (fun k σ H hk pv => ?_) hd
  rw [show (0 : Int) + ((n : Nat) : Int) - 1 + ((k : Nat) : Int) * (-1) = ((n - 1 - k : Nat) : Int) by omega]
  exact hb k σ H hk pv
end
end Wk

set_option maxHeartbeats 4000000
/-! My own layer: list(zip(a, b)), whose pairs the list holds. -/
namespace Wk
open PySem PySem.Spec PyProof.Rows L2
section
variable {prog : Program} {w : World} {A : Around} {E : Value → Shared → Prop} {s : Shared} {z TI TO T i1 i2 : Addr} {fa fb : List Addr} {n1 n2 i : Nat} {Pa Pb : Nat → Value → Prop} {Sa Sb : Nat → Heap → Prop} {fl : Bool} {oT : Obj}
/-- a turn of a zip whose last tuple is still held -/
theorem zh_item {Q : Value → Shared → Prop} (Z : ZipSep2 z TI TO i1 i2 fa fb) (Da : Draws prog w A i1 fa n1 Pa Sa) (Db : Draws prog w A i2 fb n2 Pb Sb)
    (hz : IsZipHeld s.heap z TI TO T fl) (hT : s.heap.get? T = some oT) (hI : IsTupOf2 s.heap TI (.ref i1) (.ref i2)) (ta : Sa i s.heap) (tb : Sb i s.heap) (la : i < n1) (lb : i < n2)
    (k : ∀ x y g tk, Pa i x → Pb i y → IsZipHeld g z TI TO T true → Sa (i + 1) g → Sb (i + 1) g → IsTupOf2 g s.heap.objs.size x y → g.objs.size = s.heap.objs.size + 1 →
      (∀ e o, e ≠ z → e ≠ i1 → e ≠ i2 → s.heap.get? e = some o → g.get? e = some o) → Q (.ref s.heap.objs.size) { s with heap := g, toks := tk }) :
    wpAny (model prog w) A (Builtin.«zip.__next__» ⟨[.ref z], []⟩) (fun r s' => ∃ v, r = .done (.ret v) ∧ Q v s') E s := by
  obtain ⟨h0, gn, dr, t0, os⟩ := s
  show wpAny _ A (field (.ref z) 2 >>= _) _ E _
  refine wpAny_bind (wpAny_field hz rfl (x := Value.bool false) rfl ?_)
  show wpAny _ A (field (.ref z) 3 >>= _) _ E _
  refine wpAny_bind (wpAny_field hz rfl (x := Value.ref TI) rfl ?_)
  refine wpAny_bind (wpAny_seqItems (s := ⟨h0, gn, dr, t0, os⟩) hI rfl ?_)
  show wpAny _ A (Builtin.SmallTypes.ownedTupleIsFree (.ref z) >>= _) _ E _
  refine wpAny_bind (wpAny_tupleHeld_zip (s := ⟨h0, gn, dr, t0, os⟩) hz hT fun h1 z1 b1 => ?_)
  replace b1 : Heap.SameBut z h0 h1 := b1
  simp only [Bool.false_eq_true, if_false]
  refine wpAny_bind ?_
  rw [← Array.forIn_toList]
  simp only [List.forIn_cons, List.forIn_nil]
  refine wpAny_bind (wpAny_bind (wpAny_holding ?_))
  show wpAny _ A (Builtin.SmallTypes.nextOf (.ref i1) >>= _) _ E ⟨h1, gn, dr, t0, os⟩
  refine wpAny_bind (Da.item i _ _ _ la (Da.over ta b1 Z.zf1) fun x h2 t2 px sx b2 => wpAny_pure ?_)
  replace b2 : Heap.SameBut i1 h1 h2 := b2
  refine wpAny_pure ?_
  refine wpAny_bind (wpAny_bind (wpAny_holding ?_))
  show wpAny _ A (Builtin.SmallTypes.nextOf (.ref i2) >>= _) _ E ⟨h2, gn, dr, t2, os⟩
  refine wpAny_bind (Db.item i _ _ _ lb (Db.over (Db.over tb b1 Z.zf2) b2 Z.sep1_2) fun y h3 t3 py sy b3 => wpAny_pure ?_)
  replace b3 : Heap.SameBut i2 h2 h3 := b3
  refine wpAny_pure (wpAny_pure ?_)
  show wpAny _ A (newTuple [x, y] >>= _) _ E ⟨h3, gn, dr, t3, os⟩
  refine wpAny_bind (wpAny_newTuple ?_)
  have sz : h3.objs.size = h0.objs.size := by rw [b3.1, b2.1, b1.1]
  have z3 : IsZipHeld h3 z TI TO T true := b3.extBut _ _ Z.zi2 (b2.extBut _ _ Z.zi1 z1)
  have kp : ∀ e o, e ≠ z → e ≠ i1 → e ≠ i2 → h0.get? e = some o → h3.get? e = some o := fun e o c1 c2 c3 q => b3.extBut _ _ c3 (b2.extBut _ _ c2 (b1.extBut _ _ c1 q))
  have tp : IsTupOf2 (h3.push { cls := .type "tuple", data := .seq #[x, y] }) h3.objs.size x y := Heap.get?_push_size _ rfl
  have s4 : (h3.push { cls := .type "tuple", data := .seq #[x, y] }).objs.size = h3.objs.size + 1 := Heap.size_push ..
  refine wpAny_pure ⟨_, rfl, ?_⟩
  show Q (.ref h3.objs.size) _
  rw [sz] at tp s4 ⊢
  exact k x y _ t3 px py (Heap.get?_push_of_some _ z3) (Da.frame _ _ _ (Da.over sx b3 Z.sep2_1) fun e _ o q => Heap.get?_push_of_some _ q) (Db.frame _ _ _ sy fun e _ o q => Heap.get?_push_of_some _ q) tp s4 fun e o c1 c2 c3 q => Heap.get?_push_of_some _ (kp e o c1 c2 c3 q)
theorem zh_stop {Q : PySem.Fin → Shared → Prop} (Z : ZipSep2 z TI TO i1 i2 fa fb) (Da : Draws prog w A i1 fa n1 Pa Sa) (Db : Draws prog w A i2 fb n2 Pb Sb)
    (hz : IsZipHeld s.heap z TI TO T fl) (hT : s.heap.get? T = some oT) (hI : IsTupOf2 s.heap TI (.ref i1) (.ref i2)) (ta : Sa i s.heap) (tb : Sb i s.heap) (la : i ≤ n1) (lb : i ≤ n2) (hend : i = n1 ∨ i = n2)
    (k : ∀ g tk e, (∀ c o, c ≠ z → c ≠ i1 → c ≠ i2 → s.heap.get? c = some o → g.get? c = some o) → (∃ o, g.get? e = some o ∧ o.cls = .type "StopIteration") → E (.ref e) { s with heap := g, toks := tk }) :
    wpAny (model prog w) A (Builtin.«zip.__next__» ⟨[.ref z], []⟩) Q E s := by
  obtain ⟨h0, gn, dr, t0, os⟩ := s
  show wpAny _ A (field (.ref z) 2 >>= _) _ E _
  refine wpAny_bind (wpAny_field hz rfl (x := Value.bool false) rfl ?_)
  show wpAny _ A (field (.ref z) 3 >>= _) _ E _
  refine wpAny_bind (wpAny_field hz rfl (x := Value.ref TI) rfl ?_)
  refine wpAny_bind (wpAny_seqItems (s := ⟨h0, gn, dr, t0, os⟩) hI rfl ?_)
  show wpAny _ A (Builtin.SmallTypes.ownedTupleIsFree (.ref z) >>= _) _ E _
  refine wpAny_bind (wpAny_tupleHeld_zip (s := ⟨h0, gn, dr, t0, os⟩) hz hT fun h1 z1 b1 => ?_)
  replace b1 : Heap.SameBut z h0 h1 := b1
  simp only [Bool.false_eq_true, if_false]
  refine wpAny_bind ?_
  rw [← Array.forIn_toList]
  simp only [List.forIn_cons, List.forIn_nil]
  refine wpAny_bind (wpAny_bind (wpAny_holding ?_))
  show wpAny _ A (Builtin.SmallTypes.nextOf (.ref i1) >>= _) _ E ⟨h1, gn, dr, t0, os⟩
  by_cases lt : i < n1
  · have e2 : i = n2 := by omega
    refine wpAny_bind (Da.item i _ _ _ lt (Da.over ta b1 Z.zf1) fun x h2 t2 px sx b2 => wpAny_pure ?_)
    replace b2 : Heap.SameBut i1 h1 h2 := b2
    refine wpAny_pure ?_
    refine wpAny_bind (wpAny_bind (wpAny_holding ?_))
    show wpAny _ A (Builtin.SmallTypes.nextOf (.ref i2) >>= _) _ E ⟨h2, gn, dr, t2, os⟩
    refine wpAny_bind (Db.done ⟨h2, gn, dr, t2, os⟩ _ _ (by rw [← e2]; exact Db.over (Db.over tb b1 Z.zf2) b2 Z.sep1_2) fun h3 e b3 he => ?_)
    replace b3 : Heap.ExtBut i2 h2 h3 := b3
    exact k h3 t2 e (fun c o c1 c2 c3 q => b3 _ _ c3 (b2.extBut _ _ c2 (b1.extBut _ _ c1 q))) he
  · have e1 : i = n1 := by omega
    refine wpAny_bind (Da.done ⟨h1, gn, dr, t0, os⟩ _ _ (by rw [← e1]; exact Da.over ta b1 Z.zf1) fun h3 e b3 he => ?_)
    replace b3 : Heap.ExtBut i1 h1 h3 := b3
    exact k h3 t0 e (fun c o c1 c2 _ q => b3 _ _ c2 (b1.extBut _ _ c1 q)) he
/-- how a zip stands whose tuples the list at L holds -/
def ZS (z TI TO i1 i2 L : Addr) (Sa Sb : Nat → Heap → Prop) (i : Nat) (h : Heap) : Prop := IsTupOf2 h TI (.ref i1) (.ref i2) ∧ Sa i h ∧ Sb i h ∧
  ((IsZip h z TI TO .none ∧ ∃ u v, IsTupOf2 h TO u v) ∨ ∃ T fl oT, IsZipHeld h z TI TO T fl ∧ h.get? T = some oT ∧ T ≠ z ∧ T ≠ i1 ∧ T ≠ i2 ∧ T ≠ L)
theorem zs_item {L : Addr} {Q : Option Value → Shared → Prop} (Z : ZipSep2 z TI TO i1 i2 fa fb) (Da : Draws prog w A.in1 i1 fa n1 Pa Sa) (Db : Draws prog w A.in1 i2 fb n2 Pb Sb) (st : ZS z TI TO i1 i2 L Sa Sb i s.heap) (hL : L < s.heap.objs.size) (la : i < n1) (lb : i < n2)
    (k : ∀ x y g tk, Pa i x → Pb i y → ZS z TI TO i1 i2 L Sa Sb (i + 1) g → IsTupOf2 g s.heap.objs.size x y → g.objs.size = s.heap.objs.size + 1 →
      (∀ e o, e ≠ z → e ≠ TO → e ≠ i1 → e ≠ i2 → s.heap.get? e = some o → g.get? e = some o) → Q (some (.ref s.heap.objs.size)) { s with heap := g, toks := tk }) :
    wpAny (model prog w) A (pyNext (.ref z)) Q E s := by
  obtain ⟨hI, ta, tb, hz⟩ := st
  obtain ⟨o1, l1⟩ := Da.live _ _ ta
  obtain ⟨o2, l2⟩ := Db.live _ _ tb
  have n1' : s.heap.objs.size ≠ i1 := Nat.ne_of_gt (Heap.lt_size l1)
  have n2' : s.heap.objs.size ≠ i2 := Nat.ne_of_gt (Heap.lt_size l2)
  rcases hz with ⟨hz, u, v, hO⟩ | ⟨T, fl, oT, hz, hT, r1, r2, r3, r4⟩
  · have nz : s.heap.objs.size ≠ z := Nat.ne_of_gt (Heap.lt_size hz)
    refine wpAny_pyNext_zipD2_item Z Da Db hz hI hO ta tb la lb fun x y g tk px py z' O' sa sb tp sz kp => ?_
    exact k x y g tk px py ⟨kp _ _ Z.TIz Z.TITO Z.TIi1 Z.TIi2 hI, sa, sb, .inr ⟨_, false, _, z', tp, nz, n1', n2', Nat.ne_of_gt hL⟩⟩ tp sz kp
  · have tz : s.TypeIs (.ref z) "zip" := ⟨_, hz, rfl⟩
    unfold pyNext
    exact wpAny_bind (wpAny_attempt (wpAny_callSpecial?_slot (name := Str.ofString "__next__") tz F.slot_zip_next (wpAny_call_entry F.slot_zip_next tz F.entry_zip_next
      (zh_item Z Da Db hz hT hI ta tb la lb fun x y g tk px py z' sa sb tp sz kp => wpAny_pure (k x y g tk px py ⟨kp _ _ Z.TIz Z.TIi1 Z.TIi2 hI, sa, sb, .inr ⟨T, true, oT, z', kp _ _ r1 r2 r3 hT, r1, r2, r3, r4⟩⟩ tp sz fun e o c1 _ c2 c3 q => kp e o c1 c2 c3 q)) (F.args_zip_next_1 _))))
theorem zs_stop {L : Addr} {Q : Option Value → Shared → Prop} (Z : ZipSep2 z TI TO i1 i2 fa fb) (Da : Draws prog w A.in1 i1 fa n1 Pa Sa) (Db : Draws prog w A.in1 i2 fb n2 Pb Sb) (st : ZS z TI TO i1 i2 L Sa Sb i s.heap) (la : i ≤ n1) (lb : i ≤ n2) (hend : i = n1 ∨ i = n2)
    (k : ∀ g tk, (∀ e o, e ≠ z → e ≠ TO → e ≠ i1 → e ≠ i2 → s.heap.get? e = some o → g.get? e = some o) → Q none { s with heap := g, toks := tk }) :
    wpAny (model prog w) A (pyNext (.ref z)) Q E s := by
  obtain ⟨hI, ta, tb, hz⟩ := st
  rcases hz with ⟨hz, u, v, hO⟩ | ⟨T, fl, oT, hz, hT, r1, r2, r3, r4⟩
  · exact wpAny_pyNext_zipD2_end Z Da Db hz hI hO ta tb la lb hend fun g tk kp => k g tk kp
  · have tz : s.TypeIs (.ref z) "zip" := ⟨_, hz, rfl⟩
    unfold pyNext
    refine wpAny_bind (wpAny_attempt (wpAny_callSpecial?_slot (name := Str.ofString "__next__") tz F.slot_zip_next (wpAny_call_entry F.slot_zip_next tz F.entry_zip_next (zh_stop Z Da Db hz hT hI ta tb la lb hend fun g tk e kp he => ?_) (F.args_zip_next_1 _))))
    obtain ⟨o, ho, hc⟩ := he
    refine wpAny_bind (wpAny_isInstance (T := "StopIteration") (b := true) ⟨o, ho, hc⟩ isSubtype_stop ?_)
    exact wpAny_pure (k g tk fun e o c1 _ c2 c3 q => kp e o c1 c2 c3 q)
/-- the pairs in the list: at rising addresses above lo -/
structure ZG (Pa Pb : Nat → Value → Prop) (lo : Addr) (h : Heap) (as : List Addr) : Prop where
  rise : as.Pairwise (· < ·)
  above : ∀ a ∈ as, lo < a
  pr : ∀ (j : Nat) (a : Addr), as[j]? = some a → ∃ x y, Pa j x ∧ Pb j y ∧ IsTupOf2 h a x y
theorem ZG.there {lo : Addr} {h : Heap} {as : List Addr} (g : ZG Pa Pb lo h as) {a : Addr} (ha : a ∈ as) : a < h.objs.size := by
  obtain ⟨j, hj⟩ := List.mem_iff_getElem?.mp ha
  obtain ⟨_, _, _, _, e⟩ := g.pr j a hj
  exact Heap.lt_size e
end
section
variable {prog : Program} {w : World} {A : Around} {s : Shared} {R : Result → Shared → Prop} {z TI TO i1 i2 : Addr} {fa fb : List Addr} {n1 n2 : Nat} {Pa Pb : Nat → Value → Prop} {Sa Sb : Nat → Heap → Prop}
theorem zs_loop {L lo : Addr} (Z : ZipSep2 z TI TO i1 i2 fa fb) (Da : Draws prog w A.in1.in1 i1 fa n1 Pa Sa) (Db : Draws prog w A.in1.in1 i2 fb n2 Pb Sb) (cz : z ≤ lo) (cO : TO ≤ lo) (c1 : i1 ≤ lo) (c2 : i2 ≤ lo) (cL : L ≤ lo) (lz : L ≠ z) (lI : L ≠ TI) (lO : L ≠ TO) (l1 : L ≠ i1) (l2 : L ≠ i2) (la : L ∉ fa) (lb : L ∉ fb) (hn : min n1 n2 ≤ sizeLine) (res : Value) {hb : Heap}
    (hR : ∀ g tk acc c as, (∀ b o, b ≠ L → b ≠ z → b ≠ TO → b ≠ i1 → b ≠ i2 → hb.get? b = some o → g.get? b = some o) → g.get? L = some { cls := .type "list", dict := none, data := .seq acc c, slots := #[] } → as.length = min n1 n2 → ZG Pa Pb lo g as → acc.toList = as.map Value.ref → R (.ok (.ret res)) { s with heap := g, toks := tk }) :
    ∀ (k i : Nat) (h : Heap) (tk c : Nat) (acc : Array Value) (as : List Addr), min n1 n2 - i = k → i ≤ min n1 n2 → ZS z TI TO i1 i2 L Sa Sb i h → (∀ b o, b ≠ L → b ≠ z → b ≠ TO → b ≠ i1 → b ≠ i2 → hb.get? b = some o → h.get? b = some o) →
      h.get? L = some { cls := .type "list", dict := none, data := .seq acc c, slots := #[] } → acc.toList = as.map Value.ref → as.length = i → ZG Pa Pb lo h as → lo < h.objs.size →
      codeAny (model prog w) A (.builtin "list.extend.loop" ⟨[.ref L, .ref z, res], []⟩) R { s with heap := h, toks := tk } := by
  intro k
  induction k with
  | zero =>
    intro i h tk c acc as hk hi st hkp hL hacc hl hG hlo
    refine codeAny_builtin F.entry_extend_loop ?_
    rw [Around.under_plainId F.plain_extend_loop _]
    show wpAny _ A.in1 (pyNext (.ref z) >>= _) _ _ _
    refine wpAny_bind (zs_stop (s := { s with heap := h, toks := tk }) (A := A.in1) Z Da Db st (by omega) (by omega) (by omega) fun g t' kp => ?_)
    refine wpAny_pure (hR g t' acc c as (fun b o q0 q1 q2 q3 q4 e => kp b o q1 q2 q3 q4 (hkp b o q0 q1 q2 q3 q4 e)) (kp L _ lz lO l1 l2 hL) (by omega) ⟨hG.rise, hG.above, fun j a hj => ?_⟩ hacc)
    obtain ⟨x, y, p1, p2, p3⟩ := hG.pr j a hj
    have ab := hG.above a (List.mem_of_getElem? hj)
    exact ⟨x, y, p1, p2, kp a _ (Nat.ne_of_gt (Nat.lt_of_le_of_lt cz ab)) (Nat.ne_of_gt (Nat.lt_of_le_of_lt cO ab)) (Nat.ne_of_gt (Nat.lt_of_le_of_lt c1 ab)) (Nat.ne_of_gt (Nat.lt_of_le_of_lt c2 ab)) p3⟩
  | succ k ih =>
    intro i h tk c acc as hk hi st hkp hL hacc hl hG hlo
    have lt1 : i < n1 := by omega
    have lt2 : i < n2 := by omega
    have hsz : acc.size = i := by rw [← Array.length_toList, hacc, List.length_map, hl]
    refine codeAny_builtin F.entry_extend_loop ?_
    rw [Around.under_plainId F.plain_extend_loop _]
    show wpAny _ A.in1 (pyNext (.ref z) >>= _) _ _ _
    refine wpAny_bind (zs_item (s := { s with heap := h, toks := tk }) (A := A.in1) Z Da Db st (Heap.lt_size hL) lt1 lt2 fun x y g t' px py st' tp sz kp => ?_)
    dsimp only at tp sz kp ⊢
    have hL' := kp L _ lz lO l1 l2 hL
    have Llt : L < h.objs.size := Heap.lt_size hL
    have up : ∀ b o, b ≠ L → g.get? b = some o → (g.update L (Obj.mapSeq (·.push (Value.ref h.objs.size)))).get? b = some o := fun b o nb e => (Heap.get?_update_other _ _ (Ne.symm nb)).trans e
    show wpAny _ A.in1 (updateSeq L (·.push (Value.ref h.objs.size)) >>= _) _ _ _
    refine wpAny_bind ?_
    refine wpAny_updateSeq hL' rfl (wpAny_pure ⟨plainId_quiet F.plain_extend_loop _, ih (i + 1) _ t' _ (acc.push (Value.ref h.objs.size)) (as ++ [h.objs.size]) (by omega) (by omega) ?_
      (fun b o q0 q1 q2 q3 q4 e => up b o q0 (kp b o q1 q2 q3 q4 (hkp b o q0 q1 q2 q3 q4 e))) (Heap.get?_update_self _ hL' rfl) (by rw [Array.toList_push, hacc, List.map_append]; rfl) (by rw [List.length_append, hl]; rfl) ⟨?_, ?_, ?_⟩ ?_⟩) (by rw [hsz]; omega) (by show (acc.push (Value.ref h.objs.size)).size ≤ sizeLine + 1; rw [Array.size_push, hsz]; omega)
    · obtain ⟨q1, q2, q3, q4⟩ := st'
      refine ⟨up _ _ (Ne.symm lI) q1, Da.frame _ _ _ q2 fun b hb o e => up b o (fun q => la (q ▸ hb)) e, Db.frame _ _ _ q3 fun b hb o e => up b o (fun q => lb (q ▸ hb)) e, ?_⟩
      rcases q4 with ⟨q5, u, v, q6⟩ | ⟨T, fl, oT, q5, q6, r1, r2, r3, r4⟩
      · exact .inl ⟨up _ _ (Ne.symm lz) q5, u, v, up _ _ (Ne.symm lO) q6⟩
      · exact .inr ⟨T, fl, oT, up _ _ (Ne.symm lz) q5, up _ _ r4 q6, r1, r2, r3, r4⟩
    · refine List.pairwise_append.mpr ⟨hG.rise, List.pairwise_singleton _ _, fun a ha b hb' => ?_⟩
      rw [List.mem_singleton.mp hb']
      exact hG.there ha
    · intro a ha
      rcases List.mem_append.mp ha with ha | ha
      · exact hG.above a ha
      · rw [List.mem_singleton.mp ha]; exact hlo
    · intro j b hj
      rcases Nat.lt_trichotomy j as.length with q | q | q
      · rw [List.getElem?_append_left q] at hj
        obtain ⟨x', y', p1, p2, p3⟩ := hG.pr j b hj
        have ab := hG.above b (List.mem_of_getElem? hj)
        exact ⟨x', y', p1, p2, up b _ (Nat.ne_of_gt (Nat.lt_of_le_of_lt cL ab)) (kp b _ (Nat.ne_of_gt (Nat.lt_of_le_of_lt cz ab)) (Nat.ne_of_gt (Nat.lt_of_le_of_lt cO ab)) (Nat.ne_of_gt (Nat.lt_of_le_of_lt c1 ab)) (Nat.ne_of_gt (Nat.lt_of_le_of_lt c2 ab)) p3)⟩
      · subst q
        have eb : h.objs.size = b := by simpa using hj
        subst eb
        exact ⟨x, y, by rw [hl]; exact px, by rw [hl]; exact py, up _ _ (Nat.ne_of_gt Llt) tp⟩
      · rw [List.getElem?_eq_none (by rw [List.length_append, List.length_singleton]; omega)] at hj
        cases hj
    · have e : (g.update L (Obj.mapSeq (·.push (Value.ref h.objs.size)))).get? h.objs.size = _ := up _ _ (Nat.ne_of_gt Llt) tp
      exact Nat.lt_trans hlo (Heap.lt_size e)
end
theorem zip_nolen : typeLookup (.type "zip") "__len__" = pure none := by rw [typeLookup_type, builtinLookup_eq_fast]; kernel_rfl
theorem zip_nohint : typeLookup (.type "zip") "__length_hint__" = pure none := by rw [typeLookup_type, builtinLookup_eq_fast]; kernel_rfl
section
variable {prog : Program} {w : World} {A : Around} {E : Value → Shared → Prop} {s : Shared} {z TI TO i1 i2 : Addr} {fa fb : List Addr} {n1 n2 : Nat} {Pa Pb : Nat → Value → Prop} {Sa Sb : Nat → Heap → Prop}
/-- list(z), z a zip that has not begun -/
theorem list_zip {Q : Value → Shared → Prop} (Z : ZipSep2 z TI TO i1 i2 fa fb) (D4 : Draws prog w A.in1.in1.in1 i1 fa n1 Pa Sa) (D5 : Draws prog w A.in1.in1.in1 i2 fb n2 Pb Sb)
    (hz : IsZip s.heap z TI TO .none) (hI : IsTupOf2 s.heap TI (.ref i1) (.ref i2)) (hO : ∃ u v, IsTupOf2 s.heap TO u v) (ta : Sa 0 s.heap) (tb : Sb 0 s.heap) (fa1 : ∀ b ∈ fa, b < s.heap.objs.size) (fb1 : ∀ b ∈ fb, b < s.heap.objs.size) (hn : min n1 n2 ≤ sizeLine)
    (hQ : ∀ g tk acc c as, (∀ b o, b ≠ z → b ≠ TO → b ≠ i1 → b ≠ i2 → s.heap.get? b = some o → g.get? b = some o) → g.get? s.heap.objs.size = some { cls := .type "list", dict := none, data := .seq acc c, slots := #[] } → as.length = min n1 n2 → ZG Pa Pb s.heap.objs.size g as → acc.toList = as.map Value.ref → Q (.ref s.heap.objs.size) { s with heap := g, toks := tk }) :
    wpAny (model prog w) A (call (.type "list") [.ref z]) Q E s := by
  refine callType_codes (Q₁ := fun ob t => ob = .ref s.heap.objs.size ∧ t = { s with heap := s.heap.push { cls := .type "list", data := .seq #[] } }) F.called_list (F.typeCall_list_1 _) F.entry_list_init (code_list_new _ ⟨rfl, rfl⟩) fun ob t h => ?_
  obtain ⟨rfl, rfl⟩ := h
  have hS : (s.heap.push { cls := .type "list", data := .seq #[] }).get? s.heap.objs.size = some { cls := .type "list", data := .seq #[] } := Heap.get?_push_size _ rfl
  have zlt : z < s.heap.objs.size := Heap.lt_size hz
  have Olt : TO < s.heap.objs.size := let ⟨_, _, e⟩ := hO; Heap.lt_size e
  have Ilt : TI < s.heap.objs.size := Heap.lt_size hI
  have lt1 : i1 < s.heap.objs.size := fa1 _ Z.mem1
  have lt2 : i2 < s.heap.objs.size := fb1 _ Z.mem2
  refine ⟨⟨_, hS, rfl⟩, F.args_list_init_2 _ _, ?_⟩
  show wpAny _ A.in1.in1 (do let old ← Builtin.List.listItems (.ref s.heap.objs.size); Builtin.List.listUpdate (.ref s.heap.objs.size) (fun _ => #[]); letGo old.toList.reverse; Builtin.List.listExtendWith (.ref s.heap.objs.size) (.ref z) .none) _ _ _
  refine wpAny_bind ?_
  unfold Builtin.List.listItems
  refine wpAny_bind (wpAny_seqItems hS rfl (wpAny_pure ?_))
  show wpAny _ A.in1.in1 (updateSeq s.heap.objs.size (fun _ => #[]) >>= fun _ => letGo (#[] : Array Value).toList.reverse >>= fun _ => Builtin.List.listExtendWith (.ref s.heap.objs.size) (.ref z) .none) _ _ _
  refine wpAny_bind (wpAny_updateSeq hS rfl ?_)
  have hS2 := Heap.get?_update_self (Obj.mapSeq (fun _ => (#[] : Array Value))) hS rfl
  refine wpAny_bind (wpAny_letGo ?_)
  have up : ∀ (h : Heap) (f : Obj → Obj), (∀ b o, s.heap.get? b = some o → h.get? b = some o) → ∀ b o, s.heap.get? b = some o → (h.update s.heap.objs.size f).get? b = some o := fun h f q b o e => (Heap.get?_update_other _ _ (Ne.symm (Nat.ne_of_lt (Heap.lt_size e)))).trans (q b o e)
  have k1 : ∀ b o, s.heap.get? b = some o → (s.heap.push { cls := .type "list", data := .seq #[] }).get? b = some o := fun b o e => Heap.get?_push_of_some _ e
  have k2 := up _ (Obj.mapSeq (fun _ => (#[] : Array Value))) k1
  unfold Builtin.List.listExtendWith
  have zt : ∀ {h : Heap} {g : Array GenState} {d : Drawn} {tk : Nat} {os : OsState}, (∀ b o, s.heap.get? b = some o → h.get? b = some o) → Shared.TypeIs ⟨h, g, d, tk, os⟩ (.ref z) "zip" := fun {h g d tk os} q => ⟨_, q _ _ hz, rfl⟩
  refine wpAny_bind (wpAny_typeOf (T := "zip") (zt k2) ?_)
  have e1 : Builtin.List.listSameRef (.ref s.heap.objs.size) (.ref z) = false := by simp [Builtin.List.listSameRef, Nat.ne_of_gt zlt]
  have e2 : (Value.type "zip" == Value.type "list") = false := by decide
  have e3 : (Value.type "zip" == Value.type "tuple") = false := by decide
  simp only [e1, e2, e3, Bool.or_false, Bool.false_eq_true, if_false]
  refine wpAny_bind (wpAny_pyIter_zip (s := { s with heap := _ }) (k2 _ _ hz) ?_)
  refine wpAny_bind (wpAny_holding ?_)
  unfold Builtin.List.listLengthHint
  refine wpAny_bind (wpAny_specialOf (zt k2) zip_nolen ?_)
  show wpAny _ A.in1.in1 (specialOf (Value.ref z) (Str.ofString "__length_hint__") >>= _) _ _ _
  refine wpAny_bind (wpAny_specialOf (zt k2) zip_nohint ?_)
  refine wpAny_pure ?_
  show wpAny _ A.in1.in1 (rule "list.extend.makes-room" >>= fun _ => Builtin.List.listTouch (.ref s.heap.objs.size) >>= fun _ => again (.builtin "list.extend.loop" ⟨[.ref s.heap.objs.size, .ref z, .none], []⟩)) _ _ _
  refine wpAny_bind (wpAny_rule ?_)
  refine wpAny_bind ?_
  show wpAny _ A.in1.in1 (updateSeq s.heap.objs.size (·.push .none) >>= fun _ => updateSeq s.heap.objs.size (·.pop)) _ _ _
  refine wpAny_bind (wpAny_updateSeq hS2 rfl ?_)
  have hS3 := Heap.get?_update_self (Obj.mapSeq (·.push Value.none)) hS2 rfl
  refine wpAny_updateSeq (hz := by seq_fits) hS3 rfl ?_
  have hS4 := Heap.get?_update_self (Obj.mapSeq (·.pop)) hS3 rfl
  have k3 := up _ (Obj.mapSeq (·.push Value.none)) k2
  have k4 := up _ (Obj.mapSeq (·.pop)) k3
  refine wpAny_pure ⟨plainId_quiet F.plain_extend_loop _, zs_loop (A := A.in1) (s := s) (L := s.heap.objs.size) (lo := s.heap.objs.size) (hb := s.heap) Z D4 D5 (Nat.le_of_lt zlt) (Nat.le_of_lt Olt) (Nat.le_of_lt lt1) (Nat.le_of_lt lt2) (Nat.le_refl _) (Nat.ne_of_gt zlt) (Nat.ne_of_gt Ilt) (Nat.ne_of_gt Olt) (Nat.ne_of_gt lt1) (Nat.ne_of_gt lt2)
    (fun q => Nat.lt_irrefl _ (fa1 _ q)) (fun q => Nat.lt_irrefl _ (fb1 _ q)) hn .none (fun g tk acc c as kp hL hl hG hacc => ?_) (min n1 n2) 0 _ s.toks _ #[] [] (Nat.sub_zero _) (Nat.zero_le _)
    ⟨k4 _ _ hI, D4.frame _ _ _ ta fun b _ o e => k4 b o e, D5.frame _ _ _ tb fun b _ o e => k4 b o e, .inl ⟨k4 _ _ hz, let ⟨u, v, e⟩ := hO; ⟨u, v, k4 _ _ e⟩⟩⟩ (fun b o _ _ _ _ _ e => k4 b o e) hS4 rfl rfl ⟨List.Pairwise.nil, (fun a ha => by cases ha), fun j a hj => by simp at hj⟩ (Heap.lt_size hS4)⟩
  exact ⟨rfl, hQ g tk acc c as (fun b o q1 q2 q3 q4 e => kp b o (Nat.ne_of_lt (Heap.lt_size e)) q1 q2 q3 q4 e) hL hl hG hacc⟩
end
/-! ### in the abstract heap -/
def putP : Hp → List Addr → List (V × V) → Hp
  | H, a :: as, p :: ps => putP (upd H a (.tup [p.1, p.2])) as ps
  | H, [], _ => H
  | H, _ :: _, [] => H
theorem putP_off {b : Addr} : ∀ (as : List Addr) (ps : List (V × V)) (H : Hp), b ∉ as → putP H as ps b = H b
  | [], _, _, _ => by unfold putP; rfl
  | _ :: _, [], _, _ => by unfold putP; rfl
  | a :: as, p :: ps, H, h => by
    unfold putP
    rw [putP_off as ps _ (fun q => h (List.mem_cons_of_mem _ q)), upd_ne (fun q => h (by rw [q]; exact List.mem_cons_self))]
theorem putP_at : ∀ (as : List Addr) (ps : List (V × V)) (H : Hp), as.length = ps.length → as.Nodup → ∀ (j : Nat) (a : Addr), as[j]? = some a → ∃ q, ps[j]? = some q ∧ putP H as ps a = some (.tup [q.1, q.2])
  | [], _, _, _, _, j, a, h => by simp at h
  | _ :: _, [], _, h, _, _, _, _ => by simp at h
  | b :: as, p :: ps, H, h, nd, j, a, hj => by
    have nd' := List.nodup_cons.mp nd
    cases j with
    | zero =>
      have e : b = a := by simpa using hj
      subst e
      refine ⟨p, rfl, ?_⟩
      unfold putP
      rw [putP_off as ps _ nd'.1, upd_same]
    | succ j =>
      obtain ⟨q, h1, h2⟩ := putP_at as ps (upd H b (.tup [p.1, p.2])) (by simpa using h) nd'.2 j a (by simpa using hj)
      refine ⟨q, by simpa using h1, ?_⟩
      unfold putP
      exact h2
theorem refs_vals : ∀ as : List Addr, Vals (as.map V.ref) (as.map Value.ref)
  | [] => .nil
  | _ :: as => .cons rfl (refs_vals as)
/-- the list and its pairs are tracked -/
theorem pairs_laid {X : Cx} {pins : List (Addr × Obj)} {σ : L2.St} {H : Hp} {s : Shared} {g : Heap} {tk : Nat} {ps : List (V × V)} {acc : Array Value} {c : Nat} {as : List Addr} {L : Addr} (I : Inv X pins σ H s) (hz : ps.length ≤ sizeLine) (kp : ∀ b o, s.heap.get? b = some o → g.get? b = some o) (hL : s.heap.objs.size ≤ L)
    (hS : g.get? L = some { cls := .type "list", dict := none, data := .seq acc c, slots := #[] }) (hl : as.length = ps.length) (rise : as.Pairwise (· < ·)) (ab : ∀ a ∈ as, L < a) (hacc : acc.toList = as.map Value.ref)
    (pr : ∀ (j : Nat) (a : Addr) (q : V × V), as[j]? = some a → ps[j]? = some q → ∃ x y, RelV q.1 x ∧ RelV q.2 y ∧ IsTupOf2 g a x y) :
    ∃ H' : Hp, Same H H' ∧ H L = none ∧ H' L = some (.lst (as.map V.ref)) ∧ (∀ (j : Nat) (a : Addr), as[j]? = some a → ∃ q, ps[j]? = some q ∧ H' a = some (.tup [q.1, q.2])) ∧ Inv X pins σ H' { s with heap := g, toks := tk } := by
  have nL : L ∉ as := fun q => Nat.lt_irrefl _ (ab _ q)
  have nd : as.Nodup := List.Pairwise.imp (fun {a b} (h : a < b) => Nat.ne_of_lt h) rise
  have nw : ∀ t ∈ as, H t = none := fun t ht => I.hok.fresh (Nat.le_trans hL (Nat.le_of_lt (ab t ht)))
  have nwL : H L = none := I.hok.fresh hL
  have at' := putP_at as ps (upd H L (.lst (as.map V.ref))) hl nd
  have off : ∀ b, b ∉ as → b ≠ L → putP (upd H L (.lst (as.map V.ref))) as ps b = H b := fun b h1 h2 => by rw [putP_off as ps _ h1, upd_ne h2]
  have low : ∀ b o, s.heap.get? b = some o → b ∉ as ∧ b ≠ L := fun b o e => ⟨fun q => absurd (Nat.lt_trans (Nat.lt_of_lt_of_le (Heap.lt_size e) hL) (ab b q)) (Nat.lt_irrefl _), fun q => absurd (Nat.lt_of_lt_of_le (Heap.lt_size e) hL) (by rw [q]; exact Nat.lt_irrefl _)⟩
  have kH : ∀ b u, H b = some u → putP (upd H L (.lst (as.map V.ref))) as ps b = some u := fun b u e => by
    rw [off b (fun q => by rw [nw b q] at e; cases e) (fun q => by rw [q, nwL] at e; cases e)]
    exact e
  have eL : putP (upd H L (.lst (as.map V.ref))) as ps L = some (.lst (as.map V.ref)) := by rw [putP_off as ps _ nL, upd_same]
  refine ⟨_, kH, nwL, eL, at', ?_⟩
  refine I.call' (ch := []) rfl ⟨fun b o q _ _ _ => kp b o q, fun b o q _ _ _ => ⟨o.slots, kp b o q⟩, fun b o q n _ => ?_, fun b o q _ => ⟨o, kp b o q⟩, fun b xs q => kH b _ q, fun b o u q => kH b _ q, fun b qs q => ⟨#[], by rw [kH b _ q]; simp⟩⟩ (fun b u q => ?_) I.bare fun b q => by simp at q
  · obtain ⟨z1, z2⟩ := low b o q
    rw [off b z1 z2]
    exact n
  · by_cases hb : b ∈ as
    · obtain ⟨j, hj⟩ := List.mem_iff_getElem?.mp hb
      obtain ⟨pq, e1, e2⟩ := at' j b hj
      rw [e2] at q
      cases q
      obtain ⟨x, y, r1, r2, tp⟩ := pr j b pq hj e1
      exact ⟨by show 2 ≤ 2 ^ 24; decide, [x, y], .cons r1 (.cons r2 .nil), ⟨_, tp, rfl, _, rfl⟩⟩
    · by_cases hb2 : b = L
      · rw [hb2] at q ⊢
        rw [eL] at q
        cases q
        refine ⟨by rw [List.length_map]; omega, acc.toList, c, by rw [hacc]; exact refs_vals as, ?_⟩
        rw [Array.toArray_toList]
        exact hS
      · rw [off b hb hb2] at q
        exact (I.hok b u q).stay (fun d v _ y => kp d v y) (fun d y => kH d _ y) fun d xs y => kH d _ y
end Wk
namespace Wk
open PySem PySem.Spec PyProof.Rows L2
section
variable {X : Cx} {e a b c elt kx vx o : Expr} {es rest : List Expr} {σ : L2.St} {H : Hp} {Q : VK} {pos p0 apos : Pos} {N G G' : List Str} {Vn : List (Nat × Str)} {sc scope : Scope}
/-- list(zip(a, b)) -/
theorem e_listZ (c d : Side) {g g2 : Nat} {p p2 pos2 : Pos} (hm : X.mg "list" = none) (hmz : X.mg "zip" = none)
    (q : wE X a σ H fun v H1 => wE X b σ H1 fun u H2 => ∃ va vb xs ys, v = .ref va ∧ u = .ref vb ∧ c.sq X.K H2 va xs ∧ d.sq X.K H2 vb ys ∧ min xs.length ys.length ≤ 200000 ∧
      ∀ (L : Addr) (as : List Addr) (H3 : Hp), Same H2 H3 → H2 L = none → H3 L = some (.lst (as.map V.ref)) → as.length = min xs.length ys.length → (∀ (j : Nat) (t : Addr), as[j]? = some t → ∃ x y, xs[j]? = some x ∧ ys[j]? = some y ∧ H3 t = some (.tup [x, y])) → Q (.ref L) H3)
    (I : In X N G sc := by assumption) (hc : X.calm = true := by rfl) (hG : At G g ("list" : Str) := by repeat (first | with_reducible apply At.z | with_reducible apply At.s)) (hGz : At G g2 ("zip" : Str) := by repeat (first | with_reducible apply At.z | with_reducible apply At.s))
    (hs : starEach [.Call (.Name "zip" p2) [a, b] [] pos2] X.env = (false, eval (.Call (.Name "zip" p2) [a, b] [] pos2) X.env) :: starEach [] X.env := by rfl) (hs0 : starEach [a, b] X.env = (false, eval a X.env) :: starEach [b] X.env := by rfl) (hpl : (backTo pos2 (starEach [b] X.env)).any (·.1) = false := by rfl)
    (hs1 : starEach (b :: []) X.env = (false, eval b X.env) :: starEach [] X.env := by rfl) :
    wE X (.Call (.Name "list" p) [.Call (.Name "zip" p2) [a, b] [] pos2] [] pos) σ H Q := by
  unfold wE
  intro pins s I0
  refine wpAny_Call_Name_kw (ld_blt I0 (I.g hG) hm b_list ?_ (I.gn hG) (I.gd hG))
  refine PyProof.Rows.callWith_type1 ?_ hs rfl
  rw [hs]
  show wpAny _ _ (spliced ((false, eval (.Call (.Name "zip" p2) [a, b] [] pos2) X.env) :: backTo pos (starEach [] X.env))) _ _ s
  refine Calls.spliced_cons ?_
  refine Call_ (ld_blt I0 (I.g hGz) hmz PyProof.Rows.boot_zip (PyProof.Rows.callWith_type1 (thn ((pa_cons pe (pa_cons pe pa_nil hs1) hs0).run pos2 pins s σ H (fun vs H2 => ∃ va vb xs ys, vs = [.ref va, .ref vb] ∧ c.sq X.K H2 va xs ∧ d.sq X.K H2 vb ys ∧ min xs.length ys.length ≤ 200000 ∧
      ∀ (L : Addr) (as : List Addr) (H3 : Hp), Same H2 H3 → H2 L = none → H3 L = some (.lst (as.map V.ref)) → as.length = min xs.length ys.length → (∀ (j : Nat) (t : Addr), as[j]? = some t → ∃ x y, xs[j]? = some x ∧ ys[j]? = some y ∧ H3 t = some (.tup [x, y])) → Q (.ref L) H3) I0 (e_mono q fun v H1 q1 => e_mono q1 fun u H2 ⟨va, vb, xs, ys, e1, e2, z⟩ => ⟨va, vb, xs, ys, by rw [e1, e2], z⟩)) fun us s1 ⟨vs, H1, I1, r1, va, vb, xs, ys, ev, sx, sy, hz, k⟩ => ?_) hs0 hpl))
  subst ev
  obtain ⟨u, v, rfl, ru, rv⟩ : ∃ u v, us = [u, v] ∧ RelV (.ref va) u ∧ RelV (.ref vb) v := by
    cases r1 with
    | cons r t => cases t with
      | cons r' t => cases t; exact ⟨_, _, rfl, r, r'⟩
  cases ru
  cases rv
  obtain ⟨ws, rw1, cx⟩ := c.own I1 sx
  obtain ⟨zs, rw2, cy⟩ := d.own I1 sy
  have la := c.lt cx
  have lb := d.lt cy
  have hh : X.A.handled = none := I1.ok.hd hc
  have lw := rw1.length
  have lz := rw2.length
  generalize hN : s1.heap.objs.size = M at la lb
  refine zip_begins2 (c.begins va ws.toArray) (d.begins vb zs.toArray) cx cy fun h1 g1 g2 g3 g4 g5 gsz kp => ?_
  rw [hN] at g1 g2 g3 g4 g5 gsz ⊢
  refine Calls.spliced_nil ?_
  have S : ZipSep2 (M + 4) (M + 2) (M + 3) M (M + 1) [M, va] [M + 1, vb] := zip_sep2 (fun e he => by rw [List.mem_singleton.mp he]; exact la) (fun e he => by rw [List.mem_singleton.mp he]; exact lb)
  have cu : ∀ (cc : Side) (x : Addr) (us : Array Value), cc.con s1.heap x us → cc.con h1 x us := fun cc x us hx => by
    cases cc with
    | l => exact hx.at fun o q => kp _ o q
    | t => exact hx.at fun o q => kp _ o q
  refine list_zip (s := { s1 with heap := h1 }) S (c.draws (A := X.A.in1.in1.in1) hh M va (Nat.ne_of_lt la) ws.toArray) (d.draws (A := X.A.in1.in1.in1) hh (M + 1) vb (Nat.ne_of_lt (Nat.lt_succ_of_lt lb)) zs.toArray) g1 g2 ⟨_, _, g3⟩ ⟨c.start g4, cu c _ _ cx⟩ ⟨d.start g5, cu d _ _ cy⟩ (fun e he => ?_) (fun e he => ?_) ?_ fun g tk acc cc as kg hL hl hG hacc => ?_
  · show e < h1.objs.size
    rw [gsz]
    simp only [List.mem_cons, List.not_mem_nil, or_false] at he
    rcases he with rfl | rfl
    · exact Nat.lt_add_of_pos_right (by decide)
    · exact Nat.lt_of_lt_of_le la (Nat.le_add_right _ _)
  · show e < h1.objs.size
    rw [gsz]
    simp only [List.mem_cons, List.not_mem_nil, or_false] at he
    rcases he with rfl | rfl
    · exact Nat.add_lt_add_left (by decide) M
    · exact Nat.lt_of_lt_of_le lb (Nat.le_add_right _ _)
  · rw [List.size_toArray, List.size_toArray, ← lw, ← lz]
    show _ ≤ 2 ^ 24
    omega
  · dsimp only at kg hL hG
    have lo : ∀ b o, s1.heap.get? b = some o → b < M := fun b o q => hN ▸ Heap.lt_size q
    have lm : min xs.length ys.length = (xs.zip ys).length := by rw [List.length_zip]
    have hl2 : as.length = (xs.zip ys).length := by rw [hl, List.size_toArray, List.size_toArray, ← lw, ← lz, lm]
    obtain ⟨H', e1, e2, e3, e4, J⟩ := pairs_laid (tk := tk) (ps := xs.zip ys) (L := h1.objs.size) I1 (by rw [← lm]; show _ ≤ 2 ^ 24; omega) (fun b o q => kg b o (Nat.ne_of_lt (Nat.lt_of_lt_of_le (lo b o q) (Nat.le_add_right M 4))) (Nat.ne_of_lt (Nat.lt_of_lt_of_le (lo b o q) (Nat.le_add_right M 3))) (Nat.ne_of_lt (lo b o q)) (Nat.ne_of_lt (Nat.lt_of_lt_of_le (lo b o q) (Nat.le_add_right M 1))) (kp b o q)) (by omega) hL hl2 hG.rise hG.above hacc
      (fun j t pq hj hq => by
        obtain ⟨x', y', p1, p2, p3⟩ := hG.pr j t hj
        obtain ⟨q1, q2⟩ := List.getElem?_zip_eq_some.mp hq
        obtain ⟨w1, f1, f2⟩ := rw1.get q1
        obtain ⟨w2, f3, f4⟩ := rw2.get q2
        rw [List.getElem?_toArray, f1] at p1
        rw [List.getElem?_toArray, f3] at p2
        cases p1
        cases p2
        exact ⟨_, _, f2, f4, p3⟩)
    refine ⟨.ref h1.objs.size, H', J, rfl, k _ as H' e1 e2 e3 (by rw [hl2, lm]) fun j t hj => ?_⟩
    obtain ⟨pq, q1, q2⟩ := e4 j t hj
    obtain ⟨q3, q4⟩ := List.getElem?_zip_eq_some.mp q1
    exact ⟨pq.1, pq.2, q3, q4, q2⟩
/-- for x, y in reversed(xs), xs a list of pairs -/
theorem s_forRv2 {nx : L2.St → Hp → Prop} {rt : VK} {bk ct : L2.St → Hp → Prop} {g : Nat} {x y : Str} {i j : Nat} {body : List Stmt} {px py pt p cp pos : Pos} {kk : Nat} (hm : X.mg "reversed" = none)
    (q : wE X a σ H fun v H1 => ∃ ad xs, v = .ref ad ∧ SqL X.K H1 ad xs ∧ ∃ Pv : Nat → L2.St → Hp → Prop, Pv 0 σ H1 ∧ (∀ k σ H, k ≤ xs.length → Pv k σ H → SqL X.K H ad xs) ∧
      (∀ k y σ H, xs.reverse[k]? = some y → Pv k σ H → ∃ t u1 u2, y = .ref t ∧ SqT X.K H t [u1, u2] ∧ wL X body ⟨Pv (k + 1), rt, nx, Pv (k + 1)⟩ ((σ.set i (some u1)).set j (some u2)) H) ∧ ∀ σ H, Pv xs.length σ H → nx σ H)
    (I : In X N G sc := by assumption) (hc : X.calm = true := by rfl) (hA : At N i x := by repeat (first | with_reducible apply At.z | with_reducible apply At.s)) (hB : At N j y := by repeat (first | with_reducible apply At.z | with_reducible apply At.s)) (hG : At G g ("reversed" : Str) := by repeat (first | with_reducible apply At.z | with_reducible apply At.s))
    (hs : starEach [a] X.env = (false, eval a X.env) :: starEach [] X.env := by rfl) (hs2 : ∀ z, foldedSetIterable (.Call (.Name "reversed" p) [a] [] cp) X.env z = pure z := by intro _; rfl) :
    wS X (.For (.Tuple [.Name x px, .Name y py] kk pt) (.Call (.Name "reversed" p) [a] [] cp) body [] pos) ⟨nx, rt, bk, ct⟩ σ H := by
  refine s_of (ps_for I.never hc (RT.pi_revA (I.g hG) hm pe hs) (pg_tup hc (pgs_cons (pg_name I.nd (I.hi hA) (I.loc hA) I.f) (pgs_cons (pg_name I.nd (I.hi hB) (I.loc hB) I.f) pgs_nil))) pl hs2) (e_mono q fun v H1 q1 => ?_)
  obtain ⟨ad, xs, rfl, hl, Pv, h0, hk, hb, hd⟩ := q1
  refine ⟨ad, xs, rfl, .inl ⟨hl, fun k m σ H => m = xs.length - k ∧ k ≤ xs.length ∧ Pv k σ H, ⟨xs.length, by simp, Nat.zero_le _, h0⟩, ?_⟩⟩
  rintro k m σ H ⟨rfl, hi, p⟩
  have q := hk k σ H hi p
  by_cases hlt : k < xs.length
  · refine .inr ⟨⟨hlt, xs, xs[xs.length - 1 - k]'(by omega), q, by simp⟩, Pv (k + 1), fun σ' H' p' => ⟨xs.length - (k + 1), by omega, rfl, hlt, p'⟩, fun x H' y => ?_⟩
    obtain ⟨e, y⟩ := y
    subst e
    obtain ⟨t, u1, u2, rfl, hq, z⟩ := hb k x σ _ (by rw [List.getElem?_reverse hlt]; exact y xs q) p
    exact ⟨t, [u1, u2], rfl, hq, rfl, u1, [u2], rfl, u2, [], rfl, rfl, z⟩
  · have e : k = xs.length := by omega
    subst e
    exact .inl ⟨Nat.le_refl _, hd σ H p⟩
/-- what the turns of a dict's comprehension over a dict ask, with a test or without -/
def DTurn (X : Cx) (Vn : List (Nat × Str)) (G' : List Str) (kx vx : Expr) (scope : Scope) (i : Nat) (D : Addr) (σ : L2.St) (x : V) (H2 : Hp) (nxt : Hp → Prop) : Prop := ∀ s0 H0 C cl fp, InB (Bk X s0 H0 scope C cl fp) Vn G' →
  wE (Bk X s0 H0 scope C cl fp) kx ((wipe σ [i]).set i (some x)) H2 fun y H3 => ∀ s0 H0 C cl fp, InB (Bk X s0 H0 scope C cl fp) Vn G' →
    wE (Bk X s0 H0 scope C cl fp) vx ((wipe σ [i]).set i (some x)) H3 fun z H4 => ∃ kvs ky, y = kV ky ∧ H4 D = some (.dK kvs) ∧ kvs.length < sizeLine ∧ nxt (upd H4 D (.dK (putK kvs ky z)))
def DcD (X : Cx) (Vn : List (Nat × Str)) (G' : List Str) (kx vx : Expr) (scope : Scope) (i : Nat) (d : Addr) (o : Obj) (kvs : List (Key × V)) (D : Addr) (σ : L2.St) (H1 : Hp) (Qd : Hp → Prop) : Prop := ∃ Pv : Nat → Hp → Prop, Pv 0 (upd H1 D (.dK [])) ∧ (∀ k H2, k ≤ kvs.length → Pv k H2 → H2 d = some (.frz o (.dK kvs))) ∧
  (∀ k y v H2, kvs[k]? = some (y, v) → Pv k H2 → DTurn X Vn G' kx vx scope i D σ (kV y) H2 (Pv (k + 1))) ∧ ∀ H2, Pv kvs.length H2 → Qd H2
def DcDf (X : Cx) (Vn : List (Nat × Str)) (G' : List Str) (kx vx c : Expr) (scope : Scope) (i : Nat) (d : Addr) (o : Obj) (kvs : List (Key × V)) (D : Addr) (σ : L2.St) (H1 : Hp) (Qd : Hp → Prop) : Prop := ∃ Pv : Nat → Hp → Prop, Pv 0 (upd H1 D (.dK [])) ∧ (∀ k H2, k ≤ kvs.length → Pv k H2 → H2 d = some (.frz o (.dK kvs))) ∧
  (∀ k y v H2, kvs[k]? = some (y, v) → Pv k H2 → ∀ s0 H0 C cl fp, InB (Bk X s0 H0 scope C cl fp) Vn G' → wT (Bk X s0 H0 scope C cl fp) c ((wipe σ [i]).set i (some (kV y))) H2 fun t H3 => if t = true then DTurn X Vn G' kx vx scope i D σ (kV y) H3 (Pv (k + 1)) else Pv (k + 1) H3) ∧ ∀ H2, Pv kvs.length H2 → Qd H2
theorem dturn_of {i : Nat} {D : Addr} {x : V} {H2 : Hp} {nxt : Hp → Prop} (q : DTurn X Vn G' kx vx scope i D σ x H2 nxt) : wBk X Vn G' kx scope ((wipe σ [i]).set i (some x)) H2 fun y H4 => wBk X Vn G' vx scope ((wipe σ [i]).set i (some x)) H4 fun z H5 => ∃ kvs k, y = kV k ∧ H5 D = some (.dK kvs) ∧ kvs.length < sizeLine ∧ nxt (upd H5 D (.dK (putK kvs k z))) := by
  unfold wBk
  exact q
theorem dcD_of {i : Nat} {d : Addr} {ob : Obj} {kvs : List (Key × V)} {D : Addr} {H1 : Hp} {Qd : Hp → Prop} (q : DcD X Vn G' kx vx scope i d ob kvs D σ H1 Qd) : ∃ W : Nat → Nat → Hp → Prop, (∃ m, W 0 m (upd H1 D (.dK []))) ∧ ∀ k m H, W k m H →
    ((Itk d ob kvs).stop k H ∧ Qd H) ∨ ((Itk d ob kvs).go k H ∧ ∃ Nx : Hp → Prop, (∀ H', Nx H' → ∃ m', m' < m ∧ W (k + 1) m' H') ∧ ∀ x H', (Itk d ob kvs).yld k H x H' → gName i x (wipe σ [i]) H' fun σ2 H2 => wipe σ2 [i] = wipe σ [i] ∧ tYes σ2 H2 fun b H3 =>
      if b = true then wBk X Vn G' kx scope σ2 H3 fun y H4 => wBk X Vn G' vx scope σ2 H4 fun z H5 => ∃ kvs k, y = kV k ∧ H5 D = some (.dK kvs) ∧ kvs.length < sizeLine ∧ Nx (upd H5 D (.dK (putK kvs k z))) else Nx H3) := by
  obtain ⟨Pv, h0, hl, hs, hd⟩ := q
  refine ⟨fun k m H => m = kvs.length - k ∧ k ≤ kvs.length ∧ Pv k H, ⟨kvs.length, rfl, Nat.zero_le _, h0⟩, ?_⟩
  rintro k m H ⟨rfl, hk, p⟩
  have fz := hl k H hk p
  by_cases lt : k < kvs.length
  · refine .inr ⟨⟨fz, lt⟩, Pv (k + 1), fun H' p' => ⟨kvs.length - (k + 1), by omega, rfl, lt, p'⟩, fun x H' y => ?_⟩
    obtain ⟨rfl, ky, v, hkv, rfl⟩ := y
    refine ⟨wipe_set σ i _, ?_⟩
    unfold tYes
    exact iteT (dturn_of (hs k ky v _ hkv p))
  · have ek : k = kvs.length := by omega
    subst ek
    exact .inl ⟨⟨fz, Nat.le_refl _⟩, hd H p⟩
theorem dcDf_of {i : Nat} {d : Addr} {ob : Obj} {kvs : List (Key × V)} {D : Addr} {H1 : Hp} {Qd : Hp → Prop} (q : DcDf X Vn G' kx vx c scope i d ob kvs D σ H1 Qd) : ∃ W : Nat → Nat → Hp → Prop, (∃ m, W 0 m (upd H1 D (.dK []))) ∧ ∀ k m H, W k m H →
    ((Itk d ob kvs).stop k H ∧ Qd H) ∨ ((Itk d ob kvs).go k H ∧ ∃ Nx : Hp → Prop, (∀ H', Nx H' → ∃ m', m' < m ∧ W (k + 1) m' H') ∧ ∀ x H', (Itk d ob kvs).yld k H x H' → gName i x (wipe σ [i]) H' fun σ2 H2 => wipe σ2 [i] = wipe σ [i] ∧ wBkT X Vn G' c scope σ2 H2 fun b H3 =>
      if b = true then wBk X Vn G' kx scope σ2 H3 fun y H4 => wBk X Vn G' vx scope σ2 H4 fun z H5 => ∃ kvs k, y = kV k ∧ H5 D = some (.dK kvs) ∧ kvs.length < sizeLine ∧ Nx (upd H5 D (.dK (putK kvs k z))) else Nx H3) := by
  obtain ⟨Pv, h0, hl, hs, hd⟩ := q
  refine ⟨fun k m H => m = kvs.length - k ∧ k ≤ kvs.length ∧ Pv k H, ⟨kvs.length, rfl, Nat.zero_le _, h0⟩, ?_⟩
  rintro k m H ⟨rfl, hk, p⟩
  have fz := hl k H hk p
  by_cases lt : k < kvs.length
  · refine .inr ⟨⟨fz, lt⟩, Pv (k + 1), fun H' p' => ⟨kvs.length - (k + 1), by omega, rfl, lt, p'⟩, fun x H' y => ?_⟩
    obtain ⟨rfl, ky, v, hkv, rfl⟩ := y
    refine ⟨wipe_set σ i _, ?_⟩
    unfold wBkT
    intro s0 H0 C cl fp IB
    refine t_mono (hs k ky v _ hkv p s0 H0 C cl fp IB) fun t H3 z => ?_
    cases t with
    | true => exact iteT (dturn_of z)
    | false => exact z
  · have ek : k = kvs.length := by omega
    subst ek
    exact .inl ⟨⟨fz, Nat.le_refl _⟩, hd H p⟩
/-- {kx: vx for x in d}, d a dict that stands at ad -/
theorem e_dcD {i : Nat} {x : Str} {px : Pos} {ad : Addr} {kvs : List (Key × V)} (B : BkOk X.N Vn G' i x sc scope) (hd : H ad = some (.dK kvs))
    (q : ∀ o, wE X a σ (upd H ad (.frz o (.dK kvs))) fun v H1 => v = .ref ad ∧ H1 ad = some (.frz o (.dK kvs)) ∧ ∀ D, H1 D = none → DcD X Vn G' kx vx scope i ad o kvs D σ H1 fun H2 => H2 ad = some (.frz o (.dK kvs)) ∧ Q (.ref D) (upd H2 ad (.dK kvs)))
    (I : In X N G sc := by assumption) (hc : X.calm = true := by rfl) (hs2 : ∀ z, foldedSetIterable a X.env z = pure z := by intro _; rfl) :
    wE X (.DictComp kx vx [⟨.Name x px, a, [], 0⟩] scope pos) σ H Q := by
  refine e_of (pe_lock (pe_dc (own := [(x, i)]) (g := gName i) (tt := tYes) (tk := wBk X Vn G' kx scope) (tv := wBk X Vn G' vx scope) hc I.nd (pi_keys pe) (B.ok I) (fun s H C cl fp => B.pg I s H C cl fp) (fun _ _ _ _ _ => pts_nil) (fun s H C cl fp => pe_bk (B.inB I s H C cl fp)) (fun s H C cl fp => pe_bk (B.inB I s H C cl fp)) hs2)) ?_
  refine ⟨ad, .dK kvs, hd, trivial, fun o => e_mono (q o) fun v H1 q1 => ?_⟩
  obtain ⟨rfl, h1, q2⟩ := q1
  exact ⟨ad, o, rfl, .inl ⟨kvs, h1, fun D hD => dcD_of (q2 D hD)⟩⟩
theorem s_dcD {nx : L2.St → Hp → Prop} {rt : VK} {bk ct : L2.St → Hp → Prop} {i j : Nat} {x y : Str} {px py spos : Pos} {ad : Addr} {kvs : List (Key × V)} (B : BkOk X.N Vn G' i x sc scope) (hd : H ad = some (.dK kvs))
    (q : ∀ o, wE X a σ (upd H ad (.frz o (.dK kvs))) fun v H1 => v = .ref ad ∧ H1 ad = some (.frz o (.dK kvs)) ∧ ∀ D, H1 D = none → DcD X Vn G' kx vx scope i ad o kvs D σ H1 fun H2 => H2 ad = some (.frz o (.dK kvs)) ∧ nx (σ.set j (some (.ref D))) (upd H2 ad (.dK kvs)))
    (I : In X N G sc := by assumption) (hc : X.calm = true := by rfl) (hA : At N j y := by repeat (first | with_reducible apply At.z | with_reducible apply At.s))
    (hk : X.env.scope.kind = .function := by rfl) (hy : X.env.scope.names.lookup y = some .local := by rfl) (hl : (py.line == pos.line) = true := by rfl) (ha : (scope.names.any fun (n, k) => n == y && (k == .local || k == .cell)) = false := by decide +kernel) (hs2 : ∀ z, foldedSetIterable a X.env z = pure z := by intro _; rfl) :
    wS X (.Assign [.Name y py] (.DictComp kx vx [⟨.Name x px, a, [], 0⟩] scope pos) spos) ⟨nx, rt, bk, ct⟩ σ H := by
  refine s_of (ps_lock (ps_setDc (own := [(x, i)]) (g := gName i) (tt := tYes) (tk := wBk X Vn G' kx scope) (tv := wBk X Vn G' vx scope) hc I.nd (I.hi hA) hy (sw_trueD hk hy hl ha) (pi_keys pe) (B.ok I) (fun s H C cl fp => B.pg I s H C cl fp) (fun _ _ _ _ _ => pts_nil) (fun s H C cl fp => pe_bk (B.inB I s H C cl fp)) (fun s H C cl fp => pe_bk (B.inB I s H C cl fp)) hs2)) ?_
  refine ⟨ad, .dK kvs, hd, trivial, fun o => e_mono (q o) fun v H1 q1 => ?_⟩
  obtain ⟨rfl, h1, q2⟩ := q1
  exact ⟨ad, o, rfl, .inl ⟨kvs, h1, fun D hD => dcD_of (q2 D hD)⟩⟩
theorem s_dcDf {nx : L2.St → Hp → Prop} {rt : VK} {bk ct : L2.St → Hp → Prop} {i j : Nat} {x y : Str} {px py spos : Pos} {ad : Addr} {kvs : List (Key × V)} (B : BkOk X.N Vn G' i x sc scope) (hd : H ad = some (.dK kvs))
    (q : ∀ o, wE X a σ (upd H ad (.frz o (.dK kvs))) fun v H1 => v = .ref ad ∧ H1 ad = some (.frz o (.dK kvs)) ∧ ∀ D, H1 D = none → DcDf X Vn G' kx vx c scope i ad o kvs D σ H1 fun H2 => H2 ad = some (.frz o (.dK kvs)) ∧ nx (σ.set j (some (.ref D))) (upd H2 ad (.dK kvs)))
    (I : In X N G sc := by assumption) (hc : X.calm = true := by rfl) (hA : At N j y := by repeat (first | with_reducible apply At.z | with_reducible apply At.s))
    (hk : X.env.scope.kind = .function := by rfl) (hy : X.env.scope.names.lookup y = some .local := by rfl) (hl : (py.line == pos.line) = true := by rfl) (ha : (scope.names.any fun (n, k) => n == y && (k == .local || k == .cell)) = false := by decide +kernel) (hs2 : ∀ z, foldedSetIterable a X.env z = pure z := by intro _; rfl) :
    wS X (.Assign [.Name y py] (.DictComp kx vx [⟨.Name x px, a, [c], 0⟩] scope pos) spos) ⟨nx, rt, bk, ct⟩ σ H := by
  refine s_of (ps_lock (ps_setDc (own := [(x, i)]) (g := gName i) (tt := wBkT X Vn G' c scope) (tk := wBk X Vn G' kx scope) (tv := wBk X Vn G' vx scope) hc I.nd (I.hi hA) hy (sw_trueD hk hy hl ha) (pi_keys pe) (B.ok I) (fun s H C cl fp => B.pg I s H C cl fp) (fun s H C cl fp => pts_bk (B.inB I s H C cl fp)) (fun s H C cl fp => pe_bk (B.inB I s H C cl fp)) (fun s H C cl fp => pe_bk (B.inB I s H C cl fp)) hs2)) ?_
  refine ⟨ad, .dK kvs, hd, trivial, fun o => e_mono (q o) fun v H1 q1 => ?_⟩
  obtain ⟨rfl, h1, q2⟩ := q1
  exact ⟨ad, o, rfl, .inl ⟨kvs, h1, fun D hD => dcDf_of (q2 D hD)⟩⟩
/-- w, x, y, z = a tuple -/
theorem s_tup4 {nx : L2.St → Hp → Prop} {rt : VK} {bk ct : L2.St → Hp → Prop} {i1 i2 i3 i4 : Nat} {x1 x2 x3 x4 : Str} {k : Nat} {p1 p2 p3 p4 pt : Pos} (q : wE X e σ H fun v H1 => ∃ a u1 u2 u3 u4, v = .ref a ∧ SqT X.K H1 a [u1, u2, u3, u4] ∧ nx ((((σ.set i1 (some u1)).set i2 (some u2)).set i3 (some u3)).set i4 (some u4)) H1)
    (I : In X N G sc := by assumption) (hc : X.calm = true := by rfl) (h1 : At N i1 x1 := by repeat (first | with_reducible apply At.z | with_reducible apply At.s)) (h2 : At N i2 x2 := by repeat (first | with_reducible apply At.z | with_reducible apply At.s)) (h3 : At N i3 x3 := by repeat (first | with_reducible apply At.z | with_reducible apply At.s)) (h4 : At N i4 x4 := by repeat (first | with_reducible apply At.z | with_reducible apply At.s))
    (hs : swapsWithSole [.Tuple [.Name x1 p1, .Name x2 p2, .Name x3 p3, .Name x4 p4] k pt] e pos.line X.env = pure false := by rfl) (hw : swappedStores [.Tuple [.Name x1 p1, .Name x2 p2, .Name x3 p3, .Name x4 p4] k pt] e X.env = pure none := by rfl) (hp : (assignEach [.Tuple [.Name x1 p1, .Name x2 p2, .Name x3 p3, .Name x4 p4] k pt] X.env).map (·.2) = [assign (.Tuple [.Name x1 p1, .Name x2 p2, .Name x3 p3, .Name x4 p4] k pt) X.env] := by rfl) :
    wS X (.Assign [.Tuple [.Name x1 p1, .Name x2 p2, .Name x3 p3, .Name x4 p4] k pt] e pos) ⟨nx, rt, bk, ct⟩ σ H := by
  refine s_of (ps_asg pe (pg_tup hc (pgs_cons (pg_name I.nd (I.hi h1) (I.loc h1) I.f) (pgs_cons (pg_name I.nd (I.hi h2) (I.loc h2) I.f) (pgs_cons (pg_name I.nd (I.hi h3) (I.loc h3) I.f) (pgs_cons (pg_name I.nd (I.hi h4) (I.loc h4) I.f) pgs_nil))))) hs hw hp) (e_mono q fun v H1 q1 => ?_)
  obtain ⟨ad, u1, u2, u3, u4, ev, hq, q2⟩ := q1
  exact ⟨ad, [u1, u2, u3, u4], ev, hq, rfl, u1, [u2, u3, u4], rfl, u2, [u3, u4], rfl, u3, [u4], rfl, u4, [], rfl, rfl, q2⟩
theorem op_inDt (hu : X.A.units + 1 < cLine) : OpR X (compareOp .In) (fun x y H Q => ∃ a o, y = .ref a ∧ DGet H a x o ∧ Q (.bl o.isSome) H) := by
  intro pins s σ H x y v u Q I rx ry h
  obtain ⟨ad, ov, rfl, g, q⟩ := h
  cases ry
  exact d_in hu I g rx fun s3 I3 => ⟨.bl ov.isSome, H, I3, rfl, q⟩
theorem op_ninDt (hu : X.A.units + 1 < cLine) : OpR X (compareOp .NotIn) (fun x y H Q => ∃ a o, y = .ref a ∧ DGet H a x o ∧ Q (.bl (!o.isSome)) H) := by
  intro pins s σ H x y v u Q I rx ry h
  obtain ⟨ad, ov, rfl, g, q⟩ := h
  cases ry
  exact d_notIn hu I g rx fun s3 I3 => ⟨.bl (!ov.isSome), H, I3, rfl, q⟩
theorem o_inD {n : Nat} {x : V} {d : Addr} {ov : Option V} (hr : Room n X.A) (g : DGet H d x ov) (q : Q (.bl ov.isSome) H) : wK X .In x (.ref d) H Q := k_of (op_inDt (hu_of hr)) ⟨d, ov, rfl, g, q⟩
theorem o_ninD {n : Nat} {x : V} {d : Addr} {ov : Option V} (hr : Room n X.A) (g : DGet H d x ov) (q : Q (.bl (!ov.isSome)) H) : wK X .NotIn x (.ref d) H Q := k_of (op_ninDt (hu_of hr)) ⟨d, ov, rfl, g, q⟩
theorem dg_K {ad : Addr} {kvs : List (Key × V)} {k : Key} (h : H ad = some (.dK kvs)) : DGet H ad (kV k) (valV kvs k) := .inl ⟨kvs, k, .inl h, rfl, rfl⟩
theorem dg_F {ad : Addr} {ob : Obj} {kvs : List (Key × V)} {k : Key} (h : H ad = some (.frz ob (.dK kvs))) : DGet H ad (kV k) (valV kvs k) := .inl ⟨kvs, k, .inr ⟨ob, h⟩, rfl, rfl⟩
theorem c_lenD {d : Addr} {kvs : List (Key × V)} (h : H d = some (.dK kvs)) (q : Q (.int kvs.length) H) : wC X (.builtin "len") [.ref d] H Q := c_of call_lenD ⟨d, kvs, rfl, h, q⟩
theorem c_sumL {l : Addr} {ns : List Int} (hc : X.calm = true) (h : SqL X.K H l (ns.map V.int)) (q : Q (.int ns.sum) H) : wC X (.builtin "sum") [.ref l] H Q := c_of (cr_sum hc) ⟨l, ns, rfl, h, q⟩
theorem ty_dk {K : PySem.W.Frag} {H : Hp} {d : Addr} {kvs : List (Key × V)} (h : H d = some (.dK kvs)) : TyX K H (.ref d) (.type "dict") := .base (.dK h)
theorem e_dclr (q : wE X o σ H fun x H1 => ∃ d kvs, x = .ref d ∧ H1 d = some (.dK kvs) ∧ Q .non (upd H1 d (.dK [])))
    (hbase : attributeBase o "clear" X.env (eval o X.env) = eval o X.env := by rfl) (hline : (apos.endLine == pos.line) = true := by rfl) : wE X (.Call (.Attribute o "clear" apos) [] [] pos) σ H Q := by
  refine e_of (pe_dclear pe hbase hline) (e_mono q fun x H1 z => ?_)
  obtain ⟨d, kvs, rfl, h1, h2⟩ := z
  exact ⟨.inr (.inr (.inl ⟨rfl, .inl ⟨kvs, h1⟩⟩)), d, kvs, rfl, rfl, h1, h2⟩
/-- {k: v}, k a text or a number -/
theorem e_dk1 {k v : Expr} (q : ∀ p, H p = none → wE X k σ (upd H p (.dK [])) fun x H1 => wE X v σ H1 fun y H2 => H2 p = some (.dK []) ∧ ∃ z, x = kV z ∧ Q (.ref p) (upd H2 p (.dK [(z, y)]))) : wE X (.Dict [some k] [v] pos) σ H Q := by
  refine e_of (pe_disp (pps_cons pe pe pps_nil) rfl rfl (by simp) (by simp)) fun p np => e_mono (q p np) fun x H1 q1 => e_mono q1 fun y H2 q2 => ?_
  obtain ⟨h, z, rfl, q3⟩ := q2
  exact ⟨h, [(z, y)], rfl, by simp, q3⟩
end
end Wk
namespace Wk
open PySem PySem.Spec
/-! places in a text -/
def nE : Expr := .Name "" ⟨0, 0, 0, 0⟩
def exA : Expr → Nat → Expr
  | .BoolOp _ es _, n => es.getD n nE
  | .BinOp a _ b _, n => [a, b].getD n nE
  | .UnaryOp _ a _, _ => a
  | .IfExp c a b _, n => [c, a, b].getD n nE
  | .Dict _ vs _, n => vs.getD n nE
  | .ListComp e gs _ _, n => (e :: gs.flatMap fun g => g.iter :: g.ifs).getD n nE
  | .DictComp e f gs _ _, n => (e :: f :: gs.flatMap fun g => g.iter :: g.ifs).getD n nE
  | .Compare a _ bs _, n => (a :: bs).getD n nE
  | .Call f as ks _, n => (f :: as ++ ks.map (·.value)).getD n nE
  | .Attribute a _ _, _ => a
  | .Subscript a b _, n => [a, b].getD n nE
  | .List es _, n => es.getD n nE
  | .Tuple es _ _, n => es.getD n nE
  | e, _ => e
def stE : Stmt → Expr
  | .Return (some e) _ => e
  | .Assign _ e _ => e
  | .For _ e _ _ _ => e
  | .While e _ _ _ => e
  | .If e _ _ _ => e
  | .Expr e _ => e
  | _ => nE
def nS : Stmt := .Pass ⟨0, 0, 0, 0⟩
def stB : Stmt → Nat → Nat → Stmt
  | .For _ _ a b _, j, n => ((if j = 0 then a else b).getD n nS)
  | .While _ a b _, j, n => ((if j = 0 then a else b).getD n nS)
  | .If _ a b _, j, n => ((if j = 0 then a else b).getD n nS)
  | .Try a _ b _ _, j, n => ((if j = 0 then a else b).getD n nS)
  | _, _, _ => nS
def xSc : Expr → Scope
  | .ListComp _ _ sc _ => sc
  | .DictComp _ _ _ sc _ => sc
  | _ => { kind := .function, names := [], isGenerator := false, isCoroutine := false }
end Wk
namespace Wk
open PySem PySem.Spec PyProof.Rows L2
section
variable {X : Cx} {o e : Expr} {σ : L2.St} {H : Hp} {Q : VK} {pos apos : Pos}
/-- t.index(e), t a tuple of texts of the module's top -/
theorem e_tIx (q : wE X o σ H fun x H1 => ∃ p, x = .ref p ∧ (∃ ob, X.K.lookup p = some ob ∧ ob.cls = .type "tuple" ∧ ob.dict = none) ∧ wE X e σ H1 fun y H2 => ∃ (ys : List Str) (z : Str) (j : Nat), y = .str z ∧ SqT X.K H2 p (ys.map V.str) ∧ ys[j]? = some z ∧ (∀ m, m < j → ys[m]? ≠ some z) ∧ Q (.int (j : Int)) H2)
    (hbase : attributeBase o "index" X.env (eval o X.env) = eval o X.env := by rfl)
    (hfew : ((backTo pos (starEach (e :: []) X.env)).all (fun x => !x.1) && (backToKw pos (keywordEach [] X.env)).all (fun x => x.1.isSome)
      && decide ((e :: []).length + ([] : List Keyword).length + (if ([] : List Keyword).isEmpty then 0 else 1) < 30)) = true := by rfl)
    (hline : (apos.endLine == pos.line) = true := by rfl) (hs : starEach (e :: []) X.env = (false, eval e X.env) :: starEach [] X.env := by rfl) (hplain : (backTo pos (starEach [] X.env)).any (·.1) = false := by rfl) :
    wE X (.Call (.Attribute o "index" apos) [e] [] pos) σ H Q := by
  refine e_of (pe_bm PySem.F.plainAttrs_tuple PySem.F.slot_tuple_index PySem.F.type_tuple_index mt_tup_index pe (pa_cons pe pa_nil hs) hbase hfew hline hs hplain) (e_mono q fun x H1 z => ?_)
  obtain ⟨p, rfl, ho, z⟩ := z
  refine ⟨.inr (.inl ⟨rfl, ho⟩), e_mono z fun y H2 z2 => ?_⟩
  obtain ⟨ys, z, j, rfl, h1, h2, h3, h4⟩ := z2
  exact ⟨p, ys, z, j, rfl, rfl, h1, h2, h3, h4⟩
end
end Wk

set_option maxHeartbeats 4000000
/-! My own layer: enumerate, ranges that are held, list(range(..)), all of a list, dicts of lists compared, classes whose making may raise. -/
namespace Wk
open PySem PySem.Spec PyProof.Rows L2
section
variable {X : Cx} {e a b : Expr} {σ : L2.St} {H : Hp} {Q : VK} {N G G' : List Str} {sc scope : Scope} {Vn : List (Nat × Str)} {elt : Expr} {pos : Pos}
/-- for x, y in enumerate(a) -/
theorem s_forE {nx : L2.St → Hp → Prop} {rt : VK} {bk ct : L2.St → Hp → Prop} {g : Nat} {x y : Str} {i j : Nat} {body : List Stmt} {px py pt p cp pos : Pos} {kk : Nat} (hm : X.mg "enumerate" = none)
    (q : wE X a σ H fun v H1 => ∃ va xs, v = .ref va ∧ SqL X.K H1 va xs ∧ ∃ Pv : Nat → L2.St → Hp → Prop, Pv 0 σ H1 ∧ (∀ k σ H, k ≤ xs.length → Pv k σ H → SqL X.K H va xs) ∧
      (∀ k u T σ H, xs[k]? = some u → Pv k σ H → H T = none → wL X body ⟨Pv (k + 1), rt, nx, Pv (k + 1)⟩ ((σ.set i (some (.int (k : Nat)))).set j (some u)) (upd H T (.tup [.int (k : Nat), u]))) ∧ ∀ σ H, Pv xs.length σ H → nx σ H)
    (I : In X N G sc := by assumption) (hc : X.calm = true := by rfl) (hA : At N i x := by repeat (first | with_reducible apply At.z | with_reducible apply At.s)) (hB : At N j y := by repeat (first | with_reducible apply At.z | with_reducible apply At.s))
    (hG : At G g ("enumerate" : Str) := by repeat (first | with_reducible apply At.z | with_reducible apply At.s)) (hs : starEach [a] X.env = [(false, eval a X.env)] := by rfl)
    (hs1 : starEach (a :: []) X.env = (false, eval a X.env) :: starEach [] X.env := by rfl) (hs2 : ∀ z, foldedSetIterable (.Call (.Name "enumerate" p) [a] [] cp) X.env z = pure z := by intro _; rfl) :
    wS X (.For (.Tuple [.Name x px, .Name y py] kk pt) (.Call (.Name "enumerate" p) [a] [] cp) body [] pos) ⟨nx, rt, bk, ct⟩ σ H := by
  refine s_of (ps_for I.never hc (pi_enum (I.g hG) hm (pa_cons pe pa_nil hs1) hs) (pg_tup hc (pgs_cons (pg_name I.nd (I.hi hA) (I.loc hA) I.f) (pgs_cons (pg_name I.nd (I.hi hB) (I.loc hB) I.f) pgs_nil))) pl hs2) (e_mono q fun v H1 q1 => ?_)
  obtain ⟨va, xs, rfl, sx, Pv, h0, hk, hb, hd⟩ := q1
  refine ⟨va, xs, rfl, sx, fun k m σ H => m = xs.length - k ∧ k ≤ xs.length ∧ Pv k σ H, ⟨_, rfl, Nat.zero_le _, h0⟩, ?_⟩
  rintro k m σ H ⟨rfl, hle, pv⟩
  have tx := hk k σ H hle pv
  by_cases lt : k < xs.length
  · refine .inr ⟨⟨xs, xs[k], tx, List.getElem?_eq_getElem lt⟩, Pv (k + 1), fun σ' H' p' => ⟨_, by omega, rfl, lt, p'⟩, fun w H' yl => ?_⟩
    obtain ⟨T, u1, rfl, nT, rfl, y1⟩ := yl
    exact ⟨T, [.int (k : Nat), u1], rfl, SqT.of upd_same, rfl, .int (k : Nat), [u1], rfl, u1, [], rfl, rfl, hb k u1 T σ H (y1 xs tx) pv nT⟩
  · have ek : k = xs.length := by omega
    subst ek
    refine .inl ⟨⟨xs, tx, by omega⟩, hd σ H pv⟩
theorem cr_range1 : CallR X (.type "range") (fun vs H Q => ∃ j, vs = [V.int j] ∧ ∀ p, H p = none → Q (.ref p) (upd H p (.rng 0 j))) := by
  intro pins s σ H vs us Q I r h
  obtain ⟨j, rfl, q⟩ := h
  cases r with
  | cons r1 rr =>
    cases rr
    obtain ⟨t, rfl⟩ := r1
    exact call_range_1 ⟨.ref s.heap.objs.size, upd H s.heap.objs.size (.rng 0 j), I.laid (t' := s.toks + 1 + 1) (fun b o e => Heap.get?_push_of_some _ e) (Nat.le_refl _) ⟨_, _, _, Heap.get?_push_size _ rfl⟩, rfl, q _ (I.hok.fresh (Nat.le_refl _))⟩
theorem c_rng1 {j : Int} (q : ∀ p, H p = none → Q (.ref p) (upd H p (.rng 0 j))) : wC X (.type "range") [.int j] H Q := c_of cr_range1 ⟨j, rfl, q⟩
def iRngV (tl : TE) : TI := fun σ H R => tl σ H fun x H1 => ∃ ad lo hi, x = .ref ad ∧ H1 ad = some (.rng lo hi) ∧ (-(2 ^ 62) ≤ lo ∧ lo < 2 ^ 62 ∧ -(2 ^ 62) ≤ hi ∧ hi < 2 ^ 62) ∧ R (Itr lo (hi - lo).toNat) H1
/-- a range object that stands -/
theorem pi_rngV {tg l : Expr} {tl : TE} (hl : PE X l tl) : PI X tg l (iRngV tl) := by
  refine ⟨fun pins s σ H R I h => thn (hl.run pins s σ H _ I h) fun v s1 ⟨x, H1, I1, r1, ad, lo, hi, ex, had, ⟨b1, b2, b3, b4⟩, q⟩ => ?_⟩
  subst ex
  cases r1
  obtain ⟨t, u, w, ho⟩ := I1.hok ad _ had
  refine wpAny_pyIter_range (show IsRange s1.heap ad lo hi 1 t u w from ho) (small_one b1 b2 b3 b4) ?_
  refine ⟨s1.heap.objs.size, [s1.heap.objs.size], _, _, H1, rfl, I1.kept (t' := s1.toks) fun b o e => Heap.get?_push_of_some _ e, turn_range _ lo (hi - lo).toNat, ?_, fun b hb => ?_, q⟩
  · have z1 : lo + ((0 : Nat) : Int) * 1 = lo := by simp
    have z2 : (((hi - lo).toNat : Nat) : Int) - ((0 : Nat) : Int) = Builtin.Range.rangeSize lo hi 1 := by rw [rangeSize_one]; split <;> omega
    show IsRangeIter _ _ (lo + ((0 : Nat) : Int) * 1) ((((hi - lo).toNat : Nat) : Int) - ((0 : Nat) : Int)) 1
    rw [z1, z2]
    exact Heap.get?_push_size _ rfl
  · obtain rfl : b = s1.heap.objs.size := by simpa using hb
    exact I1.fpOk (Nat.le_refl _) (I1.hok.fresh (Nat.le_refl _))
/-- [elt for x in a], a holds range(n) -/
theorem e_lcRv {i : Nat} {x : Str} {px : Pos} (B : BkOk X.N Vn G' i x sc scope)
    (q : wE X a σ H fun v H1 => ∃ (ad : Addr) (n : Nat), v = .ref ad ∧ H1 ad = some (.rng 0 n) ∧ n < 2 ^ 62 ∧ ∀ D, H1 D = none → LcR X Vn G' elt scope i n D σ H1 fun H2 => Q (.ref D) H2)
    (I : In X N G sc := by assumption) (hc : X.calm = true := by rfl) (hs2 : ∀ z, foldedSetIterable a X.env z = pure z := by intro _; rfl) :
    wE X (.ListComp elt [⟨.Name x px, a, [], 0⟩] scope pos) σ H Q := by
  refine e_of (pe_lc (own := [(x, i)]) (g := gName i) (tt := tYes) (te := wBk X Vn G' elt scope) hc I.nd (pi_rngV pe) (B.ok I) (fun s H C cl fp => B.pg I s H C cl fp) (fun _ _ _ _ _ => pts_nil) (fun s H C cl fp => pe_bk (B.inB I s H C cl fp)) hs2) (e_mono q fun v H1 q1 => ?_)
  obtain ⟨ad, n, rfl, had, hn, q2⟩ := q1
  refine ⟨ad, 0, n, rfl, had, ⟨by omega, by omega, by omega, by omega⟩, ?_⟩
  rw [Int.sub_zero, Int.toNat_natCast]
  exact fun D hD => lcR_of (q2 D hD)
theorem c_allL {l : Addr} {bs : List Bool} (hc : X.calm = true) (h : SqL X.K H l (bs.map V.bl)) (q : Q (.bl (bs.all id)) H) : wC X (.builtin "all") [.ref l] H Q := c_of (cr_all hc) ⟨l, bs, rfl, h, q⟩
theorem b_all : bootBuiltins "all" = some (.builtin "all") := by decide +kernel
theorem b_range : bootBuiltins "range" = some (.type "range") := by decide +kernel
/-- list(range(a)) -/
theorem e_listRg {g g2 : Nat} {p p2 cp cp2 : Pos} (hm : X.mg "list" = none) (hm2 : X.mg "range" = none) (q : wE X a σ H fun v H1 => ∃ n : Nat, v = .int n ∧ n ≤ 100000 ∧ ∀ l, H1 l = none → Q (.ref l) (upd H1 l (.lst ((List.range n).map fun (k : Nat) => V.int (k : Int)))))
    (I : In X N G sc := by assumption) (hc : X.calm = true := by rfl) (hG : At G g ("list" : Str) := by repeat (first | with_reducible apply At.z | with_reducible apply At.s)) (hG2 : At G g2 ("range" : Str) := by repeat (first | with_reducible apply At.z | with_reducible apply At.s))
    (hs : starEach [a] X.env = (false, eval a X.env) :: starEach [] X.env := by rfl) (na : starEach [.Call (.Name "range" p2) [a] [] cp2] X.env = (false, eval (.Call (.Name "range" p2) [a] [] cp2) X.env) :: starEach [] X.env := by rfl) :
    wE X (.Call (.Name "list" p) [.Call (.Name "range" p2) [a] [] cp2] [] cp) σ H Q := by
  refine e_of (pe_listRg hc (I.g hG) hm (prg_1 (I.g hG2) hm2 pe hs) na) (e_mono q fun v H1 q1 => ?_)
  obtain ⟨n, rfl, hn, q2⟩ := q1
  refine ⟨n, rfl, ⟨by omega, by omega, by omega, by omega, by omega⟩, fun l nl => ?_⟩
  have := q2 l nl
  have e : rgV 0 (n : Int) = (List.range n).map fun (k : Nat) => V.int (k : Int) := by
    unfold rgV
    simp
  rw [e]
  exact this
end
/-! ### dicts of lists of numbers -/
abbrev iV (l : List Int) : List V := l.map V.int
theorem dp_ints {K : PySem.W.Frag} {H : Hp} : ∀ l : List Int, DpAll K H (iV l) (l.map PyData.int)
  | [] => .nil
  | i :: l => .cons (.int i) (dp_ints l)
theorem plain_ints : ∀ l : List Int, PyData.plainAll (l.map PyData.int) = true
  | [] => rfl
  | _ :: l => by show (true && PyData.plainAll _) = true; rw [plain_ints l]; rfl
theorem depth_ints : ∀ l : List Int, PyData.depthAll (l.map PyData.int) = 0
  | [] => rfl
  | _ :: l => by show max 0 (PyData.depthAll _) = 0; rw [depth_ints l]; rfl
/-- the same numbers, under each name -/
def rNeDL (K : PySem.W.Frag) : R2 := fun x y H Q => ∃ a b ks ls, x = .ref a ∧ y = .ref b ∧ H a = some (.dK ks) ∧ H b = some (.dK ls) ∧ ks.length = ls.length ∧ (∀ p ∈ ks, ∃ c d l, p.2 = .ref c ∧ valV ls p.1 = some (.ref d) ∧ SqL K H c (iV l) ∧ SqL K H d (iV l)) ∧ Q (.bl false) H
theorem op_neDL {X : Cx} (hu : X.A.units + 64 < cLine) : OpR X (compareOp .NotEq) (rNeDL X.K) := by
  intro pins s σ H x y v u Q I rx ry h
  obtain ⟨a, b, ks, ls, rfl, rfl, ea, eb, hlen, hp, q⟩ := h
  cases rx
  cases ry
  obtain ⟨_, ya, va, ra, da⟩ := (show ObjOk X.prog X.w H s.heap a (.dK ks) from I.hok a _ ea)
  obtain ⟨_, yb, vb, rb, db⟩ := (show ObjOk X.prog X.w H s.heap b (.dK ls) from I.hok b _ eb)
  have hits : ∀ {ks : List (Key × V)} {va : List (Key × Value)}, KV ks va → (∀ p ∈ ks, ∃ c d l, p.2 = .ref c ∧ valV ls p.1 = some (.ref d) ∧ SqL X.K H c (iV l) ∧ SqL X.K H d (iV l)) → PySem.W.KeqHits X.A.in1 s vb va true := by
    intro ks va ra
    unfold KV at ra
    induction ra with
    | nil => intro _; exact .nil
    | @cons p q ps qs h1 t ih =>
      intro hp
      obtain ⟨hk, hv⟩ := h1
      obtain ⟨c, d, l, e1, e2, s1, s2⟩ := hp p List.mem_cons_self
      have rr : RelO (some (V.ref d)) (valueAt vb p.1) := by rw [← e2]; exact rb.val p.1
      obtain ⟨y, hy, ry⟩ := rr.some_of
      obtain ⟨k, v⟩ := q
      have hk' : p.1 = k := hk
      rw [hk'] at hy
      rw [e1] at hv
      have hv' : RelV (.ref c) v := hv
      obtain ⟨as, r1⟩ := Dp.reads I (.list (l.map .int)) _ _ (.lst s1 (dp_ints l)) hv'
      obtain ⟨bs, r2⟩ := Dp.reads I (.list (l.map .int)) _ _ (.lst s2 (dp_ints l)) ry
      have hpl : (PyData.list (l.map .int)).plain = true := plain_ints l
      have hq := PySem.SeqAt.eqAt_plain _ _ X.A.in1 s _ _ as bs r1 r2 hpl hpl (by
        have : (PyData.list (l.map .int)).depth = 1 := by show PyData.depthAll _ + 1 = 1; rw [depth_ints]
        rw [this]
        have : X.A.in1.units ≤ X.A.units + 2 := by simp [Around.in1, Around.units] <;> omega
        omega)
      rw [PySem.SeqAt.eqv_refl_plain _ hpl] at hq
      show PySem.W.KeqHits _ s vb ((k, v) :: qs) (true && true)
      exact .hit hy hq (ih fun p' hm => hp p' (List.mem_cons_of_mem _ hm))
  have hl : va.length = vb.length := by rw [← ra.length, ← rb.length]; exact hlen
  exact PySem.W.keq_ne (knd := mixKind X.prog X.w) (r := true) ya yb da db (by omega) (fun _ => hits ra hp) (fin_bl I q (by simp [hl]))
/-! ### a class whose making may raise -/
section
variable {P : Program} {w : World} {K : PySem.W.Frag} {mg : Str → Option Value} {base : Heap}
theorem me_okN {x qual : Str} {C : Addr} {st : Stmt} {N D G ps : List Str} {k : Nat} {sp : Sp} (T : TopM K C x qual st) (S : FnScope (N ++ D) ps (defScope st)) (O : ScOk N G (defScope st)) (len : ∀ vs H Q E, sp vs H Q E → vs.length = ps.length)
    (hb : ∀ (kV doc pm : Value) (an : Option Addr) (cdv ct : Value) (us : List Value), us.length = ps.length → bindArgs (PySem.W.fnOf x qual (defArgs st) (defBody st) (defScope st) .none kV doc pm an cdv ct) ⟨us, []⟩ = pure (ps.zip us))
    (hbody : ∀ (f : Addr) (cdv : Value) (A : Around) (outer : List Env) (s : Shared) (H : Hp) (vs : List V) (Q : VK) (E : XK), Room k (A.deeper (envOfC qual (defScope st) s.heap.objs.size f cdv)) → sp vs H Q E → In (cxOf (L2N.CX P w) P w K mg base (N ++ D) qual (defScope st) f cdv A outer s H E) N G (defScope st) →
      L2N.Takes (cxOf (L2N.CX P w) P w K mg base (N ++ D) qual (defScope st) f cdv A outer s H E) (fun cls d _ H => E cls d H) →
      wL (cxOf (L2N.CX P w) P w K mg base (N ++ D) qual (defScope st) f cdv A outer s H E) (defBody st) { nx := fun _ H' => Q .non H', rt := Q } (start (N ++ D) vs) H) :
    ∃ (f : Addr) (fd : FuncData), FnOk P w K mg base (L2N.CX P w) (k + 1) f fd ps sp ∧ Binds K fd ps [] ∧ PySem.W.findIn K (.ref C) x = some (some (.ref f)) ∧ PySem.W.isFn K (.ref f) = true ∧ PySem.W.keepIn K (.ref f) = true := by
  obtain ⟨f, fd, F, hf, hi⟩ := T.ex
  obtain ⟨oc, od, kV, doc, pm, an, cdv, ct, osl, rfl, lk, hcd⟩ := id F.ex
  exact ⟨f, _, fn_of lk hcd S len (fun A outer s H vs Q E hr h => ⟨_, pl, hbody f cdv A outer s H vs Q E hr h ⟨O, ⟨D, rfl⟩, S.nd, rfl, rfl, passes_of rfl⟩ (L2N.takes_of rfl rfl rfl rfl)⟩), F.binds hb, hf, hi, F.kp⟩
structure KlN (P : Program) (w : World) (K : PySem.W.Frag) (mg : Str → Option Value) (base : Heap) (k : Nat) (x : Str) (C : Addr) (sp : Sp) : Prop where
  ex : ∃ (f : Addr) (fd : FuncData) (ps : List Str), FnOk P w K mg base (L2N.CX P w) k f fd ps sp ∧ mg x = some (.ref C) ∧ Mk K C f ∧ Binds K fd ps []
theorem cx_weak {outer : List Env} {H : Hp} {s s' : Shared} {E E' : XK} {u : Value} (h : L2N.CX P w outer H s E u s') (m : ∀ cls d H, E cls d H → E' cls d H) : L2N.CX P w outer H s E' u s' := by
  obtain ⟨a, B, H', cls, d, h1, h2, h3, h4, h5, h6, h7, h8⟩ := h
  exact ⟨a, B, H', cls, d, h1, h2, h3, h4, h5, h6, h7, m _ _ _ h8⟩
end
section
variable {X : Cx} {e : Expr} {es : List Expr} {pos p0 : Pos} {σ : L2.St} {H : Hp} {Q : VK} {N G : List Str} {sc : Scope}
theorem e_makeN {g k n : Nat} {x : Str} {C : Addr} {sp : Sp} {W : WX} (F : KlN X.prog X.w X.K X.mg X.base k x C sp) (tk : L2N.Takes X W) (hr : Room n X.A) (hk : k + 1 ≤ n)
    (q : wA X (e :: es) σ H fun vs H1 => ∀ x dx, H1 x = none → H1 dx = none → dx ≠ x → sp (.ref x :: vs) (upd (upd H1 dx (.own x)) x (.ins C dx [])) (fun v H2 => v = .non ∧ Q (.ref x) H2) (fun cls d H' => ∀ σ' : L2.St, σ'.length = X.N.length → W cls d σ' H'))
    (I : In X N G sc := by assumption) (hG : At G g x := by repeat (first | with_reducible apply At.z | with_reducible apply At.s)) (he : starEach (e :: es) X.env = (false, eval e X.env) :: starEach es X.env := by rfl) (hpl : (backTo pos (starEach es X.env)).any (·.1) = false := by rfl) : wE X (.Call (.Name x p0) (e :: es) [] pos) σ H Q := by
  obtain ⟨f, fd, ps, F0, hm, M, hb⟩ := F.ex
  have hx : Passes (L2N.CX X.prog X.w) X (fun cls d H' => ∀ σ' : L2.St, σ'.length = X.N.length → W cls d σ' H') := fun pins σ' H s e s' I0 c => L2N.passAt tk σ' pins H s e s' I0 (cx_weak c fun cls d H z => z σ' I0.len)
  refine e_of (pe_make M F0 (hr.mono hk) (I.g hG) hm hb .nil hx pa (I.gd hG) he hpl) ?_
  show wA X (e :: es) σ H fun vs H1 => ∀ x dx, H1 x = none → H1 dx = none → dx ≠ x → sp (.ref x :: (vs ++ [])) (upd (upd H1 dx (.own x)) x (.ins C dx [])) (fun v H2 => v = .non ∧ Q (.ref x) H2) _
  simp only [List.append_nil]
  exact q
end
/-! ### len of an instance whose class has its own __len__ -/
structure LnO (P : Program) (w : World) (K : PySem.W.Frag) (mg : Str → Option Value) (base : Heap) (k : Nat) (C : Addr) (sp : Sp) : Prop where
  ex : ∃ (f : Addr) (fd : FuncData) (pn : List Str), FnOk P w K mg base CX0 k f fd pn sp ∧ PySem.W.findIn K (.ref C) "__len__" = some (some (.ref f)) ∧ PySem.W.isFn K (.ref f) = true ∧ Binds K fd pn []
theorem c_lenO {X : Cx} {H : Hp} {Q : VK} {k n : Nat} {C a dx : Addr} {fs : List (Str × V)} {sp : Sp} (F : LnO X.prog X.w X.K X.mg X.base k C sp) (hr : Room (n + 1) X.A) (hk : k ≤ n) (ha : H a = some (.ins C dx fs))
    (q : sp [.ref a] H (fun v H' => ∃ m : Nat, v = .int (m : Int) ∧ m < 2 ^ 62 ∧ Q (.int (m : Int)) H') E0) : wC X (.builtin "len") [.ref a] H Q := by
  obtain ⟨f, fd, pn, F0, hs, hf, hb⟩ := F.ex
  refine c_of (r := fun xs H Q => xs = [.ref a] ∧ H a = some (.ins C dx fs) ∧ sp [.ref a] H (fun v H' => ∃ m : Nat, v = .int (m : Int) ∧ m < 2 ^ 62 ∧ Q (.int (m : Int)) H') E0) ?_ ⟨rfl, ha, q⟩
  intro pins s σ H xs us Q I r h
  obtain ⟨rfl, ha, q⟩ := h
  cases r with
  | cons r1 rr =>
    cases rr
    cases r1
    obtain ⟨mA, J, _⟩ := ins_get I.hok ha
    obtain ⟨od, J, _⟩ := J.look
    obtain ⟨m, hF⟩ := I.fr
    refine PySem.W.len_K hF I.ok.mod.kin J hs hf ?_
    have hl : ([Value.ref a] : List Value).length = pn.length := F0.len _ _ _ _ q
    refine wpAny_call (codeAny_mono (F0.run X.A.in1 X.stack s H ⟨[.ref a], []⟩ [.ref a] [.ref a] _ E0 (hr.in1.mono hk) I.env0.in1 (hb s [.ref a] I.kIn hl) (.cons rfl .nil) q) fun r s' hq => ?_)
    cases r with
    | error e => exact pass0 pins σ H s e s' I hq
    | ok fl =>
      cases fl with
      | ret u =>
        obtain ⟨v, H', I', rv, m, rfl, hm, q2⟩ := I.after hq
        obtain ⟨t, rfl⟩ := rv
        exact ⟨⟨by omega, by omega⟩, .int (m : Int), H', I'.tok _, ⟨_, rfl⟩, q2⟩
      | next => exact False.elim hq
      | brk => exact False.elim hq
      | cont => exact False.elim hq
section
variable {X : Cx} {σ : L2.St} {H : Hp}
/-- for x in range(a, b), a below b + 1 -/
theorem s_forR12 {nx : L2.St → Hp → Prop} {rt : VK} {bk ct : L2.St → Hp → Prop} {g : Nat} {N G : List Str} {sc : Scope} {x : Str} {i : Nat} {a b : Expr} {body : List Stmt} {px p cp pos : Pos} (hm : X.mg "range" = none)
    (q : wE X a σ H fun v H1 => wE X b σ H1 fun u H2 => ∃ lo n : Nat, v = .int (lo : Int) ∧ u = .int ((lo + n : Nat) : Int) ∧ lo + n < 2 ^ 62 ∧ ∃ Pv : Nat → L2.St → Hp → Prop, Pv 0 σ H2 ∧ (∀ k σ H, k < n → Pv k σ H → wL X body ⟨Pv (k + 1), rt, nx, Pv (k + 1)⟩ (σ.set i (some (.int ((lo + k : Nat) : Int)))) H) ∧ ∀ σ H, Pv n σ H → nx σ H)
    (I : In X N G sc := by assumption) (hc : X.calm = true := by rfl) (hA : At N i x := by repeat (first | with_reducible apply At.z | with_reducible apply At.s))
    (hG : At G g ("range" : Str) := by repeat (first | with_reducible apply At.z | with_reducible apply At.s)) (hs : starEach [a, b] X.env = [(false, eval a X.env), (false, eval b X.env)] := by rfl) (hsb : starEach [b] X.env = [(false, eval b X.env)] := by rfl)
    (hs2 : ∀ z, foldedSetIterable (.Call (.Name "range" p) [a, b] [] cp) X.env z = pure z := by intro _; rfl)
    (h1 : starEach (a :: [b]) X.env = (false, eval a X.env) :: starEach [b] X.env := by rfl) (h2 : starEach (b :: []) X.env = (false, eval b X.env) :: starEach [] X.env := by rfl) :
    wS X (.For (.Name x px) (.Call (.Name "range" p) [a, b] [] cp) body [] pos) ⟨nx, rt, bk, ct⟩ σ H := by
  refine s_of (ps_for I.never hc (pi_range2 (I.g hG) hm (pa_cons pe (pa_cons pe pa_nil h2) h1) hs hsb) (pg_name I.nd (I.hi hA) (I.loc hA) I.f) pl hs2) (e_mono q fun v H1 q1 => e_mono q1 fun u H2 q2 => ?_)
  obtain ⟨lo, n, rfl, rfl, hn, Pv, h0, hb, hd⟩ := q2
  refine ⟨(lo : Int), ((lo + n : Nat) : Int), rfl, ⟨by omega, by omega, by omega, by omega⟩, ?_⟩
  rw [show (((lo + n : Nat) : Int) - (lo : Int)).toNat = n by omega]
  refine for_range (n := n) Pv h0 (fun k σ H hk p => ?_) hd
  have := hb k σ H hk p
  rwa [show ((lo + k : Nat) : Int) = (lo : Int) + (k : Int) by omega] at this
theorem o_bor {X : Cx} {H : Hp} {Q : VK} {i j : Int} (q : Q (.int (Builtin.bitOr i j)) H) : wB X .BitOr (.int i) (.int j) H Q := b_of op_or ⟨i, j, rfl, rfl, q⟩
theorem bor_nn : ∀ a < 32, ∀ b < 32, 0 ≤ Builtin.bitOr ((a : Nat) : Int) ((b : Nat) : Int) := by decide +kernel
end
end Wk

/-! str of plain lists and tuples: it asks what is under way below (A.guards), so a def that shows them is promised where nothing is: FnG. -/
namespace Wk
open PySem PySem.Spec PyProof.Rows L2
section
variable {X : Cx} {H : Hp} {Q : VK}
/-- str of a list or a tuple of plain data, where nothing is being shown below -/
theorem call_strD (hg : X.A.guards = some []) (hu : X.A.units + 80 < cLine) :
    CallR X (.type "str") (fun xs H Q => ∃ a d, xs = [.ref a] ∧ Dp X.K H (.ref a) d ∧ d.showable = true ∧ d.hasDict = false ∧ d.depth ≤ 70 ∧ d.shown.length ≤ sizeLine ∧ Q (.str d.shown) H) := by
  intro pins s σ H xs us Q I r h
  obtain ⟨a, d, rfl, hd, h1, h2, h3, h4, q⟩ := h
  obtain ⟨u, rfl, rr⟩ := vals1 r
  obtain ⟨as, rd⟩ := Dp.reads I d _ _ hd rr
  cases rr
  exact PySem.str_of_reads rd h1 (fun z => by rw [h2] at z; cases z) hg (by omega) (fun _ _ e => e) (fun h' u tk hk => ⟨.str d.shown, H, I.turnedL (ch := []) (fun b o _ e => hk b o e) (fun b hb => by cases hb), ⟨_, rfl⟩, q⟩) h4
end
end Wk
namespace Wk
open PySem PySem.Spec PyProof.Rows L2
section
variable {P : Program} {w : World} {K : PySem.W.Frag} {mg : Str → Option Value} {base : Heap}
/-- a def that is promised where nothing is being shown below -/
structure FnG (P : Program) (w : World) (K : PySem.W.Frag) (mg : Str → Option Value) (base : Heap) (k : Nat) (f : Addr) (fd : FuncData) (ps : List Str) (sp : Sp) : Prop where
  len : ∀ vs H Q E, sp vs H Q E → vs.length = ps.length
  run : ∀ (A : Around) (outer : List Env) (s : Shared) (H : Hp) (args : Args) (us : List Value) (vs : List V) (Q : VK) (E : XK), A.guards = some [] → Room k A → Env0 P w K mg base A outer s H → BindsTo s fd args (ps.zip us) → Vals vs us → sp vs H Q E →
    codeAny (model P w) A (.call (.ref f) args) (CR CX0 outer P w H s Q E) s
theorem FnG.mono {j k : Nat} {f : Addr} {fd : FuncData} {ps : List Str} {sp : Sp} (F : FnG P w K mg base j f fd ps sp) (h : j ≤ k) : FnG P w K mg base k f fd ps sp :=
  ⟨F.len, fun A outer s H args us vs Q E hg hr => F.run A outer s H args us vs Q E hg (hr.mono h)⟩
/-- by its body, which knows that nothing is being shown below it -/
theorem fun_okG {x qual : Str} {st : Stmt} {f : Addr} {fd : FuncData} {N ps : List Str} {k : Nat} {sp : Sp} (F : Fun K x qual st f fd) (S : FnScope N ps (defScope st)) (len : ∀ vs H Q E, sp vs H Q E → vs.length = ps.length)
    (hbody : ∀ (cdv : Value) (A : Around) (outer : List Env) (s : Shared) (H : Hp) (vs : List V) (Q : VK) (E : XK), A.guards = some [] → Room k (A.deeper (envOfC qual (defScope st) s.heap.objs.size f cdv)) → sp vs H Q E →
      ∃ t, PSs (cxOf CX0 P w K mg base N qual (defScope st) f cdv A outer s H E).nox (defBody st) t ∧ t { nx := fun _ H' => Q .non H', rt := Q } (start N vs) H) : FnG P w K mg base (k + 1) f fd ps sp := by
  obtain ⟨oc, od, kV, doc, pm, an, cdv, ct, osl, rfl, lk, hcd⟩ := F.ex
  refine ⟨len, fun A outer s H args us vs Q E hg hr e0 hb r hsp => ?_⟩
  obtain ⟨t, ht, hq⟩ := hbody cdv A outer s H vs Q E hg (hr.deeper _) hsp
  have own : K.In s.heap := e0.mod.kin.keeps fun b o e => (e0.bs b o e).1
  have kinds : ∀ y ∈ ps.zip us, (defScope st).names.lookup y.1 = some .local ∨ ((defScope st).names.lookup y.1 = some .cell ∧ ((cellsFrom (s.heap.objs.size + 1) (defScope st).names []).lookup y.1).isSome = true) := by
    intro y hy
    obtain ⟨n, v⟩ := y
    cases S.par n (List.of_mem_zip hy).1 with
    | inl q => exact .inl q
    | inr q => exact .inr ⟨q, PySem.W.cellsFrom_some _ _ _ (.inl q)⟩
  refine codeAny_call_function hr.depth (own _ _ lk) rfl S.co S.gen rfl (PySem.W.codeRec_of own hcd) (hb _ _ _ _ (wpAny_newFunctionEnv_cells S.kind kinds fun env he s1 x => ?_))
  cases he
  refine ⟨(e0.mod.nolimit.keeps fun b o e => (e0.bs b o e).1).keeps x.toInCall.keep, codeAny_func (wpAny_mono (ht.nox.run [] s1 (start N vs) H _ (inv_start S hr.hd e0 (len _ _ _ _ hsp) r x) hq) (fun fl s' hs => ?_) fun e s' hs => hs)⟩
  cases fl with
  | next => exact let ⟨_, H', J, q⟩ := hs; ⟨.non, H', J.os, J.bare, J.base, J.hok, rfl, q⟩
  | ret u => exact let ⟨v, _, H', J, rv, q⟩ := hs; ⟨v, H', J.os, J.bare, J.base, J.hok, rv, q⟩
  | brk => exact (let ⟨_, _, _, q⟩ := hs; q : False).elim
  | cont => exact (let ⟨_, _, _, q⟩ := hs; q : False).elim
end
end Wk
namespace Wk
open PySem PySem.Spec PyProof.Rows L2
section
variable {X : Cx}
theorem run_fnG {k : Nat} {f : Addr} {fd : FuncData} {ps : List Str} {sp : Sp} {pins : List (Addr × Obj)} {σ : L2.St} {H : Hp} {s : Shared} {Q : VK} {us : List Value} {vs : List V} (F : FnG X.prog X.w X.K X.mg X.base k f fd ps sp) (hg : X.A.guards = some []) (hr : Room k X.A) (hb : Binds X.K fd ps [])
    (I : Inv X pins σ H s) (r : Vals vs us) (h : sp vs H Q E0) : wpAny (model X.prog X.w) X.A (call (.ref f) us) (EP X pins σ Q) X.xe s := by
  have hl : (us ++ []).length = ps.length := by rw [List.append_nil, ← r.length]; exact F.len _ _ _ _ h
  refine wpAny_call (codeAny_mono (F.run X.A X.stack s H ⟨us, []⟩ us vs Q E0 hg hr I.env0 (by have := hb s us I.kIn hl; rwa [List.append_nil] at this) r h) fun r s' hq => ?_)
  cases r with
  | error e => exact False.elim hq
  | ok fl =>
    cases fl with
    | ret u => exact I.after hq
    | next => exact False.elim hq
    | brk => exact False.elim hq
    | cont => exact False.elim hq
/-- a def of the module that is promised where nothing is being shown below -/
structure FnS (P : Program) (w : World) (K : PySem.W.Frag) (mg : Str → Option Value) (base : Heap) (k : Nat) (x : Str) (sp : Sp) : Prop where
  ex : ∃ (f : Addr) (fd : FuncData) (ps : List Str), FnG P w K mg base k f fd ps sp ∧ mg x = some (.ref f) ∧ PySem.W.keepIn K (.ref f) = true ∧ Binds K fd ps []
theorem pe_callG {x : Str} {p pos : Pos} {e : Expr} {es : List Expr} {t : TA} {k : Nat} {f : Addr} {fd : FuncData} {ps : List Str} {sp : Sp} (F : FnG X.prog X.w X.K X.mg X.base k f fd ps sp) (hgd : X.A.guards = some []) (hr : Room k X.A) (hg : Gl X x) (hm : X.mg x = some (.ref f)) (hk : PySem.W.keepIn X.K (.ref f) = true) (hb : Binds X.K fd ps [])
    (ha : PA X (e :: es) t) (hdb : (x == ("__debug__" : Str)) = false) (he : starEach (e :: es) X.env = (false, eval e X.env) :: starEach es X.env) (hpl : (backTo pos (starEach es X.env)).any (·.1) = false) :
    PE X (.Call (.Name x p) (e :: es) [] pos) (tCall sp [] E0 t) := by
  refine ⟨fun pins s σ H Q I h => wpAny_Call_Name_kw (ld_glob I hg hm (PySem.W.callWith_K (h₀ := X.base) I.ok.mod.kin hk (thn (ha.run pos pins s σ H _ I h) fun us s1 z => ?_) he hpl) hdb)⟩
  obtain ⟨vs, H1, I1, r, q⟩ := z
  exact ⟨I1.kIn, run_fnG F hgd hr hb I1 r (by rwa [List.append_nil] at q)⟩
theorem e_callG {N G : List Str} {sc : Scope} {e : Expr} {es : List Expr} {pos p0 : Pos} {σ : L2.St} {H : Hp} {Q : VK} {g : Nat} {k n : Nat} {x : Str} {sp : Sp} (F : FnS X.prog X.w X.K X.mg X.base k x sp) (hgd : X.A.guards = some []) (hr : Room n X.A) (hk : k ≤ n) (q : wA X (e :: es) σ H fun vs H1 => sp vs H1 Q E0)
    (I : In X N G sc := by assumption) (hG : At G g x := by repeat (first | with_reducible apply At.z | with_reducible apply At.s))
    (he : starEach (e :: es) X.env = (false, eval e X.env) :: starEach es X.env := by rfl) (hpl : (backTo pos (starEach es X.env)).any (·.1) = false := by rfl) : wE X (.Call (.Name x p0) (e :: es) [] pos) σ H Q := by
  obtain ⟨f, fd, ps, F0, hm, hkp, hb⟩ := F.ex
  refine e_of (pe_callG F0 hgd (hr.mono hk) (I.g hG) hm hkp hb pa (I.gd hG) he hpl) ?_
  show wA X (e :: es) σ H fun vs H1 => sp (vs ++ []) H1 Q E0
  simp only [List.append_nil]
  exact q
end
end Wk
namespace Wk
open PySem PySem.Spec PyProof.Rows L2
section
variable {P : Program} {w : World} {K : PySem.W.Frag}
/-- the heap in which the script alone is told (unless it is an object of the module) -/
def toldS (K : PySem.W.Frag) (a : Addr) (vs : List Value) (ns : List Int) : Hp := fun b =>
  if b = a ∧ (K.lookup a).isNone = true then some (.frz { cls := .type "list", data := .seq vs.toArray } (.lst (ns.map V.int))) else none
theorem toldS_some {a b : Addr} {vs : List Value} {ns : List Int} {u : HO} (h : toldS K a vs ns b = some u) : b = a ∧ K.lookup a = none ∧ u = .frz { cls := .type "list", data := .seq vs.toArray } (.lst (ns.map V.int)) := by
  unfold toldS at h
  split at h
  · rename_i hc
    cases h
    exact ⟨hc.1, Option.isNone_iff_eq_none.mp hc.2, rfl⟩
  · cases h
theorem toldS_none {a b : Addr} {vs : List Value} {ns : List Int} (h : ¬ (b = a ∧ K.lookup a = none)) : toldS K a vs ns b = none := by
  cases e : toldS K a vs ns b with
  | none => rfl
  | some u => exact absurd ⟨(toldS_some e).1, (toldS_some e).2.1⟩ h
theorem law_callG {mg mb : Str → Option Value} {k : Nat} {fa a : Addr} {fd : FuncData} {x : Str} {sp : Sp} {s : Shared} {vs : List Value} {ns : List Int}
    (KX : K.In s.heap) (hns : s.heap.Ns mainGlobals mg) (hb : s.heap.Ns builtinsNs mb) (hbb : ∀ x : Str, x ≠ "__name__" → mb x = bootBuiltins x) (hlim : s.heap.NoLimit) (hg : s.gens = #[])
    (ha : s.heap.get? a = some { cls := .type "list", data := .seq vs.toArray }) (hi : IntsAre vs ns) (hl : ns.length ≤ sizeLine) (hr : Room k callerA)
    (F : ∀ base : Heap, K.In base → base.Ns mainGlobals mg → FnG P w K mg base k fa fd [x] sp) (hbind : ∀ (s : Shared) (u : Value), BindsTo s fd ⟨[u], []⟩ [(x, u)])
    (hsp : ∀ H : Hp, Only H → SqL K H a (ns.map V.int) → sp [.ref a] H (fun v _ => v = .bl true) fun _ _ _ => False) :
    codeAny (model P w) callerA (.call (.ref fa) ⟨[.ref a], []⟩) (fun r s' => r = .ok (.ret (.bool true)) ∧ OldK s.heap s'.heap ∧ s'.os = s.os ∧ AllBare s'.gens) s := by
  have hT : ∀ {b : Addr} {u : HO}, toldS K a vs ns b = some u → b = a ∧ K.lookup a = none ∧ u = .frz { cls := .type "list", data := .seq vs.toArray } (.lst (ns.map V.int)) := toldS_some
  have hN : ∀ {b : Addr}, ¬ (b = a ∧ K.lookup a = none) → toldS K a vs ns b = none := toldS_none
  have hS : SqL K (toldS K a vs ns) a (ns.map V.int) := by
    cases hk : K.lookup a with
    | none => exact .inl (.inr ⟨_, if_pos ⟨rfl, by rw [hk]; rfl⟩⟩)
    | some o =>
      have e := KX a o hk
      rw [ha] at e
      cases e
      exact .inr ⟨_, vs.toArray, _, hk, rfl, rfl, rfl, by rw [List.size_toArray, hi.length]; exact hl, by simpa using vals_ints hi⟩
  generalize toldS K a vs ns = H at hT hN hS
  have only : Only H := fun b => by
    cases e : H b with
    | none => exact .inl rfl
    | some u => exact .inr ⟨_, _, by rw [(hT e).2.2]⟩
  have notDict : ∀ {b : Addr} {o : Obj} {es : Array DictEntry} {n : Nat}, s.heap.get? b = some o → o.data = .dict es n → H b = none := fun {b o es n} e d => hN fun z => by
    obtain ⟨rfl, _⟩ := z
    rw [ha] at e
    cases e
    cases (show Data.seq vs.toArray _ = Data.dict es n from d)
  have names : ∀ {b : Addr} {m : Str → Option Value}, s.heap.Ns b m → (hidT s.heap H).Ns b m := fun z => let ⟨o, es, n, e, d, r⟩ := z; ⟨o, es, n, hidT_get e (notDict e d), d, r⟩
  have inB : K.In (hidT s.heap H) := fun b o e => hidT_get (KX b o e) (hN fun z => by rw [← z.1, e] at z; cases z.2)
  have md : Mod K mg (hidT s.heap H) := ⟨inB, names hns, ⟨mb, names hb, hbb⟩, let ⟨m, z1, z2⟩ := hlim; ⟨m, names z1, z2⟩⟩
  have hok : HOk P w H s.heap := fun b u e => by
    obtain ⟨rfl, _, rfl⟩ := hT e
    exact ⟨ha, by rw [List.length_map]; exact hl, vs, _, vals_ints hi, ha⟩
  have env : Env0 P w K mg (hidT s.heap H) callerA [] s H := ⟨rfl, md, fun b o e => of_hidT e, Nat.le_of_eq (hidT_size _ _), trivial, fun b z => (List.not_mem_nil z).elim, hok, .of_eq hg⟩
  refine codeAny_mono ((F _ inB (names hns)).run callerA [] s H ⟨[.ref a], []⟩ [.ref a] [.ref a] _ _ rfl hr env (hbind s (.ref a)) (.cons rfl .nil) (hsp H only hS)) fun r s' z => ?_
  cases r with
  | error e => exact False.elim z
  | ok fl =>
    cases fl with
    | ret u =>
      obtain ⟨v, H', os, bare, un, hok', rv, q⟩ := z
      cases (show v = .bl true from q)
      cases (show u = Value.bool true from rv)
      refine ⟨rfl, OldK.of_keep fun b o e => ?_, os, bare⟩
      cases t : H b with
      | none => exact un.keep b o e t (List.not_mem_nil) (by simp)
      | some u =>
        obtain ⟨rfl, _, rfl⟩ := hT t
        have e2 := (hok' b _ (un.frzs b _ _ t)).1
        rw [ha] at e
        cases e
        exact e2
    | next => exact False.elim z
    | brk => exact False.elim z
    | cont => exact False.elim z
/-- the law's end, by a promise where nothing is being shown below -/
theorem walk_ofG {l : PySem.W.OpenLaw} {n k : Nat} {q : Program} {loose : List Str} {XP : (Str → Option Value) → Heap → Prop} {YP : World → Heap → Prop} {d : DefRec} {K : Params → PySem.W.Frag} {sp : World → Sp} {x : Str}
    (hn : l.most = some n) (hn2 : n ≤ sizeLine) (hdf : d.params.defaults = []) (hr : Room k callerA)
    (hY : ∀ (w : World) (h : Heap), YP w h → (K w.params).In h)
    (F : ∀ (w : World) (mg : Str → Option Value) (fa : Addr) (h : Heap), (K w.params).In h → h.Ns mainGlobals mg → mg d.name = some (.ref fa) →
      ∃ fd : FuncData, (∀ (s : Shared) (u : Value), BindsTo s fd ⟨[u], []⟩ [(x, u)]) ∧
        ∀ base : Heap, (K w.params).In base → base.Ns mainGlobals mg → FnG l.prog w (K w.params) mg base k fa fd [x] (sp w))
    (hsp : ∀ (w : World) (H : Hp) (a : Addr) (ns : List Int), ns.length ≤ n → Only H → SqL (K w.params) H a (ns.map V.int) → sp w [.ref a] H (fun v _ => v = .bl true) fun _ _ _ => False) :
    PySem.W.WalkO q loose XP YP l.row.toRowW d [] (fun f vs => PySem.call f vs) :=
  Att.attach_call hn hdf fun w s₀ s₁ mg mb fa o pm cd doc a vs ns G Y ho hd hcd hmg hobj hints hlen hg => by
    obtain ⟨fd, hb, hF⟩ := F w mg fa _ (hY w _ Y) G.T.g hmg
    exact law_callG (hY w _ Y) G.T.g G.T.b G.T.builtins G.T.nolimit hg hobj hints (Nat.le_trans hlen hn2) hr hF hb fun H hO hS => hsp w H a ns hlen hO hS
end
end Wk

set_option maxHeartbeats 4000000
/-! My own layer: comprehensions inside of comprehensions, comprehensions over zip, a loop over zip that unpacks triples, not of a list, methods that raise, errors without own __init__. -/
namespace Wk
open PySem PySem.Spec PyProof.Rows L2
/-- where a block's scope stands in -/
structure Sc (X : Cx) (sc : Scope) : Prop where
  nd : X.N.Nodup
  sc : X.env.scope = sc
section
variable {X : Cx} {e a b c elt o : Expr} {es rest : List Expr} {σ : L2.St} {H : Hp} {Q : VK} {pos p0 apos : Pos} {N G G' : List Str} {Vn : List (Nat × Str)} {sc scope : Scope}
theorem In.s (I : In X N G sc) : Sc X sc := ⟨I.nd, I.sc⟩
theorem Sc.bk (S : Sc X sc) {s : Shared} {H : Hp} {C : Addr} {cl : List (Str × Addr)} {fp : List Addr} : Sc (Bk X s H scope C cl fp) (relS scope sc) := ⟨S.nd, rel_eq S.sc C cl⟩
theorem BkOk.inS {i : Nat} {x : Str} (B : BkOk X.N Vn G' i x sc scope) (I : Sc X sc) (s : Shared) (H : Hp) (C : Addr) (cl : List (Str × Addr)) (fp : List Addr) : InB (Bk X s H scope C cl fp) Vn G' := by
  have e : (compEnvC scope cl C X.env).scope = relS scope sc := rel_eq I.sc C cl
  refine ⟨I.nd, fun p hp => ?_, fun y hy => ?_⟩
  · obtain ⟨h1, h2, h3, h4⟩ := B.lo p hp
    exact ⟨h1, by show Vis (compEnvC scope cl C X.env).scope p.2; rw [e]; exact h2, h3, h4⟩
  · obtain ⟨h1, h2, h3⟩ := B.gl y hy
    exact ⟨by show (compEnvC scope cl C X.env).scope.names.lookup y = _; rw [e]; exact h1, h2, h3⟩
theorem BkOk.pgS {i : Nat} {x : Str} {px : Pos} (B : BkOk X.N Vn G' i x sc scope) (I : Sc X sc) (s : Shared) (H : Hp) (C : Addr) (cl : List (Str × Addr)) (fp : List Addr) : PG (Bk X s H scope C cl fp) (.Name x px) (gName i) := by
  have e : (compEnvC scope cl C X.env).scope = relS scope sc := rel_eq I.sc C cl
  have l : (Bk X s H scope C cl fp).env.scope.names.lookup x = some .local := by
    show (compEnvC scope cl C X.env).scope.names.lookup x = _
    rw [e]
    exact B.own.2
  exact pg_name I.nd B.own.1 (.inl l) (.inr l)
theorem BkOk.okS {i : Nat} {x : Str} (B : BkOk X.N Vn G' i x sc scope) (I : Sc X sc) : BlkOk X.N X.env.scope scope [(x, i)] := by
  rw [I.sc]
  exact blkOk_by B.blk
/-- a block whose own name is captured by a block inside of it -/
structure BkOkC (N : List Str) (Vn : List (Nat × Str)) (G : List Str) (i : Nat) (x : Str) (sc scope : Scope) : Prop where
  lo : ∀ p ∈ Vn, N[p.1]? = some p.2 ∧ Vis (relS scope sc) p.2 ∧ (p.2 == ("__debug__" : Str)) = false ∧ (p.2 == ("__classdict__" : Str)) = false
  gl : ∀ x ∈ G, (relS scope sc).names.lookup x = some .globalImplicit ∧ (x == ("__debug__" : Str)) = false ∧ x ≠ "__name__"
  own : N[i]? = some x ∧ (relS scope sc).names.lookup x = some .cell
  cel : (scope.names.lookup x == some .cell) = true
  blk : blkC N sc scope [(x, i)] = true
theorem BkOkC.inS {i : Nat} {x : Str} (B : BkOkC X.N Vn G' i x sc scope) (I : Sc X sc) (s : Shared) (H : Hp) (C : Addr) (cl : List (Str × Addr)) (fp : List Addr) : InB (Bk X s H scope C cl fp) Vn G' := by
  have e : (compEnvC scope cl C X.env).scope = relS scope sc := rel_eq I.sc C cl
  refine ⟨I.nd, fun p hp => ?_, fun y hy => ?_⟩
  · obtain ⟨h1, h2, h3, h4⟩ := B.lo p hp
    exact ⟨h1, by show Vis (compEnvC scope cl C X.env).scope p.2; rw [e]; exact h2, h3, h4⟩
  · obtain ⟨h1, h2, h3⟩ := B.gl y hy
    exact ⟨by show (compEnvC scope cl C X.env).scope.names.lookup y = _; rw [e]; exact h1, h2, h3⟩
theorem BkOkC.pgS {i : Nat} {x : Str} {px : Pos} (B : BkOkC X.N Vn G' i x sc scope) (I : Sc X sc) (s : Shared) (H : Hp) (C : Addr) (cl : List (Str × Addr)) (fp : List Addr) : PG (Bk X s H scope C cl fp) (.Name x px) (gName i) := by
  have e : (compEnvC scope cl C X.env).scope = relS scope sc := rel_eq I.sc C cl
  have l : (Bk X s H scope C cl fp).env.scope.names.lookup x = some .cell := by
    show (compEnvC scope cl C X.env).scope.names.lookup x = _
    rw [e]
    exact B.own.2
  exact pg_name I.nd B.own.1 (.inr l) (.inl B.cel)
theorem BkOkC.okS {i : Nat} {x : Str} (B : BkOkC X.N Vn G' i x sc scope) (I : Sc X sc) : BlkOk X.N X.env.scope scope [(x, i)] := by
  rw [I.sc]
  exact blkOk_by B.blk
theorem e_lcLC {i : Nat} {x : Str} {px : Pos} (B : BkOkC X.N Vn G' i x sc scope)
    (q : wE X a σ H fun v H1 => ∃ ad xs, v = .ref ad ∧ SqL X.K H1 ad xs ∧ ∀ D, H1 D = none → LcL X Vn G' elt scope i ad xs D σ H1 fun H2 => Q (.ref D) H2)
    (I : In X N G sc := by assumption) (hc : X.calm = true := by rfl) (hs2 : ∀ z, foldedSetIterable a X.env z = pure z := by intro _; rfl) :
    wE X (.ListComp elt [⟨.Name x px, a, [], 0⟩] scope pos) σ H Q := by
  refine e_of (pe_lc (own := [(x, i)]) (g := gName i) (tt := tYes) (te := wBk X Vn G' elt scope) hc I.nd (pi_list pe) (B.okS I.s) (fun s H C cl fp => B.pgS I.s s H C cl fp) (fun _ _ _ _ _ => pts_nil) (fun s H C cl fp => pe_bk (B.inS I.s s H C cl fp)) hs2) (e_mono q fun v H1 q1 => ?_)
  obtain ⟨ad, xs, rfl, hl, q2⟩ := q1
  exact ⟨ad, rfl, ⟨xs, hl⟩, fun D hD => lcL_of (q2 D hD)⟩
theorem e_lcRC {i g : Nat} {x : Str} {px p cp : Pos} (B : BkOkC X.N Vn G' i x sc scope) (hm : X.mg "range" = none)
    (q : wE X a σ H fun v H1 => ∃ n : Nat, v = .int n ∧ n < 2 ^ 62 ∧ ∀ D, H1 D = none → LcR X Vn G' elt scope i n D σ H1 fun H2 => Q (.ref D) H2)
    (I : In X N G sc := by assumption) (hc : X.calm = true := by rfl) (hG : At G g ("range" : Str) := by repeat (first | with_reducible apply At.z | with_reducible apply At.s)) (hs : starEach [a] X.env = [(false, eval a X.env)] := by rfl) (hs2 : ∀ z, foldedSetIterable (.Call (.Name "range" p) [a] [] cp) X.env z = pure z := by intro _; rfl)
    (hs1 : starEach (a :: []) X.env = (false, eval a X.env) :: starEach [] X.env := by rfl) :
    wE X (.ListComp elt [⟨.Name x px, .Call (.Name "range" p) [a] [] cp, [], 0⟩] scope pos) σ H Q := by
  refine e_of (pe_lc (own := [(x, i)]) (g := gName i) (tt := tYes) (te := wBk X Vn G' elt scope) hc I.nd (pi_range1 (I.g hG) hm (pa_cons pe pa_nil hs1) hs) (B.okS I.s) (fun s H C cl fp => B.pgS I.s s H C cl fp) (fun _ _ _ _ _ => pts_nil) (fun s H C cl fp => pe_bk (B.inS I.s s H C cl fp)) hs2) (e_mono q fun v H1 q1 => ?_)
  obtain ⟨n, rfl, hn, q2⟩ := q1
  refine ⟨(n : Int), rfl, by omega, by omega, ?_⟩
  rw [Int.toNat_natCast]
  exact fun D hD => lcR_of (q2 D hD)
/-- [elt for x in a], a list, inside of a block -/
theorem n_lcL {i : Nat} {x : Str} {px : Pos} (S : Sc X sc) (B : BkOk X.N Vn G' i x sc scope)
    (q : wE X a σ H fun v H1 => ∃ ad xs, v = .ref ad ∧ SqL X.K H1 ad xs ∧ ∀ D, H1 D = none → LcL X Vn G' elt scope i ad xs D σ H1 fun H2 => Q (.ref D) H2)
    (hc : X.calm = true := by rfl) (hs2 : ∀ z, foldedSetIterable a X.env z = pure z := by intro _; rfl) :
    wE X (.ListComp elt [⟨.Name x px, a, [], 0⟩] scope pos) σ H Q := by
  refine e_of (pe_lc (own := [(x, i)]) (g := gName i) (tt := tYes) (te := wBk X Vn G' elt scope) hc S.nd (pi_list pe) (B.okS S) (fun s H C cl fp => B.pgS S s H C cl fp) (fun _ _ _ _ _ => pts_nil) (fun s H C cl fp => pe_bk (B.inS S s H C cl fp)) hs2) (e_mono q fun v H1 q1 => ?_)
  obtain ⟨ad, xs, rfl, hl, q2⟩ := q1
  exact ⟨ad, rfl, ⟨xs, hl⟩, fun D hD => lcL_of (q2 D hD)⟩
theorem n_lcLf {i : Nat} {x : Str} {px : Pos} (S : Sc X sc) (B : BkOk X.N Vn G' i x sc scope)
    (q : wE X a σ H fun v H1 => ∃ ad xs, v = .ref ad ∧ SqL X.K H1 ad xs ∧ ∀ D, H1 D = none → LcLf X Vn G' elt c scope i ad xs D σ H1 fun H2 => Q (.ref D) H2)
    (hc : X.calm = true := by rfl) (hs2 : ∀ z, foldedSetIterable a X.env z = pure z := by intro _; rfl) :
    wE X (.ListComp elt [⟨.Name x px, a, [c], 0⟩] scope pos) σ H Q := by
  refine e_of (pe_lc (own := [(x, i)]) (g := gName i) (tt := wBkT X Vn G' c scope) (te := wBk X Vn G' elt scope) hc S.nd (pi_list pe) (B.okS S) (fun s H C cl fp => B.pgS S s H C cl fp) (fun s H C cl fp => pts_bk (B.inS S s H C cl fp)) (fun s H C cl fp => pe_bk (B.inS S s H C cl fp)) hs2) (e_mono q fun v H1 q1 => ?_)
  obtain ⟨ad, xs, rfl, hl, q2⟩ := q1
  exact ⟨ad, rfl, ⟨xs, hl⟩, fun D hD => lcLf_of (q2 D hD)⟩
/-- [elt for x in a if c], a holds range(n) -/
theorem e_lcRvf {i : Nat} {x : Str} {px : Pos} (B : BkOk X.N Vn G' i x sc scope)
    (q : wE X a σ H fun v H1 => ∃ (ad : Addr) (n : Nat), v = .ref ad ∧ H1 ad = some (.rng 0 n) ∧ n < 2 ^ 62 ∧ ∀ D, H1 D = none → LcRf X Vn G' elt c scope i n D σ H1 fun H2 => Q (.ref D) H2)
    (I : In X N G sc := by assumption) (hc : X.calm = true := by rfl) (hs2 : ∀ z, foldedSetIterable a X.env z = pure z := by intro _; rfl) :
    wE X (.ListComp elt [⟨.Name x px, a, [c], 0⟩] scope pos) σ H Q := by
  refine e_of (pe_lc (own := [(x, i)]) (g := gName i) (tt := wBkT X Vn G' c scope) (te := wBk X Vn G' elt scope) hc I.nd (pi_rngV pe) (B.ok I) (fun s H C cl fp => B.pg I s H C cl fp) (fun s H C cl fp => pts_bk (B.inB I s H C cl fp)) (fun s H C cl fp => pe_bk (B.inB I s H C cl fp)) hs2) (e_mono q fun v H1 q1 => ?_)
  obtain ⟨ad, n, rfl, had, hn, q2⟩ := q1
  refine ⟨ad, 0, n, rfl, had, ⟨by omega, by omega, by omega, by omega⟩, ?_⟩
  rw [Int.sub_zero, Int.toNat_natCast]
  exact fun D hD => lcRf_of (q2 D hD)
/-- not a, by its truth -/
theorem e_notT (q : wE X a σ H fun x H1 => ∃ k, TruV X.K x H1 k ∧ Q (.bl (!k)) H1) : wE X (.UnaryOp .Not a pos) σ H Q := e_of (pe_notT pe) q
/-- [elt for x, y in zip(a, b)] -/
def LcZ (X : Cx) (Vn : List (Nat × Str)) (G' : List Str) (c d : Side) (elt : Expr) (scope : Scope) (i j : Nat) (va vb : Addr) (xs ys : List L2.V) (D : Addr) (σ : L2.St) (H1 : Hp) (Qd : Hp → Prop) : Prop := ∃ Pv : Nat → Hp → Prop, Pv 0 (upd H1 D (.lst [])) ∧ (∀ k H2, k ≤ min xs.length ys.length → Pv k H2 → c.sq X.K H2 va xs ∧ d.sq X.K H2 vb ys) ∧
  (∀ k u1 u2 T H2, xs[k]? = some u1 → ys[k]? = some u2 → Pv k H2 → H2 T = none → ∀ s0 H0 C cl fp, InB (Bk X s0 H0 scope C cl fp) Vn G' → wE (Bk X s0 H0 scope C cl fp) elt (((wipe σ [i, j]).set i (some u1)).set j (some u2)) (upd H2 T (.tup [u1, u2])) fun y H4 => ∃ acc, H4 D = some (.lst acc) ∧ acc.length < sizeLine ∧ Pv (k + 1) (upd H4 D (.lst (acc ++ [y])))) ∧
  ∀ H2, Pv (min xs.length ys.length) H2 → Qd H2
theorem e_lcZ (cs ds : Side) {i j g : Nat} {x y : Str} {px py pt p cp : Pos} {kt : Nat} (B : BkOk2 X.N Vn G' i j x y sc scope) (hm : X.mg "zip" = none)
    (q : wE X a σ H fun v H1 => wE X b σ H1 fun u H2 => ∃ va vb xs ys, v = .ref va ∧ u = .ref vb ∧ cs.sq X.K H2 va xs ∧ ds.sq X.K H2 vb ys ∧ ∀ D, H2 D = none → LcZ X Vn G' cs ds elt scope i j va vb xs ys D σ H2 fun H3 => Q (.ref D) H3)
    (I : In X N G sc := by assumption) (hc : X.calm = true := by rfl) (hG : At G g ("zip" : Str) := by repeat (first | with_reducible apply At.z | with_reducible apply At.s)) (hs : starEach [a, b] X.env = (false, eval a X.env) :: starEach [b] X.env := by rfl) (hpl : (backTo cp (starEach [b] X.env)).any (·.1) = false := by rfl)
    (hs1 : starEach (b :: []) X.env = (false, eval b X.env) :: starEach [] X.env := by rfl) (hs2 : ∀ z, foldedSetIterable (.Call (.Name "zip" p) [a, b] [] cp) X.env z = pure z := by intro _; rfl) :
    wE X (.ListComp elt [⟨.Tuple [.Name x px, .Name y py] kt pt, .Call (.Name "zip" p) [a, b] [] cp, [], 0⟩] scope pos) σ H Q := by
  refine e_of (pe_lc (own := [(x, i), (y, j)]) (g := gT2 X.K i j) (tt := tYes) (te := wBk X Vn G' elt scope) hc I.nd (pi_zipM (c := cs) (d := ds) (I.g hG) hm (pa_cons pe (pa_cons pe pa_nil hs1) hs) hs hpl) (B.ok I) (fun s H C cl fp => B.pg hc I s H C cl fp) (fun _ _ _ _ _ => pts_nil) (fun s H C cl fp => pe_bk (B.inB I s H C cl fp)) hs2) (e_mono q fun v H1 q1 => e_mono q1 fun u H2 q2 => ?_)
  obtain ⟨va, vb, xs, ys, rfl, rfl, sx, sy, q3⟩ := q2
  refine ⟨va, vb, xs, ys, rfl, sx, sy, fun D hD => ?_⟩
  obtain ⟨Pv, h0, hk, hb, hd⟩ := q3 D hD
  refine ⟨fun k m H => m = min xs.length ys.length - k ∧ k ≤ min xs.length ys.length ∧ Pv k H, ⟨_, rfl, Nat.zero_le _, h0⟩, ?_⟩
  rintro k m H ⟨rfl, hle, pv⟩
  obtain ⟨tx, ty⟩ := hk k H hle pv
  by_cases lt : k < min xs.length ys.length
  · have l1 : k < xs.length := by omega
    have l2 : k < ys.length := by omega
    refine .inr ⟨⟨xs, ys, xs[k], ys[k], tx, ty, List.getElem?_eq_getElem l1, List.getElem?_eq_getElem l2⟩, Pv (k + 1), fun H' p' => ⟨_, by omega, rfl, lt, p'⟩, fun w H' yl => ?_⟩
    obtain ⟨T, u1, u2, rfl, nT, rfl, y1, y2⟩ := yl
    refine ⟨T, u1, u2, rfl, SqT.of upd_same, wipe_set2 σ B.ne u1 u2, ?_⟩
    unfold tYes
    refine iteT ?_
    unfold wBk
    exact fun s0 H0 C cl fp I => hb k u1 u2 T H (y1 xs tx) (y2 ys ty) pv nT s0 H0 C cl fp I
  · have ek : k = min xs.length ys.length := by omega
    subst ek
    exact .inl ⟨⟨xs, ys, tx, ty, by omega, by omega, by omega⟩, hd H pv⟩
/-- for (x1, x2, x3), y in zip(a, b) -/
theorem s_forZ3 {nx : L2.St → Hp → Prop} {rt : VK} {bk ct : L2.St → Hp → Prop} (c d : Side) {g : Nat} {x1 x2 x3 y : Str} {i1 i2 i3 j : Nat} {body : List Stmt} {p1 p2 p3 py pt pt2 p cp pos : Pos} {kk kk2 : Nat} (hm : X.mg "zip" = none)
    (q : wE X a σ H fun v H1 => wE X b σ H1 fun u H2 => ∃ va vb xs ys, v = .ref va ∧ u = .ref vb ∧ c.sq X.K H2 va xs ∧ d.sq X.K H2 vb ys ∧ ∃ Pv : Nat → L2.St → Hp → Prop, Pv 0 σ H2 ∧ (∀ k σ H, k ≤ min xs.length ys.length → Pv k σ H → c.sq X.K H va xs ∧ d.sq X.K H vb ys) ∧
      (∀ k u1 u2 T σ H, xs[k]? = some u1 → ys[k]? = some u2 → Pv k σ H → H T = none → ∃ t v1 v2 v3, u1 = .ref t ∧ SqT X.K (upd H T (.tup [u1, u2])) t [v1, v2, v3] ∧ wL X body ⟨Pv (k + 1), rt, nx, Pv (k + 1)⟩ ((((σ.set i1 (some v1)).set i2 (some v2)).set i3 (some v3)).set j (some u2)) (upd H T (.tup [u1, u2]))) ∧ ∀ σ H, Pv (min xs.length ys.length) σ H → nx σ H)
    (I : In X N G sc := by assumption) (hc : X.calm = true := by rfl) (hA1 : At N i1 x1 := by repeat (first | with_reducible apply At.z | with_reducible apply At.s)) (hA2 : At N i2 x2 := by repeat (first | with_reducible apply At.z | with_reducible apply At.s)) (hA3 : At N i3 x3 := by repeat (first | with_reducible apply At.z | with_reducible apply At.s)) (hB : At N j y := by repeat (first | with_reducible apply At.z | with_reducible apply At.s))
    (hG : At G g ("zip" : Str) := by repeat (first | with_reducible apply At.z | with_reducible apply At.s)) (hs : starEach [a, b] X.env = (false, eval a X.env) :: starEach [b] X.env := by rfl) (hpl : (backTo cp (starEach [b] X.env)).any (·.1) = false := by rfl)
    (hs1 : starEach (b :: []) X.env = (false, eval b X.env) :: starEach [] X.env := by rfl) (hs2 : ∀ z, foldedSetIterable (.Call (.Name "zip" p) [a, b] [] cp) X.env z = pure z := by intro _; rfl) :
    wS X (.For (.Tuple [.Tuple [.Name x1 p1, .Name x2 p2, .Name x3 p3] kk2 pt2, .Name y py] kk pt) (.Call (.Name "zip" p) [a, b] [] cp) body [] pos) ⟨nx, rt, bk, ct⟩ σ H := by
  refine s_of (ps_for I.never hc (pi_zipM (c := c) (d := d) (I.g hG) hm (pa_cons pe (pa_cons pe pa_nil hs1) hs) hs hpl) (pg_tup hc (pgs_cons (pg_tup hc (pgs_cons (pg_name I.nd (I.hi hA1) (I.loc hA1) I.f) (pgs_cons (pg_name I.nd (I.hi hA2) (I.loc hA2) I.f) (pgs_cons (pg_name I.nd (I.hi hA3) (I.loc hA3) I.f) pgs_nil)))) (pgs_cons (pg_name I.nd (I.hi hB) (I.loc hB) I.f) pgs_nil))) pl hs2) (e_mono q fun v H1 q1 => e_mono q1 fun u H2 q2 => ?_)
  obtain ⟨va, vb, xs, ys, rfl, rfl, sx, sy, Pv, h0, hk, hb, hd⟩ := q2
  refine ⟨va, vb, xs, ys, rfl, sx, sy, fun k m σ H => m = min xs.length ys.length - k ∧ k ≤ min xs.length ys.length ∧ Pv k σ H, ⟨_, rfl, Nat.zero_le _, h0⟩, ?_⟩
  rintro k m σ H ⟨rfl, hle, pv⟩
  obtain ⟨tx, ty⟩ := hk k σ H hle pv
  by_cases lt : k < min xs.length ys.length
  · have l1 : k < xs.length := by omega
    have l2 : k < ys.length := by omega
    refine .inr ⟨⟨xs, ys, xs[k], ys[k], tx, ty, List.getElem?_eq_getElem l1, List.getElem?_eq_getElem l2⟩, Pv (k + 1), fun σ' H' p' => ⟨_, by omega, rfl, lt, p'⟩, fun w H' yl => ?_⟩
    obtain ⟨T, u1, u2, rfl, nT, rfl, y1, y2⟩ := yl
    obtain ⟨t, v1, v2, v3, rfl, ht, z⟩ := hb k u1 u2 T σ H (y1 xs tx) (y2 ys ty) pv nT
    exact ⟨T, [.ref t, u2], rfl, SqT.of upd_same, rfl, .ref t, [u2], rfl, t, [v1, v2, v3], rfl, ht, rfl, v1, [v2, v3], rfl, v2, [v3], rfl, v3, [], rfl, rfl, u2, [], rfl, rfl, z⟩
  · have ek : k = min xs.length ys.length := by omega
    subst ek
    exact .inl ⟨⟨xs, ys, tx, ty, by omega, by omega, by omega⟩, hd σ H pv⟩
/-! ### errors without own __init__, methods that raise -/
abbrev bmVE : List Value := [.type "ValueError", .type "Exception", .type "BaseException", .type "object"]
structure Ei (K : PySem.W.Frag) (mg : Str → Option Value) (x : Str) (C : Addr) : Prop where
  mgC : mg x = some (.ref C)
  kp : PySem.W.keepIn K (.ref C) = true
  ex : PySem.W.excIn K C bmVE "ValueError.__new__" = true
  sub : PySem.W.subIn K (.ref C) (.type "BaseException") = some true
  ty : PySem.W.typeIn K (.ref C) = some (.type "type")
theorem pmk0N {x : Str} {C : Addr} (R : Ei X.K X.mg x C) (hg : Gl X x) (hdb : (x == ("__debug__" : Str)) = false) : L2N.PMk X (.Call (.Name x p0) [] [] pos) (fun _ H Q => Q (.ref C) none H) := by
  intro pins s σ H Q I h
  refine wpAny_Call_Name_kw (ld_glob I hg R.mgC ?_ hdb)
  refine PySem.W.callWith_K0 I.kIn R.kp ?_
  obtain ⟨bm, N, nm, qn, bs, hdct, sn, sub, ab, col, dd, k0, k1, k2, k3, k5, mN, hC, hN, hni, T⟩ := exc_obj I.kIn R.ex
  refine wpAny_call_exc_subT F.excBase_ValueError T hC hN hni (fun h' e hm => ?_) (Nat.zero_le _)
  exact L2N.mk_of I hm (raises_own R.sub R.ty) h (I.hok.gone hm.new)
/-- raise C() -/
theorem s_raise0 {nx : L2.St → Hp → Prop} {rt : VK} {bk ct : L2.St → Hp → Prop} {g : Nat} {x : Str} {C : Addr} {W : WX} {pos' : Pos} (R : Ei X.K X.mg x C) (tk : L2N.Takes X W) (q : W (.ref C) none σ H)
    (I : In X N G sc := by assumption) (hG : At G g x := by repeat (first | with_reducible apply At.z | with_reducible apply At.s)) (hc : X.calm = true := by rfl) :
    wS X (.Raise (some (.Call (.Name x p0) [] [] pos)) none pos') ⟨nx, rt, bk, ct⟩ σ H :=
  s_of (L2N.ps_raise hc tk (pmk0N R (I.g hG) (I.gd hG))) q
structure MtN (P : Program) (w : World) (K : PySem.W.Frag) (mg : Str → Option Value) (base : Heap) (k : Nat) (C : Addr) (m : Str) (sp : Sp) : Prop where
  ex : ∃ (f : Addr) (fd : FuncData) (ps : List Str), FnOk P w K mg base (L2N.CX P w) k f fd ps sp ∧ Meth K C m f ∧ Binds K fd ps [] ∧ Cls K C
theorem e_methN {k n : Nat} {m : Str} {C : Addr} {pl : Sem Bool} {sp : Sp} {W : WX} (F : MtN X.prog X.w X.K X.mg X.base k C m sp) (tk : L2N.Takes X W) (hr : Room n X.A) (hk : k ≤ n)
    (q : wE X o σ H fun x H1 => ∃ a dx fs, x = .ref a ∧ H1 a = some (.ins C dx fs) ∧ fs.lookup m = none ∧ wA X (e :: es) σ H1 fun vs H2 => sp (x :: vs) H2 Q (fun cls d H' => W cls d σ H'))
    (hst : starEach (e :: es) X.env = (false, eval e X.env) :: starEach es X.env := by rfl) (hpl : (backTo pos (starEach es X.env)).any (·.1) = false := by rfl)
    (ht : eval (.Call (.Attribute o m apos) (e :: es) [] pos) X.env = (do let ov ← eval o X.env; standAt apos.atName; let (f, first) ← holding [ov] (getMethod ov m pl); callWith pos f first (backTo pos (starEach (e :: es) X.env)) (backToKw pos (keywordEach [] X.env))) := by rfl) :
    wE X (.Call (.Attribute o m apos) (e :: es) [] pos) σ H Q := by
  obtain ⟨f, fd, ps, F0, M, hb, c⟩ := F.ex
  refine e_of (t := fun σ H Q => wE X o σ H fun x H1 => ∃ a dx fs, x = .ref a ∧ H1 a = some (.ins C dx fs) ∧ fs.lookup m = none ∧ wA X (e :: es) σ H1 fun vs H2 => sp (x :: vs) H2 Q (fun cls d H' => W cls d σ H')) ⟨fun pins s σ H Q I h => ?_⟩ q
  refine PySem.W.methodCall_KW (pl := pl) (thn (pe.run pins s σ H _ I h) fun u s1 ⟨x, H1, I1, rx, a, dx, fs, ex, ea, l, q⟩ => ?_) ht
  subst ex
  obtain rfl : u = Value.ref a := rx
  refine getmeth_ok I1 ea c M l ?_
  refine PySem.W.callWith_K (first := [.ref a]) (h₀ := X.base) I.ok.mod.kin M.kp (thn (pa.run pos pins s1 σ H1 _ I1 q) fun us s2 ⟨vs, H2, I2, r, q2⟩ => ⟨I2.kIn, ?_⟩) hst hpl
  exact run_fnSD (us := .ref a :: us) (vs := .ref a :: vs) (E := fun σ cls d H' => W cls d σ H') F0 (hr.mono hk) hb .nil (L2N.passAt tk σ) I2 (.cons rfl r) (by rw [List.append_nil]; exact q2)
end
end Wk

set_option maxHeartbeats 4000000
/-! My own layer: errors as values: made, their fields read, asked by isinstance; repr of plain data. -/
namespace Wk
open PySem PySem.Spec PyProof.Rows L2
section
variable {X : Cx} {e o : Expr} {es : List Expr} {σ : L2.St} {H : Hp} {Q : VK} {pos p0 apos : Pos} {N G : List Str} {sc : Scope}
/-- an own class of errors with its own __init__ -/
structure Ec (P : Program) (w : World) (K : PySem.W.Frag) (mg : Str → Option Value) (base : Heap) (x : Str) (C : Addr) (sp : Sp) : Prop where
  o : OexC K C
  mgC : mg x = some (.ref C)
  ex : ∃ (fI : Addr) (fd : FuncData) (ps : List Str), FnOk P w K mg base CX0 1 fI fd ps sp ∧ PySem.W.findIn K (.ref C) "__init__" = some (some (.ref fI)) ∧ PySem.W.typeIn K (.ref fI) = some (.type "function") ∧ Binds K fd ps []
/-- C(e, ..) as a value -/
theorem e_mkX {g n : Nat} {x : Str} {C : Addr} {sp : Sp} (R : Ec X.prog X.w X.K X.mg X.base x C sp) (hr : Room n X.A) (hn : 2 ≤ n)
    (q : wA X (e :: es) σ H fun vs H1 => vs.length ≤ 1000 ∧ ∀ a, H1 a = none → sp (.ref a :: vs) (upd H1 a (exo a C none)) (fun v H2 => v = .non ∧ Q (.ref a) H2) (fun _ _ _ => False))
    (I : In X N G sc := by assumption) (hG : At G g x := by repeat (first | with_reducible apply At.z | with_reducible apply At.s))
    (he : starEach (e :: es) X.env = (false, eval e X.env) :: starEach es X.env := by rfl) (hpl : (backTo pos (starEach es X.env)).any (·.1) = false := by rfl) : wE X (.Call (.Name x p0) (e :: es) [] pos) σ H Q := by
  have hg := I.g hG
  have hdb := I.gd hG
  refine e_of (t := fun σ H Q => wA X (e :: es) σ H fun vs H1 => vs.length ≤ 1000 ∧ ∀ a, H1 a = none → sp (.ref a :: vs) (upd H1 a (exo a C none)) (fun v H2 => v = .non ∧ Q (.ref a) H2) (fun _ _ _ => False)) ⟨fun pins s σ H Q I h => ?_⟩ q
  obtain ⟨fI, fd, ps, F0, hi, ht, hb⟩ := R.ex
  obtain ⟨_, _, _, _, bm, _, _, _, _, _, _, _, _, _, _, hC, hbm⟩ := R.o.cls
  refine wpAny_Call_Name_kw (ld_glob I hg R.mgC ?_ hdb)
  refine PySem.W.callWith_K (h₀ := X.base) I.ok.mod.kin R.o.kC (thn (pa.run pos pins s σ H _ I h) fun us s1 ⟨vs, H1, I1, r1, hl, q1⟩ => ⟨I1.kIn, ?_⟩) he hpl
  show wpAny _ _ (call (.ref C) us) _ _ _
  obtain ⟨hp, g, dr, tk, os⟩ := s1
  have hget0 : ((hp.push (PySem.W.kdv_tup us)).push (PySem.HandSPX.excO C hp.objs.size)).get? (hp.objs.size + 1) = some (PySem.HandSPX.excO C hp.objs.size) := by heap_get
  let a := hp.objs.size + 1
  have na : H1 a = none := I1.hok.fresh (Nat.le_succ _)
  let hp2 := (hp.push (PySem.W.kdv_tup us)).push (PySem.HandSPX.excO C hp.objs.size)
  have kk : ∀ b o, hp.get? b = some o → hp2.get? b = some o := fun b o z => Heap.get?_push_of_some _ (Heap.get?_push_of_some _ z)
  have hget : hp2.get? a = some (PySem.HandSPX.excO C hp.objs.size) := hget0
  have I2 : Inv X pins σ (upd H1 a (exo a C none)) ⟨hp2, g, dr, tk, os⟩ := I1.laid (t' := tk) (h' := hp2) kk (Nat.le_succ _) (exo_ok hget)
  have r2 : Vals (V.ref a :: vs) (Value.ref a :: us) := .cons rfl r1
  have lu : us.length ≤ 1000 := by rw [← r1.length]; exact hl
  have hq := q1 a na
  have lp : (Value.ref a :: us).length = ps.length := by
    have z1 := r2.length
    rw [F0.len _ _ _ _ hq] at z1
    exact z1.symm
  have bind : BindsTo ⟨hp2, g, dr, tk, os⟩ fd ⟨Value.ref a :: us, []⟩ (ps.zip (Value.ref a :: us)) := by
    have z1 := hb ⟨hp2, g, dr, tk, os⟩ (Value.ref a :: us) I2.kIn (by rw [List.append_nil]; exact lp)
    rwa [List.append_nil] at z1
  have room : Room 1 (X.A.under (.builtin "type.__call__" ⟨.ref C :: us, []⟩)) := (hr.mono hn).make C us []
  have go := F0.run _ X.stack _ _ ⟨Value.ref a :: us, []⟩ (Value.ref a :: us) (V.ref a :: vs) _ (fun _ _ _ => False) room (I2.env0.make C us []) bind r2 hq
  refine wpAny_call (PySem.HandSPX.call_own F.excBase_ValueError (fun Y => PySem.HandSPX.refsVE_contains Y bm hbm) (I1.kIn _ _ hC) (PySem.W.looks_findIn I1.kIn hi) (fun self => PySem.W.bind_fn I1.kIn self ht) (by rw [sizeLine_eq]; omega) (codeAny_mono go fun r s' back => ?_))
  cases r with
  | error er => exact False.elim back
  | ok fl =>
    cases fl with
    | ret u =>
      obtain ⟨v', H', I', rz, e1, q2⟩ := I2.after back
      subst e1
      exact ⟨rz, .ref a, H', I', rfl, q2⟩
    | next => exact False.elim back
    | brk => exact False.elim back
    | cont => exact False.elim back
/-- C() as a value, C without own __init__ -/
theorem e_mk0 {g : Nat} {x : Str} {C : Addr} (R : Ei X.K X.mg x C) (q : ∀ a, H a = none → Q (.ref a) (upd H a (exo a C none)))
    (I : In X N G sc := by assumption) (hG : At G g x := by repeat (first | with_reducible apply At.z | with_reducible apply At.s)) : wE X (.Call (.Name x p0) [] [] pos) σ H Q := by
  have hg := I.g hG
  have hdb := I.gd hG
  refine e_of (t := fun σ H Q => ∀ a, H a = none → Q (.ref a) (upd H a (exo a C none))) ⟨fun pins s σ H Q I h => ?_⟩ q
  refine wpAny_Call_Name_kw (ld_glob I hg R.mgC ?_ hdb)
  refine PySem.W.callWith_K0 I.kIn R.kp ?_
  obtain ⟨bm, N, nm, qn, bs, hdct, sn, sub, ab, col, dd, k0, k1, k2, k3, k5, mN, hC, hN, hni, T⟩ := exc_obj I.kIn R.ex
  refine wpAny_call_exc_subT F.excBase_ValueError T hC hN hni (fun h' e hm => ?_) (Nat.zero_le _)
  obtain ⟨t, he, _, _⟩ := hm.there
  have na := I.hok.gone hm.new
  exact ⟨.ref e, _, I.laidN (t' := _) hm.keeps hm.new na (exo_ok he), rfl, h e na⟩
/-- e.f of an error that is held -/
theorem e_xA {C : Addr} {f : Str} (T : XfC X.K C) (hno : PySem.W.findIn X.K (.ref C) f = some none)
    (q : wE X e σ H fun x H1 => ∃ (a dd : Addr) (fs : List (Str × V)) (v : V), x = .ref a ∧ H1 a = some (exo a C (some dd)) ∧ H1 dd = some (exd dd fs) ∧ fs.lookup f = some v ∧ Q v H1) (hb : attributeBase e f X.env (eval e X.env) = eval e X.env := by rfl) :
    wE X (.Attribute e f pos) σ H Q := by
  refine e_of (t := fun σ H Q => wE X e σ H fun x H1 => ∃ (a dd : Addr) (fs : List (Str × V)) (v : V), x = .ref a ∧ H1 a = some (exo a C (some dd)) ∧ H1 dd = some (exd dd fs) ∧ fs.lookup f = some v ∧ Q v H1) ⟨fun pins s σ H Q I h => ?_⟩ q
  refine attr_of hb (thn (pe.run pins s σ H _ I h) fun u s1 hh => ?_)
  obtain ⟨x, H1, I1, rx, a, dd, fs, v, ex, ea, ed, l, q⟩ := hh
  subst ex
  obtain rfl : u = Value.ref a := rx
  obtain ⟨t1, ho⟩ := exo_at I1.hok ea
  obtain ⟨mA, hns, hr⟩ := exd_at I1.hok ed
  obtain ⟨od, hod, hl⟩ := lookIn_ns hns
  obtain ⟨u, hu, ru⟩ := RelO.some_of (v := v) (o := mA f) (by rw [← l]; exact hr f)
  have J : PySem.W.InstAt s1.heap a { cls := .ref C, dict := some dd, data := .fields #[.ref t1, .none, .none, .none, .bool false, .none] } C (some od) := ⟨ho, rfl, rfl, hod⟩
  exact HandSPX.exc_get I1.kIn J T.ga T.gg T.exC (PySem.W.findObj_own T.hdC hno rfl (by rw [hl, hu])) (handed_of ru) ⟨v, H1, I1.tok _, ru, q⟩
/-- an error that is held, with its fields -/
def ErrV (H : Hp) (a C : Addr) (fv : List (Str × V)) : Prop := (fv = [] ∧ H a = some (exo a C none)) ∨ ∃ dd fs, H a = some (exo a C (some dd)) ∧ H dd = some (exd dd fs) ∧ ∀ p ∈ fv, fs.lookup p.1 = some p.2
theorem ErrV.same {H H' : Hp} {a C : Addr} {fv : List (Str × V)} (h : ErrV H a C fv) (e : Same H H') : ErrV H' a C fv := by
  rcases h with ⟨h1, h2⟩ | ⟨dd, fs, h1, h2, h3⟩
  · exact .inl ⟨h1, e _ _ h2⟩
  · exact .inr ⟨dd, fs, e _ _ h1, e _ _ h2, h3⟩
/-- isinstance(e, c) of an error that is held -/
theorem c_isX {a C : Addr} {fv : List (Str × V)} {c : V} {cv : Value} {b : Bool} (T : EcC X.K C) (h : ErrV H a C fv) (k : ClsV c cv) (e : PySem.W.kitOne X.K (.ref C) cv = some b) (q : Q (.bl b) H) : wC X (.builtin "isinstance") [.ref a, c] H Q := by
  unfold wC
  intro pins s σ us I r
  obtain ⟨u1, u2, rfl, r1, r2⟩ := vals2 r
  cases (show u1 = Value.ref a from r1)
  have ec := k.eq r2
  subst ec
  have J : ∃ oe od, PySem.W.InstAt s.heap a oe C od := by
    rcases h with ⟨_, h⟩ | ⟨dd, fs, h, hd, _⟩
    · obtain ⟨t1, ho⟩ := exo_at I.hok h
      exact ⟨_, none, ho, rfl, rfl, trivial⟩
    · obtain ⟨t1, ho⟩ := exo_at I.hok h
      obtain ⟨mA, hns, _⟩ := exd_at I.hok hd
      obtain ⟨od, hod, _⟩ := lookIn_ns hns
      exact ⟨_, some od, ho, rfl, rfl, hod⟩
  obtain ⟨oe, od, J⟩ := J
  exact PySem.W.kia_one (PySem.W.kitx_exc (od := od) T.cl T.hg T.hk T.hs T.ha T.hn T.ht T.hm) I.kIn J e (fun z => nomatch z) fun tk => ⟨.bl b, H, I.tok tk, rfl, q⟩
/-- repr of a list or a tuple of plain data, where nothing is being shown below -/
theorem call_reprD (hg : X.A.guards = some []) (hu : X.A.units + 80 < cLine) :
    CallR X (.builtin "repr") (fun xs H Q => ∃ a d, xs = [.ref a] ∧ Dp X.K H (.ref a) d ∧ d.showable = true ∧ d.hasDict = false ∧ d.depth ≤ 70 ∧ d.shown.length ≤ sizeLine ∧ Q (.str d.shown) H) := by
  intro pins s σ H xs us Q I r h
  obtain ⟨a, d, rfl, hd, h1, h2, h3, h4, q⟩ := h
  obtain ⟨u, rfl, rr⟩ := vals1 r
  obtain ⟨as, rd⟩ := Dp.reads I d _ _ hd rr
  cases rr
  exact PySem.repr_of_reads' rd h1 (fun z => by rw [h2] at z; cases z) hg (by omega) (fun _ _ e => e) (fun h' u tk hk => ⟨.str d.shown, H, I.turnedL (ch := []) (fun b o _ e => hk b o e) (fun b hb => by cases hb), ⟨_, rfl⟩, q⟩) h4
theorem b_repr : bootBuiltins "repr" = some (.builtin "repr") := by decide +kernel
end
end Wk

set_option maxHeartbeats 4000000
/-! My own layer: a piece of a text between two places, x += e, f-strings, a class called without arguments, a text repeated, int of a text, count. -/
namespace Wk
open PySem PySem.Spec PyProof.Rows L2
section
variable {X : Cx} {a b e o : Expr} {es : List Expr} {σ : L2.St} {H : Hp} {Q : VK} {pos p0 p2 apos : Pos} {N G : List Str} {sc : Scope}
theorem e_slB {r : L2.V → Option Int → Option Int → Hp → VK → Prop} (hr : SlR X r) (q : wE X e σ H fun x H1 => wE X a σ H1 fun y H2 => ∃ j, y = .int j ∧ wE X b σ H2 fun y' H3 => ∃ j', y' = .int j' ∧ r x (some j) (some j') H3 Q) : wE X (.Subscript e (.Slice (some a) (some b) none p2) pos) σ H Q :=
  e_of (pe_slice hr pe (po_some pe) (po_some pe)) (e_mono q fun x H1 z => e_mono z fun y H2 ⟨j, e, z2⟩ => ⟨j, e, e_mono z2 fun y' H3 ⟨j', e', z3⟩ => ⟨j', e', z3⟩⟩)
theorem s_aug {nx : L2.St → Hp → Prop} {rt : VK} {bk ct : L2.St → Hp → Prop} {i : Nat} {x : Str} {pos' : Pos} {j : Int} (hs : σ[i]? = some (some (.int j))) (q : wE X e σ H fun v H' => ∃ k : Int, v = .int k ∧ nx (σ.set i (some (.int (j + k)))) H') (I : In X N G sc := by assumption) (hA : At N i x := by repeat (first | with_reducible apply At.z | with_reducible apply At.s)) :
    wS X (.AugAssign (.Name x pos') .Add e pos) ⟨nx, rt, bk, ct⟩ σ H := by
  refine s_of (ps_aug I.nd (I.hi hA) (I.loc hA) pe ip_add I.f) ⟨_, hs, e_mono q fun v H' z => ?_⟩
  obtain ⟨k, rfl, z⟩ := z
  exact ⟨j, k, rfl, rfl, z⟩
/-- the parts of an f-string -/
def jsW (X : Cx) : List Expr → Str → L2.St → Hp → (Str → Hp → Prop) → Prop
  | [], acc, _, H, Q => Q acc H
  | e :: es, acc, σ, H, Q => wE X e σ H fun x H1 => ∃ y : Str, x = .str y ∧ (acc ++ y).length ≤ sizeLine ∧ jsW X es (acc ++ y) σ H1 Q
theorem pj_w : ∀ es : List Expr, PJ X es (es.map fun e => wE X e)
  | [] => .nil
  | _ :: es => .cons pe (pj_w es)
theorem tjs_w : ∀ (es : List Expr) (acc : Str) (σ : L2.St) (H : Hp) (Q : Str → Hp → Prop), jsW X es acc σ H Q → tJs (es.map fun e => wE X e) acc σ H Q
  | [], _, _, _, _, q => q
  | e :: es, acc, σ, H, Q, q => by
    show wE X e σ H _
    refine e_mono q fun x H1 z => ?_
    obtain ⟨y, e1, e2, z⟩ := z
    exact ⟨y, e1, e2, tjs_w es _ σ H1 Q z⟩
theorem e_js {v1 v2 : Expr} {rest : List Expr} (q : jsW X (v1 :: v2 :: rest) Str.empty σ H fun out H1 => Q (.str out) H1) : wE X (.JoinedStr (v1 :: v2 :: rest) pos) σ H Q :=
  e_of (pe_joined (pj_w (v1 :: v2 :: rest))) (tjs_w _ _ σ H _ q)
theorem e_fmt (q : wE X e σ H fun x H1 => (∃ y : Str, x = .str y ∧ y.length ≤ sizeLine ∧ Q (.str y) H1) ∨ ∃ i : Int, x = .int i ∧ i.natAbs.log2 < 1920 ∧ Q (.str (toString i)) H1) : wE X (.FormattedValue e (-1) none pos) σ H Q := e_of (pe_fmt pe) q
theorem e_make0 {g : Nat} {k n : Nat} {x : Str} {C : Addr} {sp : Sp} (F : Kl X.prog X.w X.K X.mg X.base k x C sp) (hr : Room n X.A) (hk : k + 1 ≤ n)
    (q : ∀ x dx, H x = none → H dx = none → dx ≠ x → sp [.ref x] (upd (upd H dx (.own x)) x (.ins C dx [])) (fun v H2 => v = .non ∧ Q (.ref x) H2) E0)
    (I : In X N G sc := by assumption) (hG : At G g x := by repeat (first | with_reducible apply At.z | with_reducible apply At.s)) : wE X (.Call (.Name x p0) [] [] pos) σ H Q := by
  obtain ⟨f, fd, ps, F0, hm, M, hb⟩ := F.ex
  exact e_of (pe_make0 M F0 (hr.mono hk) (I.g hG) hm hb .nil pass0 (I.gd hG)) q
theorem c_intS {z : Str} {n : Int} (h : PySem.intText? z = some n) (hl : z.length ≤ 640) (q : Q (.int n) H) : wC X (.type "int") [.str z] H Q := c_of call_int_str ⟨z, n, rfl, h, hl, q⟩
theorem op_mulS : OpR X (binaryOp .Mult) (fun x y H Q => ∃ z n, x = .str z ∧ y = .int n ∧ MulOk z n ∧ Q (.str (Txt.mul z n)) H) := by
  intro pins s σ H x y v u Q I rx ry h
  obtain ⟨z, n, rfl, rfl, ok, q⟩ := h
  obtain ⟨t, rfl⟩ := rx
  obtain ⟨t', rfl⟩ := ry
  exact SB.mul ok fun t' k => ⟨.str (Txt.mul z n), H, I.tok _, ⟨_, rfl⟩, q⟩
theorem m_count {x y : Str} (q : wE X o σ H fun v H1 => ∃ x, v = .str x ∧ wE X e σ H1 fun w H2 => ∃ y, w = .str y ∧ Q (.int (Txt.count x y)) H2)
    (hs : starEach [e] X.env = [(false, eval e X.env)] := by rfl) (hbase : attributeBase o "count" X.env (eval o X.env) = eval o X.env := by rfl) (hline : (apos.endLine == pos.line) = true := by rfl) : wE X (.Call (.Attribute o "count" apos) [e] [] pos) σ H Q := by
  refine e_of (pe_m1 PySem.F.slot_str_count PySem.F.type_str_count mt_count pe pe hs hbase hline) (e_mono q fun v H1 z => ?_)
  obtain ⟨x, rfl, z⟩ := z
  refine ⟨⟨x, rfl⟩, e_mono z fun w H2 z2 => ?_⟩
  obtain ⟨y, rfl, z3⟩ := z2
  exact ⟨x, y, rfl, rfl, z3⟩
/-- try: .. except C: .. -/
theorem s_tryO {nx : L2.St → Hp → Prop} {rt : VK} {bk ct : L2.St → Hp → Prop} {g : Nat} {x : Str} {c : Value} {body suite : List Stmt} {b0 : Stmt} {np pos' : Pos} {Wout : WX} (hm : X.mg x = some c) (tk : L2N.Takes X Wout)
    (q : ∀ (pn : List (Addr × Obj)) (xe : Value → Shared → Prop), L2N.Takes (X.tr pn xe) (wMany X.K Wout ⟨nx, rt, bk, ct⟩ [(c, tsN X N G sc (b0 :: suite))]) → In (X.tr pn xe) N G sc → wL (X.tr pn xe) body ⟨nx, rt, bk, ct⟩ σ H)
    (I : In X N G sc := by assumption) (hG : At G g x := by repeat (first | with_reducible apply At.z | with_reducible apply At.s))
    (hs : X.stack = X.env :: X.outer := by rfl) (hf : X.env.frame = some X.env.locals := by rfl) :
    wS X (.Try body [.ExceptHandler (some (.Name x np)) none (b0 :: suite) pos'] [] [] pos) ⟨nx, rt, bk, ct⟩ σ H :=
  s_of (L2N.ps_try_many (tb := fun W D σ H => ∀ (pn : List (Addr × Obj)) (xe : Value → Shared → Prop), L2N.Takes (X.tr pn xe) W → In (X.tr pn xe) N G sc → wL (X.tr pn xe) body D σ H) hs hf tk
    (fun W pn xe tk' po => ⟨fun pins s σ H D Iv h => pl.run pins s σ H D Iv (h pn xe tk' (I.tr po))⟩)
    (.cons ⟨I.g hG, I.gd hG, .inl hm⟩ (fun a oe cls d pn hz hd => ⟨fun pins s σ H D Iv h => pl.run pins s σ H D Iv (h oe pn hz.zc hd I.suite (by
      obtain ⟨vs, hv⟩ := hd
      exact ⟨(a, oe), ⟨rfl, vs, hv, hz.2.2 vs hv⟩, List.mem_cons_self⟩))⟩) .nil)) q
end
end Wk

set_option maxHeartbeats 4000000
/-! My own layer: split and join of texts, displayed dicts of many text keys. -/
namespace Wk
open PySem PySem.Spec PyProof.Rows L2
section
variable {X : Cx} {a b e o : Expr} {es : List Expr} {σ : L2.St} {H : Hp} {Q : VK} {pos p0 p2 apos : Pos} {N G : List Str} {sc : Scope}
/-- o.split(e) -/
theorem e_split (q : wE X o σ H fun v H1 => ∃ x : Str, v = .str x ∧ wE X e σ H1 fun w H2 => ∃ y : Str, w = .str y ∧ (y.length == 0) = false ∧ x.length + 2 ≤ sizeLine ∧ ∀ p H3, Same H2 H3 → H2 p = none → H3 p = some (.lst ((Txt.split x y).map V.str)) → Q (.ref p) H3)
    (hs : starEach [e] X.env = [(false, eval e X.env)] := by rfl) (hbase : attributeBase o "split" X.env (eval o X.env) = eval o X.env := by rfl) (hline : (apos.endLine == pos.line) = true := by rfl) : wE X (.Call (.Attribute o "split" apos) [e] [] pos) σ H Q := by
  refine e_of (pe_split pe pe hs hbase hline) (e_mono q fun v H1 z => ?_)
  obtain ⟨x, rfl, z⟩ := z
  refine ⟨⟨x, rfl⟩, e_mono z fun w H2 z2 => ?_⟩
  obtain ⟨y, rfl, h1, h2, z3⟩ := z2
  exact ⟨x, y, rfl, rfl, h1, h2, fun p np => z3 p _ (fun c u eo => by rw [upd_ne (ne_of_none eo np)]; exact eo) np upd_same⟩
/-- o.join(e), e a list of texts -/
theorem e_join (q : wE X o σ H fun v H1 => ∃ x : Str, v = .str x ∧ wE X e σ H1 fun w H2 => ∃ (p : Addr) (ys : List Str), w = .ref p ∧ SqL X.K H2 p (ys.map V.str) ∧ (ys.map (·.length)).sum + ys.length * x.length ≤ 16777216 ∧ Q (.str (Txt.join x ys)) H2)
    (hs : starEach [e] X.env = [(false, eval e X.env)] := by rfl) (hbase : attributeBase o "join" X.env (eval o X.env) = eval o X.env := by rfl) (hline : (apos.endLine == pos.line) = true := by rfl) : wE X (.Call (.Attribute o "join" apos) [e] [] pos) σ H Q := by
  refine e_of (pe_join pe pe hs hbase hline) (e_mono q fun v H1 z => ?_)
  obtain ⟨x, rfl, z⟩ := z
  refine ⟨⟨x, rfl⟩, e_mono z fun w H2 z2 => ?_⟩
  obtain ⟨p, ys, rfl, h1, h2, z3⟩ := z2
  exact ⟨x, p, ys, rfl, rfl, .inl h1, h2, z3⟩
/-- a displayed dict of constant texts -/
abbrev IsC (e : Option Expr) (z : Str) : Prop := ∃ j p, e = some (.Constant (.str z) j p)
abbrev IsC1 (e : Expr) (z : Str) : Prop := ∃ j p, e = .Constant (.str z) j p
theorem pps_const : ∀ {ks : List (Option Expr)} {vs : List Expr} {zs ws : List Str}, Paired IsC ks zs → Paired IsC1 vs ws → ks.length = vs.length →
    ∃ trs, PPs X pos ks vs trs ∧ ∀ σ H (Q : List (V × V) → Hp → Prop), Q ((zs.zip ws).map fun z => (V.str z.1, V.str z.2)) H → tPairs trs σ H Q
  | _, _, _, _, .nil, .nil, _ => ⟨[], pps_nil, fun _ _ _ q => q⟩
  | _, _, _, _, .cons ⟨j, p, e⟩ h1, .cons ⟨j', p', e'⟩ h2, hl => by
    subst e e'
    obtain ⟨trs, h, q⟩ := pps_const h1 h2 (by simpa using hl)
    refine ⟨_, pps_cons pe pe h, fun σ H Q q0 => ?_⟩
    exact e_str (e_str (q σ H _ q0))
  | _, _, _, _, .nil, .cons _ _, hl => by cases hl
  | _, _, _, _, .cons _ _, .nil, hl => by cases hl
theorem e_dC {keys : List (Option Expr)} {vals : List Expr} {zs ws : List Str} (h1 : Paired IsC keys zs) (h2 : Paired IsC1 vals ws) (hl : keys.length = vals.length) (h0 : keys ≠ []) (h15 : keys.length ≤ 15) (h16 : (zs.zip ws).length ≤ 15)
    (q : ∀ p H2, Same H H2 → H p = none → H2 p = some (.dK (mergeK [] ((zs.zip ws).map fun z => ((Sum.inr z.1 : Key), V.str z.2)))) → Q (.ref p) H2) : wE X (.Dict keys vals pos) σ H Q := by
  obtain ⟨trs, h, hq⟩ := pps_const (X := X) (pos := pos) h1 h2 hl
  have hall : keys.all (·.isSome) = true := by
    clear hl h0 h15 h16 q h hq
    induction h1 with
    | nil => rfl
    | cons a _ ih =>
      obtain ⟨j, p, rfl⟩ := a
      simpa using ih
  refine e_of (pe_disp h hall hl h0 h15) fun p np => hq _ _ _ ?_
  refine ⟨upd_same, (zs.zip ws).map (fun z => ((Sum.inr z.1 : Key), V.str z.2)), by rw [List.map_map]; rfl, by rw [List.length_map]; exact h16, ?_⟩
  exact q p _ (fun c u eo => by rw [upd_ne (ne_of_none eo np), upd_ne (ne_of_none eo np)]; exact eo) np upd_same
theorem valV_in {κ : Type} [DecidableEq κ] {kvs : List (κ × V)} {k : κ} {v : V} (h : valV kvs k = some v) : ∃ p ∈ kvs, p.2 = v := by
  unfold valV at h
  obtain ⟨p, hp, rfl⟩ := Option.map_eq_some_iff.mp h
  exact ⟨p, List.mem_of_find?_eq_some hp, rfl⟩
theorem putK_all {κ : Type} [DecidableEq κ] {P : V → Prop} {kvs : List (κ × V)} {k : κ} {v : V} (h : ∀ p ∈ kvs, P p.2) (hv : P v) : ∀ p ∈ putK kvs k v, P p.2 := by
  intro p hp
  unfold putK at hp
  split at hp
  · obtain ⟨q, hq, rfl⟩ := List.mem_map.mp hp
    split
    · exact hv
    · exact h q hq
  · rcases List.mem_append.mp hp with hp | hp
    · exact h p hp
    · rw [List.mem_singleton.mp hp]; exact hv
theorem merge_all {P : V → Prop} : ∀ {more acc : List (Key × V)}, (∀ p ∈ acc, P p.2) → (∀ p ∈ more, P p.2) → ∀ p ∈ mergeK acc more, P p.2
  | [], _, h, _ => h
  | kv :: more, acc, h, h2 => merge_all (more := more) (acc := putK acc kv.1 kv.2) (putK_all h (h2 kv List.mem_cons_self)) fun p hp => h2 p (List.mem_cons_of_mem _ hp)
end
end Wk
namespace Wk
open PySem PySem.Spec PyProof.Rows L2
/-! ### pure values and pure tests: what is read in any heap from H on -/
@[irreducible] def PV (X : Cx) (e : Expr) (σ : L2.St) (H : Hp) (v : V) : Prop := ∀ H1 (Q : VK), Same H H1 → (∀ H2, Same H1 H2 → Q v H2) → wE X e σ H1 Q
@[irreducible] def TV (X : Cx) (e : Expr) (σ : L2.St) (H : Hp) (b : Bool) : Prop := ∀ H1 (QT : Bool → Hp → Prop), Same H H1 → (∀ H2, Same H1 H2 → QT b H2) → wT X e σ H1 QT
@[irreducible] def TWV (X : Cx) (e : Expr) (σ : L2.St) (H : Hp) (b : Bool) : Prop := ∀ H1 (QT : Bool → Hp → Prop), Same H H1 → (∀ H2, Same H1 H2 → QT b H2) → wW X e σ H1 QT
section
variable {X : Cx} {N G : List Str} {sc : Scope} {a b c e o : Expr} {es rest : List Expr} {σ : L2.St} {H : Hp} {Q : VK} {pos p0 : Pos} {QT : Bool → Hp → Prop} {u v w : V} {x y z : Bool}
theorem pv_use (h : PV X e σ H v) (q : ∀ H2, Same H H2 → Q v H2) : wE X e σ H Q := by unfold PV at h; exact h H Q (Same.refl H) q
theorem tv_use (h : TV X e σ H x) (q : ∀ H2, Same H H2 → QT x H2) : wT X e σ H QT := by unfold TV at h; exact h H QT (Same.refl H) q
theorem pv_up {H' : Hp} (h : PV X e σ H v) (s : Same H H') : PV X e σ H' v := by
  unfold PV at h ⊢
  exact fun H1 Q s1 q => h H1 Q (s.trans s1) q
theorem pv_var {i : Nat} {n : Str} (I : In X N G sc := by assumption) (hA : At N i n := by repeat (first | with_reducible apply At.z | with_reducible apply At.s)) (hσ : σ[i]? = some (some v) := by exact rfl) : PV X (.Name n pos) σ H v := by
  unfold PV
  exact fun H1 Q _ q => e_var (q H1 (Same.refl H1)) I hA hσ
theorem pv_str {n : Str} {j} : PV X (.Constant (.str n) j pos) σ H (.str n) := by
  unfold PV
  exact fun H1 Q _ q => e_str (q H1 (Same.refl H1))
theorem pv_int {n : Int} {j} : PV X (.Constant (.int n) j pos) σ H (.int n) := by
  unfold PV
  exact fun H1 Q _ q => e_int (q H1 (Same.refl H1))
theorem pv_non {j} : PV X (.Constant .none j pos) σ H .non := by
  unfold PV
  exact fun H1 Q _ q => e_non (q H1 (Same.refl H1))
theorem pv_bl {k : Bool} {j} : PV X (.Constant (.bool k) j pos) σ H (.bl k) := by
  unfold PV
  exact fun H1 Q _ q => e_bl (q H1 (Same.refl H1))
theorem pv_of (h : ∀ H1 (Q : VK), Same H H1 → (∀ H2, Same H1 H2 → Q v H2) → wE X e σ H1 Q) : PV X e σ H v := by unfold PV; exact h
theorem tv_of (h : ∀ H1 (QT : Bool → Hp → Prop), Same H H1 → (∀ H2, Same H1 H2 → QT x H2) → wT X e σ H1 QT) : TV X e σ H x := by unfold TV; exact h
theorem pv_lenS {g : Nat} {n : Str} (h : PV X e σ H (.str n)) (hn : n.length ≤ sizeLine) (hw : w = .int (n.length : Int) := by exact rfl) (hm : X.mg "len" = none := by assumption) (I : In X N G sc := by assumption) (hG : At G g ("len" : Str) := by repeat (first | with_reducible apply At.z | with_reducible apply At.s))
    (he : starEach (e :: []) X.env = (false, eval e X.env) :: starEach [] X.env := by rfl) (hpl : (backTo pos (starEach [] X.env)).any (·.1) = false := by rfl) : PV X (.Call (.Name "len" p0) [e] [] pos) σ H w := by
  subst hw
  exact pv_of fun H1 Q s q => e_callB (x := "len") hm b_len (a_cons (pv_use (pv_up h s) fun H2 s2 => a_nil (c_lenS hn (q H2 s2))) he) I hG he hpl
theorem pv_lenL {g : Nat} {l : Addr} {xs : List V} (h : PV X e σ H (.ref l)) (hl : H l = some (.lst xs)) (hw : w = .int (xs.length : Int) := by exact rfl) (hm : X.mg "len" = none := by assumption) (I : In X N G sc := by assumption) (hG : At G g ("len" : Str) := by repeat (first | with_reducible apply At.z | with_reducible apply At.s))
    (he : starEach (e :: []) X.env = (false, eval e X.env) :: starEach [] X.env := by rfl) (hpl : (backTo pos (starEach [] X.env)).any (·.1) = false := by rfl) : PV X (.Call (.Name "len" p0) [e] [] pos) σ H w := by
  subst hw
  exact pv_of fun H1 Q s q => e_callB (x := "len") hm b_len (a_cons (pv_use (pv_up h s) fun H2 s2 => a_nil (c_lenL (SqL.of (s2 _ _ (s _ _ hl))) (q H2 s2))) he) I hG he hpl
/-- x[k] of a tuple that stands -/
theorem pv_ixT {t : Addr} {xs : List V} {i : Int} (h : PV X a σ H (.ref t)) (hk : PV X b σ H (.int i)) (ht : H t = some (.tup xs)) (e : atI xs i = some v) (hs : PlainIx b := by intro _ _; rfl) : PV X (.Subscript a b pos) σ H v :=
  pv_of fun H1 Q s q => e_ix (pv_use (pv_up h s) fun H2 s2 => pv_use (pv_up hk (s.trans s2)) fun H3 s3 => ix_t (SqT.of (s3 _ _ (s2 _ _ (s _ _ ht)))) e (q H3 (s2.trans s3))) hs
theorem tv_val (h : PV X e σ H (.bl x)) (he : ∀ whole, isTrue e X.env whole = (do let v ← whole; standAt e.pos; holding [v] (truthy v)) := by intro _; rfl) : TV X e σ H x :=
  tv_of fun H1 QT s q => t_val (pv_use (pv_up h s) fun H2 s2 => ⟨x, rfl, q H2 s2⟩) he
theorem tv_var {i : Nat} {n : Str} (I : In X N G sc := by assumption) (hA : At N i n := by repeat (first | with_reducible apply At.z | with_reducible apply At.s)) (hσ : σ[i]? = some (some (.bl x)) := by exact rfl) : TV X (.Name n pos) σ H x := tv_val (pv_var I hA hσ)
theorem tv_cmp {op : CmpOp} (h1 : PV X a σ H u) (h2 : PV X b σ H w) (hr : ∀ H1 (Q : VK), Same H H1 → Q (.bl x) H1 → wK X op u w H1 Q) (hm : behindInMarks op b = false := by first | exact nomark _ | rfl) : TV X (.Compare a [op] [b] pos) σ H x :=
  tv_of fun H1 QT s q => t_cmp (pv_use (pv_up h1 s) fun H2 s2 => pv_use (pv_up h2 (s.trans s2)) fun H3 s3 => hr H3 _ ((s.trans s2).trans s3) ⟨x, rfl, q H3 (s2.trans s3)⟩) hm
theorem pv_cmp {op : CmpOp} (h1 : PV X a σ H u) (h2 : PV X b σ H w) (hr : ∀ H1 (Q : VK), Same H H1 → Q (.bl x) H1 → wK X op u w H1 Q) (hm : behindInMarks op b = false := by first | exact nomark _ | rfl) : PV X (.Compare a [op] [b] pos) σ H (.bl x) :=
  pv_of fun H1 Q s q => e_cmp (pv_use (pv_up h1 s) fun H2 s2 => pv_use (pv_up h2 (s.trans s2)) fun H3 s3 => hr H3 _ ((s.trans s2).trans s3) (q H3 (s2.trans s3))) hm
section
variable {m n : Str} {i j : Int}
theorem tv_eqS (h1 : PV X a σ H (.str m)) (h2 : PV X b σ H (.str n)) : TV X (.Compare a [.Eq] [b] pos) σ H (decide (m = n)) := tv_cmp h1 h2 fun H1 Q _ q => o_eqS q
theorem tv_neS (h1 : PV X a σ H (.str m)) (h2 : PV X b σ H (.str n)) : TV X (.Compare a [.NotEq] [b] pos) σ H (!decide (m = n)) := tv_cmp h1 h2 fun H1 Q _ q => o_neS q
theorem tv_eqI (h1 : PV X a σ H (.int i)) (h2 : PV X b σ H (.int j)) : TV X (.Compare a [.Eq] [b] pos) σ H (decide (i = j)) := tv_cmp h1 h2 fun H1 Q _ q => o_eqI q
theorem tv_neI (h1 : PV X a σ H (.int i)) (h2 : PV X b σ H (.int j)) : TV X (.Compare a [.NotEq] [b] pos) σ H (!decide (i = j)) := tv_cmp h1 h2 fun H1 Q _ q => o_neI q
theorem tv_lt (h1 : PV X a σ H (.int i)) (h2 : PV X b σ H (.int j)) : TV X (.Compare a [.Lt] [b] pos) σ H (decide (i < j)) := tv_cmp h1 h2 fun H1 Q _ q => o_lt q
theorem tv_le (h1 : PV X a σ H (.int i)) (h2 : PV X b σ H (.int j)) : TV X (.Compare a [.LtE] [b] pos) σ H (decide (i ≤ j)) := tv_cmp h1 h2 fun H1 Q _ q => o_le q
theorem tv_gt (h1 : PV X a σ H (.int i)) (h2 : PV X b σ H (.int j)) : TV X (.Compare a [.Gt] [b] pos) σ H (decide (j < i)) := tv_cmp h1 h2 fun H1 Q _ q => o_gt q
theorem tv_ge (h1 : PV X a σ H (.int i)) (h2 : PV X b σ H (.int j)) : TV X (.Compare a [.GtE] [b] pos) σ H (decide (j ≤ i)) := tv_cmp h1 h2 fun H1 Q _ q => o_ge q
theorem tv_inS {k : Nat} (h1 : PV X a σ H (.str ⟨#[k]⟩)) (h2 : PV X b σ H (.str n)) (hm : behindInMarks .In b = false := by first | exact nomark _ | rfl) : TV X (.Compare a [.In] [b] pos) σ H (decide (k ∈ n.cps.toList)) := tv_cmp h1 h2 (fun H1 Q _ q => o_inS q) hm
theorem pv_inS {k : Nat} (h1 : PV X a σ H (.str ⟨#[k]⟩)) (h2 : PV X b σ H (.str n)) (hm : behindInMarks .In b = false := by first | exact nomark _ | rfl) : PV X (.Compare a [.In] [b] pos) σ H (.bl (decide (k ∈ n.cps.toList))) := pv_cmp h1 h2 (fun H1 Q _ q => o_inS q) hm
theorem inV_str (m : Str) : ∀ zs : List Str, inV (.str m) (zs.map V.str) = decide (m ∈ zs)
  | [] => rfl
  | z :: zs => by
    have ih := inV_str m zs
    unfold inV at ih ⊢
    rw [List.map_cons, List.any_cons, ih]
    have : eqV (.str z) (.str m) = decide (m = z) := by
      show (z == m) = _
      by_cases h : m = z
      · subst h; simp
      · rw [decide_eq_false h]; simp [Ne.symm h]
    rw [this]
    by_cases h1 : m = z <;> by_cases h2 : m ∈ zs <;> simp [h1, h2]
theorem flat_strs : ∀ zs : List Str, (zs.map V.str).all flatV = true
  | [] => rfl
  | z :: zs => by rw [List.map_cons, List.all_cons, flat_strs zs]; rfl
theorem consts_a : ∀ {es : List Expr} {zs : List Str} {QA : List V → Hp → Prop}, Paired IsC1 es zs → QA (zs.map V.str) H → wA X es σ H QA
  | _, _, _, .nil, q => a_nil q
  | _, _, _, .cons ⟨j, p, e⟩ h, q => by
    subst e
    exact a_cons (e_str (consts_a h q)) (by rfl)
theorem pc1 {z : Str} {j} {p : Pos} : IsC1 (.Constant (.str z) j p) z := ⟨j, p, rfl⟩
/-- m in (.., ..), texts -/
theorem tv_inT {zs : List Str} {k : Nat} {pt : Pos} (h1 : PV X a σ H (.str m)) (h2 : Paired IsC1 es zs) (hl : es.length ≤ 1000) (hm : behindInMarks .In (.Tuple es k pt) = false := by rfl) : TV X (.Compare a [.In] [.Tuple es k pt] pos) σ H (decide (m ∈ zs)) :=
  tv_of fun H1 QT s q => t_cmp (pv_use (pv_up h1 s) fun H2 s2 => e_tup (consts_a h2 ⟨by rw [List.length_map, ← h2.length]; show _ ≤ 2 ^ 24; omega, fun p H3 e3 _ h3 => o_inT (SqT.of h3) rfl (flat_strs zs) ⟨_, rfl, by rw [inV_str]; exact q H3 (s2.trans e3)⟩⟩)) hm
theorem tv_ninT {zs : List Str} {k : Nat} {pt : Pos} (h1 : PV X a σ H (.str m)) (h2 : Paired IsC1 es zs) (hl : es.length ≤ 1000) (hm : behindInMarks .NotIn (.Tuple es k pt) = false := by rfl) : TV X (.Compare a [.NotIn] [.Tuple es k pt] pos) σ H (!decide (m ∈ zs)) :=
  tv_of fun H1 QT s q => t_cmp (pv_use (pv_up h1 s) fun H2 s2 => e_tup (consts_a h2 ⟨by rw [List.length_map, ← h2.length]; show _ ≤ 2 ^ 24; omega, fun p H3 e3 _ h3 => k_of op_notIn_seq ⟨p, zs.map V.str, rfl, .inr (SqT.of h3), rfl, flat_strs zs, ⟨_, rfl, by rw [inV_str]; exact q H3 (s2.trans e3)⟩⟩⟩)) hm
end
theorem tw_and1 (h : TV X a σ H x) : TWV X (.BoolOp .And [a] pos) σ H x := by
  unfold TWV
  exact fun H1 QT s q => w_and1 (by unfold TV at h; exact h H1 QT s q)
theorem tw_or1 (h : TV X a σ H x) : TWV X (.BoolOp .Or [a] pos) σ H x := by
  unfold TWV
  exact fun H1 QT s q => w_or1 (by unfold TV at h; exact h H1 QT s q)
theorem tw_and (h : TV X a σ H x) (h2 : TWV X (.BoolOp .And (b :: rest) pos) σ H y) : TWV X (.BoolOp .And (a :: b :: rest) pos) σ H (x && y) := by
  unfold TWV at h2 ⊢
  unfold TV at h
  refine fun H1 QT s q => w_and (h H1 _ s fun H2 s2 => ?_)
  cases x with
  | true => exact iteT (h2 H2 QT (s.trans s2) fun H3 s3 => q H3 (s2.trans s3))
  | false => exact iteF (q H2 s2)
theorem tw_or (h : TV X a σ H x) (h2 : TWV X (.BoolOp .Or (b :: rest) pos) σ H y) : TWV X (.BoolOp .Or (a :: b :: rest) pos) σ H (x || y) := by
  unfold TWV at h2 ⊢
  unfold TV at h
  refine fun H1 QT s q => w_or (h H1 _ s fun H2 s2 => ?_)
  cases x with
  | true => exact iteT (q H2 s2)
  | false => exact iteF (h2 H2 QT (s.trans s2) fun H3 s3 => q H3 (s2.trans s3))
theorem tv_w {op : BoolOp} (h : TWV X (.BoolOp op es pos) σ H x) : TV X (.BoolOp op es pos) σ H x := by
  unfold TWV at h
  exact tv_of fun H1 QT s q => t_w (h H1 QT s q)
theorem tv_not (h : TV X a σ H x) : TV X (.UnaryOp .Not a pos) σ H (!x) := by
  unfold TV at h
  exact tv_of fun H1 QT s q => t_not (h H1 _ s q)
theorem tv_isN (h1 : PV X a σ H u) (h2 : PV X b σ H .non) : TV X (.Compare a [.Is] [b] pos) σ H (decide (u = .non)) := tv_cmp h1 h2 fun H1 Q _ q => o_isN q
/-- if c: A else: B -/
theorem s_ift {nx : L2.St → Hp → Prop} {rt : VK} {bk ct : L2.St → Hp → Prop} {A B : List Stmt} (h : TV X c σ H x) (q1 : x = true → ∀ H1, Same H H1 → wL X A ⟨nx, rt, bk, ct⟩ σ H1) (q2 : x = false → ∀ H1, Same H H1 → wL X B ⟨nx, rt, bk, ct⟩ σ H1) : wS X (.If c A B pos) ⟨nx, rt, bk, ct⟩ σ H :=
  s_if (tv_use h fun H1 s => by
    cases x with
    | true => exact iteT (q1 rfl H1 s)
    | false => exact iteF (q2 rfl H1 s))
end
end Wk

set_option maxHeartbeats 4000000
namespace K26
open PySem PySem.Spec PyProof.Rows L2 Wk
def topS (i : Nat) : Stmt := PySem.Challenge.pw_heldproofs_k26_whole_sentence_errors.main.body.getD i (.Pass ⟨0, 0, 0, 0⟩)
abbrev s_BadName___init : Stmt := inClass (topS 2) 0
abbrev N_BadName___init : List Str := ["self", "name"]
abbrev P_BadName___init : List Str := ["self", "name"]
abbrev G_BadName___init : List Str := []
theorem so_BadName___init : ScOk N_BadName___init G_BadName___init (defScope s_BadName___init) := ⟨by decide +kernel, by decide +kernel, by decide +kernel⟩
theorem sc_BadName___init : FnScope N_BadName___init P_BadName___init (defScope s_BadName___init) := ⟨rfl, rfl, rfl, by decide +kernel, rfl, by decide +kernel, by decide +kernel⟩
abbrev s_NameTaken___init : Stmt := inClass (topS 3) 0
abbrev N_NameTaken___init : List Str := ["self", "name"]
abbrev P_NameTaken___init : List Str := ["self", "name"]
abbrev G_NameTaken___init : List Str := []
theorem so_NameTaken___init : ScOk N_NameTaken___init G_NameTaken___init (defScope s_NameTaken___init) := ⟨by decide +kernel, by decide +kernel, by decide +kernel⟩
theorem sc_NameTaken___init : FnScope N_NameTaken___init P_NameTaken___init (defScope s_NameTaken___init) := ⟨rfl, rfl, rfl, by decide +kernel, rfl, by decide +kernel, by decide +kernel⟩
abbrev s_BadKind___init : Stmt := inClass (topS 4) 0
abbrev N_BadKind___init : List Str := ["self", "kind"]
abbrev P_BadKind___init : List Str := ["self", "kind"]
abbrev G_BadKind___init : List Str := []
theorem so_BadKind___init : ScOk N_BadKind___init G_BadKind___init (defScope s_BadKind___init) := ⟨by decide +kernel, by decide +kernel, by decide +kernel⟩
theorem sc_BadKind___init : FnScope N_BadKind___init P_BadKind___init (defScope s_BadKind___init) := ⟨rfl, rfl, rfl, by decide +kernel, rfl, by decide +kernel, by decide +kernel⟩
abbrev s_TextError___init : Stmt := inClass (topS 5) 0
abbrev N_TextError___init : List Str := ["self", "index"]
abbrev P_TextError___init : List Str := ["self", "index"]
abbrev G_TextError___init : List Str := []
theorem so_TextError___init : ScOk N_TextError___init G_TextError___init (defScope s_TextError___init) := ⟨by decide +kernel, by decide +kernel, by decide +kernel⟩
theorem sc_TextError___init : FnScope N_TextError___init P_TextError___init (defScope s_TextError___init) := ⟨rfl, rfl, rfl, by decide +kernel, rfl, by decide +kernel, by decide +kernel⟩
abbrev s_DerivationError___init : Stmt := inClass (topS 6) 0
abbrev N_DerivationError___init : List Str := ["self", "path", "reason"]
abbrev P_DerivationError___init : List Str := ["self", "path", "reason"]
abbrev G_DerivationError___init : List Str := []
theorem so_DerivationError___init : ScOk N_DerivationError___init G_DerivationError___init (defScope s_DerivationError___init) := ⟨by decide +kernel, by decide +kernel, by decide +kernel⟩
theorem sc_DerivationError___init : FnScope N_DerivationError___init P_DerivationError___init (defScope s_DerivationError___init) := ⟨rfl, rfl, rfl, by decide +kernel, rfl, by decide +kernel, by decide +kernel⟩
abbrev s_is_number_from : Stmt := topS 8
abbrev N_is_number_from : List Str := ["value", "least"]
abbrev P_is_number_from : List Str := ["value", "least"]
abbrev G_is_number_from : List Str := ["isinstance", "int", "bool"]
theorem so_is_number_from : ScOk N_is_number_from G_is_number_from (defScope s_is_number_from) := ⟨by decide +kernel, by decide +kernel, by decide +kernel⟩
theorem sc_is_number_from : FnScope N_is_number_from P_is_number_from (defScope s_is_number_from) := ⟨rfl, rfl, rfl, by decide +kernel, rfl, by decide +kernel, by decide +kernel⟩
abbrev s_is_kind : Stmt := topS 9
abbrev N_is_kind : List Str := ["value"]
abbrev P_is_kind : List Str := ["value"]
abbrev G_is_kind : List Str := ["isinstance", "tuple", "len", "is_number_from", "str"]
theorem so_is_kind : ScOk N_is_kind G_is_kind (defScope s_is_kind) := ⟨by decide +kernel, by decide +kernel, by decide +kernel⟩
theorem sc_is_kind : FnScope N_is_kind P_is_kind (defScope s_is_kind) := ⟨rfl, rfl, rfl, by decide +kernel, rfl, by decide +kernel, by decide +kernel⟩
abbrev s_is_letter : Stmt := topS 13
abbrev N_is_letter : List Str := ["char"]
abbrev P_is_letter : List Str := ["char"]
abbrev G_is_letter : List Str := []
theorem so_is_letter : ScOk N_is_letter G_is_letter (defScope s_is_letter) := ⟨by decide +kernel, by decide +kernel, by decide +kernel⟩
theorem sc_is_letter : FnScope N_is_letter P_is_letter (defScope s_is_letter) := ⟨rfl, rfl, rfl, by decide +kernel, rfl, by decide +kernel, by decide +kernel⟩
abbrev s_is_digit : Stmt := topS 14
abbrev N_is_digit : List Str := ["char"]
abbrev P_is_digit : List Str := ["char"]
abbrev G_is_digit : List Str := []
theorem so_is_digit : ScOk N_is_digit G_is_digit (defScope s_is_digit) := ⟨by decide +kernel, by decide +kernel, by decide +kernel⟩
theorem sc_is_digit : FnScope N_is_digit P_is_digit (defScope s_is_digit) := ⟨rfl, rfl, rfl, by decide +kernel, rfl, by decide +kernel, by decide +kernel⟩
abbrev s_is_name : Stmt := topS 15
abbrev N_is_name : List Str := ["text", "char"]
abbrev P_is_name : List Str := ["text"]
abbrev G_is_name : List Str := ["len", "NAME_LENGTH", "is_letter", "is_digit"]
theorem so_is_name : ScOk N_is_name G_is_name (defScope s_is_name) := ⟨by decide +kernel, by decide +kernel, by decide +kernel⟩
theorem sc_is_name : FnScope N_is_name P_is_name (defScope s_is_name) := ⟨rfl, rfl, rfl, by decide +kernel, rfl, by decide +kernel, by decide +kernel⟩
abbrev s_word : Stmt := topS 17
abbrev N_word : List Str := ["name"]
abbrev P_word : List Str := ["name"]
abbrev G_word : List Str := ["is_name", "BadName"]
theorem so_word : ScOk N_word G_word (defScope s_word) := ⟨by decide +kernel, by decide +kernel, by decide +kernel⟩
theorem sc_word : FnScope N_word P_word (defScope s_word) := ⟨rfl, rfl, rfl, by decide +kernel, rfl, by decide +kernel, by decide +kernel⟩
abbrev s_menu : Stmt := topS 18
abbrev N_menu : List Str := ["left", "right"]
abbrev P_menu : List Str := ["left", "right"]
abbrev G_menu : List Str := []
theorem so_menu : ScOk N_menu G_menu (defScope s_menu) := ⟨by decide +kernel, by decide +kernel, by decide +kernel⟩
theorem sc_menu : FnScope N_menu P_menu (defScope s_menu) := ⟨rfl, rfl, rfl, by decide +kernel, rfl, by decide +kernel, by decide +kernel⟩
abbrev s_trade : Stmt := topS 19
abbrev N_trade : List Str := ["price", "goods", "kind"]
abbrev P_trade : List Str := ["price", "goods", "kind"]
abbrev G_trade : List Str := ["is_kind", "BadKind"]
theorem so_trade : ScOk N_trade G_trade (defScope s_trade) := ⟨by decide +kernel, by decide +kernel, by decide +kernel⟩
theorem sc_trade : FnScope N_trade P_trade (defScope s_trade) := ⟨rfl, rfl, rfl, by decide +kernel, rfl, by decide +kernel, by decide +kernel⟩
abbrev s_skip_spaces : Stmt := topS 21
abbrev N_skip_spaces : List Str := ["text", "start", "at"]
abbrev P_skip_spaces : List Str := ["text", "start"]
abbrev G_skip_spaces : List Str := []
theorem so_skip_spaces : ScOk N_skip_spaces G_skip_spaces (defScope s_skip_spaces) := ⟨by decide +kernel, by decide +kernel, by decide +kernel⟩
theorem sc_skip_spaces : FnScope N_skip_spaces P_skip_spaces (defScope s_skip_spaces) := ⟨rfl, rfl, rfl, by decide +kernel, rfl, by decide +kernel, by decide +kernel⟩
abbrev s_read_sign : Stmt := topS 22
abbrev N_read_sign : List Str := ["text", "start", "sign", "at", "char"]
abbrev P_read_sign : List Str := ["text", "start", "sign"]
abbrev G_read_sign : List Str := ["skip_spaces", "TextError"]
theorem so_read_sign : ScOk N_read_sign G_read_sign (defScope s_read_sign) := ⟨by decide +kernel, by decide +kernel, by decide +kernel⟩
theorem sc_read_sign : FnScope N_read_sign P_read_sign (defScope s_read_sign) := ⟨rfl, rfl, rfl, by decide +kernel, rfl, by decide +kernel, by decide +kernel⟩
abbrev s_read_name : Stmt := topS 23
abbrev N_read_name : List Str := ["text", "start", "stop"]
abbrev P_read_name : List Str := ["text", "start"]
abbrev G_read_name : List Str := ["is_letter", "TextError", "is_digit", "NAME_LENGTH"]
theorem so_read_name : ScOk N_read_name G_read_name (defScope s_read_name) := ⟨by decide +kernel, by decide +kernel, by decide +kernel⟩
theorem sc_read_name : FnScope N_read_name P_read_name (defScope s_read_name) := ⟨rfl, rfl, rfl, by decide +kernel, rfl, by decide +kernel, by decide +kernel⟩
abbrev s_read_number : Stmt := topS 24
abbrev N_read_number : List Str := ["text", "start", "least", "first", "stop", "most"]
abbrev P_read_number : List Str := ["text", "start", "least"]
abbrev G_read_number : List Str := ["is_digit", "int", "TextError", "NUMBER_LENGTH"]
theorem so_read_number : ScOk N_read_number G_read_number (defScope s_read_number) := ⟨by decide +kernel, by decide +kernel, by decide +kernel⟩
theorem sc_read_number : FnScope N_read_number P_read_number (defScope s_read_number) := ⟨rfl, rfl, rfl, by decide +kernel, rfl, by decide +kernel, by decide +kernel⟩
abbrev s_read_brackets : Stmt := topS 25
abbrev N_read_brackets : List Str := ["text", "start", "at", "uses", "days"]
abbrev P_read_brackets : List Str := ["text", "start"]
abbrev G_read_brackets : List Str := ["read_sign", "read_number", "skip_spaces"]
theorem so_read_brackets : ScOk N_read_brackets G_read_brackets (defScope s_read_brackets) := ⟨by decide +kernel, by decide +kernel, by decide +kernel⟩
theorem sc_read_brackets : FnScope N_read_brackets P_read_brackets (defScope s_read_brackets) := ⟨rfl, rfl, rfl, by decide +kernel, rfl, by decide +kernel, by decide +kernel⟩
abbrev s_Unfinished___init : Stmt := inClass (topS 27) 0
abbrev N_Unfinished___init : List Str := ["self"]
abbrev P_Unfinished___init : List Str := ["self"]
abbrev G_Unfinished___init : List Str := []
theorem so_Unfinished___init : ScOk N_Unfinished___init G_Unfinished___init (defScope s_Unfinished___init) := ⟨by decide +kernel, by decide +kernel, by decide +kernel⟩
theorem sc_Unfinished___init : FnScope N_Unfinished___init P_Unfinished___init (defScope s_Unfinished___init) := ⟨rfl, rfl, rfl, by decide +kernel, rfl, by decide +kernel, by decide +kernel⟩
abbrev s_Unfinished_put : Stmt := inClass (topS 27) 1
abbrev N_Unfinished_put : List Str := ["self", "atom"]
abbrev P_Unfinished_put : List Str := ["self", "atom"]
abbrev G_Unfinished_put : List Str := ["menu"]
theorem so_Unfinished_put : ScOk N_Unfinished_put G_Unfinished_put (defScope s_Unfinished_put) := ⟨by decide +kernel, by decide +kernel, by decide +kernel⟩
theorem sc_Unfinished_put : FnScope N_Unfinished_put P_Unfinished_put (defScope s_Unfinished_put) := ⟨rfl, rfl, rfl, by decide +kernel, rfl, by decide +kernel, by decide +kernel⟩
abbrev s_Unfinished_pay : Stmt := inClass (topS 27) 2
abbrev N_Unfinished_pay : List Str := ["self", "kind"]
abbrev P_Unfinished_pay : List Str := ["self", "kind"]
abbrev G_Unfinished_pay : List Str := []
theorem so_Unfinished_pay : ScOk N_Unfinished_pay G_Unfinished_pay (defScope s_Unfinished_pay) := ⟨by decide +kernel, by decide +kernel, by decide +kernel⟩
theorem sc_Unfinished_pay : FnScope N_Unfinished_pay P_Unfinished_pay (defScope s_Unfinished_pay) := ⟨rfl, rfl, rfl, by decide +kernel, rfl, by decide +kernel, by decide +kernel⟩
abbrev s_Unfinished_whole : Stmt := inClass (topS 27) 3
abbrev N_Unfinished_whole : List Str := ["self", "made", "kind", "price"]
abbrev P_Unfinished_whole : List Str := ["self"]
abbrev G_Unfinished_whole : List Str := ["reversed", "trade"]
theorem so_Unfinished_whole : ScOk N_Unfinished_whole G_Unfinished_whole (defScope s_Unfinished_whole) := ⟨by decide +kernel, by decide +kernel, by decide +kernel⟩
theorem sc_Unfinished_whole : FnScope N_Unfinished_whole P_Unfinished_whole (defScope s_Unfinished_whole) := ⟨rfl, rfl, rfl, by decide +kernel, rfl, by decide +kernel, by decide +kernel⟩
abbrev s_read_sentence : Stmt := topS 28
abbrev N_read_sentence : List Str := ["text", "start", "unfinished", "at", "inner", "sign", "kind"]
abbrev P_read_sentence : List Str := ["text", "start"]
abbrev G_read_sentence : List Str := ["Unfinished", "read_atom", "len", "skip_spaces", "read_payment", "TextError"]
theorem so_read_sentence : ScOk N_read_sentence G_read_sentence (defScope s_read_sentence) := ⟨by decide +kernel, by decide +kernel, by decide +kernel⟩
theorem sc_read_sentence : FnScope N_read_sentence P_read_sentence (defScope s_read_sentence) := ⟨rfl, rfl, rfl, by decide +kernel, rfl, by decide +kernel, by decide +kernel⟩
abbrev s_read_atom : Stmt := topS 29
abbrev N_read_atom : List Str := ["text", "start", "unfinished", "at", "stop"]
abbrev P_read_atom : List Str := ["text", "start", "unfinished"]
abbrev G_read_atom : List Str := ["skip_spaces", "Unfinished", "read_name", "word"]
theorem so_read_atom : ScOk N_read_atom G_read_atom (defScope s_read_atom) := ⟨by decide +kernel, by decide +kernel, by decide +kernel⟩
theorem sc_read_atom : FnScope N_read_atom P_read_atom (defScope s_read_atom) := ⟨rfl, rfl, rfl, by decide +kernel, rfl, by decide +kernel, by decide +kernel⟩
abbrev s_read_payment : Stmt := topS 30
abbrev N_read_payment : List Str := ["text", "start", "kind", "at"]
abbrev P_read_payment : List Str := ["text", "start"]
abbrev G_read_payment : List Str := ["read_brackets", "read_sign"]
theorem so_read_payment : ScOk N_read_payment G_read_payment (defScope s_read_payment) := ⟨by decide +kernel, by decide +kernel, by decide +kernel⟩
theorem sc_read_payment : FnScope N_read_payment P_read_payment (defScope s_read_payment) := ⟨rfl, rfl, rfl, by decide +kernel, rfl, by decide +kernel, by decide +kernel⟩
abbrev s_parse_sentence : Stmt := topS 31
abbrev N_parse_sentence : List Str := ["text", "sentence", "stop"]
abbrev P_parse_sentence : List Str := ["text"]
abbrev G_parse_sentence : List Str := ["read_sentence", "len", "TextError"]
theorem so_parse_sentence : ScOk N_parse_sentence G_parse_sentence (defScope s_parse_sentence) := ⟨by decide +kernel, by decide +kernel, by decide +kernel⟩
theorem sc_parse_sentence : FnScope N_parse_sentence P_parse_sentence (defScope s_parse_sentence) := ⟨rfl, rfl, rfl, by decide +kernel, rfl, by decide +kernel, by decide +kernel⟩
abbrev s_cell : Stmt := topS 33
abbrev N_cell : List Str := ["_law_script", "_law_k"]
abbrev P_cell : List Str := ["_law_script", "_law_k"]
abbrev G_cell : List Str := ["len", "abs"]
theorem so_cell : ScOk N_cell G_cell (defScope s_cell) := ⟨by decide +kernel, by decide +kernel, by decide +kernel⟩
theorem sc_cell : FnScope N_cell P_cell (defScope s_cell) := ⟨rfl, rfl, rfl, by decide +kernel, rfl, by decide +kernel, by decide +kernel⟩
abbrev s_pool : Stmt := topS 34
abbrev N_pool : List Str := ["_law_script", "_law_k", "_law_cell_here"]
abbrev P_pool : List Str := ["_law_script", "_law_k"]
abbrev G_pool : List Str := ["_law_cell", "int"]
theorem so_pool : ScOk N_pool G_pool (defScope s_pool) := ⟨by decide +kernel, by decide +kernel, by decide +kernel⟩
theorem sc_pool : FnScope N_pool P_pool (defScope s_pool) := ⟨rfl, rfl, rfl, by decide +kernel, rfl, by decide +kernel, by decide +kernel⟩
abbrev s_next : Stmt := topS 35
abbrev N_next : List Str := ["_law_pool_here", "_law_many", "_law_digit", "_law_mixed"]
abbrev P_next : List Str := ["_law_pool_here", "_law_many"]
abbrev G_next : List Str := ["int"]
theorem so_next : ScOk N_next G_next (defScope s_next) := ⟨by decide +kernel, by decide +kernel, by decide +kernel⟩
theorem sc_next : FnScope N_next P_next (defScope s_next) := ⟨rfl, rfl, rfl, by decide +kernel, rfl, by decide +kernel, by decide +kernel⟩
abbrev s_same : Stmt := topS 36
abbrev N_same : List Str := ["_law_told_here", "_law_due", "_law_k"]
abbrev P_same : List Str := ["_law_told_here", "_law_due"]
abbrev G_same : List Str := ["isinstance", "bool", "int", "str", "list", "tuple", "len", "range", "_law_same"]
theorem so_same : ScOk N_same G_same (defScope s_same) := ⟨by decide +kernel, by decide +kernel, by decide +kernel⟩
theorem sc_same : FnScope N_same P_same (defScope s_same) := ⟨rfl, rfl, rfl, by decide +kernel, rfl, by decide +kernel, by decide +kernel⟩
abbrev s_name : Stmt := topS 37
abbrev N_name : List Str := ["_law_pool_here", "_law_names", "_law_letters", "_law_signs", "_law_pick", "_law_name_here", "_law_at", "_law_k"]
abbrev P_name : List Str := ["_law_pool_here", "_law_names"]
abbrev G_name : List Str := ["_law_next", "len", "max", "range"]
theorem so_name : ScOk N_name G_name (defScope s_name) := ⟨by decide +kernel, by decide +kernel, by decide +kernel⟩
theorem sc_name : FnScope N_name P_name (defScope s_name) := ⟨rfl, rfl, rfl, by decide +kernel, rfl, by decide +kernel, by decide +kernel⟩
abbrev s_mode : Stmt := topS 38
abbrev N_mode : List Str := ["_law_pool_here", "_law_pick", "_law_uses"]
abbrev P_mode : List Str := ["_law_pool_here"]
abbrev G_mode : List Str := ["_law_next"]
theorem so_mode : ScOk N_mode G_mode (defScope s_mode) := ⟨by decide +kernel, by decide +kernel, by decide +kernel⟩
theorem sc_mode : FnScope N_mode P_mode (defScope s_mode) := ⟨rfl, rfl, rfl, by decide +kernel, rfl, by decide +kernel, by decide +kernel⟩
abbrev s_deep : Stmt := topS 39
abbrev N_deep : List Str := ["_law_pool_here", "_law_names", "_law_depth", "_law_pick", "_law_one", "_law_two"]
abbrev P_deep : List Str := ["_law_pool_here", "_law_names", "_law_depth"]
abbrev G_deep : List Str := ["_law_next", "len", "_law_deep", "_law_mode"]
theorem so_deep : ScOk N_deep G_deep (defScope s_deep) := ⟨by decide +kernel, by decide +kernel, by decide +kernel⟩
theorem sc_deep : FnScope N_deep P_deep (defScope s_deep) := ⟨rfl, rfl, rfl, by decide +kernel, rfl, by decide +kernel, by decide +kernel⟩
abbrev s_sentence : Stmt := topS 40
abbrev N_sentence : List Str := ["_law_pool_here", "_law_names", "_law_sentence_here", "_law_k", "_law_other", "_law_pick"]
abbrev P_sentence : List Str := ["_law_pool_here", "_law_names"]
abbrev G_sentence : List Str := ["_law_next", "_law_deep", "range", "len", "_law_mode"]
theorem so_sentence : ScOk N_sentence G_sentence (defScope s_sentence) := ⟨by decide +kernel, by decide +kernel, by decide +kernel⟩
theorem sc_sentence : FnScope N_sentence P_sentence (defScope s_sentence) := ⟨rfl, rfl, rfl, by decide +kernel, rfl, by decide +kernel, by decide +kernel⟩
abbrev s_tokens : Stmt := topS 41
abbrev N_tokens : List Str := ["_law_pool_here", "_law_sentence_here", "_law_strength", "_law_mine", "_law_tokens_here", "_law_room", "_law_pairs"]
abbrev P_tokens : List Str := ["_law_pool_here", "_law_sentence_here", "_law_strength"]
abbrev G_tokens : List Str := ["_law_tokens", "str", "_law_next", "int"]
theorem so_tokens : ScOk N_tokens G_tokens (defScope s_tokens) := ⟨by decide +kernel, by decide +kernel, by decide +kernel⟩
theorem sc_tokens : FnScope N_tokens P_tokens (defScope s_tokens) := ⟨rfl, rfl, rfl, by decide +kernel, rfl, by decide +kernel, by decide +kernel⟩
abbrev s_spaced : Stmt := topS 42
abbrev N_spaced : List Str := ["_law_pool_here", "_law_tokens_here", "_law_text", "_law_token"]
abbrev P_spaced : List Str := ["_law_pool_here", "_law_tokens_here"]
abbrev G_spaced : List Str := ["_law_next"]
theorem so_spaced : ScOk N_spaced G_spaced (defScope s_spaced) := ⟨by decide +kernel, by decide +kernel, by decide +kernel⟩
theorem sc_spaced : FnScope N_spaced P_spaced (defScope s_spaced) := ⟨rfl, rfl, rfl, by decide +kernel, rfl, by decide +kernel, by decide +kernel⟩
abbrev s_sign : Stmt := topS 43
abbrev N_sign : List Str := ["_law_pool_here", "_law_near", "_law_wide"]
abbrev P_sign : List Str := ["_law_pool_here"]
abbrev G_sign : List Str := ["_law_next", "len"]
theorem so_sign : ScOk N_sign G_sign (defScope s_sign) := ⟨by decide +kernel, by decide +kernel, by decide +kernel⟩
theorem sc_sign : FnScope N_sign P_sign (defScope s_sign) := ⟨rfl, rfl, rfl, by decide +kernel, rfl, by decide +kernel, by decide +kernel⟩
abbrev s_spoilt : Stmt := topS 44
abbrev N_spoilt : List Str := ["_law_pool_here", "_law_text", "_law_at", "_law_pick"]
abbrev P_spoilt : List Str := ["_law_pool_here", "_law_text"]
abbrev G_spoilt : List Str := ["_law_next", "len", "_law_sign"]
theorem so_spoilt : ScOk N_spoilt G_spoilt (defScope s_spoilt) := ⟨by decide +kernel, by decide +kernel, by decide +kernel⟩
theorem sc_spoilt : FnScope N_spoilt P_spoilt (defScope s_spoilt) := ⟨rfl, rfl, rfl, by decide +kernel, rfl, by decide +kernel, by decide +kernel⟩
abbrev s_frame : Stmt := topS 45
abbrev N_frame : List Str := []
abbrev P_frame : List Str := []
abbrev G_frame : List Str := []
theorem so_frame : ScOk N_frame G_frame (defScope s_frame) := ⟨by decide +kernel, by decide +kernel, by decide +kernel⟩
theorem sc_frame : FnScope N_frame P_frame (defScope s_frame) := ⟨rfl, rfl, rfl, by decide +kernel, rfl, by decide +kernel, by decide +kernel⟩
abbrev s_join : Stmt := topS 46
abbrev N_join : List Str := ["_law_frames", "_law_sentence_here", "_law_frame_here"]
abbrev P_join : List Str := ["_law_frames", "_law_sentence_here"]
abbrev G_join : List Str := []
theorem so_join : ScOk N_join G_join (defScope s_join) := ⟨by decide +kernel, by decide +kernel, by decide +kernel⟩
theorem sc_join : FnScope N_join P_join (defScope s_join) := ⟨rfl, rfl, rfl, by decide +kernel, rfl, by decide +kernel, by decide +kernel⟩
abbrev s_fold : Stmt := topS 47
abbrev N_fold : List Str := ["_law_frame_here", "_law_sentence_here", "_law_row"]
abbrev P_fold : List Str := ["_law_frame_here"]
abbrev G_fold : List Str := ["reversed"]
theorem so_fold : ScOk N_fold G_fold (defScope s_fold) := ⟨by decide +kernel, by decide +kernel, by decide +kernel⟩
theorem sc_fold : FnScope N_fold P_fold (defScope s_fold) := ⟨rfl, rfl, rfl, by decide +kernel, rfl, by decide +kernel, by decide +kernel⟩
abbrev s_bracket : Stmt := topS 48
abbrev N_bracket : List Str := ["_law_state", "_law_run", "_law_sign_here", "_law_number", "_law_digit"]
abbrev P_bracket : List Str := ["_law_state", "_law_run", "_law_sign_here"]
abbrev G_bracket : List Str := ["len"]
theorem so_bracket : ScOk N_bracket G_bracket (defScope s_bracket) := ⟨by decide +kernel, by decide +kernel, by decide +kernel⟩
theorem sc_bracket : FnScope N_bracket P_bracket (defScope s_bracket) := ⟨rfl, rfl, rfl, by decide +kernel, rfl, by decide +kernel, by decide +kernel⟩
abbrev s_after : Stmt := topS 49
abbrev N_after : List Str := ["_law_frames", "_law_sign_here", "_law_frame_here", "_law_rows"]
abbrev P_after : List Str := ["_law_frames", "_law_sign_here"]
abbrev G_after : List Str := ["len", "_law_join", "_law_fold"]
theorem so_after : ScOk N_after G_after (defScope s_after) := ⟨by decide +kernel, by decide +kernel, by decide +kernel⟩
theorem sc_after : FnScope N_after P_after (defScope s_after) := ⟨rfl, rfl, rfl, by decide +kernel, rfl, by decide +kernel, by decide +kernel⟩
abbrev s_step : Stmt := topS 50
abbrev N_step : List Str := ["_law_frames", "_law_state", "_law_run", "_law_sign_here", "_law_signs", "_law_pair", "_law_frame_here"]
abbrev P_step : List Str := ["_law_frames", "_law_state", "_law_run", "_law_sign_here"]
abbrev G_step : List Str := ["_law_bracket", "int", "len", "_law_join", "_law_frame", "_law_after"]
theorem so_step : ScOk N_step G_step (defScope s_step) := ⟨by decide +kernel, by decide +kernel, by decide +kernel⟩
theorem sc_step : FnScope N_step P_step (defScope s_step) := ⟨rfl, rfl, rfl, by decide +kernel, rfl, by decide +kernel, by decide +kernel⟩
abbrev s_rest : Stmt := topS 51
abbrev N_rest : List Str := ["_law_state", "_law_frames", "_law_rest_here"]
abbrev P_rest : List Str := ["_law_state", "_law_frames"]
abbrev G_rest : List Str := ["len"]
theorem so_rest : ScOk N_rest G_rest (defScope s_rest) := ⟨by decide +kernel, by decide +kernel, by decide +kernel⟩
theorem sc_rest : FnScope N_rest P_rest (defScope s_rest) := ⟨rfl, rfl, rfl, by decide +kernel, rfl, by decide +kernel, by decide +kernel⟩
abbrev s_read : Stmt := topS 52
abbrev N_read : List Str := ["_law_text", "_law_begin", "_law_stops", "_law_frames", "_law_state", "_law_run", "_law_at", "_law_pair"]
abbrev P_read : List Str := ["_law_text", "_law_begin", "_law_stops"]
abbrev G_read : List Str := ["_law_frame", "range", "len", "_law_join", "_law_fold", "_law_step", "_law_rest"]
theorem so_read : ScOk N_read G_read (defScope s_read) := ⟨by decide +kernel, by decide +kernel, by decide +kernel⟩
theorem sc_read : FnScope N_read P_read (defScope s_read) := ⟨rfl, rfl, rfl, by decide +kernel, rfl, by decide +kernel, by decide +kernel⟩
abbrev s_drawn : Stmt := topS 53
abbrev N_drawn : List Str := ["_law_pool_here", "_law_k", "_law_names", "_law_tokens_here", "_law_at"]
abbrev P_drawn : List Str := ["_law_pool_here"]
abbrev G_drawn : List Str := ["_law_next", "range", "_law_name", "_law_tokens", "_law_sentence", "len", "_law_spoilt", "_law_spaced"]
theorem so_drawn : ScOk N_drawn G_drawn (defScope s_drawn) := ⟨by decide +kernel, by decide +kernel, by decide +kernel⟩
theorem sc_drawn : FnScope N_drawn P_drawn (defScope s_drawn) := ⟨rfl, rfl, rfl, by decide +kernel, rfl, by decide +kernel, by decide +kernel⟩
abbrev s_told : Stmt := topS 54
abbrev N_told : List Str := ["_law_text", "e"]
abbrev P_told : List Str := ["_law_text"]
abbrev G_told : List Str := ["parse_sentence", "TextError", "isinstance", "BadKind", "BadName", "DerivationError", "NameTaken", "ValueError"]
theorem so_told : ScOk N_told G_told (defScope s_told) := ⟨by decide +kernel, by decide +kernel, by decide +kernel⟩
theorem sc_told : FnScope N_told P_told (defScope s_told) := ⟨rfl, rfl, rfl, by decide +kernel, rfl, by decide +kernel, by decide +kernel⟩
abbrev s_refused_at_all : Stmt := topS 55
abbrev N_refused_at_all : List Str := ["_law_text", "e"]
abbrev P_refused_at_all : List Str := ["_law_text"]
abbrev G_refused_at_all : List Str := ["parse_sentence", "HeldError", "isinstance", "TextError"]
theorem so_refused_at_all : ScOk N_refused_at_all G_refused_at_all (defScope s_refused_at_all) := ⟨by decide +kernel, by decide +kernel, by decide +kernel⟩
theorem sc_refused_at_all : FnScope N_refused_at_all P_refused_at_all (defScope s_refused_at_all) := ⟨rfl, rfl, rfl, by decide +kernel, rfl, by decide +kernel, by decide +kernel⟩
abbrev s_asks : Stmt := topS 56
abbrev N_asks : List Str := ["_law_pool_here", "_law_text", "_law_due", "_law_whole", "_law_longer"]
abbrev P_asks : List Str := ["_law_pool_here", "_law_text"]
abbrev G_asks : List Str := ["_law_read", "_law_same", "_law_told", "len", "_law_refused_at_all", "_law_next", "_law_sign"]
theorem so_asks : ScOk N_asks G_asks (defScope s_asks) := ⟨by decide +kernel, by decide +kernel, by decide +kernel⟩
theorem sc_asks : FnScope N_asks P_asks (defScope s_asks) := ⟨rfl, rfl, rfl, by decide +kernel, rfl, by decide +kernel, by decide +kernel⟩
abbrev s_law : Stmt := topS 57
abbrev N_law : List Str := ["_law_script", "_law_pool_here", "_law_first", "_law_second"]
abbrev P_law : List Str := ["_law_script"]
abbrev G_law : List Str := ["_law_pool", "_law_drawn", "_law_asks"]
theorem so_law : ScOk N_law G_law (defScope s_law) := ⟨by decide +kernel, by decide +kernel, by decide +kernel⟩
theorem sc_law : FnScope N_law P_law (defScope s_law) := ⟨rfl, rfl, rfl, by decide +kernel, rfl, by decide +kernel, by decide +kernel⟩
theorem bk_drawn0 : BkOk N_drawn [(0, "_law_pool_here")] ["_law_sign"] 1 "_law_k" (defScope s_drawn) (xSc (exA (stE (stB ((defBody s_drawn).getD 0 nS) 0 0)) 1)) := ⟨by decide +kernel, by decide +kernel, by decide +kernel, by decide +kernel⟩
local macro_rules | `(tactic| walk_at "bl") => `(tactic| first
  | refine e_callB (x := "len") (by assumption) b_len ?_
  | refine e_callB (x := "isinstance") (by assumption) b_isi ?_
  | refine e_callB (x := "abs") (by assumption) b_abs ?_
  | refine e_callB (x := "max") (by assumption) b_max ?_
  | refine e_callB (x := "min") (by assumption) b_min ?_
  | refine e_callTy (x := "str") (by assumption) b_str ?_
  | refine e_callTy (x := "int") (by assumption) b_int ?_)
local macro_rules | `(tactic| walk_at "gl") => `(tactic| first
  | refine e_bltn (x := "int") (v := .ty "int") (by assumption) b_int rfl ?_
  | refine e_bltn (x := "bool") (v := .ty "bool") (by assumption) b_bool rfl ?_
  | refine e_bltn (x := "str") (v := .ty "str") (by assumption) b_str rfl ?_
  | refine e_bltn (x := "tuple") (v := .ty "tuple") (by assumption) b_tuple rfl ?_
  | refine e_bltn (x := "list") (v := .ty "list") (by assumption) b_list rfl ?_)
local macro_rules | `(tactic| walk_at "st") => `(tactic| first
  | refine l_cons ?_
  | refine s_ret ?_
  | refine s_if ?_
  | refine s_set ?_
  | refine s_sub ?_
  | refine e_var ?_
  | refine e_int ?_
  | refine e_ix ?_
  | refine a_cons ?_
  | refine a_nil ?_
  | refine t_cmp ?_
  | refine t_not ?_
  | refine t_w (w_and ?_)
  | refine t_w (w_or ?_)
  | refine w_and ?_
  | refine w_or ?_
  | refine w_and1 ?_
  | refine w_or1 ?_
  | refine t_val ?_
  | refine e_str ?_
  | refine e_bl ?_
  | refine e_non ?_
  | refine e_bin ?_
  | refine e_cmp ?_
  | refine e_and ?_
  | refine e_or ?_
  | refine e_not ?_
  | refine e_one ?_
  | refine l_nil ?_
  | refine s_expr ?_
  | refine e_tup ?_
  | refine e_lst ?_
  | refine ⟨_, rfl, ?_⟩
  | ((with_reducible refine ite_t ?hc ?_); (case hc => exact rfl))
  | ((with_reducible refine ite_f ?hc ?_); (case hc => exact rfl))
  | refine o_add ?_
  | refine o_sub ?_
  | refine o_lt ?_
  | refine o_le ?_
  | refine o_gt ?_
  | refine o_ge ?_
  | refine o_eqI ?_
  | refine o_neI ?_
  | refine o_eqS ?_
  | refine o_neB ?_
  | refine o_isN ?_
  | refine o_nisB ?_
  | refine o_isB ?_
  | refine e_neg ?_
  | refine o_eqB ?_
  | refine c_int ?_
  | refine c_abs ?_
  | refine c_max rfl ?_
  | refine c_min rfl ?_
  | refine a_cons (e_fld ?_)
  | walk_at "bl"
  | walk_at "gl")
local macro_rules | `(tactic| walk_at "sts") => `(tactic| repeat walk_at "st")
section
variable {P : Program} {w : World} {K : PySem.W.Frag} {mg : Str → Option Value} {base : Heap}
def let1 (c : Nat) : Bool := decide (97 ≤ c) && decide (c ≤ 122)
def dig1 (c : Nat) : Bool := decide (48 ≤ c) && decide (c ≤ 57)
theorem and_val {X : Cx} {e : Expr} {σ : L2.St} {H : Hp} {Q : VK} {x y : Bool} (h : Q (.bl (x && y)) H) (hb : Q (.bl y) H → wE X e σ H Q) : if x = true then wE X e σ H Q else Q (.bl false) H := by
  cases x with
  | true => exact iteT (hb h)
  | false => exact iteF h
theorem chain_val {X : Cx} {e : Expr} {σ : L2.St} {H : Hp} {Q : VK} {R : V → Hp → Prop} {x y : Bool} (h : Q (.bl (x && y)) H) (hb : Q (.bl y) H → wE X e σ H R) : if x = true then wE X e σ H R else Q (.bl false) H := by
  cases x with
  | true => exact iteT (hb h)
  | false => exact iteF h
/-- one sign or none -/
def one : Option Nat → Str
  | none => ⟨#[]⟩
  | some c => sg c
def on1 (g : Nat → Bool) : Option Nat → Bool
  | none => false
  | some c => g c
theorem one_inj {o : Option Nat} {c : Nat} : one o = sg c ↔ o = some c := by
  constructor
  · intro h
    cases o with
    | none => exact absurd (congrArg (fun z : Str => z.cps.size) h) (by show ¬ (0 = 1); decide)
    | some d =>
      have := congrArg (fun z : Str => z.cps.toList) h
      have : [d] = [c] := this
      cases this
      rfl
  · rintro rfl
    rfl
def spLet (g : Nat → Bool) : Sp := fun vs H Q _ => ∃ o : Option Nat, vs = [.str (one o)] ∧ Q (.bl (on1 g o)) H
theorem sg_a : (Str.ofString "a") = sg 97 := by decide +kernel
theorem sg_z : (Str.ofString "z") = sg 122 := by decide +kernel
theorem sg_0 : (Str.ofString "0") = sg 48 := by decide +kernel
theorem sg_9 : (Str.ofString "9") = sg 57 := by decide +kernel
theorem o_le0 {X : Cx} {H : Hp} {Q : VK} {c : Nat} (q : Q (.bl false) H) : wK X .LtE (.str (sg c)) (.str (one none)) H Q := by
  refine k_of op_le_str ⟨sg c, one none, rfl, rfl, ?_⟩
  have e : (!decide (([] : List Nat) < [c])) = false := by
    rw [decide_eq_true (show ([] : List Nat) < [c] from .nil)]
    rfl
  show Q (.bl (!decide (([] : List Nat) < [c]))) H
  rw [e]
  exact q
theorem ok_letter (T : Top K mg "is_letter" s_is_letter) : Fn P w K mg base 1 "is_letter" (spLet let1) := by
  refine fn_ok T sc_is_letter so_is_letter (fun vs H Q E h => by obtain ⟨o, rfl, _⟩ := h; rfl) (fun _ _ _ _ _ _ us hl => match us, hl with | [_], _ => rfl) fun f cdv A outer s H vs Q E hr h nd => ?_
  obtain ⟨o, rfl, q⟩ := h
  refine l_cons (s_ret (e_chain (e_str (e_var ?_))))
  rw [sg_a]
  cases o with
  | none =>
    refine o_le0 ⟨_, rfl, ?_⟩
    exact iteF q
  | some c =>
    refine o_le1 ⟨_, rfl, chain_val (x := decide (97 ≤ c)) (y := decide (c ≤ 122)) q fun q => e_str ?_⟩
    rw [sg_z]
    exact o_le1 q
theorem ok_digit (T : Top K mg "is_digit" s_is_digit) : Fn P w K mg base 1 "is_digit" (spLet dig1) := by
  refine fn_ok T sc_is_digit so_is_digit (fun vs H Q E h => by obtain ⟨o, rfl, _⟩ := h; rfl) (fun _ _ _ _ _ _ us hl => match us, hl with | [_], _ => rfl) fun f cdv A outer s H vs Q E hr h nd => ?_
  obtain ⟨o, rfl, q⟩ := h
  refine l_cons (s_ret (e_chain (e_str (e_var ?_))))
  rw [sg_0]
  cases o with
  | none =>
    refine o_le0 ⟨_, rfl, ?_⟩
    exact iteF q
  | some c =>
    refine o_le1 ⟨_, rfl, chain_val (x := decide (48 ≤ c)) (y := decide (c ≤ 57)) q fun q => e_str ?_⟩
    rw [sg_9]
    exact o_le1 q
theorem let_sg {g : Nat → Bool} {c : Nat} {H : Hp} {Q : VK} {E : XK} (q : Q (.bl (g c)) H) : spLet g [.str (sg c)] H Q E := ⟨some c, rfl, q⟩
def nameB (l : List Nat) : Bool := (decide ((1 : Int) ≤ l.length) && decide ((l.length : Int) ≤ 12)) && ((l.head?.map let1).getD false && l.all fun c => let1 c || dig1 c)
def spNm : Sp := fun vs H Q _ => ∃ z : Str, vs = [.str z] ∧ z.length ≤ sizeLine ∧ Q (.bl (nameB z.cps.toList)) H
theorem ok_isname {t : Tok} (T : Top K mg "is_name" s_is_name) (mLen : mg "len" = none) (mN : mg "NAME_LENGTH" = some (.int 12 t)) (FL : Fn P w K mg base 1 "is_letter" (spLet let1)) (FD : Fn P w K mg base 1 "is_digit" (spLet dig1)) : Fn P w K mg base 2 "is_name" spNm := by
  refine fn_ok T sc_is_name so_is_name (fun vs H Q E h => ?_) (fun _ _ _ _ _ _ us hl => match us, hl with | [_], _ => rfl) fun f cdv A outer s H vs Q E hr h nd => ?_
  · obtain ⟨c, rfl, _⟩ := h
    rfl
  · obtain ⟨z, rfl, hz, q⟩ := h
    have el : (z.length : Int) = (z.cps.toList.length : Int) := by
      show (z.cps.size : Int) = _
      rw [Array.length_toList]
    refine l_cons (s_if (t_w (w_or (t_not (t_chain (e_int ?_))))))
    walk_at "sts"
    refine c_lenS hz ?_
    rw [el]
    refine o_le ⟨_, rfl, ?_⟩
    by_cases h1 : (1 : Int) ≤ z.cps.toList.length
    · refine ifT h1 ?_
      refine e_glob (v := .int 12) (by exact mN) ⟨t, rfl⟩ ?_
      refine o_le ⟨_, rfl, ?_⟩
      by_cases h2 : (z.cps.toList.length : Int) ≤ 12
      · rw [decide_eq_true h2]
        refine iteF ?_
        refine w_or1 (t_not (t_val (e_call (by exact FL) (by exact hr) (by decide) ?_)))
        walk_at "sts"
        have hl0 : 0 < z.cps.toList.length := by omega
        refine ix_s hz (atI_nat (j := 0) (v := z.cps.toList[0]) (by simp [hl0])) ?_
        refine a_nil (let_sg ?_)
        have hd : (z.cps.toList.head?.map let1).getD false = let1 z.cps.toList[0] := by
          rw [List.head?_eq_getElem?, List.getElem?_eq_getElem hl0]
          rfl
        have e0 : nameB z.cps.toList = (let1 z.cps.toList[0] && z.cps.toList.all fun c => let1 c || dig1 c) := by
          unfold nameB
          rw [decide_eq_true h1, decide_eq_true h2, hd]
          rfl
        rw [e0] at q
        cases h3 : let1 z.cps.toList[0] with
        | false =>
          rw [h3] at q
          walk_at "sts"
          exact q
        | true =>
          rw [h3] at q
          walk_at "sts"
          refine s_forS ?_
          walk_at "sts"
          refine ⟨fun k σ H' => ∃ y, σ = [some (.str z), y] ∧ H' = H ∧ ∀ i c, i < k → z.cps.toList[i]? = some c → (let1 c || dig1 c) = true, ⟨_, rfl, rfl, fun i c hi => absurd hi (Nat.not_lt_zero i)⟩, fun k c σ H' hk hW => ?_, fun σ H' hW => ?_⟩
          · obtain ⟨y, rfl, rfl, hall⟩ := hW
            have hk' : z.cps.toList[k]? = some c := by rw [Array.getElem?_toList]; exact hk
            walk_at "sts"
            refine e_call (by exact FL) (by exact hr) (by decide) (a_cons (e_var (a_nil (let_sg ?_))))
            cases h4 : let1 c with
            | true =>
              walk_at "sts"
              refine ⟨rfl, fun i c' hi hc' => ?_⟩
              rcases Nat.lt_succ_iff_lt_or_eq.mp hi with hi | rfl
              · exact hall i c' hi hc'
              · rw [hk'] at hc'
                cases hc'
                simp [h4]
            | false =>
              walk_at "sts"
              refine e_call (by exact FD) (by exact hr) (by decide) (a_cons (e_var (a_nil (let_sg ?_))))
              cases h5 : dig1 c with
              | true =>
                walk_at "sts"
                refine ⟨rfl, fun i c' hi hc' => ?_⟩
                rcases Nat.lt_succ_iff_lt_or_eq.mp hi with hi | rfl
                · exact hall i c' hi hc'
                · rw [hk'] at hc'
                  cases hc'
                  simp [h5]
              | false =>
                walk_at "sts"
                have hn : (z.cps.toList.all fun c => let1 c || dig1 c) = false := by
                  rw [List.all_eq_false]
                  exact ⟨c, List.mem_of_getElem? hk', by simp [h4, h5]⟩
                rw [hn] at q
                exact q
          · obtain ⟨y, rfl, rfl, hall⟩ := hW
            have hy : (z.cps.toList.all fun c => let1 c || dig1 c) = true := by
              rw [List.all_eq_true]
              intro c hc
              obtain ⟨i, hi, e⟩ := List.getElem_of_mem hc
              exact hall i c (by rw [Array.length_toList] at hi; exact hi) (by rw [List.getElem?_eq_getElem hi, e])
            rw [hy] at q
            walk_at "sts"
            exact q
      · rw [decide_eq_false h2]
        have e0 : nameB z.cps.toList = false := by
          unfold nameB
          rw [decide_eq_false h2]
          simp
        rw [e0] at q
        walk_at "sts"
        exact q
    · refine ifF h1 ?_
      have e0 : nameB z.cps.toList = false := by
        unfold nameB
        rw [decide_eq_false h1]
        simp
      rw [e0] at q
      walk_at "sts"
      exact q
end
section
variable {P : Program} {w : World} {K : PySem.W.Frag} {mg : Str → Option Value} {base : Heap}
def PoolAt (H : Hp) (a : Addr) : Prop := ∃ x y z : Int, H a = some (.lst [.int x, .int y, .int z])
def spCell (K : PySem.W.Frag) : Sp := fun vs H Q _ => ∃ (a : Addr) (ns : List Int) (k : Nat), vs = [.ref a, .int k] ∧ SqL K H a (ns.map V.int) ∧ ∀ z : Int, 0 ≤ z → Q (.int z) H
theorem ok_cell (T : Top K mg "_law_cell" s_cell) (mLen : mg "len" = none) (mAbs : mg "abs" = none) : Fn P w K mg base 1 "_law_cell" (spCell K) := by
  refine fn_ok T sc_cell so_cell (fun vs H Q E h => ?_) (fun _ _ _ _ _ _ us hl => match us, hl with | [_, _], _ => rfl) fun f cdv A outer s H vs Q E hr h nd => ?_
  · obtain ⟨a, ns, k, rfl, _⟩ := h
    rfl
  · obtain ⟨a, ns, k, rfl, hS, q⟩ := h
    walk_at "sts"
    refine c_lenL (by exact hS) ?_
    walk_at "sts"
    refine if2 (fun h => ?_) (fun h => ?_)
    · rw [List.length_map] at h
      have hk : k < ns.length := by omega
      walk_at "sts"
      refine ix_l (by exact hS) (atI_nat (v := .int ns[k]) (by simp [hk])) ?_
      walk_at "sts"
      exact q _ (by split <;> omega)
    · walk_at "sts"
      exact q _ (Int.le_refl _)
def spPool (K : PySem.W.Frag) : Sp := fun vs H Q _ => ∃ (a : Addr) (ns : List Int) (k : Nat), vs = [.ref a, .int k] ∧ SqL K H a (ns.map V.int) ∧ ∀ p H', Same H H' → H p = none → PoolAt H' p → Q (.ref p) H'
theorem ok_pool (T : Top K mg "_law_pool" s_pool) (F : Fn P w K mg base 1 "_law_cell" (spCell K)) (mInt : mg "int" = none) : Fn P w K mg base 2 "_law_pool" (spPool K) := by
  refine fn_ok T sc_pool so_pool (fun vs H Q E h => ?_) (fun _ _ _ _ _ _ us hl => match us, hl with | [_, _], _ => rfl) fun f cdv A outer s H vs Q E hr h nd => ?_
  · obtain ⟨a, ns, k, rfl, _⟩ := h
    rfl
  · obtain ⟨a, ns, k, rfl, hS, q⟩ := h
    walk_at "sts"
    refine e_call (by exact F) (by exact hr) (by decide) ?_
    walk_at "sts"
    refine ⟨a, ns, k, rfl, hS, fun z hz => ?_⟩
    walk_at "sts"
    refine o_pow ⟨by decide, by decide, by decide⟩ ?_
    walk_at "sts"
    refine if2 (fun h => ?_) (fun h => ?_)
    · walk_at "sts"
      refine o_mod (by decide) ?_
      walk_at "sts"
      refine ⟨by show 3 ≤ sizeLine; decide, fun p H2 e np hp => ?_⟩
      exact q p H2 e np ⟨_, _, _, hp⟩
    · walk_at "sts"
      refine ⟨by show 3 ≤ sizeLine; decide, fun p H2 e np hp => ?_⟩
      exact q p H2 e np ⟨_, _, _, hp⟩
def spNext : Sp := fun vs H Q _ => ∃ (a : Addr) (m : Int), vs = [.ref a, .int m] ∧ 0 < m ∧ m < 1073741824 ∧ PoolAt H a ∧ ∀ d H', 0 ≤ d → d < m → But a H H' → PoolAt H' a → Q (.int d) H'
theorem ok_next (T : Top K mg "_law_next" s_next) (mInt : mg "int" = none) : Fn P w K mg base 1 "_law_next" spNext := by
  refine fn_ok T sc_next so_next (fun vs H Q E h => ?_) (fun _ _ _ _ _ _ us hl => match us, hl with | [_, _], _ => rfl) fun f cdv A outer s H vs Q E hr h nd => ?_
  · obtain ⟨a, m, rfl, _⟩ := h
    rfl
  · obtain ⟨a, m, rfl, m0, m1, ⟨x, y, z, hp⟩, q⟩ := h
    walk_at "sts"
    refine ix_l (by exact SqL.of hp) rfl ?_
    walk_at "sts"
    refine if2 (fun h => ?_) (fun h => ?_)
    · walk_at "sts"
      refine ix_l (by exact SqL.of hp) rfl ?_
      walk_at "sts"
      refine o_mod m0 ?_
      walk_at "sts"
      refine ix_l (by exact SqL.of hp) rfl ?_
      walk_at "sts"
      refine o_fdiv ⟨m0, m1⟩ ?_
      walk_at "sts"
      refine set_l hp rfl ?_
      walk_at "sts"
      exact q _ _ (Int.emod_nonneg _ (by omega)) (Int.emod_lt_of_pos _ m0) (But.refl.upd) ⟨_, _, _, upd_same⟩
    · walk_at "sts"
      refine ix_l (by exact SqL.of hp) rfl ?_
      walk_at "sts"
      refine set_l hp rfl ?_
      walk_at "sts"
      refine ix_l (by exact SqL.of upd_same) rfl ?_
      walk_at "sts"
      refine ix_l (by exact SqL.of upd_same) rfl ?_
      walk_at "sts"
      refine o_mul (.inl (by decide)) ?_
      walk_at "sts"
      refine o_mod (by decide) ?_
      walk_at "sts"
      have b1 := Int.emod_nonneg (z + 7919 * (y + 1) + 13) (show (2147483647 : Int) ≠ 0 by decide)
      have b2 := Int.emod_lt_of_pos (z + 7919 * (y + 1) + 13) (show (0 : Int) < 2147483647 by decide)
      refine o_mul (.inl ⟨by omega, by omega⟩) ?_
      walk_at "sts"
      refine o_mod (by decide) ?_
      walk_at "sts"
      generalize (z + 7919 * (y + 1) + 13) % 2147483647 = u at *
      have c1 := Int.emod_nonneg (u * (u + 48271)) (show (2147483629 : Int) ≠ 0 by decide)
      have c2 := Int.emod_lt_of_pos (u * (u + 48271)) (show (0 : Int) < 2147483629 by decide)
      refine o_mul (.inl ⟨by omega, by omega⟩) ?_
      walk_at "sts"
      refine ix_l (by exact SqL.of upd_same) rfl ?_
      walk_at "sts"
      refine o_mul (.inl (by decide)) ?_
      walk_at "sts"
      refine o_mod (by decide) ?_
      walk_at "sts"
      refine o_fdiv (by decide) ?_
      walk_at "sts"
      refine o_mod m0 ?_
      walk_at "sts"
      exact q _ _ (Int.emod_nonneg _ (by omega)) (Int.emod_lt_of_pos _ m0) (But.refl.upd) ⟨_, _, _, upd_same⟩
end
theorem none_of {H H' : Hp} {p : Addr} (s : Same H H') (n : H' p = none) : H p = none := by
  cases hz : H p with
  | none => rfl
  | some o => exact absurd (s p o hz) (by rw [n]; intro z; cases z)
/-- all tuples stay -/
def TS (H H' : Hp) : Prop := ∀ t xs, H t = some (.tup xs) → H' t = some (.tup xs)
theorem Same.ts {H H' : Hp} (s : Same H H') : TS H H' := fun t xs h => s t _ h
theorem But.ts {a : Addr} {H H' : Hp} {l : List V} (b : But a H H') (ha : H a = some (.lst l)) : TS H H' := fun t xs h => b.tup ha h
theorem PoolAt.ts {a : Addr} {H H' : Hp} (h : PoolAt H a) (b : But a H H') : TS H H' := let ⟨_, _, _, e⟩ := h; But.ts b e
theorem TS.upd {a : Addr} {H : Hp} {l : List V} {o : HO} (ha : H a = some (.lst l)) : TS H (L2.upd H a o) := fun t xs h => by
  rw [upd_ne (ne_of h ha (by intro z; cases z))]
  exact h
theorem TS.trans {H H1 H2 : Hp} (a : TS H H1) (b : TS H1 H2) : TS H H2 := fun t xs h => b t xs (a t xs h)



/-! ### sentences as data -/
abbrev Pk := Option (Int × Int)
inductive Sn where
  | word (z : List Nat)
  | menu (l r : Sn)
  | trade (k : Pk) (p g : Sn)
deriving DecidableEq
abbrev Prs := List (Pk × Sn)
abbrev Frs := List (Option Sn × Prs)
def alnum (c : Nat) : Bool := let1 c || dig1 c
/-! ### the tokens -/
def skip : List Nat → List Nat
  | [] => []
  | c :: l => if c = 32 then skip l else c :: l
def mt : List Nat → List Nat → Except (List Nat) (List Nat)
  | [], l => .ok l
  | _ :: _, [] => .error []
  | c :: s, d :: l => if d = c then mt s l else .error (d :: l)
def run (g : Nat → Bool) : List Nat → List Nat
  | [] => []
  | c :: l => if g c = true then c :: run g l else []
def rest (g : Nat → Bool) : List Nat → List Nat
  | [] => []
  | c :: l => if g c = true then rest g l else c :: l
abbrev dv (l : List Nat) : Nat := NumText.digitsVal l
def mst (c : Nat) : Nat := if c = 48 then 1 else 9
def rnum (least : Nat) : List Nat → Except (List Nat) (Nat × List Nat)
  | [] => .error []
  | c :: l => if dig1 c = false ∨ c - 48 < least then .error (c :: l)
    else if mst c < (run dig1 (c :: l)).length then .error ((c :: l).drop (mst c))
    else .ok (dv (run dig1 (c :: l)), rest dig1 (c :: l))
theorem rnum_cons (least c : Nat) (l : List Nat) : rnum least (c :: l) = if dig1 c = false ∨ c - 48 < least then .error (c :: l)
    else if mst c < (run dig1 (c :: l)).length then .error ((c :: l).drop (mst c))
    else .ok (dv (run dig1 (c :: l)), rest dig1 (c :: l)) := rfl
def rname : List Nat → Except (List Nat) (List Nat × List Nat)
  | [] => .error []
  | c :: l => if let1 c = false then .error (c :: l)
    else if 12 < (run alnum (c :: l)).length then .error ((c :: l).drop 12)
    else .ok (run alnum (c :: l), rest alnum (c :: l))
theorem rname_cons (c : Nat) (l : List Nat) : rname (c :: l) = if let1 c = false then .error (c :: l)
    else if 12 < (run alnum (c :: l)).length then .error ((c :: l).drop 12)
    else .ok (run alnum (c :: l), rest alnum (c :: l)) := rfl
def rbr (l : List Nat) : Except (List Nat) (Pk × List Nat) :=
  match mt [91] (skip l) with
  | .error e => .error e
  | .ok l1 => match rnum 1 (skip l1) with
    | .error e => .error e
    | .ok (u, l2) => match mt [47] (skip l2) with
      | .error e => .error e
      | .ok l3 => match rnum 0 (skip l3) with
        | .error e => .error e
        | .ok (d, l4) => match mt [93] (skip l4) with
          | .error e => .error e
          | .ok l5 => .ok (some ((u : Int), (d : Int)), l5)
def rpay (l : List Nat) : Except (List Nat) (Pk × List Nat) :=
  match rbr l with
  | .error e => .error e
  | .ok (k, l1) => match mt [62] (skip l1) with
    | .error e => .error e
    | .ok l2 => .ok (k, l2)
theorem run_rest (g : Nat → Bool) : ∀ l, run g l ++ rest g l = l
  | [] => rfl
  | c :: l => by
    unfold run rest
    by_cases h : g c = true
    · rw [if_pos h, if_pos h, List.cons_append, run_rest g l]
    · rw [if_neg h, if_neg h]; rfl
/-- what does not go on with a sign of this sort -/
def Cut (g : Nat → Bool) (r : List Nat) : Prop := ∀ c l, r = c :: l → g c = false
theorem run_app {g : Nat → Bool} {r : List Nat} (hr : Cut g r) : ∀ {a : List Nat}, (∀ c ∈ a, g c = true) → run g (a ++ r) = a ∧ rest g (a ++ r) = r
  | [], _ => by
    cases r with
    | nil => exact ⟨rfl, rfl⟩
    | cons c l =>
      have := hr c l rfl
      rw [List.nil_append]
      unfold run rest
      rw [this]
      exact ⟨rfl, rfl⟩
  | c :: a, h => by
    have h1 := h c List.mem_cons_self
    obtain ⟨e1, e2⟩ := run_app hr (a := a) fun d hd => h d (List.mem_cons_of_mem _ hd)
    rw [List.cons_append]
    unfold run rest
    rw [if_pos h1, if_pos h1, e1, e2]
    exact ⟨rfl, rfl⟩
/-! ### the reader -/
inductive St where
  | A (p : Option Sn) (ps : Prs) (fs : Frs) (l : List Nat)
  | B (p : Sn) (ps : Prs) (fs : Frs) (l : List Nat)
inductive Re where
  | err (l : List Nat)
  | ok (s : Sn)
def put : Option Sn → Sn → Sn
  | none, a => a
  | some x, a => .menu x a
def whole (ps : Prs) (p : Sn) : Sn := ps.reverse.foldl (fun m kp => .trade kp.1 kp.2 m) p
theorem whole_snoc (ps : Prs) (k : Pk) (q p : Sn) : whole (ps ++ [(k, q)]) p = whole ps (.trade k q p) := by
  unfold whole
  rw [List.reverse_append]
  rfl
def step : St → St ⊕ Re
  | .A _ _ _ [] => .inr (.err [])
  | .A p ps fs (c :: l) =>
    if c = 32 then .inl (.A p ps fs l)
    else if c = 40 then .inl (.A none [] ((p, ps) :: fs) l)
    else match rname (c :: l) with
      | .error e => .inr (.err e)
      | .ok (n, r) => .inl (.B (put p (.word n)) ps fs r)
  | .B p ps fs [] => if fs = [] then .inr (.ok (whole ps p)) else .inr (.err [])
  | .B p ps fs (c :: l) =>
    if c = 32 then .inl (.B p ps fs l)
    else if c = 38 then .inl (.A (some p) ps fs l)
    else if c = 62 then .inl (.A none (ps ++ [(none, p)]) fs l)
    else if c = 91 then match rpay (c :: l) with
      | .error e => .inr (.err e)
      | .ok (k, r) => .inl (.A none (ps ++ [(k, p)]) fs r)
    else match fs with
      | [] => .inr (.err (c :: l))
      | (q, qs) :: gs => if c = 41 then .inl (.B (put q (whole ps p)) qs gs l) else .inr (.err (c :: l))
theorem step_A (p : Option Sn) (ps : Prs) (fs : Frs) (c : Nat) (l : List Nat) : step (.A p ps fs (c :: l)) = if c = 32 then .inl (.A p ps fs l)
    else if c = 40 then .inl (.A none [] ((p, ps) :: fs) l)
    else match rname (c :: l) with
      | .error e => .inr (.err e)
      | .ok (n, r) => .inl (.B (put p (.word n)) ps fs r) := rfl
theorem step_B (p : Sn) (ps : Prs) (fs : Frs) (c : Nat) (l : List Nat) : step (.B p ps fs (c :: l)) = if c = 32 then .inl (.B p ps fs l)
    else if c = 38 then .inl (.A (some p) ps fs l)
    else if c = 62 then .inl (.A none (ps ++ [(none, p)]) fs l)
    else if c = 91 then match rpay (c :: l) with
      | .error e => .inr (.err e)
      | .ok (k, r) => .inl (.A none (ps ++ [(k, p)]) fs r)
    else match fs with
      | [] => .inr (.err (c :: l))
      | (q, qs) :: gs => if c = 41 then .inl (.B (put q (whole ps p)) qs gs l) else .inr (.err (c :: l)) := rfl
theorem step_B0 (p : Sn) (ps : Prs) (fs : Frs) : step (.B p ps fs []) = if fs = [] then .inr (.ok (whole ps p)) else .inr (.err []) := rfl
inductive Goes : St → St → Prop where
  | refl {a} : Goes a a
  | cons {a b c} : step a = .inl b → Goes b c → Goes a c
theorem Goes.trans {a b c : St} (h : Goes a b) (k : Goes b c) : Goes a c := by
  induction h with
  | refl => exact k
  | cons e _ ih => exact .cons e (ih k)
theorem Goes.one {a b : St} (e : step a = .inl b) : Goes a b := .cons e .refl
theorem Goes.snoc {a b c : St} (h : Goes a b) (e : step b = .inl c) : Goes a c := h.trans (.one e)
def Ends (a : St) (r : Re) : Prop := ∃ b, Goes a b ∧ step b = .inr r
theorem Ends.det {a : St} {r r' : Re} (h : Ends a r) (k : Ends a r') : r = r' := by
  obtain ⟨b, g, e⟩ := h
  obtain ⟨b', g', e'⟩ := k
  induction g with
  | refl =>
    cases g' with
    | refl => rw [e] at e'; injection e'
    | cons e2 _ => rw [e] at e2; cases e2
  | cons e1 _ ih =>
    cases g' with
    | refl => rw [e1] at e'; cases e'
    | cons e2 g2 => rw [e1] at e2; injection e2 with e2; subst e2; exact ih e g2
abbrev init (l : List Nat) : St := .A none [] [] l
/-! ### what is drawn: tokens with their spaces -/
def rm : Pk → List (List Nat)
  | none => []
  | some (u, d) => [[91], TL.numL u.toNat, [47], TL.numL d.toNat, [93]]
def okNm (n : List Nat) : Prop := nameB n = true
def okK : Pk → Prop
  | none => True
  | some (u, d) => 1 ≤ u ∧ u < 1000000000 ∧ 0 ≤ d ∧ d < 1000000000
def okS : Sn → Prop
  | .word n => okNm n
  | .menu l r => okS l ∧ okS r
  | .trade k p g => okK k ∧ okS p ∧ okS g
inductive Tk : Sn → Nat → List (List Nat) → Prop where
  | word {n k} : okNm n → Tk (.word n) k [n]
  | menu {a b k ta tb} : k ≤ 1 → Tk a 1 ta → Tk b 2 tb → Tk (.menu a b) k (ta ++ [[38]] ++ tb)
  | trade {m p g tp tg} : okK m → Tk p 1 tp → Tk g 0 tg → Tk (.trade m p g) 0 (tp ++ rm m ++ [[62]] ++ tg)
  | par {s k ts} : Tk s 0 ts → Tk s k ([[40]] ++ ts ++ [[41]])
abbrev sps (n : Nat) : List Nat := List.replicate n 32
/-- the tokens with spaces in front of each -/
inductive Spc : List (List Nat) → List Nat → Prop where
  | nil : Spc [] []
  | cons {n t ts l} : Spc ts l → Spc (t :: ts) (sps n ++ (t ++ l))
theorem Spc.split {b : List (List Nat)} : ∀ {a : List (List Nat)} {l : List Nat}, Spc (a ++ b) l → ∃ x y, l = x ++ y ∧ Spc a x ∧ Spc b y
  | [], l, h => ⟨[], l, rfl, .nil, h⟩
  | t :: a, l, h => by
    cases h with
    | @cons n _ _ _ h =>
      obtain ⟨x, y, rfl, h1, h2⟩ := Spc.split h
      exact ⟨sps n ++ (t ++ x), y, by simp only [List.append_assoc], .cons h1, h2⟩
theorem Spc.one {t : List Nat} {l : List Nat} (h : Spc [t] l) : ∃ n, l = sps n ++ t := by
  cases h with
  | cons h => cases h; exact ⟨_, by rw [List.append_nil]⟩
theorem spA (p : Option Sn) (ps : Prs) (fs : Frs) (l : List Nat) : ∀ n, Goes (.A p ps fs (sps n ++ l)) (.A p ps fs l)
  | 0 => .refl
  | n + 1 => .cons (by show step (.A p ps fs (32 :: (sps n ++ l))) = _; rfl) (spA p ps fs l n)
theorem spB (p : Sn) (ps : Prs) (fs : Frs) (l : List Nat) : ∀ n, Goes (.B p ps fs (sps n ++ l)) (.B p ps fs l)
  | 0 => .refl
  | n + 1 => .cons (by show step (.B p ps fs (32 :: (sps n ++ l))) = _; rfl) (spB p ps fs l n)
theorem skip_sps {c : Nat} (h : c ≠ 32) (l : List Nat) : ∀ n, skip (sps n ++ c :: l) = c :: l
  | 0 => by show skip (c :: l) = _; unfold skip; rw [if_neg h]
  | n + 1 => by
    show skip (32 :: (sps n ++ c :: l)) = _
    unfold skip
    rw [if_pos rfl]
    exact skip_sps h l n
/-! ### numbers and names are read -/
theorem numL_head {n : Nat} (h : 10 ≤ n) : ∃ c l, TL.numL n = c :: l ∧ c ≠ 48 := by
  induction n using Nat.strongRecOn with
  | _ n ih =>
    rw [TL.numL_step h]
    by_cases h2 : n / 10 < 10
    · rw [TL.numL_lt h2]
      exact ⟨48 + n / 10, [48 + n % 10], rfl, by omega⟩
    · obtain ⟨c, l, e, hc⟩ := ih (n / 10) (by omega) (by omega)
      rw [e]
      exact ⟨c, l ++ [48 + n % 10], rfl, hc⟩
theorem numL_shape (n : Nat) : ∃ c l, TL.numL n = c :: l ∧ 48 ≤ c ∧ c ≤ 57 ∧ (c = 48 → l = [] ∧ n = 0) := by
  by_cases h : n < 10
  · rw [TL.numL_lt h]
    exact ⟨48 + n, [], rfl, by omega, by omega, fun e => ⟨rfl, by omega⟩⟩
  · obtain ⟨c, l, e, hc⟩ := numL_head (n := n) (by omega)
    have := TL.numL_digits n
    rw [e] at this
    exact ⟨c, l, e, (this.head).1, (this.head).2, fun z => absurd z hc⟩
theorem dig_all (n : Nat) : ∀ c ∈ TL.numL n, dig1 c = true := fun c hc => by
  have := TL.numL_digits n c hc
  unfold dig1
  rw [decide_eq_true this.1, decide_eq_true this.2]
  rfl
theorem rnum_num {n least : Nat} {r : List Nat} (h1 : n < 1000000000) (h2 : least ≤ 1) (h3 : least ≤ n) (hr : Cut dig1 r) : rnum least (TL.numL n ++ r) = .ok (n, r) := by
  obtain ⟨e1, e2⟩ := run_app hr (dig_all n)
  have hv := TL.numL_val n
  have hl := TL.numL_len (n := n) (k := 9) (by decide) h1
  obtain ⟨c, l, e, c0, c9, cz⟩ := numL_shape n
  have hd := dig_all n c (by rw [e]; exact List.mem_cons_self)
  rw [e] at e1 e2 hv hl ⊢
  rw [List.cons_append] at e1 e2 ⊢
  rw [rnum_cons]
  rw [e1, e2, if_neg, if_neg]
  · rw [show dv (c :: l) = n from hv]
  · by_cases z : c = 48
    · obtain ⟨rfl, _⟩ := cz z
      unfold mst
      rw [if_pos z]; show ¬ (1 < 1); omega
    · unfold mst
      rw [if_neg z]; omega
  · rintro (h | h)
    · rw [hd] at h; cases h
    · by_cases z : c = 48
      · obtain ⟨rfl, rfl⟩ := cz z
        omega
      · omega
theorem name_parts {n : List Nat} (h : okNm n) : (∃ c l, n = c :: l ∧ let1 c = true) ∧ n.length ≤ 12 ∧ ∀ c ∈ n, alnum c = true := by
  unfold okNm nameB at h
  simp only [Bool.and_eq_true, decide_eq_true_eq, List.all_eq_true] at h
  obtain ⟨⟨h1, h2⟩, h3, h4⟩ := h
  refine ⟨?_, by omega, fun c hc => h4 c hc⟩
  cases n with
  | nil => cases h3
  | cons c l => exact ⟨c, l, rfl, h3⟩
theorem rname_name {n r : List Nat} (h : okNm n) (hr : Cut alnum r) : rname (n ++ r) = .ok (n, r) := by
  obtain ⟨⟨c, l, rfl, hc⟩, hl, ha⟩ := name_parts h
  obtain ⟨e1, e2⟩ := run_app hr ha
  rw [List.cons_append] at e1 e2 ⊢
  rw [rname_cons]
  rw [e1, e2, if_neg (by rw [hc]; decide), if_neg (by omega)]



/-! ### what is drawn is read -/
theorem cut_sps {g : Nat → Bool} (h : g 32 = false) {c : Nat} (hc : g c = false) (r : List Nat) : ∀ n, Cut g (sps n ++ c :: r)
  | 0 => fun d l e => by cases e; exact hc
  | n + 1 => fun d l e => by cases e; exact h
theorem mt1 (c : Nat) (l : List Nat) : mt [c] (c :: l) = .ok l := by
  unfold mt
  rw [if_pos rfl]
  rfl
theorem skip_num (n : Nat) (r : List Nat) (m : Nat) : skip (sps m ++ (TL.numL n ++ r)) = TL.numL n ++ r := by
  obtain ⟨c, l, e, c0, _, _⟩ := numL_shape n
  rw [e, List.cons_append]
  exact skip_sps (by omega) _ m
theorem rbr_ok {u d : Nat} (hu : 1 ≤ u) (hu9 : u < 1000000000) (hd9 : d < 1000000000) (r : List Nat) (n1 n2 n3 n4 n5 : Nat) : rbr (sps n1 ++ 91 :: (sps n2 ++ (TL.numL u ++ (sps n3 ++ 47 :: (sps n4 ++ (TL.numL d ++ (sps n5 ++ 93 :: r))))))) = .ok (some ((u : Int), (d : Int)), r) := by
  unfold rbr
  rw [skip_sps (by decide), mt1]
  simp only []
  rw [skip_num, rnum_num hu9 (Nat.le_refl 1) hu (cut_sps (by decide) (by decide) _ _)]
  simp only []
  rw [skip_sps (by decide), mt1]
  simp only []
  rw [skip_num, rnum_num hd9 (by decide) (Nat.zero_le _) (cut_sps (by decide) (by decide) _ _)]
  simp only []
  rw [skip_sps (by decide), mt1]
theorem rpay_ok {u d : Nat} (hu : 1 ≤ u) (hu9 : u < 1000000000) (hd9 : d < 1000000000) (r : List Nat) (n2 n3 n4 n5 n6 : Nat) : rpay (91 :: (sps n2 ++ (TL.numL u ++ (sps n3 ++ 47 :: (sps n4 ++ (TL.numL d ++ (sps n5 ++ 93 :: (sps n6 ++ 62 :: r)))))))) = .ok (some ((u : Int), (d : Int)), r) := by
  have h := rbr_ok hu hu9 hd9 (sps n6 ++ 62 :: r) 0 n2 n3 n4 n5
  unfold rpay
  rw [show 91 :: (sps n2 ++ (TL.numL u ++ (sps n3 ++ 47 :: (sps n4 ++ (TL.numL d ++ (sps n5 ++ 93 :: (sps n6 ++ 62 :: r))))))) = sps 0 ++ 91 :: (sps n2 ++ (TL.numL u ++ (sps n3 ++ 47 :: (sps n4 ++ (TL.numL d ++ (sps n5 ++ 93 :: (sps n6 ++ 62 :: r))))))) from rfl, h]
  simp only []
  rw [skip_sps (by decide), mt1]
/-- the price's room and its sign -/
theorem pays {m : Pk} (hm : okK m) {y : List Nat} (h : Spc (rm m ++ [[62]]) y) (p : Sn) (ps : Prs) (fs : Frs) (r : List Nat) : (∃ n c z, y = sps n ++ c :: z ∧ alnum c = false) ∧ Goes (.B p ps fs (y ++ r)) (.A none (ps ++ [(m, p)]) fs r) := by
  rcases m with _ | ⟨u, d⟩
  · obtain ⟨n, rfl⟩ := Spc.one h
    refine ⟨⟨n, 62, [], rfl, by decide⟩, ?_⟩
    rw [List.append_assoc]
    refine (spB p ps fs _ n).trans (.one ?_)
    rfl
  · obtain ⟨h1, h2, h3, h4⟩ := hm
    cases h with | @cons n1 _ _ _ h =>
    cases h with | @cons n2 _ _ _ h =>
    cases h with | @cons n3 _ _ _ h =>
    cases h with | @cons n4 _ _ _ h =>
    cases h with | @cons n5 _ _ _ h =>
    cases h with | @cons n6 _ _ _ h =>
    cases h
    refine ⟨⟨n1, 91, _, rfl, by decide⟩, ?_⟩
    have e := rpay_ok (u := u.toNat) (d := d.toNat) (by omega) (by omega) (by omega) r n2 n3 n4 n5 n6
    rw [Int.toNat_of_nonneg (by omega), Int.toNat_of_nonneg h3] at e
    simp only [List.append_assoc, List.cons_append, List.nil_append]
    refine (spB p ps fs _ n1).trans (.one ?_)
    show (match rpay _ with | .error e => Sum.inr (Re.err e) | .ok (k, r) => Sum.inl (St.A none (ps ++ [(k, p)]) fs r)) = _
    rw [e]
theorem word_reads {n : List Nat} (hn : okNm n) (p : Option Sn) (ps : Prs) (fs : Frs) {l : List Nat} (h : Spc [n] l) {r : List Nat} (hr : Cut alnum r) : Goes (.A p ps fs (l ++ r)) (.B (put p (.word n)) ps fs r) := by
  obtain ⟨m, rfl⟩ := Spc.one h
  rw [List.append_assoc]
  refine (spA p ps fs _ m).trans (.one ?_)
  have e := rname_name hn hr
  obtain ⟨⟨c, l, rfl, hc⟩, _⟩ := name_parts hn
  have c1 : c ≠ 32 := by rintro rfl; revert hc; decide
  have c2 : c ≠ 40 := by rintro rfl; revert hc; decide
  rw [List.cons_append] at e ⊢
  rw [step_A, if_neg c1, if_neg c2, e]
def Rds (s : Sn) (k : Nat) (l : List Nat) : Prop :=
  (2 ≤ k → ∀ p ps fs r, Cut alnum r → Goes (.A p ps fs (l ++ r)) (.B (put p s) ps fs r)) ∧
  (1 ≤ k → ∀ ps fs r, Cut alnum r → Goes (.A none ps fs (l ++ r)) (.B s ps fs r)) ∧
  ∀ ps fs r, Cut alnum r → ∃ p' ps', Goes (.A none ps fs (l ++ r)) (.B p' ps' fs r) ∧ whole ps' p' = whole ps s
theorem reads {s : Sn} {k : Nat} {ts : List (List Nat)} (h : Tk s k ts) : ∀ {l : List Nat}, Spc ts l → Rds s k l := by
  induction h with
  | word hn =>
    intro l hl
    exact ⟨fun _ p ps fs r hr => word_reads hn p ps fs hl hr, fun _ ps fs r hr => word_reads hn none ps fs hl hr, fun ps fs r hr => ⟨_, ps, word_reads hn none ps fs hl hr, rfl⟩⟩
  | @menu a b k ta tb hk _ _ iha ihb =>
    intro l hl
    rw [List.append_assoc] at hl
    obtain ⟨x, yz, rfl, h1, h2⟩ := Spc.split hl
    obtain ⟨y, z, rfl, h3, h4⟩ := Spc.split h2
    obtain ⟨n, rfl⟩ := Spc.one h3
    have main : ∀ ps fs r, Cut alnum r → Goes (.A none ps fs (x ++ (sps n ++ [38] ++ z) ++ r)) (.B (.menu a b) ps fs r) := by
      intro ps fs r hr
      have e : x ++ (sps n ++ [38] ++ z) ++ r = x ++ (sps n ++ 38 :: (z ++ r)) := by simp only [List.append_assoc, List.cons_append, List.nil_append]
      rw [e]
      refine ((iha h1).2.1 (Nat.le_refl 1) ps fs _ (cut_sps (by decide) (by decide) _ _)).trans ?_
      refine (spB a ps fs _ n).trans (.cons (b := .A (some a) ps fs (z ++ r)) rfl ?_)
      exact (ihb h4).1 (Nat.le_refl 2) (some a) ps fs r hr
    exact ⟨fun h => by omega, fun _ => main, fun ps fs r hr => ⟨_, ps, main ps fs r hr, rfl⟩⟩
  | @trade m p g tp tg hm _ _ ihp ihg =>
    intro l hl
    rw [List.append_assoc, List.append_assoc, ← List.append_assoc (rm m)] at hl
    obtain ⟨x, yz, rfl, h1, h2⟩ := Spc.split hl
    obtain ⟨y, z, rfl, h3, h4⟩ := Spc.split h2
    refine ⟨fun h => by omega, fun h => by omega, fun ps fs r hr => ?_⟩
    obtain ⟨⟨n, c, w, rfl, hc⟩, gp⟩ := pays hm h3 p ps fs (z ++ r)
    obtain ⟨p', ps', g2, e2⟩ := (ihg h4).2.2 (ps ++ [(m, p)]) fs r hr
    refine ⟨p', ps', ?_, by rw [e2, whole_snoc]⟩
    have e : x ++ (sps n ++ c :: w ++ z) ++ r = x ++ (sps n ++ c :: w ++ (z ++ r)) := by simp only [List.append_assoc, List.cons_append]
    rw [e]
    refine ((ihp h1).2.1 (Nat.le_refl 1) ps fs _ ?_).trans (gp.trans g2)
    rw [List.append_assoc, List.cons_append]
    exact cut_sps (by decide) hc _ n
  | @par s k ts _ ih =>
    intro l hl
    rw [List.append_assoc] at hl
    obtain ⟨x, yz, rfl, h1, h2⟩ := Spc.split hl
    obtain ⟨y, z, rfl, h3, h4⟩ := Spc.split h2
    obtain ⟨n, rfl⟩ := Spc.one h1
    obtain ⟨m, rfl⟩ := Spc.one h4
    have main : ∀ p ps fs r, Goes (.A p ps fs (sps n ++ [40] ++ (y ++ (sps m ++ [41])) ++ r)) (.B (put p s) ps fs r) := by
      intro p ps fs r
      have e : sps n ++ [40] ++ (y ++ (sps m ++ [41])) ++ r = sps n ++ 40 :: (y ++ (sps m ++ 41 :: r)) := by simp only [List.append_assoc, List.cons_append, List.nil_append]
      rw [e]
      obtain ⟨p', ps', g2, e2⟩ := (ih h3).2.2 [] ((p, ps) :: fs) (sps m ++ 41 :: r) (cut_sps (by decide) (by decide) _ _)
      refine (spA p ps fs _ n).trans (.cons (b := .A none [] ((p, ps) :: fs) _) rfl (g2.trans ((spB p' ps' _ _ m).trans (.one ?_))))
      show Sum.inl (St.B (put p (whole ps' p')) ps fs r) = _
      rw [e2]
      rfl
    exact ⟨fun _ p ps fs r _ => main p ps fs r, fun _ ps fs r _ => main none ps fs r, fun ps fs r _ => ⟨_, ps, main none ps fs r, rfl⟩⟩
/-- tokens at strength 0 with spaces, and spaces behind: read -/
theorem reads_all {s : Sn} {ts : List (List Nat)} (h : Tk s 0 ts) {l : List Nat} (hl : Spc ts l) (n : Nat) : Ends (init (l ++ sps n)) (.ok s) := by
  obtain ⟨p', ps', g, e⟩ := (reads h hl).2.2 [] [] (sps n) (fun c l e => by
    cases n with
    | zero => cases e
    | succ n => cases e; decide)
  refine ⟨_, g.trans ((by have := spB p' ps' [] [] n; rwa [List.append_nil] at this)), ?_⟩
  show Sum.inr (Re.ok (whole ps' p')) = _
  rw [e]
  rfl
/-! ### as few brackets as can be -/
def np : Sn → Nat → Nat
  | .word _, _ => 0
  | .menu a b, k => np a 1 + np b 2 + (if 1 < k then 1 else 0)
  | .trade _ p g, k => np p 1 + np g 0 + (if 0 < k then 1 else 0)
theorem np_le (s : Sn) (k : Nat) : np s k ≤ np s 0 + 1 := by
  cases s with
  | word => exact Nat.zero_le _
  | menu a b =>
    show np a 1 + np b 2 + (if 1 < k then 1 else 0) ≤ np a 1 + np b 2 + 0 + 1
    split <;> omega
  | trade m p g =>
    show np p 1 + np g 0 + (if 0 < k then 1 else 0) ≤ np p 1 + np g 0 + 0 + 1
    split <;> omega
theorem np_0 (s : Sn) (k : Nat) : np s 0 ≤ np s k := by
  cases s with
  | word => exact Nat.zero_le _
  | menu a b =>
    show np a 1 + np b 2 + 0 ≤ np a 1 + np b 2 + (if 1 < k then 1 else 0)
    split <;> omega
  | trade m p g =>
    show np p 1 + np g 0 + 0 ≤ np p 1 + np g 0 + (if 0 < k then 1 else 0)
    split <;> omega
abbrev c40 (l : List Nat) : Nat := l.count 40
def sumP : Prs → Nat
  | [] => 0
  | kp :: ps => np kp.2 1 + sumP ps
theorem sumP_snoc (k : Pk) (q : Sn) : ∀ ps : Prs, sumP (ps ++ [(k, q)]) = sumP ps + np q 1
  | [] => by show np q 1 + 0 = 0 + np q 1; omega
  | x :: ps => by
    rw [List.cons_append]
    show np x.2 1 + sumP (ps ++ [(k, q)]) = np x.2 1 + sumP ps + np q 1
    rw [sumP_snoc k q ps]
    omega
theorem np_whole (p : Sn) : ∀ ps : Prs, np (whole ps p) 0 ≤ sumP ps + np p 1 := by
  suffices h : ∀ (qs : Prs) (p : Sn) (n : Nat), np p 0 ≤ n → np (qs.foldl (fun m kp => Sn.trade kp.1 kp.2 m) p) 0 ≤ n + sumP qs.reverse by
    intro ps
    have := h ps.reverse p (np p 1) (np_0 p 1)
    rw [List.reverse_reverse] at this
    unfold whole
    omega
  intro qs
  induction qs with
  | nil => intro p n h; show np p 0 ≤ n + 0; omega
  | cons x qs ih =>
    intro p n h
    rw [List.foldl_cons, List.reverse_cons, sumP_snoc]
    have := ih (.trade x.1 x.2 p) (np x.2 1 + n) (by show np x.2 1 + np p 0 + 0 ≤ _; omega)
    omega
def frN : Option Sn → Prs → Nat
  | none, ps => sumP ps
  | some x, ps => sumP ps + np x 1
def frs : Frs → Nat
  | [] => 0
  | (q, qs) :: fs => frN q qs + 1 + frs fs
def pot : St → Nat
  | .A p ps fs l => frN p ps + frs fs + c40 l
  | .B p ps fs l => sumP ps + np p 1 + frs fs + c40 l
theorem np_put (q : Option Sn) (s : Sn) (qs : Prs) : sumP qs + np (put q s) 1 ≤ frN q qs + np s 2 + (if q = none then np s 1 else 0) := by
  cases q with
  | none => show sumP qs + np s 1 ≤ sumP qs + np s 2 + np s 1; omega
  | some x =>
    show sumP qs + (np x 1 + np s 2 + 0) ≤ sumP qs + np x 1 + np s 2 + 0
    omega
theorem np_put1 (q : Option Sn) (s : Sn) (qs : Prs) (n : Nat) (h1 : np s 1 ≤ n) (h2 : np s 2 ≤ n) : sumP qs + np (put q s) 1 ≤ frN q qs + n := by
  cases q with
  | none => show sumP qs + np s 1 ≤ sumP qs + n; omega
  | some x =>
    show sumP qs + (np x 1 + np s 2 + 0) ≤ sumP qs + np x 1 + n
    omega
theorem skip_le : ∀ l, c40 (skip l) ≤ c40 l
  | [] => Nat.le_refl _
  | c :: l => by
    unfold skip
    split
    · exact Nat.le_trans (skip_le l) (List.count_le_count_cons ..)
    · exact Nat.le_refl _
theorem rest_le (g : Nat → Bool) : ∀ l, c40 (rest g l) ≤ c40 l
  | [] => Nat.le_refl _
  | c :: l => by
    unfold rest
    split
    · exact Nat.le_trans (rest_le g l) (List.count_le_count_cons ..)
    · exact Nat.le_refl _
theorem mt_le : ∀ {s l r : List Nat}, mt s l = .ok r → c40 r ≤ c40 l
  | [], l, r, h => by unfold mt at h; cases h; exact Nat.le_refl _
  | _ :: _, [], r, h => by unfold mt at h; cases h
  | c :: s, d :: l, r, h => by
    unfold mt at h
    split at h
    · exact Nat.le_trans (mt_le h) (List.count_le_count_cons ..)
    · cases h
theorem rnum_le {least n : Nat} : ∀ {l r : List Nat}, rnum least l = .ok (n, r) → c40 r ≤ c40 l
  | [], r, h => by unfold rnum at h; cases h
  | c :: l, r, h => by
    rw [rnum_cons] at h
    split at h
    · cases h
    split at h
    · cases h
    · cases h
      exact rest_le dig1 (c :: l)
theorem rname_le {n : List Nat} : ∀ {l r : List Nat}, rname l = .ok (n, r) → c40 r ≤ c40 l
  | [], r, h => by unfold rname at h; cases h
  | c :: l, r, h => by
    rw [rname_cons] at h
    split at h
    · cases h
    split at h
    · cases h
    · cases h
      exact rest_le alnum (c :: l)
theorem rbr_le {k : Pk} {l r : List Nat} (h : rbr l = .ok (k, r)) : c40 r ≤ c40 l := by
  unfold rbr at h
  split at h
  · cases h
  next l1 h1 =>
  split at h
  · cases h
  next u l2 h2 =>
  split at h
  · cases h
  next l3 h3 =>
  split at h
  · cases h
  next d l4 h4 =>
  split at h
  · cases h
  next l5 h5 =>
  cases h
  exact Nat.le_trans (mt_le h5) (Nat.le_trans (skip_le _) (Nat.le_trans (rnum_le h4) (Nat.le_trans (skip_le _) (Nat.le_trans (mt_le h3) (Nat.le_trans (skip_le _) (Nat.le_trans (rnum_le h2) (Nat.le_trans (skip_le _) (Nat.le_trans (mt_le h1) (skip_le _)))))))))
theorem rpay_le {k : Pk} {l r : List Nat} (h : rpay l = .ok (k, r)) : c40 r ≤ c40 l := by
  unfold rpay at h
  split at h
  · cases h
  next k1 l1 h1 =>
  split at h
  · cases h
  next l2 h2 =>
  cases h
  exact Nat.le_trans (mt_le h2) (Nat.le_trans (skip_le _) (rbr_le h1))
theorem c40_ne {c : Nat} (h : c ≠ 40) (l : List Nat) : c40 (c :: l) = c40 l := List.count_cons_of_ne h
theorem step_le {a b : St} (h : step a = .inl b) : pot b ≤ pot a := by
  cases a with
  | A p ps fs l =>
    cases l with
    | nil => cases h
    | cons c l =>
      rw [step_A] at h
      split at h
      · next h1 => cases h; subst h1; show frN p ps + frs fs + c40 l ≤ frN p ps + frs fs + c40 (32 :: l); rw [c40_ne (by decide)]; exact Nat.le_refl _
      split at h
      · next h1 =>
        cases h
        subst h1
        show frN none [] + (frN p ps + 1 + frs fs) + c40 l ≤ frN p ps + frs fs + c40 (40 :: l)
        rw [show c40 (40 :: l) = c40 l + 1 from List.count_cons_self]
        show 0 + (frN p ps + 1 + frs fs) + c40 l ≤ _
        omega
      split at h
      · cases h
      next n r hr =>
      cases h
      have h1 := rname_le hr
      have h2 := np_put1 p (.word n) ps 0 (Nat.le_refl 0) (Nat.le_refl 0)
      show sumP ps + np (put p (.word n)) 1 + frs fs + c40 r ≤ frN p ps + frs fs + c40 (c :: l)
      omega
  | B p ps fs l =>
    cases l with
    | nil => rw [step_B0] at h; split at h <;> cases h
    | cons c l =>
      have hc : c40 l ≤ c40 (c :: l) := List.count_le_count_cons ..
      rw [step_B] at h
      split at h
      · cases h; show sumP ps + np p 1 + frs fs + c40 l ≤ sumP ps + np p 1 + frs fs + c40 (c :: l); omega
      split at h
      · cases h; show sumP ps + np p 1 + frs fs + c40 l ≤ sumP ps + np p 1 + frs fs + c40 (c :: l); omega
      split at h
      · cases h
        show sumP (ps ++ [(none, p)]) + frs fs + c40 l ≤ sumP ps + np p 1 + frs fs + c40 (c :: l)
        rw [sumP_snoc]; omega
      split at h
      · split at h
        · cases h
        next k r hr =>
        cases h
        have h1 := rpay_le hr
        show sumP (ps ++ [(k, p)]) + frs fs + c40 r ≤ sumP ps + np p 1 + frs fs + c40 (c :: l)
        rw [sumP_snoc]; omega
      split at h
      · cases h
      next q qs gs =>
      split at h
      · cases h
        have h1 := np_whole p ps
        have h2 := np_put1 q (whole ps p) qs (sumP ps + np p 1 + 1) (Nat.le_trans (np_le _ _) (by omega)) (Nat.le_trans (np_le _ _) (by omega))
        show sumP qs + np (put q (whole ps p)) 1 + frs gs + c40 l ≤ sumP ps + np p 1 + (frN q qs + 1 + frs gs) + c40 (c :: l)
        omega
      · cases h
theorem goes_le {a b : St} (h : Goes a b) : pot b ≤ pot a := by
  induction h with
  | refl => exact Nat.le_refl _
  | cons e _ ih => exact Nat.le_trans ih (step_le e)
theorem np_min {l : List Nat} {s : Sn} (h : Ends (init l) (.ok s)) : np s 0 ≤ c40 l := by
  obtain ⟨b, g, e⟩ := h
  have h1 := goes_le g
  have h2 : pot (init l) = c40 l := by show 0 + 0 + c40 l = _; omega
  rw [h2] at h1
  cases b with
  | A p ps fs r =>
    cases r with
    | nil => cases e
    | cons c r =>
      rw [step_A] at e
      split at e
      · cases e
      split at e
      · cases e
      split at e <;> cases e
  | B p ps fs r =>
    cases r with
    | nil =>
      rw [step_B0] at e
      split at e
      · next hf =>
        cases e
        have := np_whole p ps
        have h3 : sumP ps + np p 1 + frs fs + c40 [] ≤ c40 l := h1
        omega
      · cases e
    | cons c r =>
      rw [step_B] at e
      split at e
      · cases e
      split at e
      · cases e
      split at e
      · cases e
      split at e
      · split at e <;> cases e
      split at e
      · cases e
      · split at e <;> cases e



abbrev cs (z : Str) : List Nat := z.cps.toList
theorem len_cs (z : Str) : z.length = (cs z).length := by
  show z.cps.size = z.cps.toList.length
  rw [Array.length_toList]
theorem cs_ext {x y : Str} (h : cs x = cs y) : x = y := by
  cases x with | mk a => cases y with | mk b =>
  have : a = b := Array.toList_inj.mp h
  rw [this]
/-- a place in a text, and what is left there -/
def AtI (z : Str) (i : Nat) (l : List Nat) : Prop := i ≤ (cs z).length ∧ (cs z).drop i = l
theorem AtI.next {z : Str} {i c : Nat} {l : List Nat} (h : AtI z i (c :: l)) : AtI z (i + 1) l := by
  obtain ⟨h1, h2⟩ := h
  have hl : i < (cs z).length := by
    rcases Nat.lt_or_ge i (cs z).length with h | h
    · exact h
    · rw [List.drop_eq_nil_of_le h] at h2; cases h2
  refine ⟨hl, ?_⟩
  rw [List.drop_eq_getElem_cons hl] at h2
  injection h2
theorem AtI.len {z : Str} {i : Nat} {l : List Nat} (h : AtI z i l) : i + l.length = (cs z).length := by
  obtain ⟨h1, rfl⟩ := h
  rw [List.length_drop]
  omega
theorem AtI.app {z : Str} {i : Nat} {a l : List Nat} (h : AtI z i (a ++ l)) : AtI z (i + a.length) l := by
  have h3 := h.len
  obtain ⟨h1, h2⟩ := h
  rw [List.length_append] at h3
  refine ⟨by omega, ?_⟩
  rw [← List.drop_drop, h2, List.drop_left]
theorem AtI.drop {z : Str} {i n : Nat} {l : List Nat} (h : AtI z i l) (hn : n ≤ l.length) : AtI z (i + n) (l.drop n) := by
  have h3 := h.len
  obtain ⟨h1, h2⟩ := h
  exact ⟨by omega, by rw [← List.drop_drop, h2]⟩
theorem cs_cut (z : Str) {i j : Nat} (hi : i ≤ j) (hj : j ≤ (cs z).length) : cs (cutS z (some (i : Int)) (some (j : Int))) = ((cs z).drop i).take (j - i) := by
  unfold cutS
  rw [HT.sIx_nat, HT.sIx_nat]
  rw [← len_cs] at hj
  show ((cs z).drop (min i z.length)).take (min j z.length - min i z.length) = _
  rw [Nat.min_eq_left hj, Nat.min_eq_left (by omega)]
theorem cutOne {z : Str} {i : Nat} {l : List Nat} (h : AtI z i l) : cutS z (some (i : Int)) (some ((i : Int) + 1)) = one l.head? := by
  refine cs_ext ?_
  cases l with
  | nil =>
    have := h.len
    rw [show ((i : Int) + 1) = ((i + 1 : Nat) : Int) by omega]
    unfold cutS
    rw [HT.sIx_nat, HT.sIx_nat]
    show ((cs z).drop (min i z.length)).take (min (i + 1) z.length - min i z.length) = []
    rw [len_cs, ← this]
    simp
  | cons c l =>
    have := h.next.1
    rw [show ((i : Int) + 1) = ((i + 1 : Nat) : Int) by omega, cs_cut z (Nat.le_succ i) this, h.2]
    rw [show i + 1 - i = 1 by omega]
    rfl
theorem one_dec (o : Option Nat) (c : Nat) : decide (one o = sg c) = decide (o = some c) := by
  by_cases h : o = some c
  · rw [decide_eq_true h, decide_eq_true (one_inj.mpr h)]
  · rw [decide_eq_false h, decide_eq_false fun z => h (one_inj.mp z)]
theorem sg_sp : (Str.ofString " ") = sg 32 := by decide +kernel
/-- what the reader of a token answers -/
def Out {α : Type} (CT : Addr) (z : Str) (H : Hp) (E : XK) (x : Except (List Nat) α) (ok : α → Prop) : Prop :=
  (∀ a, x = .ok a → ok a) ∧ ∀ r j d H', x = .error r → AtI z j r → Same H H' → H' d = some (.xd [("index", .int (j : Nat))]) → E (.ref CT) (some d) H'
section
variable {P : Program} {w : World} {K : PySem.W.Frag} {mg : Str → Option Value} {base : Heap} {CT : Addr}
theorem ok_te (T : TopM K CT "__init__" "TextError.__init__" s_TextError___init) (O : OexC K CT) (no : PySem.W.findIn K (.ref CT) "index" = some none) (hm : mg "TextError" = some (.ref CT)) : Er P w K mg base "TextError" CT "index" := by
  obtain ⟨f, fd, F, hb, hf, hi, hk⟩ := me_ok (P := P) (w := w) (mg := mg) (base := base) (k := 0) (sp := sp1 CT "index") T sc_TextError___init so_TextError___init (fun vs H Q E h => by obtain ⟨a, v, rfl, _⟩ := h; rfl) (fun _ _ _ _ _ _ us hl => match us, hl with | [_, _], _ => rfl) fun f cdv A outer s H vs Q E hr h nd => by
    obtain ⟨a, v, rfl, ha, q⟩ := h
    refine l_cons (s_ost ?_)
    walk_at "sts"
    refine ⟨a, CT, rfl, O, no, ha, fun dx nd ne => ?_⟩
    refine l_nil ?_
    exact q dx nd ne
  exact ⟨O, hm, f, fd, _, F, hf, beq_iff_eq.mp hi, hb⟩
def spSkip : Sp := fun vs H Q _ => ∃ z i l, vs = [.str z, .int ((i : Nat) : Int)] ∧ z.length ≤ 100000 ∧ AtI z i l ∧ ∀ j : Nat, AtI z j (skip l) → Q (.int (j : Int)) H
theorem ok_skip (T : Top K mg "skip_spaces" s_skip_spaces) : Fn P w K mg base 1 "skip_spaces" spSkip := by
  refine fn_ok T sc_skip_spaces so_skip_spaces (fun vs H Q E h => by obtain ⟨z, i, l, rfl, _⟩ := h; rfl) (fun _ _ _ _ _ _ us hl => match us, hl with | [_, _], _ => rfl) fun f cdv A outer s H vs Q E hr h nd => ?_
  obtain ⟨z, i, l, rfl, hz, hi, q⟩ := h
  have hz' : z.length ≤ sizeLine := Nat.le_trans hz (by decide)
  refine l_cons (s_set (e_var ?_))
  show wL _ _ _ [some (.str z), some (.int (i : Int)), some (.int (i : Int))] _
  refine l_cons (s_whileN (fun n σ H' => ∃ j m, σ = [some (.str z), some (.int (i : Int)), some (.int ((j : Nat) : Int))] ∧ H' = H ∧ AtI z j m ∧ skip m = skip l ∧ n = m.length) l.length ⟨i, l, rfl, rfl, hi, rfl, rfl⟩ ?_)
  rintro n σ H' ⟨j, m, rfl, rfl, hj, hm, rfl⟩
  refine t_cmp (e_slB sl_str (e_var (e_var ⟨_, rfl, e_bin (e_var (e_int (o_add ⟨_, rfl, z, rfl, hz', ?_⟩)))⟩)))
  rw [cutOne hj]
  refine e_str ?_
  rw [sg_sp]
  refine o_eqS ⟨_, rfl, ?_⟩
  rw [one_dec]
  cases m with
  | nil =>
    refine ite_f rfl (l_cons (s_ret (e_var ?_)))
    exact q j (hm ▸ hj)
  | cons c m =>
    by_cases hc : c = 32
    · subst hc
      refine ite_t (by simp) (l_cons (s_aug (i := 2) (j := (j : Int)) rfl (e_int ⟨1, rfl, l_nil ?_⟩)))
      exact ⟨m.length, by simp, j + 1, m, by rw [show (((j + 1 : Nat) : Int)) = (j : Int) + 1 by omega]; rfl, rfl, hj.next, hm, rfl⟩
    · refine ite_f (decide_eq_false (by show ¬ some c = some 32; simpa using hc)) (l_cons (s_ret (e_var ?_)))
      refine q j ?_
      rw [← hm]
      unfold skip
      rw [if_neg hc]
      exact hj
def spSign (CT : Addr) : Sp := fun vs H Q E => ∃ (z : Str) (i : Nat) (g : Str) (l : List Nat), vs = [.str z, .int (i : Int), .str g] ∧ z.length ≤ 100000 ∧ AtI z i l ∧ Out CT z H E (mt (cs g) (skip l)) fun r => ∀ j : Nat, AtI z j r → Q (.int (j : Int)) H
theorem ok_sign (T : Top K mg "read_sign" s_read_sign) (FS : Fn P w K mg base 1 "skip_spaces" spSkip) (R : Er P w K mg base "TextError" CT "index") : FnN P w K mg base 3 "read_sign" (spSign CT) := by
  refine fn_okN T sc_read_sign so_read_sign (fun vs H Q E h => by obtain ⟨z, i, g, l, rfl, _⟩ := h; rfl) (fun _ _ _ _ _ _ us hl => match us, hl with | [_, _, _], _ => rfl) fun f cdv A outer s H vs Q E hr h nd tk => ?_
  obtain ⟨z, i, g, l, rfl, hz, hi, q1, q2⟩ := h
  have hz' : z.length ≤ sizeLine := Nat.le_trans hz (by decide)
  refine l_cons (s_set (e_call (by exact FS) (by exact hr) (by decide) ?_))
  refine a_cons (e_var (a_cons (e_var (a_nil ?_))))
  refine ⟨z, i, l, rfl, hz, hi, fun a0 h0 => ?_⟩
  show wL _ _ _ [some (.str z), some (.int (i : Int)), some (.str g), some (.int (a0 : Int)), none] _
  refine l_cons (s_forS (e_var ⟨g, rfl, fun k σ H' => ∃ (j : Nat) (y : Option V) (m : List Nat), σ = [some (.str z), some (.int (i : Int)), some (.str g), some (.int (j : Int)), y] ∧ H' = H ∧ AtI z j m ∧ mt ((cs g).drop k) m = mt (cs g) (skip l), ⟨a0, none, skip l, rfl, rfl, h0, rfl⟩, ?_, ?_⟩))
  · rintro k c σ H' hc ⟨j, y, m, rfl, rfl, hj, hm⟩
    have hc' : (cs g)[k]? = some c := by rw [Array.getElem?_toList]; exact hc
    have hk := (List.getElem?_eq_some_iff.mp hc').1
    have hd : (cs g).drop k = c :: (cs g).drop (k + 1) := by
      rw [List.drop_eq_getElem_cons hk]
      rw [List.getElem?_eq_getElem hk] at hc'
      injection hc' with e
      rw [e]
    rw [hd] at hm
    show wL _ _ _ [some (.str z), some (.int (i : Int)), some (.str g), some (.int (j : Int)), some (.str (sg c))] _
    refine l_cons (s_if (t_cmp (e_slB sl_str (e_var (e_var ⟨_, rfl, e_bin (e_var (e_int (o_add ⟨_, rfl, z, rfl, hz', ?_⟩)))⟩)))))
    rw [cutOne hj]
    refine e_var (o_neS ⟨_, rfl, ?_⟩)
    rw [one_dec]
    cases m with
    | nil =>
      refine ite_t rfl (l_cons (s_raiseN (by exact R) (by exact tk) (by exact hr) (by decide) (e_var fun d H1 e1 n1 h1 => ?_)))
      exact q2 [] j d H1 hm.symm hj e1 h1
    | cons b m =>
      by_cases hb : b = c
      · subst hb
        refine ite_f (by simp) (l_nil (l_cons (s_aug (i := 3) (j := (j : Int)) rfl (e_int ⟨1, rfl, l_nil ?_⟩))))
        refine ⟨j + 1, _, m, by rw [show (((j + 1 : Nat) : Int)) = (j : Int) + 1 by omega]; rfl, rfl, hj.next, ?_⟩
        rw [← hm]
        show _ = if b = b then _ else _
        rw [if_pos rfl]
      · refine ite_t (by simp [hb]) (l_cons (s_raiseN (by exact R) (by exact tk) (by exact hr) (by decide) (e_var fun d H1 e1 n1 h1 => ?_)))
        refine q2 (b :: m) j d H1 ?_ hj e1 h1
        rw [← hm]
        show (if b = c then _ else _) = _
        rw [if_neg hb]
  · rintro σ H' ⟨j, y, m, rfl, rfl, hj, hm⟩
    rw [List.drop_eq_nil_of_le (by rw [Array.length_toList]; exact Nat.le_refl _)] at hm
    exact l_cons (s_ret (e_var (q1 m hm.symm j hj)))
end



theorem run_cons (g : Nat → Bool) {c : Nat} (h : g c = true) (l : List Nat) : run g (c :: l) = c :: run g l := by
  show (if g c = true then _ else _) = _
  rw [if_pos h]
theorem rest_cons (g : Nat → Bool) {c : Nat} (h : g c = true) (l : List Nat) : rest g (c :: l) = rest g l := by
  show (if g c = true then _ else _) = _
  rw [if_pos h]
theorem run_stop (g : Nat → Bool) {m : List Nat} (h : on1 g m.head? = false) : run g m = [] ∧ rest g m = m := by
  cases m with
  | nil => exact ⟨rfl, rfl⟩
  | cons c m =>
    have h : g c = false := h
    constructor
    · show (if g c = true then _ else _) = _
      rw [if_neg (by rw [h]; decide)]
    · show (if g c = true then _ else _) = _
      rw [if_neg (by rw [h]; decide)]
theorem AtI.pos {z : Str} {i j : Nat} {l m : List Nat} (h : AtI z i l) (k : AtI z j m) (e : l.length = m.length) : i = j := by
  have := h.len
  have := k.len
  omega
/-- on the way through signs of a sort -/
def Way (g : Nat → Bool) (z : Str) (i : Nat) (l : List Nat) (j : Nat) (m : List Nat) : Prop := AtI z j m ∧ i ≤ j ∧ ∃ a, l = a ++ m ∧ a.length = j - i ∧ run g l = a ++ run g m ∧ rest g l = rest g m
theorem Way.step {g : Nat → Bool} {z : Str} {i j c : Nat} {l m : List Nat} (h : Way g z i l j (c :: m)) (hc : g c = true) : Way g z i l (j + 1) m := by
  obtain ⟨h1, h2, a, rfl, h4, h5, h6⟩ := h
  refine ⟨h1.next, by omega, a ++ [c], by simp, by rw [List.length_append, h4]; show j - i + 1 = _; omega, ?_, ?_⟩
  · rw [h5, run_cons g hc]; simp
  · rw [h6, rest_cons g hc]
theorem Way.fin {g : Nat → Bool} {z : Str} {i j : Nat} {l m : List Nat} (h : Way g z i l j m) (hm : on1 g m.head? = false) : AtI z j (rest g l) ∧ i ≤ j ∧ (run g l).length = j - i ∧ run g l = ((cs z).drop i).take (j - i) ∨ ¬ AtI z i l := by
  obtain ⟨h1, h2, a, rfl, h4, h5, h6⟩ := h
  obtain ⟨e1, e2⟩ := run_stop g hm
  rw [e1, List.append_nil] at h5
  rw [e2] at h6
  by_cases hi : AtI z i (a ++ m)
  · left
    refine ⟨by rw [h6]; exact h1, h2, by rw [h5]; exact h4, ?_⟩
    rw [h5, hi.2, ← h4, List.take_left]
  · exact .inr hi
section
variable {P : Program} {w : World} {K : PySem.W.Frag} {mg : Str → Option Value} {base : Heap} {CT : Addr}
def spRName (CT : Addr) : Sp := fun vs H Q E => ∃ (z : Str) (i : Nat) (l : List Nat), vs = [.str z, .int (i : Int)] ∧ z.length ≤ 100000 ∧ AtI z i l ∧ Out CT z H E (rname l) fun nr => ∀ j : Nat, AtI z j nr.2 → i < j → cs (cutS z (some (i : Int)) (some (j : Int))) = nr.1 → Q (.int (j : Int)) H
theorem ok_rname {t : Tok} (T : Top K mg "read_name" s_read_name) (mN : mg "NAME_LENGTH" = some (.int 12 t)) (FL : Fn P w K mg base 1 "is_letter" (spLet let1)) (FD : Fn P w K mg base 1 "is_digit" (spLet dig1)) (R : Er P w K mg base "TextError" CT "index") : FnN P w K mg base 3 "read_name" (spRName CT) := by
  refine fn_okN T sc_read_name so_read_name (fun vs H Q E h => by obtain ⟨z, i, l, rfl, _⟩ := h; rfl) (fun _ _ _ _ _ _ us hl => match us, hl with | [_, _], _ => rfl) fun f cdv A outer s H vs Q E hr h nd tk => ?_
  obtain ⟨z, i, l, rfl, hz, hi, q1, q2⟩ := h
  have hz' : z.length ≤ sizeLine := Nat.le_trans hz (by decide)
  refine l_cons (s_if (t_not (t_val (e_call (by exact FL) (by exact hr) (by decide) ?_))))
  refine a_cons (e_slB sl_str (e_var (e_var ⟨_, rfl, e_bin (e_var (e_int (o_add ⟨_, rfl, z, rfl, hz', ?_⟩)))⟩)))
  rw [cutOne hi]
  refine a_nil ⟨l.head?, rfl, ?_⟩
  refine ⟨_, rfl, ?_⟩
  have bad : on1 let1 l.head? = false → rname l = .error l := by
    intro hb
    cases l with
    | nil => rfl
    | cons c l => rw [rname_cons, if_pos (show let1 c = false from hb)]
  cases hb : on1 let1 l.head? with
  | false =>
    refine ite_t rfl (l_cons (s_raiseN (by exact R) (by exact tk) (by exact hr) (by decide) (e_var fun d H1 e1 n1 h1 => ?_)))
    exact q2 l i d H1 (bad hb) hi e1 h1
  | true =>
    refine ite_f rfl (l_nil ?_)
    refine l_cons (s_set (e_var ?_))
    show wL _ _ _ [some (.str z), some (.int (i : Int)), some (.int (i : Int))] _
    refine l_cons (s_whileN (fun n σ H' => ∃ j m, σ = [some (.str z), some (.int (i : Int)), some (.int ((j : Nat) : Int))] ∧ H' = H ∧ Way alnum z i l j m ∧ n = m.length) l.length ⟨i, l, rfl, rfl, ⟨hi, Nat.le_refl _, [], rfl, by simp, rfl, rfl⟩, rfl⟩ ?_)
    rintro n σ H' ⟨j, m, rfl, rfl, hw, rfl⟩
    have hj := hw.1
    have hm1 : on1 alnum m.head? = (on1 let1 m.head? || on1 dig1 m.head?) := by cases m <;> rfl
    refine t_w (w_or (t_val (e_call (by exact FL) (by exact hr) (by decide) ?_)))
    refine a_cons (e_slB sl_str (e_var (e_var ⟨_, rfl, e_bin (e_var (e_int (o_add ⟨_, rfl, z, rfl, hz', ?_⟩)))⟩)))
    rw [cutOne hj]
    refine a_nil ⟨m.head?, rfl, ?_⟩
    refine ⟨_, rfl, ?_⟩
    have step : on1 alnum m.head? = true → ∃ k < m.length, ∃ (j' : Nat) (m' : List Nat), ([some (V.str z), some (.int (i : Int)), some (.int ((j : Int) + 1))] : L2.St) = [some (.str z), some (.int (i : Int)), some (.int (j' : Int))] ∧ H' = H' ∧ Way alnum z i l j' m' ∧ k = m'.length := by
      intro h1
      cases m with
      | nil => cases h1
      | cons c m => exact ⟨m.length, by simp, j + 1, m, by rw [show (((j + 1 : Nat) : Int)) = (j : Int) + 1 by omega], rfl, hw.step h1, rfl⟩
    cases hl : on1 let1 m.head? with
    | true =>
      refine ite_t rfl (ite_t rfl (l_cons (s_aug (i := 2) (j := (j : Int)) rfl (e_int ⟨1, rfl, l_nil ?_⟩))))
      exact step (by rw [hm1, hl]; rfl)
    | false =>
      refine ite_f rfl (w_or1 (t_val (e_call (by exact FD) (by exact hr) (by decide) ?_)))
      refine a_cons (e_slB sl_str (e_var (e_var ⟨_, rfl, e_bin (e_var (e_int (o_add ⟨_, rfl, z, rfl, hz', ?_⟩)))⟩)))
      rw [cutOne hj]
      refine a_nil ⟨m.head?, rfl, ?_⟩
      refine ⟨_, rfl, ?_⟩
      cases hd : on1 dig1 m.head? with
      | true =>
        refine ite_t rfl (l_cons (s_aug (i := 2) (j := (j : Int)) rfl (e_int ⟨1, rfl, l_nil ?_⟩)))
        exact step (by rw [hm1, hl, hd]; rfl)
      | false =>
        refine ite_f rfl ?_
        have hf : on1 alnum m.head? = false := by rw [hm1, hl, hd]; rfl
        rcases hw.fin hf with ⟨f1, f2, f3, f4⟩ | f
        · cases l with
          | nil => cases hb
          | cons c l =>
            have hc : let1 c = true := hb
            have ec : run alnum (c :: l) ≠ [] := by
              rw [run_cons alnum (by unfold alnum; rw [hc]; rfl)]
              simp
            have lp : 0 < (run alnum (c :: l)).length := List.length_pos_iff.mpr ec
            refine l_cons (s_if (t_cmp (e_bin (e_var (e_var (o_sub ?_))))))
            refine e_glob (v := .int 12) (by exact mN) ⟨t, rfl⟩ (o_gt ⟨_, rfl, ?_⟩)
            refine if2 (fun h => ?_) (fun h => ?_)
            · refine l_cons (s_raiseN (by exact R) (by exact tk) (by exact hr) (by decide) (e_bin (e_var (e_glob (v := .int 12) (by exact mN) ⟨t, rfl⟩ (o_add fun d H1 e1 n1 h1 => ?_)))))
              have l12 : 12 ≤ (c :: l).length := by
                have := run_rest alnum (c :: l)
                rw [← this, List.length_append]
                omega
              refine q2 ((c :: l).drop 12) (i + 12) d H1 ?_ (hi.drop l12) e1 h1
              rw [rname_cons, if_neg (by rw [hc]; decide), if_pos (by omega)]
            · refine l_nil (l_cons (s_ret (e_var ?_)))
              refine q1 (run alnum (c :: l), rest alnum (c :: l)) ?_ j f1 (by omega) ?_
              · rw [rname_cons, if_neg (by rw [hc]; decide), if_neg (by omega)]
              · rw [cs_cut z f2 hj.1]
                exact f4.symm
        · exact absurd hi f
end



/-- a kind as a value: once, or a pair -/
def ModeV (H : Hp) (m : V) : Pk → Prop
  | none => m = .str "once"
  | some (u, v) => ∃ t, m = .ref t ∧ H t = some (.tup [.int u, .int v])
theorem ModeV.ts {H H' : Hp} {m : V} {k : Pk} (e : TS H H') (h : ModeV H m k) : ModeV H' m k := by
  cases k with
  | none => exact h
  | some uv =>
    obtain ⟨t, h1, h2⟩ := h
    exact ⟨t, h1, e _ _ h2⟩
theorem run_all (g : Nat → Bool) : ∀ l, ∀ c ∈ run g l, g c = true
  | [], c, h => by cases h
  | d :: l, c, h => by
    by_cases hd : g d = true
    · rw [run_cons g hd] at h
      rcases List.mem_cons.mp h with rfl | h
      · exact hd
      · exact run_all g l c h
    · unfold run at h
      rw [if_neg hd] at h
      cases h
theorem dig_digits {l : List Nat} (h : ∀ c ∈ l, dig1 c = true) : NumText.AllDigits l := fun c hc => by
  have := h c hc
  unfold dig1 at this
  simpa using this
theorem int_run {z : Str} {l : List Nat} (h : cs z = run dig1 l) (hne : run dig1 l ≠ []) (hl : z.length ≤ 640) : PySem.intText? z = some ((dv (run dig1 l) : Nat) : Int) := by
  have := PySem.intText_digits (x := z) (by show NumText.AllDigits (cs z); rw [h]; exact dig_digits (run_all dig1 l)) (by show cs z ≠ []; rw [h]; exact hne) (by omega)
  rw [this]
  show some (((NumText.digitsVal (cs z) : Nat)) : Int) = _
  rw [h]
theorem int_sg {c : Nat} (h : dig1 c = true) : PySem.intText? (sg c) = some ((c - 48 : Nat) : Int) := by
  have hd : NumText.AllDigits [c] := dig_digits fun d hd => by rw [List.mem_singleton.mp hd]; exact h
  have := PySem.intText_digits (x := sg c) hd (by simp) (by show 1 ≤ 4300; decide)
  rw [this]
  show some (((0 * 10 + (c - 48) : Nat)) : Int) = _
  rw [Nat.zero_mul, Nat.zero_add]
section
variable {P : Program} {w : World} {K : PySem.W.Frag} {mg : Str → Option Value} {base : Heap} {CT : Addr}
def spRNum (CT : Addr) : Sp := fun vs H Q E => ∃ (z : Str) (i least : Nat) (l : List Nat), vs = [.str z, .int (i : Int), .int (least : Int)] ∧ z.length ≤ 100000 ∧ AtI z i l ∧ Out CT z H E (rnum least l) fun nr => ∀ (j : Nat) t H', AtI z j nr.2 → Same H H' → H' t = some (.tup [.int (nr.1 : Int), .int (j : Int)]) → Q (.ref t) H'
theorem ok_rnum {t : Tok} (T : Top K mg "read_number" s_read_number) (mI : mg "int" = none) (mN : mg "NUMBER_LENGTH" = some (.int 9 t)) (FD : Fn P w K mg base 1 "is_digit" (spLet dig1)) (R : Er P w K mg base "TextError" CT "index") : FnN P w K mg base 3 "read_number" (spRNum CT) := by
  refine fn_okN T sc_read_number so_read_number (fun vs H Q E h => by obtain ⟨z, i, least, l, rfl, _⟩ := h; rfl) (fun _ _ _ _ _ _ us hl => match us, hl with | [_, _, _], _ => rfl) fun f cdv A outer s H vs Q E hr h nd tk => ?_
  obtain ⟨z, i, least, l, rfl, hz, hi, q1, q2⟩ := h
  have hz' : z.length ≤ sizeLine := Nat.le_trans hz (by decide)
  refine l_cons (s_set (e_slB sl_str (e_var (e_var ⟨_, rfl, e_bin (e_var (e_int (o_add ⟨_, rfl, z, rfl, hz', ?_⟩)))⟩))))
  rw [cutOne hi]
  show wL _ _ _ [some (.str z), some (.int (i : Int)), some (.int (least : Int)), some (.str (one l.head?)), none, none] _
  refine l_cons (s_if (t_w (w_or (t_not (t_val (e_call (by exact FD) (by exact hr) (by decide) ?_))))))
  refine a_cons (e_var (a_nil ⟨l.head?, rfl, ?_⟩))
  refine ⟨_, rfl, ?_⟩
  cases l with
  | nil =>
    refine ite_t rfl (ite_t rfl (l_cons (s_raiseN (by exact R) (by exact tk) (by exact hr) (by decide) (e_var fun d H1 e1 n1 h1 => ?_))))
    exact q2 [] i d H1 rfl hi e1 h1
  | cons c l =>
  cases hd : dig1 c with
  | false =>
    have hb : on1 dig1 (c :: l).head? = false := hd
    rw [hb]
    refine ite_t rfl (ite_t rfl (l_cons (s_raiseN (by exact R) (by exact tk) (by exact hr) (by decide) (e_var fun d H1 e1 n1 h1 => ?_))))
    exact q2 (c :: l) i d H1 (by rw [rnum_cons, if_pos (.inl hd)]) hi e1 h1
  | true =>
    have hb : on1 dig1 (c :: l).head? = true := hd
    rw [hb]
    refine ite_f rfl (w_or1 (t_cmp (e_callTy (x := "int") (by assumption) b_int ?_)))
    refine a_cons (e_var (a_nil ?_))
    refine c_intS (int_sg hd) (by show 1 ≤ 640; decide) (e_var (o_lt ⟨_, rfl, ?_⟩))
    refine if2 (fun h => ?_) (fun h => ?_)
    · refine l_cons (s_raiseN (by exact R) (by exact tk) (by exact hr) (by decide) (e_var fun d H1 e1 n1 h1 => ?_))
      exact q2 (c :: l) i d H1 (by rw [rnum_cons, if_pos (.inr (by omega))]) hi e1 h1
    have g1 : ¬ (dig1 c = false ∨ c - 48 < least) := by
      rintro (h1 | h1)
      · rw [hd] at h1; cases h1
      · omega
    refine l_nil ?_
    refine l_cons (s_set (e_var ?_))
    show wL _ _ _ [some (.str z), some (.int (i : Int)), some (.int (least : Int)), some (.str (sg c)), some (.int (i : Int)), none] _
    refine l_cons (s_whileN (fun n σ H' => ∃ j m, σ = [some (.str z), some (.int (i : Int)), some (.int (least : Int)), some (.str (sg c)), some (.int ((j : Nat) : Int)), none] ∧ H' = H ∧ Way dig1 z i (c :: l) j m ∧ n = m.length) (c :: l).length ⟨i, c :: l, rfl, rfl, ⟨hi, Nat.le_refl _, [], rfl, by simp, rfl, rfl⟩, rfl⟩ ?_)
    rintro n σ H' ⟨j, m, rfl, rfl, hw, rfl⟩
    have hj := hw.1
    refine t_val (e_call (by exact FD) (by exact hr) (by decide) ?_)
    refine a_cons (e_slB sl_str (e_var (e_var ⟨_, rfl, e_bin (e_var (e_int (o_add ⟨_, rfl, z, rfl, hz', ?_⟩)))⟩)))
    rw [cutOne hj]
    refine a_nil ⟨m.head?, rfl, ?_⟩
    refine ⟨_, rfl, ?_⟩
    cases hl : on1 dig1 m.head? with
    | true =>
      cases m with
      | nil => cases hl
      | cons b m =>
        refine ite_t rfl (l_cons (s_aug (i := 4) (j := (j : Int)) rfl (e_int ⟨1, rfl, l_nil ?_⟩)))
        exact ⟨m.length, by simp, j + 1, m, by rw [show (((j + 1 : Nat) : Int)) = (j : Int) + 1 by omega]; rfl, rfl, hw.step hl, rfl⟩
    | false =>
      refine ite_f rfl ?_
      rcases hw.fin hl with ⟨f1, f2, f3, f4⟩ | f
      · have ec : run dig1 (c :: l) ≠ [] := by rw [run_cons dig1 hd]; simp
        have key : ∀ x : Int, x = (mst c : Int) → wL (cxOf (L2N.CX P w) P w K mg base N_read_number (Str.ofString "read_number") (defScope s_read_number) f cdv A outer s H' E) ((defBody s_read_number).drop 5) { nx := fun _ H' => Q .non H', rt := Q } [some (V.str z), some (.int (i : Int)), some (.int (least : Int)), some (.str (sg c)), some (.int (j : Int)), some (.int x)] H' := by
          rintro x rfl
          refine l_cons (s_if (t_cmp (e_bin (e_var (e_var (o_sub (e_var (o_gt ⟨_, rfl, ?_⟩))))))))
          refine if2 (fun h => ?_) (fun h => ?_)
          · have lm : mst c ≤ (c :: l).length := by
              have := run_rest dig1 (c :: l)
              rw [← this, List.length_append]
              omega
            refine l_cons (s_raiseN (by exact R) (by exact tk) (by exact hr) (by decide) (e_bin (e_var (e_var (o_add fun d H1 e1 n1 h1 => ?_)))))
            refine q2 ((c :: l).drop (mst c)) (i + mst c) d H1 ?_ (hi.drop lm) e1 (by rw [h1]; simp)
            rw [rnum_cons, if_neg g1, if_pos (by omega)]
          · refine l_nil (l_cons (s_ret (e_tup ?_)))
            refine a_cons (e_callTy (x := "int") (by assumption) b_int ?_)
            have hm9 : mst c ≤ 9 := by unfold mst; split <;> decide
            have ecut : cs (cutS z (some (i : Int)) (some (j : Int))) = run dig1 (c :: l) := by rw [cs_cut z f2 hj.1]; exact f4.symm
            refine a_cons (e_slB sl_str (e_var (e_var ⟨_, rfl, e_var ⟨_, rfl, z, rfl, hz', ?_⟩⟩)))
            refine a_nil (c_intS (int_run ecut ec (by rw [len_cs, ecut]; omega)) (by rw [len_cs, ecut]; omega) ?_)
            refine a_cons (e_var (a_nil ⟨by show 2 ≤ sizeLine; decide, fun t H1 e1 _ ht => ?_⟩))
            refine q1 (dv (run dig1 (c :: l)), rest dig1 (c :: l)) ?_ j t H1 f1 e1 ht
            rw [rnum_cons, if_neg g1, if_neg (by omega)]
        refine l_cons (s_set (e_ifExp (t_cmp (e_var (e_str ?_)))))
        rw [sg_0]
        refine o_eqS ⟨_, rfl, ?_⟩
        rw [show decide (sg c = sg 48) = decide (c = 48) from (one_dec (some c) 48).trans (by simp)]
        refine if2 (fun h => e_int (key 1 ?_)) (fun h => e_glob (v := .int 9) (by exact mN) ⟨t, rfl⟩ (key 9 ?_))
        · unfold mst; rw [if_pos h]; rfl
        · unfold mst; rw [if_neg h]; rfl
      · exact absurd hi f
theorem sg_br : (Str.ofString "[") = sg 91 := by decide +kernel
theorem sg_sl : (Str.ofString "/") = sg 47 := by decide +kernel
theorem sg_rb : (Str.ofString "]") = sg 93 := by decide +kernel
theorem sg_gt : (Str.ofString ">") = sg 62 := by decide +kernel
theorem fold_pos : ∀ (l : List Nat) (a : Nat), 1 ≤ a → 1 ≤ l.foldl (fun acc c => acc * 10 + (c - 48)) a
  | [], a, h => h
  | c :: l, a, h => by
    rw [List.foldl_cons]
    exact fold_pos l _ (by omega)
theorem rnum_ge {n : Nat} : ∀ {l r : List Nat}, rnum 1 l = .ok (n, r) → 1 ≤ n
  | [], r, h => by cases h
  | c :: l, r, h => by
    rw [rnum_cons] at h
    split at h
    · cases h
    next h1 =>
    split at h
    · cases h
    cases h
    have hc : dig1 c = true := by
      cases hd : dig1 c with
      | true => rfl
      | false => exact absurd (.inl hd) h1
    rw [run_cons dig1 hc]
    show 1 ≤ (run dig1 l).foldl _ (0 * 10 + (c - 48))
    refine fold_pos _ _ ?_
    rcases Nat.lt_or_ge (c - 48) 1 with h2 | h2
    · exact absurd (.inr h2) h1
    · omega
def okk : Pk → Prop
  | none => True
  | some (u, d) => 1 ≤ u ∧ 0 ≤ d
def spBr (CT : Addr) : Sp := fun vs H Q E => ∃ (z : Str) (i : Nat) (l : List Nat), vs = [.str z, .int (i : Int)] ∧ z.length ≤ 100000 ∧ AtI z i l ∧ Out CT z H E (rbr l) fun kr => ∀ (j : Nat) t m H', AtI z j kr.2 → Same H H' → H' t = some (.tup [m, .int (j : Int)]) → ModeV H' m kr.1 → okk kr.1 → Q (.ref t) H'
theorem ok_rbr (T : Top K mg "read_brackets" s_read_brackets) (FS : Fn P w K mg base 1 "skip_spaces" spSkip) (FG : FnN P w K mg base 3 "read_sign" (spSign CT)) (FN : FnN P w K mg base 3 "read_number" (spRNum CT)) : FnN P w K mg base 4 "read_brackets" (spBr CT) := by
  refine fn_okN T sc_read_brackets so_read_brackets (fun vs H Q E h => by obtain ⟨z, i, l, rfl, _⟩ := h; rfl) (fun _ _ _ _ _ _ us hl => match us, hl with | [_, _], _ => rfl) fun f cdv A outer s H vs Q E hr h nd tk => ?_
  obtain ⟨z, i, l, rfl, hz, hi, q1, q2⟩ := h
  refine l_cons (s_set (e_callN (by exact FG) (by exact tk) (by exact hr) (by decide) ?_))
  refine a_cons (e_var (a_cons (e_var (a_cons (e_str (a_nil ?_))))))
  rw [sg_br]
  refine ⟨z, i, _, l, rfl, hz, hi, fun l1 x1 j1 h1 => ?_, fun r j d H' x hj e h => q2 r j d H' (by unfold rbr; rw [show mt [91] (skip l) = _ from x]) hj e h⟩
  replace x1 : mt [91] (skip l) = .ok l1 := x1
  show wL _ _ _ [some (.str z), some (.int (i : Int)), some (.int (j1 : Int)), none, none] _
  refine l_cons (s_tup2 (e_callN (by exact FN) (by exact tk) (by exact hr) (by decide) ?_))
  refine a_cons (e_var (a_cons (e_call (by exact FS) (by exact hr) (by decide) ?_)))
  refine a_cons (e_var (a_cons (e_var (a_nil ?_))))
  refine ⟨z, j1, l1, rfl, hz, h1, fun i2 g2 => ?_⟩
  refine a_cons (e_int (a_nil ?_))
  refine ⟨z, i2, 1, skip l1, rfl, hz, g2, fun nr x2 j2 t2 H2 h2 e2 ht2 => ?_, fun r j d H' x hj e h => q2 r j d H' (by unfold rbr; rw [x1]; simp only []; rw [x]) hj e h⟩
  obtain ⟨u, l2⟩ := nr
  refine ⟨t2, _, _, rfl, SqT.of ht2, ?_⟩
  show wL _ _ _ [some (.str z), some (.int (i : Int)), some (.int (j2 : Int)), some (.int (u : Int)), none] _
  refine l_cons (s_set (e_callN (by exact FG) (by exact tk) (by exact hr) (by decide) ?_))
  refine a_cons (e_var (a_cons (e_var (a_cons (e_str (a_nil ?_))))))
  rw [sg_sl]
  refine ⟨z, j2, _, l2, rfl, hz, h2, fun l3 x3 j3 h3 => ?_, fun r j d H' x hj e h => q2 r j d H' (by unfold rbr; rw [x1]; simp only []; rw [x2]; simp only []; rw [show mt [47] (skip l2) = _ from x]) hj (e2.trans e) h⟩
  replace x3 : mt [47] (skip l2) = .ok l3 := x3
  show wL _ _ _ [some (.str z), some (.int (i : Int)), some (.int (j3 : Int)), some (.int (u : Int)), none] _
  refine l_cons (s_tup2 (e_callN (by exact FN) (by exact tk) (by exact hr) (by decide) ?_))
  refine a_cons (e_var (a_cons (e_call (by exact FS) (by exact hr) (by decide) ?_)))
  refine a_cons (e_var (a_cons (e_var (a_nil ?_))))
  refine ⟨z, j3, l3, rfl, hz, h3, fun i4 g4 => ?_⟩
  refine a_cons (e_int (a_nil ?_))
  refine ⟨z, i4, 0, skip l3, rfl, hz, g4, fun nr x4 j4 t4 H4 h4 e4 ht4 => ?_, fun r j d H' x hj e h => q2 r j d H' (by unfold rbr; rw [x1]; simp only []; rw [x2]; simp only []; rw [x3]; simp only []; rw [x]) hj (e2.trans e) h⟩
  obtain ⟨dd, l4⟩ := nr
  refine ⟨t4, _, _, rfl, SqT.of ht4, ?_⟩
  show wL _ _ _ [some (.str z), some (.int (i : Int)), some (.int (j4 : Int)), some (.int (u : Int)), some (.int (dd : Int))] _
  refine l_cons (s_ret (e_tup ?_))
  refine a_cons (e_tup ?_)
  refine a_cons (e_var (a_cons (e_var (a_nil ⟨by show 2 ≤ sizeLine; decide, fun m H5 e5 _ hm => ?_⟩))))
  refine a_cons (e_callN (by exact FG) (by exact tk) (by exact hr) (by decide) ?_)
  refine a_cons (e_var (a_cons (e_var (a_cons (e_str (a_nil ?_))))))
  rw [sg_rb]
  refine ⟨z, j4, _, l4, rfl, hz, h4, fun l5 x5 j5 h5 => ?_, fun r j d H' x hj e h => q2 r j d H' (by unfold rbr; rw [x1]; simp only []; rw [x2]; simp only []; rw [x3]; simp only []; rw [x4]; simp only []; rw [show mt [93] (skip l4) = _ from x]) hj (((e2.trans e4).trans e5).trans e) h⟩
  replace x5 : mt [93] (skip l4) = .ok l5 := x5
  refine a_nil ⟨by show 2 ≤ sizeLine; decide, fun t H6 e6 _ ht => ?_⟩
  exact q1 (some ((u : Int), (dd : Int)), l5) (by unfold rbr; rw [x1]; simp only []; rw [x2]; simp only []; rw [x3]; simp only []; rw [x4]; simp only []; rw [x5]) j5 t _ H6 h5 (((e2.trans e4).trans e5).trans e6) ht ⟨m, rfl, e6 _ _ hm⟩ ⟨by have := rnum_ge x2; omega, by omega⟩
def spPay (CT : Addr) : Sp := fun vs H Q E => ∃ (z : Str) (i c : Nat) (l : List Nat), vs = [.str z, .int (i : Int)] ∧ z.length ≤ 100000 ∧ AtI z i (c :: l) ∧
  ((c = 62 ∧ ∀ t H', Same H H' → H' t = some (.tup [.str "once", .int ((i + 1 : Nat) : Int)]) → Q (.ref t) H') ∨
   (c ≠ 62 ∧ Out CT z H E (rpay (c :: l)) fun kr => ∀ (j : Nat) t m H', AtI z j kr.2 → Same H H' → H' t = some (.tup [m, .int (j : Int)]) → ModeV H' m kr.1 → okk kr.1 → Q (.ref t) H'))
theorem ok_rpay (T : Top K mg "read_payment" s_read_payment) (FB : FnN P w K mg base 4 "read_brackets" (spBr CT)) (FG : FnN P w K mg base 3 "read_sign" (spSign CT)) : FnN P w K mg base 5 "read_payment" (spPay CT) := by
  refine fn_okN T sc_read_payment so_read_payment (fun vs H Q E h => by obtain ⟨z, i, c, l, rfl, _⟩ := h; rfl) (fun _ _ _ _ _ _ us hl => match us, hl with | [_, _], _ => rfl) fun f cdv A outer s H vs Q E hr h nd tk => ?_
  obtain ⟨z, i, c, l, rfl, hz, hi, q⟩ := h
  have hz' : z.length ≤ sizeLine := Nat.le_trans hz (by decide)
  have hat : atI z.cps.toList (i : Int) = some c := by
    have h1 := hi.next.1
    refine atI_nat (v := c) ?_
    have h2 := hi.2
    have h3 : ((cs z).drop i)[0]? = some c := by rw [h2]; rfl
    rw [List.getElem?_drop] at h3
    exact h3
  refine l_cons (s_if (t_cmp (e_ix (e_var (e_var (ix_s hz' hat (e_str ?_)))))))
  rw [sg_gt]
  refine o_eqS ⟨_, rfl, ?_⟩
  rw [show decide (sg c = sg 62) = decide (c = 62) from (one_dec (some c) 62).trans (by simp)]
  rcases q with ⟨rfl, q⟩ | ⟨hc, q1, q2⟩
  · refine ite_t rfl (l_cons (s_ret (e_tup ?_)))
    refine a_cons (e_str (a_cons (e_bin (e_var (e_int (o_add (a_nil ⟨by show 2 ≤ sizeLine; decide, fun t H1 e1 _ ht => ?_⟩)))))))
    exact q t H1 e1 ht
  · refine ite_f (decide_eq_false hc) (l_nil ?_)
    refine l_cons (s_tup2 (e_callN (by exact FB) (by exact tk) (by exact hr) (by decide) ?_))
    refine a_cons (e_var (a_cons (e_var (a_nil ?_))))
    refine ⟨z, i, c :: l, rfl, hz, hi, fun kr x1 j1 t1 m H1 h1 e1 ht1 hm ok1 => ?_, fun r j d H' x hj e h => q2 r j d H' (by unfold rpay; rw [x]) hj e h⟩
    obtain ⟨k, l1⟩ := kr
    refine ⟨t1, _, _, rfl, SqT.of ht1, ?_⟩
    show wL _ _ _ [some (.str z), some (.int (i : Int)), some m, some (.int (j1 : Int))] _
    refine l_cons (s_ret (e_tup ?_))
    refine a_cons (e_var (a_cons (e_callN (by exact FG) (by exact tk) (by exact hr) (by decide) ?_)))
    refine a_cons (e_var (a_cons (e_var (a_cons (e_str (a_nil ?_))))))
    refine ⟨z, j1, _, l1, rfl, hz, h1, fun l2 x2 j2 h2 => ?_, fun r j d H' x hj e h => q2 r j d H' (by unfold rpay; rw [x1]; simp only []; rw [show mt [62] (skip l1) = _ from x]) hj (e1.trans e) h⟩
    refine a_nil ⟨by show 2 ≤ sizeLine; decide, fun t H2 e2 _ ht => ?_⟩
    exact q1 (k, l2) (by unfold rpay; rw [x1]; simp only []; rw [show mt [62] (skip l1) = _ from x2]) j2 t m H2 h2 (e1.trans e2) ht (hm.ts (Same.ts e2)) ok1
end



section
variable {P : Program} {w : World} {K : PySem.W.Frag} {mg : Str → Option Value} {base : Heap}
structure BOk (mg : Str → Option Value) : Prop where
  isi : mg "isinstance" = none
  int : mg "int" = none
  bool : mg "bool" = none
  str : mg "str" = none
  tuple : mg "tuple" = none
  list : mg "list" = none
  len : mg "len" = none
  range : mg "range" = none
def Flat (v : V) : Prop := v = .non ∨ (∃ b, v = .bl b) ∨ (∃ i, v = .int i) ∨ ∃ z, v = .str z
theorem once_shaped : SeqAt.shaped (.str "once") = true := by decide +kernel
/-- whether a value is a whole number of at least l -/
def IsW (K : PySem.W.Frag) (H : Hp) (v : V) (l : Int) (b : Bool) : Prop := (∃ i, v = .int i ∧ b = decide (l ≤ i)) ∨ (b = false ∧ ((∃ k, v = .bl k) ∨ ∃ T, TyX K H v (.type T) ∧ kitB T "int" = some false))
def spWh (K : PySem.W.Frag) : Sp := fun vs H Q _ => ∃ v l b, vs = [v, .int l] ∧ IsW K H v l b ∧ Q (.bl b) H
theorem ok_whole (T : Top K mg "is_number_from" s_is_number_from) (B : BOk mg) : Fn P w K mg base 1 "is_number_from" (spWh K) := by
  refine fn_ok T sc_is_number_from so_is_number_from (fun vs H Q E h => ?_) (fun _ _ _ _ _ _ us hl => match us, hl with | [_, _], _ => rfl) fun f cdv A outer s H vs Q E hr h nd => ?_
  · obtain ⟨v, l, b, rfl, _⟩ := h
    rfl
  · obtain ⟨v, l, b, rfl, hv, q⟩ := h
    obtain ⟨bi, bt, bb, bs, btu, bl, bn, br⟩ := B
    rcases hv with ⟨i, rfl, rfl⟩ | ⟨rfl, ⟨k, rfl⟩ | ⟨T, ht, hk⟩⟩
    · walk_at "sts"
      refine c_isi ty_int (.ty _) (kit_ty kb_int_int) ?_
      walk_at "sts"
      refine c_isi ty_int (.ty _) (kit_ty kb_int_bool) ?_
      walk_at "sts"
      exact q
    · walk_at "sts"
      refine c_isi ty_bl (.ty _) (kit_ty kb_bool_int) ?_
      walk_at "sts"
      refine c_isi ty_bl (.ty _) (kit_ty kb_bool_bool) ?_
      walk_at "sts"
      exact q
    · walk_at "sts"
      refine c_isi (by exact ht) (.ty _) (kit_ty hk) ?_
      walk_at "sts"
      exact q
def KindV (K : PySem.W.Frag) (H : Hp) (v : V) (b : Bool) : Prop :=
  (∃ p xs, v = .ref p ∧ H p = some (.tup xs) ∧ ((¬ (xs.length : Int) = 2 ∧ b = false) ∨ ∃ x y b1 b2, xs = [x, y] ∧ IsW K H x 1 b1 ∧ IsW K H y 0 b2 ∧ b = (b1 && b2))) ∨
  (∃ z, v = .str z ∧ b = decide (z = "once")) ∨ (b = false ∧ ∃ T, TyX K H v (.type T) ∧ kitB T "tuple" = some false ∧ kitB T "str" = some false)
def spKi (K : PySem.W.Frag) : Sp := fun vs H Q _ => ∃ v b, vs = [v] ∧ KindV K H v b ∧ Q (.bl b) H
theorem ok_kind (T : Top K mg "is_kind" s_is_kind) (B : BOk mg) (F : Fn P w K mg base 1 "is_number_from" (spWh K)) : Fn P w K mg base 2 "is_kind" (spKi K) := by
  refine fn_ok T sc_is_kind so_is_kind (fun vs H Q E h => ?_) (fun _ _ _ _ _ _ us hl => match us, hl with | [_], _ => rfl) fun f cdv A outer s H vs Q E hr h nd => ?_
  · obtain ⟨v, b, rfl, _⟩ := h
    rfl
  · obtain ⟨v, b, rfl, hv, q⟩ := h
    obtain ⟨bi, bt, bb, bs, btu, bl, bn, br⟩ := B
    rcases hv with ⟨p, xs, rfl, hp, hx⟩ | ⟨z, rfl, rfl⟩ | ⟨rfl, T, ht, hk1, hk2⟩
    · walk_at "sts"
      refine c_isi (ty_tup hp) (.ty _) (kit_ty kb_tuple_tuple) ?_
      walk_at "sts"
      refine c_lenT (by exact SqT.of hp) ?_
      rcases hx with ⟨hl, rfl⟩ | ⟨x, y, b1, b2, rfl, h1, h2, rfl⟩
      · walk_at "sts"
        refine ite_f (decide_eq_false hl) ?_
        exact q
      · walk_at "sts"
        refine e_call (by exact F) (by exact hr) (by decide) ?_
        walk_at "sts"
        refine ix_t (by exact SqT.of hp) rfl ?_
        walk_at "sts"
        refine ⟨x, 1, b1, rfl, h1, ?_⟩
        cases b1 with
        | false =>
          walk_at "sts"
          exact q
        | true =>
          walk_at "sts"
          refine e_call (by exact F) (by exact hr) (by decide) ?_
          walk_at "sts"
          refine ix_t (by exact SqT.of hp) rfl ?_
          walk_at "sts"
          refine ⟨y, 0, b2, rfl, h2, ?_⟩
          exact q
    · walk_at "sts"
      refine c_isi ty_str (.ty _) (kit_ty kb_str_tuple) ?_
      walk_at "sts"
      refine c_isi ty_str (.ty _) (kit_ty kb_str_str) ?_
      walk_at "sts"
      exact q
    · walk_at "sts"
      refine c_isi (by exact ht) (.ty _) (kit_ty hk1) ?_
      walk_at "sts"
      refine c_isi (by exact ht) (.ty _) (kit_ty hk2) ?_
      walk_at "sts"
      exact q
theorem kindV_of {H : Hp} {m : V} {k : Pk} (hm : ModeV H m k) (hk : okk k) : KindV K H m true := by
  rcases k with _ | ⟨u, v⟩
  · exact .inr (.inl ⟨"once", hm, by simp⟩)
  · obtain ⟨t, rfl, ht⟩ := hm
    exact .inl ⟨t, _, rfl, ht, .inr ⟨.int u, .int v, true, true, rfl, .inl ⟨u, rfl, by simp [hk.1]⟩, .inl ⟨v, rfl, by simp [hk.2]⟩, rfl⟩⟩
def SnV (H : Hp) : V → Sn → Prop
  | v, .word n => ∃ t z, v = .ref t ∧ H t = some (.tup [.str "word", .str z]) ∧ cs z = n
  | v, .menu l r => ∃ t a b, v = .ref t ∧ H t = some (.tup [.str "menu", a, b]) ∧ SnV H a l ∧ SnV H b r
  | v, .trade k p g => ∃ t m a b, v = .ref t ∧ H t = some (.tup [.str "trade", m, a, b]) ∧ ModeV H m k ∧ SnV H a p ∧ SnV H b g
theorem SnV.ts {H H' : Hp} (e : TS H H') : ∀ {s : Sn} {v : V}, SnV H v s → SnV H' v s
  | .word n, v, ⟨t, z, h1, h2, h3⟩ => ⟨t, z, h1, e _ _ h2, h3⟩
  | .menu l r, v, ⟨t, a, b, h1, h2, h3, h4⟩ => ⟨t, a, b, h1, e _ _ h2, h3.ts e, h4.ts e⟩
  | .trade k p g, v, ⟨t, m, a, b, h1, h2, h5, h3, h4⟩ => ⟨t, m, a, b, h1, e _ _ h2, h5.ts e, h3.ts e, h4.ts e⟩
theorem SnV.ref {H : Hp} {v : V} {s : Sn} (h : SnV H v s) : ∃ t, v = .ref t := by
  cases s with
  | word => obtain ⟨t, z, h, _⟩ := h; exact ⟨t, h⟩
  | menu => obtain ⟨t, _, _, h, _⟩ := h; exact ⟨t, h⟩
  | trade => obtain ⟨t, _, _, _, h, _⟩ := h; exact ⟨t, h⟩
def spWord : Sp := fun vs H Q _ => ∃ z, vs = [.str z] ∧ z.length ≤ 1000 ∧ nameB (cs z) = true ∧ ∀ t H', Same H H' → H' t = some (.tup [.str "word", .str z]) → Q (.ref t) H'
theorem ok_word (T : Top K mg "word" s_word) (F : Fn P w K mg base 2 "is_name" spNm) : Fn P w K mg base 3 "word" spWord := by
  refine fn_ok T sc_word so_word (fun vs H Q E h => by obtain ⟨z, rfl, _⟩ := h; rfl) (fun _ _ _ _ _ _ us hl => match us, hl with | [_], _ => rfl) fun f cdv A outer s H vs Q E hr h nd => ?_
  obtain ⟨z, rfl, hz, hb, q⟩ := h
  refine l_cons (s_if (t_not (t_val (e_call (by exact F) (by exact hr) (by decide) ?_))))
  refine a_cons (e_var (a_nil ⟨z, rfl, by show z.length ≤ 2 ^ 24; omega, ?_⟩))
  rw [hb]
  refine ⟨_, rfl, ite_f rfl (l_nil (l_cons (s_ret (e_tup ?_))))⟩
  refine a_cons (e_str (a_cons (e_var (a_nil ⟨by show 2 ≤ sizeLine; decide, fun t H1 e1 _ ht => ?_⟩))))
  exact q t H1 e1 ht
def spMenu : Sp := fun vs H Q _ => ∃ a b, vs = [a, b] ∧ ∀ t H', Same H H' → H' t = some (.tup [.str "menu", a, b]) → Q (.ref t) H'
theorem ok_menu (T : Top K mg "menu" s_menu) : Fn P w K mg base 1 "menu" spMenu := by
  refine fn_ok T sc_menu so_menu (fun vs H Q E h => by obtain ⟨a, b, rfl, _⟩ := h; rfl) (fun _ _ _ _ _ _ us hl => match us, hl with | [_, _], _ => rfl) fun f cdv A outer s H vs Q E hr h nd => ?_
  obtain ⟨a, b, rfl, q⟩ := h
  refine l_cons (s_ret (e_tup ?_))
  refine a_cons (e_str (a_cons (e_var (a_cons (e_var (a_nil ⟨by show 3 ≤ sizeLine; decide, fun t H1 e1 _ ht => ?_⟩))))))
  exact q t H1 e1 ht
def spTrade (K : PySem.W.Frag) : Sp := fun vs H Q _ => ∃ p g m, vs = [p, g, m] ∧ KindV K H m true ∧ ∀ t H', Same H H' → H' t = some (.tup [.str "trade", m, p, g]) → Q (.ref t) H'
theorem ok_trade (T : TopK K mg "trade" s_trade "kind" (.str "once")) (F : Fn P w K mg base 2 "is_kind" (spKi K)) : FnKw P w K mg base 3 "trade" "kind" 2 (.str "once") (spTrade K) := by
  refine fn_okKw T sc_trade so_trade (fun vs H Q E h => by obtain ⟨p, g, m, rfl, _⟩ := h; rfl) (fun _ _ _ _ _ _ _ _ _ => ⟨_, _, _, _, _, _, rfl, rfl, rfl⟩) (fun _ _ _ _ _ _ _ _ _ => rfl) fun f cdv A outer s H vs Q E hr h nd tk => ?_
  obtain ⟨p, g, m, rfl, hk, q⟩ := h
  refine l_cons (s_if (t_not (t_val (e_call (by exact F) (by exact hr) (by decide) ?_))))
  refine a_cons (e_var (a_nil ⟨_, true, rfl, hk, ?_⟩))
  refine ⟨_, rfl, ite_f rfl (l_nil (l_cons (s_ret (e_tup ?_))))⟩
  refine a_cons (e_str (a_cons (e_var (a_cons (e_var (a_cons (e_var (a_nil ⟨by show 4 ≤ sizeLine; decide, fun t H1 e1 _ ht => ?_⟩))))))))
  exact q t H1 e1 ht
/-! ### Unfinished -/
def ufl (pv : V) (pl : Addr) : List (Str × V) := [("part", pv), ("prices", .ref pl)]
theorem ufl_part (pv : V) (pl : Addr) : (ufl pv pl).lookup ("part" : Str) = some pv := by
  have : (("part" : Str) == "part") = true := by decide +kernel
  simp only [ufl, List.lookup, this]
theorem ufl_prices (pv : V) (pl : Addr) : (ufl pv pl).lookup ("prices" : Str) = some (.ref pl) := by
  have h1 : (("prices" : Str) == "part") = false := by decide +kernel
  have h2 : (("prices" : Str) == "prices") = true := by decide +kernel
  simp only [ufl, List.lookup, h1, h2]
theorem ufl_no (pv : V) (pl : Addr) {m : Str} (h1 : (m == ("part" : Str)) = false) (h2 : (m == ("prices" : Str)) = false) : (ufl pv pl).lookup m = none := by
  simp only [ufl, List.lookup, h1, h2]
theorem ufl_put (pv x : V) (pl : Addr) : putF "part" x (ufl pv pl) = ufl x pl := by
  show (if ("part" : Str) = "part" then _ else _) = _
  rw [if_pos rfl]
  rfl
theorem ufl_new (pl : Addr) : putF "prices" (.ref pl) (putF "part" .non []) = ufl .non pl := by
  show (if ("part" : Str) = "prices" then _ else _) = _
  rw [if_neg (by decide +kernel)]
  rfl
structure UOk (K : PySem.W.Frag) (mg : Str → Option Value) (C : Addr) : Prop where
  cl : Cls K C
  nP : NoAttr K C "part"
  nQ : NoAttr K C "prices"
  mks : PySem.W.makesIn K C = true
  kp : PySem.W.keepIn K (.ref C) = true
  mg : mg "Unfinished" = some (.ref C)
def PartV (H : Hp) (v : V) : Option Sn → Prop
  | none => v = .non
  | some s => SnV H v s
def PrsV (H : Hp) : List V → Prs → Prop
  | [], [] => True
  | v :: vs, kp :: ps => (∃ t m x, v = .ref t ∧ H t = some (.tup [m, x]) ∧ ModeV H m kp.1 ∧ SnV H x kp.2 ∧ okk kp.1) ∧ PrsV H vs ps
  | _, _ => False
theorem PrsV.ts {H H' : Hp} (e : TS H H') : ∀ {vs : List V} {ps : Prs}, PrsV H vs ps → PrsV H' vs ps
  | [], [], _ => trivial
  | _ :: _, _ :: _, ⟨⟨t, m, x, h1, h2, h3, h4, h5⟩, r⟩ => ⟨⟨t, m, x, h1, e _ _ h2, h3.ts e, h4.ts e, h5⟩, r.ts e⟩
theorem PrsV.len {H : Hp} : ∀ {vs : List V} {ps : Prs}, PrsV H vs ps → vs.length = ps.length
  | [], [], _ => rfl
  | _ :: _, _ :: _, ⟨_, r⟩ => by simp [r.len]
theorem PrsV.snoc {H : Hp} {v : V} {kp : Pk × Sn} (h : ∃ t m x, v = .ref t ∧ H t = some (.tup [m, x]) ∧ ModeV H m kp.1 ∧ SnV H x kp.2 ∧ okk kp.1) : ∀ {vs : List V} {ps : Prs}, PrsV H vs ps → PrsV H (vs ++ [v]) (ps ++ [kp])
  | [], [], _ => ⟨h, trivial⟩
  | _ :: _, _ :: _, ⟨a, r⟩ => ⟨a, r.snoc h⟩
theorem PrsV.rev {H : Hp} : ∀ {vs : List V} {ps : Prs}, PrsV H vs ps → PrsV H vs.reverse ps.reverse
  | [], [], _ => trivial
  | v :: vs, kp :: ps, ⟨a, r⟩ => by
    rw [List.reverse_cons, List.reverse_cons]
    exact PrsV.snoc a r.rev
theorem PrsV.get {H : Hp} : ∀ {vs : List V} {ps : Prs} {k : Nat} {v : V}, PrsV H vs ps → vs[k]? = some v → ∃ kp, ps[k]? = some kp ∧ ∃ t m x, v = .ref t ∧ H t = some (.tup [m, x]) ∧ ModeV H m kp.1 ∧ SnV H x kp.2 ∧ okk kp.1
  | [], [], k, v, _, e => by cases k <;> cases e
  | _ :: _, kp :: _, 0, v, ⟨a, _⟩, e => by cases e; exact ⟨kp, rfl, a⟩
  | _ :: _, _ :: _, k + 1, v, ⟨_, r⟩, e => r.get e
/-- one that is being read: its part, its prices -/
def FrV (C : Addr) (H : Hp) (o pl : Addr) (p : Option Sn) (ps : Prs) : Prop := (∃ dx pv, H o = some (.ins C dx (ufl pv pl)) ∧ PartV H pv p) ∧ ∃ es, H pl = some (.lst es) ∧ PrsV H es ps ∧ es.length ≤ 100000
theorem PartV.ts {H H' : Hp} (e : TS H H') {v : V} {p : Option Sn} (h : PartV H v p) : PartV H' v p := by
  cases p with
  | none => exact h
  | some s => exact SnV.ts e h
theorem FrV.keep {C : Addr} {H H' : Hp} {o pl : Addr} {p : Option Sn} {ps : Prs} (h : FrV C H o pl p ps) (e : TS H H') (h1 : ∀ u, H o = some u → H' o = some u) (h2 : ∀ u, H pl = some u → H' pl = some u) : FrV C H' o pl p ps := by
  obtain ⟨⟨dx, pv, a, b⟩, es, c, d, f⟩ := h
  exact ⟨⟨dx, pv, h1 _ a, b.ts e⟩, es, h2 _ c, d.ts e, f⟩
theorem TS.ins {a C dx : Addr} {fs : List (Str × V)} {H : Hp} {o : HO} (ha : H a = some (.ins C dx fs)) : TS H (L2.upd H a o) := fun t xs h => by
  rw [upd_ne (ne_of h ha (by intro z; cases z))]
  exact h
variable {C : Addr}
def spUInit (C : Addr) : Sp := fun vs H Q _ => ∃ p dx, vs = [.ref p] ∧ H p = some (.ins C dx []) ∧ ∀ pl H', But p H H' → H pl = none → FrV C H' p pl none [] → Q .non H'
theorem ok_uinit (T : TopM K C "__init__" "Unfinished.__init__" s_Unfinished___init) (O : UOk K mg C) : Kl P w K mg base 1 "Unfinished" C (spUInit C) := by
  obtain ⟨f, fd, F, hb, hf, hi, hk⟩ := me_ok (P := P) (w := w) (mg := mg) (base := base) (k := 0) (sp := spUInit C) T sc_Unfinished___init so_Unfinished___init (fun vs H Q E h => by obtain ⟨p, dx, rfl, _⟩ := h; rfl) (fun _ _ _ _ _ _ us hl => match us, hl with | [_], _ => rfl) fun f cdv A outer s H vs Q E hr h nd => by
    obtain ⟨p, dx, rfl, hp, q⟩ := h
    refine l_cons (s_fld (e_non (e_var ⟨p, C, dx, _, rfl, hp, O.cl, O.nP, by show 0 < 1000; decide, ?_⟩)))
    have b1 : But p H (upd H p (.ins C dx (putF "part" .non []))) := But.refl.upd
    have hp1 : upd H p (.ins C dx (putF "part" .non [])) p = some (.ins C dx (putF "part" .non [])) := upd_same
    generalize upd H p (.ins C dx (putF "part" .non [])) = H1 at b1 hp1
    refine l_cons (s_fld (e_lst (a_nil ⟨by show 0 ≤ sizeLine; decide, fun pl H2 e2 n2 h2 => ?_⟩)))
    have np : pl ≠ p := fun z => by subst z; rw [hp1] at n2; cases n2
    refine e_var ⟨p, C, dx, _, rfl, e2 _ _ hp1, O.cl, O.nQ, by show 1 < 1000; decide, ?_⟩
    rw [ufl_new]
    refine l_nil (q pl _ (b1.trans (But.of e2)).upd ?_ ⟨⟨dx, _, upd_same, rfl⟩, [], by rw [upd_ne np]; exact h2, trivial, by decide⟩)
    cases hz : H pl with
    | none => rfl
    | some o => rw [b1 _ _ np hz] at n2; cases n2
  exact ⟨f, fd, _, F, O.mg, ⟨O.mks, hf, hi, O.kp⟩, hb⟩
def spUPut (C : Addr) : Sp := fun vs H Q _ => ∃ o pl p ps v a, vs = [.ref o, v] ∧ FrV C H o pl p ps ∧ SnV H v a ∧ ∀ H', But o H H' → TS H H' → FrV C H' o pl (some (put p a)) ps → Q .non H'
theorem ok_uput (T : TopM K C "put" "Unfinished.put" s_Unfinished_put) (O : UOk K mg C) (FM : Fn P w K mg base 1 "menu" spMenu) : Mt P w K mg base 2 C "put" (spUPut C) := by
  obtain ⟨f, fd, G, hb, hf, hi, hk⟩ := me_ok (P := P) (w := w) (mg := mg) (base := base) (k := 1) (sp := spUPut C) T sc_Unfinished_put so_Unfinished_put (fun vs H Q E h => by obtain ⟨o, pl, p, ps, v, a, rfl, _⟩ := h; rfl) (fun _ _ _ _ _ _ us hl => match us, hl with | [_, _], _ => rfl) fun f cdv A outer s H vs Q E hr h nd => by
    obtain ⟨o, pl, p, ps, v, a, rfl, ⟨⟨dx, pv, ho, hp⟩, es, hpl, hps, hl⟩, hv, q⟩ := h
    have npl : pl ≠ o := fun z => by subst z; rw [ho] at hpl; cases hpl
    have fin : ∀ x H1, Same H H1 → SnV H1 x (put p a) → FrV C (upd H1 o (.ins C dx (ufl x pl))) o pl (some (put p a)) ps ∧ But o H (upd H1 o (.ins C dx (ufl x pl))) ∧ TS H (upd H1 o (.ins C dx (ufl x pl))) := by
      intro x H1 e1 h1
      have ts1 : TS H1 (upd H1 o (.ins C dx (ufl x pl))) := TS.ins (e1 _ _ ho)
      exact ⟨⟨⟨dx, x, upd_same, SnV.ts ts1 h1⟩, es, by rw [upd_ne npl]; exact e1 _ _ hpl, (hps.ts (Same.ts e1)).ts ts1, hl⟩, (But.of e1).upd, (Same.ts e1).trans ts1⟩
    refine l_cons (s_fld (e_ifExp (t_cmp (e_fld (e_var ⟨o, C, dx, _, _, rfl, ho, O.cl, O.nP, ufl_part _ _, e_non (o_isN ⟨_, rfl, ?_⟩)⟩)))))
    cases p with
    | none =>
      obtain rfl : pv = .non := hp
      refine ite_t (by simp) (e_var (e_var ⟨o, C, dx, _, rfl, ho, O.cl, O.nP, by show 2 < 1000; decide, ?_⟩))
      rw [ufl_put]
      obtain ⟨f1, f2, f3⟩ := fin v H (fun _ _ h => h) hv
      exact l_nil (q _ f2 f3 f1)
    | some x0 =>
      obtain ⟨t0, rfl⟩ := SnV.ref hp
      refine ite_f (by simp) ?_
      refine e_call (by exact FM) (by exact hr) (by decide) ?_
      refine a_cons (e_fld (e_var ⟨o, C, dx, _, _, rfl, ho, O.cl, O.nP, ufl_part _ _, a_cons (e_var (a_nil ?_))⟩))
      refine ⟨_, _, rfl, fun t H1 e1 ht => e_var ⟨o, C, dx, _, rfl, e1 _ _ ho, O.cl, O.nP, by show 2 < 1000; decide, ?_⟩⟩
      rw [ufl_put]
      obtain ⟨f1, f2, f3⟩ := fin (.ref t) H1 e1 ⟨t, _, _, rfl, ht, SnV.ts (Same.ts e1) hp, SnV.ts (Same.ts e1) hv⟩
      exact l_nil (q _ f2 f3 f1)
  exact ⟨f, fd, _, G, ⟨hf, hi, hk⟩, hb, O.cl⟩
end



section
variable {P : Program} {w : World} {K : PySem.W.Frag} {mg : Str → Option Value} {base : Heap} {C : Addr}
def spUPay (C : Addr) : Sp := fun vs H Q _ => ∃ o pl p ps m k, vs = [.ref o, m] ∧ FrV C H o pl (some p) ps ∧ ModeV H m k ∧ okk k ∧ ps.length < 100000 ∧ ∀ H', (∀ x u, x ≠ o → x ≠ pl → H x = some u → H' x = some u) → TS H H' → FrV C H' o pl none (ps ++ [(k, p)]) → Q .non H'
theorem ok_upay (T : TopM K C "pay" "Unfinished.pay" s_Unfinished_pay) (O : UOk K mg C) : Mt P w K mg base 1 C "pay" (spUPay C) := by
  obtain ⟨f, fd, G, hb, hf, hi, hk⟩ := me_ok (P := P) (w := w) (mg := mg) (base := base) (k := 0) (sp := spUPay C) T sc_Unfinished_pay so_Unfinished_pay (fun vs H Q E h => by obtain ⟨o, pl, p, ps, m, k, rfl, _⟩ := h; rfl) (fun _ _ _ _ _ _ us hl => match us, hl with | [_, _], _ => rfl) fun f cdv A outer s H vs Q E hr h nd => by
    obtain ⟨o, pl, p, ps, m, k, rfl, ⟨⟨dx, pv, ho, hp⟩, es, hpl, hps, hl⟩, hm, hk, hn, q⟩ := h
    have npl : pl ≠ o := fun z => by subst z; rw [ho] at hpl; cases hpl
    have lps := hps.len
    refine l_cons (s_expr (e_app (e_fld (e_var ⟨o, C, dx, _, _, rfl, ho, O.cl, O.nQ, ufl_prices _ _, pl, es, rfl, SqL.of hpl, ?_⟩))))
    refine e_tup (a_cons (e_var (a_cons (e_fld (e_var ⟨o, C, dx, _, _, rfl, ho, O.cl, O.nP, ufl_part _ _, a_nil ⟨by show 2 ≤ sizeLine; decide, fun t H1 e1 _ ht => ⟨es, e1 _ _ hpl, by show _ < 2 ^ 24; omega, ?_⟩⟩⟩)))))
    have ts2 : TS H1 (upd H1 pl (.lst (es ++ [.ref t]))) := TS.upd (e1 _ _ hpl)
    have ho2 : upd H1 pl (.lst (es ++ [.ref t])) o = some (.ins C dx (ufl pv pl)) := by rw [upd_ne npl.symm]; exact e1 _ _ ho
    have hpl2 : upd H1 pl (.lst (es ++ [.ref t])) pl = some (.lst (es ++ [.ref t])) := upd_same
    have k2 : ∀ x u, x ≠ pl → H x = some u → upd H1 pl (.lst (es ++ [.ref t])) x = some u := fun x u nx hx => by rw [upd_ne nx]; exact e1 _ _ hx
    have ts02 := (Same.ts e1).trans ts2
    have ht2 := ts2 _ _ ht
    generalize upd H1 pl (.lst (es ++ [.ref t])) = H2 at ts2 ho2 hpl2 k2 ts02 ht2
    refine l_cons (s_fld (e_non (e_var ⟨o, C, dx, _, rfl, ho2, O.cl, O.nP, by show 2 < 1000; decide, ?_⟩)))
    rw [ufl_put]
    have ts3 : TS H2 (upd H2 o (.ins C dx (ufl .non pl))) := TS.ins ho2
    have ts03 := ts02.trans ts3
    refine l_nil (q _ (fun x u n1 n2 hx => by rw [upd_ne n1]; exact k2 _ _ n2 hx) ts03 ?_)
    exact ⟨⟨dx, .non, upd_same, rfl⟩, es ++ [.ref t], by rw [upd_ne npl]; exact hpl2, (hps.ts ts03).snoc ⟨t, m, pv, rfl, ts3 _ _ ht2, hm.ts ts03, SnV.ts (s := p) ts03 hp, hk⟩, by rw [List.length_append]; show _ + 1 ≤ _; omega⟩
  exact ⟨f, fd, _, G, ⟨hf, hi, hk⟩, hb, O.cl⟩
def spUWhole (C : Addr) : Sp := fun vs H Q _ => ∃ o pl p ps, vs = [.ref o] ∧ FrV C H o pl (some p) ps ∧ ∀ v H', Same H H' → SnV H' v (whole ps p) → Q v H'
theorem ok_uwhole (T : TopM K C "whole" "Unfinished.whole" s_Unfinished_whole) (O : UOk K mg C) (mR : mg "reversed" = none) (FT : FnKw P w K mg base 3 "trade" "kind" 2 (.str "once") (spTrade K)) : Mt P w K mg base 4 C "whole" (spUWhole C) := by
  obtain ⟨f, fd, G, hb, hf, hi, hk⟩ := me_ok (P := P) (w := w) (mg := mg) (base := base) (k := 3) (sp := spUWhole C) T sc_Unfinished_whole so_Unfinished_whole (fun vs H Q E h => by obtain ⟨o, pl, p, ps, rfl, _⟩ := h; rfl) (fun _ _ _ _ _ _ us hl => match us, hl with | [_], _ => rfl) fun f cdv A outer s H vs Q E hr h nd => by
    obtain ⟨o, pl, p, ps, rfl, ⟨⟨dx, pv, ho, hp⟩, es, hpl, hps, hl⟩, q⟩ := h
    have lps := hps.len
    have hrev := hps.rev
    refine l_cons (s_set (e_fld (e_var ⟨o, C, dx, _, _, rfl, ho, O.cl, O.nP, ufl_part _ _, ?_⟩)))
    show wL _ _ _ [some (.ref o), some pv, none, none] _
    refine l_cons (s_forRv2 (by assumption) ?_)
    refine e_fld (e_var ⟨o, C, dx, _, _, rfl, ho, O.cl, O.nQ, ufl_prices _ _, pl, es, rfl, SqL.of hpl, ?_⟩)
    refine ⟨fun k σ H' => ∃ mv x2 x3, σ = [some (.ref o), some mv, x2, x3] ∧ Same H H' ∧ SnV H' mv ((ps.reverse.take k).foldl (fun m kp => .trade kp.1 kp.2 m) p), ⟨pv, none, none, rfl, fun _ _ h => h, by rw [List.take_zero]; exact hp⟩, ?_, ?_, ?_⟩
    · rintro k σ H' _ ⟨_, _, _, _, e, _⟩
      exact SqL.of (e _ _ hpl)
    · rintro k y σ H' hy ⟨mv, x2, x3, rfl, e, hv⟩
      obtain ⟨kp, hkp, t, m, x, rfl, ht, hm, hx, hok⟩ := hrev.get hy
      refine ⟨t, m, x, rfl, SqT.of (e _ _ ht), ?_⟩
      show wL _ _ _ [some (.ref o), some mv, some m, some x] _
      refine l_cons (s_set (e_callK (by exact FT) takesN0 (by exact hr) (by decide) ?_))
      refine a_cons (e_var (a_cons (e_var (a_nil (e_var ?_)))))
      refine ⟨rfl, x, mv, m, rfl, kindV_of (hm.ts (Same.ts e)) hok, fun t' H1 e1 h1 => ?_⟩
      refine l_nil ⟨_, _, _, rfl, e.trans e1, ?_⟩
      have et : ps.reverse.take (k + 1) = ps.reverse.take k ++ [kp] := by
        rw [List.take_add_one, hkp]
        rfl
      rw [et, List.foldl_append]
      exact ⟨t', m, x, mv, rfl, h1, hm.ts (Same.ts (e.trans e1)), SnV.ts (Same.ts (e.trans e1)) hx, SnV.ts (Same.ts e1) hv⟩
    · rintro σ H' ⟨mv, x2, x3, rfl, e, hv⟩
      refine l_cons (s_ret (e_var ?_))
      refine q mv H' e ?_
      rw [lps, show ps.length = ps.reverse.length by simp, List.take_length] at hv
      exact hv
  exact ⟨f, fd, _, G, ⟨hf, hi, hk⟩, hb, O.cl⟩
end
/-! ### the stack of what is being read -/
abbrev fl (as : List (Addr × Addr)) : List Addr := as.flatMap fun a => [a.1, a.2]
def Fs (C : Addr) (H : Hp) : List (Addr × Addr) → Frs → Prop
  | [], [] => True
  | a :: as, s :: st => FrV C H a.1 a.2 s.1 s.2 ∧ Fs C H as st
  | _, _ => False
theorem Fs.keep {C : Addr} {H H' : Hp} (e : TS H H') : ∀ {as : List (Addr × Addr)} {st : Frs}, Fs C H as st → (∀ x ∈ fl as, ∀ u, H x = some u → H' x = some u) → Fs C H' as st
  | [], [], _, _ => trivial
  | a :: as, s :: st, ⟨h, r⟩, k => ⟨h.keep e (fun u => k a.1 (by simp [fl]) u) (fun u => k a.2 (by simp [fl]) u), Fs.keep e r fun x hx => k x (by
      show x ∈ [a.1, a.2] ++ fl as
      exact List.mem_append_right _ hx)⟩
theorem Fs.len {C : Addr} {H : Hp} : ∀ {as : List (Addr × Addr)} {st : Frs}, Fs C H as st → as.length = st.length
  | [], [], _ => rfl
  | _ :: _, _ :: _, ⟨_, r⟩ => by simp [r.len]
structure Rdr (C u : Addr) (H0 H : Hp) (as : List (Addr × Addr)) (st : Frs) : Prop where
  hd : H u = some (.lst (as.reverse.map fun a => V.ref a.1))
  fs : Fs C H as st
  nd : (u :: fl as).Nodup
  nw : ∀ a ∈ u :: fl as, H0 a = none
  sm : Same H0 H
theorem fl_nd {u : Addr} {a : Addr × Addr} {as : List (Addr × Addr)} (h : (u :: fl (a :: as)).Nodup) : u ≠ a.1 ∧ u ≠ a.2 ∧ a.1 ≠ a.2 ∧ (∀ x ∈ fl as, x ≠ a.1 ∧ x ≠ a.2) ∧ (u :: fl as).Nodup := by
  have h : (u :: a.1 :: a.2 :: fl as).Nodup := h
  simp only [List.nodup_cons, List.mem_cons, not_or] at h
  obtain ⟨⟨h1, h2, h3⟩, ⟨h4, h5⟩, h6, h7⟩ := h
  exact ⟨h1, h2, h4, fun x hx => ⟨fun z => h5 (z ▸ hx), fun z => h6 (z ▸ hx)⟩, List.nodup_cons.mpr ⟨h3, h7⟩⟩
/-- the top changes -/
theorem Rdr.top {C u : Addr} {H0 H H' : Hp} {a : Addr × Addr} {as : List (Addr × Addr)} {s s' : Option Sn × Prs} {st : Frs} (h : Rdr C u H0 H (a :: as) (s :: st)) (k : ∀ x o, x ≠ a.1 → x ≠ a.2 → H x = some o → H' x = some o) (e : TS H H') (f : FrV C H' a.1 a.2 s'.1 s'.2) : Rdr C u H0 H' (a :: as) (s' :: st) := by
  obtain ⟨h1, ⟨_, h2⟩, h3, h4, h5⟩ := h
  obtain ⟨n1, n2, n3, n4, n5⟩ := fl_nd h3
  refine ⟨k _ _ n1 n2 h1, ⟨f, h2.keep e fun x hx o ho => k x o (n4 x hx).1 (n4 x hx).2 ho⟩, h3, h4, fun x o hx => ?_⟩
  have hx1 : x ≠ a.1 := fun z => by subst z; rw [h4 _ (by simp [fl])] at hx; cases hx
  have hx2 : x ≠ a.2 := fun z => by subst z; rw [h4 _ (by simp [fl])] at hx; cases hx
  exact k x o hx1 hx2 (h5 _ _ hx)
theorem Rdr.same {C u : Addr} {H0 H H' : Hp} {as : List (Addr × Addr)} {st : Frs} (h : Rdr C u H0 H as st) (e : Same H H') : Rdr C u H0 H' as st :=
  ⟨e _ _ h.hd, h.fs.keep (Same.ts e) fun x _ o ho => e _ _ ho, h.nd, h.nw, h.sm.trans e⟩



theorem skip_head : ∀ l, (skip l).head? ≠ some 32
  | [] => by simp [skip]
  | c :: l => by
    unfold skip
    split
    · exact skip_head l
    · next h => simpa using h
theorem skip_len : ∀ l, (skip l).length ≤ l.length
  | [] => Nat.le_refl _
  | c :: l => by
    unfold skip
    split
    · have := skip_len l; simp only [List.length_cons]; omega
    · exact Nat.le_refl _
theorem rest_len (g : Nat → Bool) : ∀ l, (rest g l).length ≤ l.length
  | [] => Nat.le_refl _
  | c :: l => by
    unfold rest
    split
    · have := rest_len g l; simp only [List.length_cons]; omega
    · exact Nat.le_refl _
theorem mt_len : ∀ {s l r : List Nat}, mt s l = .ok r → r.length + s.length = l.length
  | [], l, r, h => by unfold mt at h; cases h; rfl
  | _ :: _, [], r, h => by unfold mt at h; cases h
  | c :: s, d :: l, r, h => by
    unfold mt at h
    split at h
    · have := mt_len h; simp only [List.length_cons]; omega
    · cases h
theorem rnum_len {least n : Nat} : ∀ {l r : List Nat}, rnum least l = .ok (n, r) → r.length ≤ l.length
  | [], r, h => by unfold rnum at h; cases h
  | c :: l, r, h => by
    rw [rnum_cons] at h
    split at h
    · cases h
    split at h
    · cases h
    · cases h
      exact rest_len dig1 (c :: l)
theorem rname_ok {n : List Nat} : ∀ {l r : List Nat}, rname l = .ok (n, r) → r.length < l.length ∧ okNm n
  | [], r, h => by cases h
  | c :: l, r, h => by
    rw [rname_cons] at h
    split at h
    · cases h
    next h1 =>
    split at h
    · cases h
    next h2 =>
    cases h
    have hc : let1 c = true := by
      cases hd : let1 c with
      | true => rfl
      | false => exact absurd hd h1
    have ha : alnum c = true := by unfold alnum; rw [hc]; rfl
    refine ⟨by rw [rest_cons alnum ha]; have := rest_len alnum l; simp only [List.length_cons]; omega, ?_⟩
    have hall := run_all alnum (c :: l)
    rw [run_cons alnum ha] at h2 hall ⊢
    have h2' : ¬ 12 < (run alnum l).length + 1 := h2
    unfold okNm nameB
    simp only [Bool.and_eq_true, decide_eq_true_eq, List.all_eq_true, List.length_cons, List.head?_cons, Option.map_some, Option.getD_some]
    exact ⟨⟨by omega, by omega⟩, hc, fun d hd => hall d hd⟩
theorem rbr_len {k : Pk} {l r : List Nat} (h : rbr l = .ok (k, r)) : r.length < l.length := by
  unfold rbr at h
  split at h
  · cases h
  next l1 h1 =>
  split at h
  · cases h
  next u l2 h2 =>
  split at h
  · cases h
  next l3 h3 =>
  split at h
  · cases h
  next d l4 h4 =>
  split at h
  · cases h
  next l5 h5 =>
  cases h
  have a1 := mt_len h1
  have a2 := rnum_len h2
  have a3 := mt_len h3
  have a4 := rnum_len h4
  have a5 := mt_len h5
  have b1 := skip_len l
  have b2 := skip_len l1
  have b3 := skip_len l2
  have b4 := skip_len l3
  have b5 := skip_len l4
  simp only [List.length_cons, List.length_nil] at a1 a3 a5
  omega
theorem rpay_len {k : Pk} {l r : List Nat} (h : rpay l = .ok (k, r)) : r.length < l.length := by
  unfold rpay at h
  split at h
  · cases h
  next k1 l1 h1 =>
  split at h
  · cases h
  next l2 h2 =>
  cases h
  have a1 := rbr_len h1
  have a2 := mt_len h2
  have b1 := skip_len l1
  simp only [List.length_cons, List.length_nil] at a2
  omega
theorem goA (p : Option Sn) (ps : Prs) (fs : Frs) : ∀ l, Goes (.A p ps fs l) (.A p ps fs (skip l))
  | [] => .refl
  | c :: l => by
    unfold skip
    split
    · next h => subst h; exact .cons rfl (goA p ps fs l)
    · exact .refl
theorem goB (p : Sn) (ps : Prs) (fs : Frs) : ∀ l, Goes (.B p ps fs l) (.B p ps fs (skip l))
  | [] => .refl
  | c :: l => by
    unfold skip
    split
    · next h => subst h; exact .cons rfl (goB p ps fs l)
    · exact .refl
theorem Ends.of {a b : St} {r : Re} (g : Goes a b) (h : Ends b r) : Ends a r := let ⟨c, h1, h2⟩ := h; ⟨c, g.trans h1, h2⟩
/-- rows open -/
def lnS (st : Frs) : Nat := (st.map fun s => s.2.length + 1).sum
theorem lnS_cons (s : Option Sn × Prs) (st : Frs) : lnS (s :: st) = s.2.length + 1 + lnS st := by simp [lnS]
theorem len_lnS : ∀ st : Frs, st.length ≤ lnS st
  | [] => Nat.le_refl _
  | s :: st => by have := len_lnS st; rw [lnS_cons, List.length_cons]; omega
section
variable {P : Program} {w : World} {K : PySem.W.Frag} {mg : Str → Option Value} {base : Heap} {C CT : Addr}
/-- a new one at the end -/
theorem Rdr.push {u : Addr} {H0 H H' : Hp} {as : List (Addr × Addr)} {st : Frs} {o pl : Addr} (h : Rdr C u H0 H as st) (e : Same H H') (no : H o = none) (npl : H pl = none) (ne : pl ≠ o) (f : FrV C H' o pl none []) :
    Rdr C u H0 (upd H' u (.lst (as.reverse.map (fun a => V.ref a.1) ++ [.ref o]))) ((o, pl) :: as) ((none, []) :: st) := by
  have fr : ∀ {x}, H x = none → H0 x = none := fun {x} hx => none_of h.sm hx
  have nuo : u ≠ o := fun z => by subst z; rw [h.hd] at no; cases no
  have nupl : u ≠ pl := fun z => by subst z; rw [h.hd] at npl; cases npl
  have hu' := e _ _ h.hd
  have ts : TS H' (upd H' u (.lst (as.reverse.map (fun a => V.ref a.1) ++ [.ref o]))) := TS.upd hu'
  obtain ⟨h1, h2, h3, h4, h5⟩ := h
  have live : ∀ {as : List (Addr × Addr)} {st : Frs}, Fs C H as st → ∀ x ∈ fl as, H x ≠ none := by
    intro as
    induction as with
    | nil => intro st _ x hx; cases hx
    | cons a as ih =>
      intro st hf x hx
      cases st with
      | nil => cases hf
      | cons s st =>
        obtain ⟨⟨⟨dx, pv, f1, _⟩, es, f2, _⟩, fr⟩ := hf
        have hx : x ∈ a.1 :: a.2 :: fl as := hx
        rcases List.mem_cons.mp hx with rfl | hx
        · rw [f1]; intro z; cases z
        rcases List.mem_cons.mp hx with rfl | hx
        · rw [f2]; intro z; cases z
        · exact ih fr x hx
  have lv := live h2
  obtain ⟨nu, nf⟩ := List.nodup_cons.mp h3
  refine ⟨?_, ⟨f.keep ts (fun o' ho => by rw [upd_ne nuo.symm]; exact ho) (fun o' ho => by rw [upd_ne nupl.symm]; exact ho), ?_⟩, ?_, ?_, ?_⟩
  · rw [List.reverse_cons, List.map_append]
    exact upd_same
  · refine h2.keep ((Same.ts e).trans ts) fun x hx o' ho => ?_
    rw [upd_ne (fun z => by subst z; exact nu hx)]
    exact e _ _ ho
  · show (u :: o :: pl :: fl as).Nodup
    simp only [List.nodup_cons, List.mem_cons, not_or]
    exact ⟨⟨nuo, nupl, nu⟩, ⟨ne.symm, fun m => lv _ m no⟩, fun m => lv _ m npl, nf⟩
  · intro x hx
    have hx : x ∈ u :: o :: pl :: fl as := hx
    rcases List.mem_cons.mp hx with rfl | hx
    · exact h4 _ List.mem_cons_self
    rcases List.mem_cons.mp hx with rfl | hx
    · exact fr no
    rcases List.mem_cons.mp hx with rfl | hx
    · exact fr npl
    · exact h4 _ (List.mem_cons_of_mem _ hx)
  · intro x o' hx
    have : x ≠ u := fun z => by subst z; rw [h4 _ List.mem_cons_self] at hx; cases hx
    rw [upd_ne this]
    exact e _ _ (h5 _ _ hx)
/-- the last one away -/
theorem Rdr.pop {u : Addr} {H0 H : Hp} {a : Addr × Addr} {as : List (Addr × Addr)} {s : Option Sn × Prs} {st : Frs} (h : Rdr C u H0 H (a :: as) (s :: st)) : Rdr C u H0 (upd H u (.lst (as.reverse.map fun a => V.ref a.1))) as st ∧ FrV C (upd H u (.lst (as.reverse.map fun a => V.ref a.1))) a.1 a.2 s.1 s.2 := by
  have ts : TS H (upd H u (.lst (as.reverse.map fun a => V.ref a.1))) := TS.upd h.hd
  obtain ⟨h1, ⟨hf, h2⟩, h3, h4, h5⟩ := h
  obtain ⟨n1, n2, n3, n4, n5⟩ := fl_nd h3
  obtain ⟨nu, nf⟩ := List.nodup_cons.mp n5
  refine ⟨⟨upd_same, h2.keep ts fun x hx o ho => by rw [upd_ne (fun z => by subst z; exact nu hx)]; exact ho, n5, fun x hx => ?_, fun x o hx => ?_⟩, hf.keep ts (fun o ho => by rw [upd_ne n1.symm]; exact ho) (fun o ho => by rw [upd_ne n2.symm]; exact ho)⟩
  · rcases List.mem_cons.mp hx with rfl | hx
    · exact h4 _ List.mem_cons_self
    · exact h4 _ (List.mem_cons_of_mem _ (List.mem_append_right [a.1, a.2] hx))
  · have : x ≠ u := fun z => by subst z; rw [h4 _ List.mem_cons_self] at hx; cases hx
    rw [upd_ne this]
    exact h5 _ _ hx
theorem Rdr.lst {u : Addr} {H0 H : Hp} {a : Addr × Addr} {as : List (Addr × Addr)} {st : Frs} (h : Rdr C u H0 H (a :: as) st) : H u = some (.lst (as.reverse.map (fun a => V.ref a.1) ++ [.ref a.1])) := by
  have := h.hd
  rwa [List.reverse_cons, List.map_append] at this
theorem last_at {xs : List V} {v : V} : atI (xs ++ [v]) (-1) = some v := atI_last xs v
end



theorem stepA_name (p : Option Sn) (ps : Prs) (fs : Frs) {m : List Nat} (h1 : m.head? ≠ some 32) (h2 : m.head? ≠ some 40) : step (.A p ps fs m) = match rname m with
    | .error e => .inr (.err e)
    | .ok (n, r) => .inl (.B (put p (.word n)) ps fs r) := by
  cases m with
  | nil => rfl
  | cons c m =>
    rw [step_A, if_neg (by simpa using h1), if_neg (by simpa using h2)]
    all_goals (cases rname (c :: m) <;> rfl)
theorem sg_lp : (Str.ofString "(") = sg 40 := by decide +kernel
theorem sg_rp : (Str.ofString ")") = sg 41 := by decide +kernel
theorem sg_am : (Str.ofString "&") = sg 38 := by decide +kernel
section
variable {P : Program} {w : World} {K : PySem.W.Frag} {mg : Str → Option Value} {base : Heap} {C CT : Addr}
/-- Unfinished(), as its caller meets it -/
theorem make_of {H : Hp} {Q : Addr → Hp → Prop} (q : ∀ o pl H', Same H H' → H o = none → H pl = none → pl ≠ o → FrV C H' o pl none [] → Q o H') : ∀ x dx, H x = none → H dx = none → dx ≠ x → spUInit C [.ref x] (upd (upd H dx (.own x)) x (.ins C dx [])) (fun v H2 => v = .non ∧ Q x H2) E0 := by
  intro x dx nx nd ne
  refine ⟨x, dx, rfl, upd_same, fun pl H' bt np f => ⟨rfl, ?_⟩⟩
  have n1 : pl ≠ x := fun z => by subst z; rw [upd_same] at np; cases np
  rw [upd_ne n1] at np
  have n2 : pl ≠ dx := fun z => by subst z; rw [upd_same] at np; cases np
  rw [upd_ne n2] at np
  refine q x pl H' (fun y o h => bt y o (ne_of_none h nx) ?_) nx np n1 f
  rw [upd_ne (ne_of_none h nx), upd_ne (ne_of_none h nd)]
  exact h
def spAtom (C CT : Addr) : Sp := fun vs H Q E => ∃ (z : Str) (i : Nat) (l : List Nat) (u : Addr) (H0 : Hp) (as : List (Addr × Addr)) (p : Option Sn) (ps : Prs) (fs : Frs), vs = [.str z, .int (i : Int), .ref u] ∧ z.length ≤ 100000 ∧ AtI z i l ∧ Rdr C u H0 H as ((p, ps) :: fs) ∧ lnS ((p, ps) :: fs) + l.length ≤ 100001 ∧
  (∀ p' ps' fs' l' (j : Nat) as' H', Goes (.A p ps fs l) (.B p' ps' fs' l') → AtI z j l' → l'.head? ≠ some 32 → l'.length < l.length → lnS ((some p', ps') :: fs') + l'.length ≤ 100001 → Rdr C u H0 H' as' ((some p', ps') :: fs') → Q (.int (j : Int)) H') ∧
  ∀ r (j : Nat) d H', Ends (.A p ps fs l) (.err r) → AtI z j r → Same H0 H' → H' d = some (.xd [("index", .int (j : Int))]) → E (.ref CT) (some d) H'
theorem ok_atom (T : Top K mg "read_atom" s_read_atom) (FS : Fn P w K mg base 1 "skip_spaces" spSkip) (FK : Kl P w K mg base 1 "Unfinished" C (spUInit C)) (FP : Mt P w K mg base 2 C "put" (spUPut C)) (FR : FnN P w K mg base 3 "read_name" (spRName CT)) (FW : Fn P w K mg base 3 "word" spWord) : FnN P w K mg base 4 "read_atom" (spAtom C CT) := by
  refine fn_okN T sc_read_atom so_read_atom (fun vs H Q E h => by obtain ⟨z, i, l, u, H0, as, p, ps, fs, rfl, _⟩ := h; rfl) (fun _ _ _ _ _ _ us hl => match us, hl with | [_, _, _], _ => rfl) fun f cdv A outer s H vs Q E hr h nd tk => ?_
  obtain ⟨z, i, l, u, H0, as, p, ps, fs, rfl, hz, hi, hR, hn, q1, q2⟩ := h
  have hz' : z.length ≤ sizeLine := Nat.le_trans hz (by decide)
  have hsl := skip_len l
  refine l_cons (s_set (e_call (by exact FS) (by exact hr) (by decide) ?_))
  refine a_cons (e_var (a_cons (e_var (a_nil ?_))))
  refine ⟨z, i, l, rfl, hz, hi, fun j0 h0 => ?_⟩
  show wL _ _ _ [some (.str z), some (.int (i : Int)), some (.ref u), some (.int (j0 : Int)), none] _
  refine l_cons (s_whileN (fun n σ H' => ∃ (j : Nat) (m : List Nat) (as1 : List (Addr × Addr)) (p1 : Option Sn) (ps1 : Prs) (fs1 : Frs), σ = [some (.str z), some (.int (i : Int)), some (.ref u), some (.int (j : Int)), none] ∧ AtI z j m ∧ m.head? ≠ some 32 ∧ Goes (.A p ps fs l) (.A p1 ps1 fs1 m) ∧ Rdr C u H0 H' as1 ((p1, ps1) :: fs1) ∧ lnS ((p1, ps1) :: fs1) + m.length ≤ 100001 ∧ m.length ≤ l.length ∧ n = m.length) (skip l).length ⟨j0, skip l, as, p, ps, fs, rfl, h0, skip_head l, goA p ps fs l, hR, by omega, hsl, rfl⟩ ?_)
  rintro n σ H' ⟨j, m, as1, p1, ps1, fs1, rfl, hj, hh, hg, hR1, hn1, hl1, rfl⟩
  have has := hR1.fs.len
  cases as1 with
  | nil => cases has
  | cons a1 as1 =>
  refine t_cmp (e_slB sl_str (e_var (e_var ⟨_, rfl, e_bin (e_var (e_int (o_add ⟨_, rfl, z, rfl, hz', ?_⟩)))⟩)))
  rw [cutOne hj]
  refine e_str ?_
  rw [sg_lp]
  refine o_eqS ⟨_, rfl, ?_⟩
  rw [one_dec]
  by_cases hc : m.head? = some 40
  · rw [decide_eq_true hc]
    cases m with
    | nil => cases hc
    | cons c m =>
    obtain rfl : c = 40 := by simpa using hc
    simp only [List.length_cons] at hn1 hl1
    have hll := len_lnS ((p1, ps1) :: fs1)
    refine iteT (l_cons (s_expr (e_app (e_var ⟨u, _, rfl, SqL.of hR1.hd, ?_⟩))))
    refine e_make0 (by exact FK) (by exact hr) (by decide) (make_of fun o pl H2 e2 no npl ne hf => ?_)
    have hu2 := e2 _ _ hR1.hd
    refine ⟨_, hu2, by rw [List.length_map, List.length_reverse, has]; show _ < 2 ^ 24; omega, ?_⟩
    have hR2 := hR1.push e2 no npl ne hf
    generalize upd H2 u (.lst (((a1 :: as1).reverse.map fun a => V.ref a.1) ++ [.ref o])) = H3 at hR2
    refine l_cons (s_set (e_call (by exact FS) (by exact hr) (by decide) ?_))
    refine a_cons (e_var (a_cons (e_bin (e_var (e_int (o_add (a_nil ?_)))))))
    have hk := skip_len m
    refine ⟨z, j + 1, m, by rw [show (((j + 1 : Nat) : Int)) = (j : Int) + 1 by omega], hz, hj.next, fun j2 h2 => ?_⟩
    refine l_nil ⟨(skip m).length, by simp only [List.length_cons]; omega, j2, skip m, _, none, [], (p1, ps1) :: fs1, rfl, h2, skip_head m, (hg.snoc rfl).trans (goA none [] ((p1, ps1) :: fs1) m), hR2, ?_, by omega, rfl⟩
    rw [lnS_cons]
    simp only [List.length_nil]
    omega
  · rw [decide_eq_false hc]
    refine iteF ?_
    have hst := stepA_name p1 ps1 fs1 hh hc
    refine l_cons (s_set (e_callN (by exact FR) (by exact tk) (by exact hr) (by decide) ?_))
    refine a_cons (e_var (a_cons (e_var (a_nil ?_))))
    refine ⟨z, j, m, rfl, hz, hj, fun nr x1 j1 h1 lt1 ec => ?_, fun r j' d H2 x hj' e h => q2 r j' d H2 ⟨_, hg, by rw [hst, x]⟩ hj' (hR1.sm.trans e) h⟩
    obtain ⟨nm, r⟩ := nr
    rw [x1] at hst
    obtain ⟨rl, okn⟩ := rname_ok x1
    show wL _ _ _ [some (.str z), some (.int (i : Int)), some (.ref u), some (.int (j : Int)), some (.int (j1 : Int))] _
    have nm12 := (name_parts okn).2.1
    obtain ⟨⟨⟨dx, pv, ho, hpv⟩, hfr⟩, hfs⟩ := id hR1.fs
    refine l_cons (s_expr (e_meth (by exact FP) (by exact hr) (by decide) ?_))
    refine e_ix (e_var (e_neg (e_int ⟨1, rfl, ix_l (by exact SqL.of hR1.lst) last_at ?_⟩)))
    refine ⟨a1.1, dx, _, rfl, ho, ufl_no _ _ (by decide +kernel) (by decide +kernel), ?_⟩
    refine a_cons (e_call (by exact FW) (by exact hr) (by decide) ?_)
    refine a_cons (e_slB sl_str (e_var (e_var ⟨_, rfl, e_var ⟨_, rfl, z, rfl, hz', ?_⟩⟩)))
    have ec' : cs (cutS z (some (j : Int)) (some (j1 : Int))) = nm := ec
    refine a_nil ⟨_, rfl, by rw [len_cs, ec']; omega, by rw [ec']; exact okn, fun t H2 e2 ht => ?_⟩
    have hR2 := hR1.same e2
    refine a_nil ⟨a1.1, a1.2, p1, ps1, .ref t, .word nm, rfl, hR2.fs.1, ⟨t, _, rfl, ht, ec'⟩, fun H3 b3 ts3 f3 => ?_⟩
    have hR3 := hR2.top (s' := (some (put p1 (.word nm)), ps1)) (fun x o n1 n2 hx => b3 x o n1 hx) ts3 f3
    refine l_cons (s_ret (e_call (by exact FS) (by exact hr) (by decide) ?_))
    refine a_cons (e_var (a_cons (e_var (a_nil ?_))))
    have hk := skip_len r
    refine ⟨z, j1, r, rfl, hz, h1, fun j2 h2 => ?_⟩
    refine q1 (put p1 (.word nm)) ps1 fs1 (skip r) j2 _ H3 ((hg.snoc hst).trans (goB _ ps1 fs1 r)) h2 (skip_head r) (by omega) ?_ hR3
    rw [lnS_cons] at hn1 ⊢
    show ps1.length + 1 + lnS fs1 + (skip r).length ≤ 100001
    have : ps1.length + 1 + lnS fs1 + m.length ≤ 100001 := hn1
    omega
end



theorem stepB_stop (p : Sn) (ps : Prs) (fs : Frs) {m : List Nat} (h1 : m.head? ≠ some 32) (h2 : m.head? ≠ some 38) (h3 : m.head? ≠ some 62) (h4 : m.head? ≠ some 91) (h5 : fs ≠ [] → m.head? ≠ some 41) (h6 : fs = [] → m ≠ []) : step (.B p ps fs m) = .inr (.err m) := by
  cases m with
  | nil =>
    rw [step_B0, if_neg]
    intro z
    exact h6 z rfl
  | cons c m =>
    rw [step_B, if_neg (by simpa using h1), if_neg (by simpa using h2), if_neg (by simpa using h3), if_neg (by simpa using h4)]
    cases fs with
    | nil => rfl
    | cons q gs =>
      have h5 := h5 (by simp)
      obtain ⟨q, qs⟩ := q
      show (if c = 41 then _ else _) = _
      rw [if_neg (by simpa using h5)]
theorem l_join {X : Cx} {st : Stmt} {rest : List Stmt} {C : _} {σ : L2.St} {H : Hp} (Pm : L2.St → Hp → Prop) (h1 : ∀ σ H, Pm σ H → wL X rest C σ H) (h2 : (∀ σ H, Pm σ H → wL X rest C σ H) → wL X (st :: rest) C σ H) : wL X (st :: rest) C σ H := h2 h1
theorem t_own {X : Cx} {a : Expr} {σ : L2.St} {H : Hp} {QT : Bool → Hp → Prop} (b : Bool) (h1 : QT b H) (h2 : QT b H → wT X a σ H QT) : wT X a σ H QT := h2 h1
section
variable {P : Program} {w : World} {K : PySem.W.Frag} {mg : Str → Option Value} {base : Heap} {C CT : Addr}
def spSent (CT : Addr) : Sp := fun vs H Q E => ∃ (z : Str) (i : Nat) (l : List Nat), vs = [.str z, .int (i : Int)] ∧ z.length ≤ 100000 ∧ AtI z i l ∧
  (∀ v t (j : Nat) r p ps H', Goes (init l) (.B p ps [] r) → AtI z j r → (r ≠ [] → step (.B p ps [] r) = .inr (.err r)) → SnV H' v (whole ps p) → H' t = some (.tup [v, .int (j : Int)]) → Same H H' → Q (.ref t) H') ∧
  ∀ r (j : Nat) d H', Ends (init l) (.err r) → AtI z j r → Same H H' → H' d = some (.xd [("index", .int (j : Int))]) → E (.ref CT) (some d) H'
theorem ok_sent (T : Top K mg "read_sentence" s_read_sentence) (mL : mg "len" = none) (FS : Fn P w K mg base 1 "skip_spaces" spSkip) (FK : Kl P w K mg base 1 "Unfinished" C (spUInit C)) (FP : Mt P w K mg base 2 C "put" (spUPut C)) (FY : Mt P w K mg base 1 C "pay" (spUPay C)) (FH : Mt P w K mg base 4 C "whole" (spUWhole C))
    (FA : FnN P w K mg base 4 "read_atom" (spAtom C CT)) (FM : FnN P w K mg base 5 "read_payment" (spPay CT)) (R : Er P w K mg base "TextError" CT "index") : FnN P w K mg base 6 "read_sentence" (spSent CT) := by
  refine fn_okN T sc_read_sentence so_read_sentence (fun vs H Q E h => by obtain ⟨z, i, l, rfl, _⟩ := h; rfl) (fun _ _ _ _ _ _ us hl => match us, hl with | [_, _], _ => rfl) fun f cdv A outer s H vs Q E hr h nd tk => ?_
  obtain ⟨z, i, l, rfl, hz, hi, q1, q2⟩ := h
  have hz' : z.length ≤ sizeLine := Nat.le_trans hz (by decide)
  have hil := hi.len
  rw [len_cs] at hz
  refine l_cons (s_set (e_lst (a_cons (e_make0 (by exact FK) (by exact hr) (by decide) (make_of fun o pl H1 e1 no npl ne hf => a_nil ⟨by show 1 ≤ sizeLine; decide, fun u H2 e2 nu hu => ?_⟩)))))
  have hR : Rdr C u H H2 [(o, pl)] [(none, [])] := by
    have n1 : u ≠ o := fun z => by subst z; obtain ⟨⟨dx, pv, h1, _⟩, _⟩ := hf; rw [h1] at nu; cases nu
    have n2 : u ≠ pl := fun z => by subst z; obtain ⟨_, es, h1, _⟩ := hf; rw [h1] at nu; cases nu
    refine ⟨hu, ⟨hf.keep (Same.ts e2) (fun o ho => e2 _ _ ho) (fun o ho => e2 _ _ ho), trivial⟩, ?_, ?_, e1.trans e2⟩
    · show [u, o, pl].Nodup
      simp [n1, n2, ne.symm]
    · intro x hx
      have hx : x ∈ [u, o, pl] := hx
      simp only [List.mem_cons, List.not_mem_nil, or_false] at hx
      rcases hx with rfl | rfl | rfl
      · exact none_of e1 nu
      · exact no
      · exact npl
  show wL _ _ _ [some (.str z), some (.int (i : Int)), some (.ref u), none, none, none, none] _
  refine l_cons (s_set (e_var ?_))
  show wL _ _ _ [some (.str z), some (.int (i : Int)), some (.ref u), some (.int (i : Int)), none, none, none] _
  refine l_cons (s_whileN (fun n σ H' => ∃ (j : Nat) (m : List Nat) (as1 : List (Addr × Addr)) (p1 : Option Sn) (ps1 : Prs) (fs1 : Frs) (x4 x5 x6 : Option V), σ = [some (.str z), some (.int (i : Int)), some (.ref u), some (.int (j : Int)), x4, x5, x6] ∧ AtI z j m ∧ Goes (init l) (.A p1 ps1 fs1 m) ∧ Rdr C u H H' as1 ((p1, ps1) :: fs1) ∧ lnS ((p1, ps1) :: fs1) + m.length ≤ 100001 ∧ n = m.length) l.length ⟨i, l, _, none, [], [], none, none, none, rfl, hi, .refl, hR, by rw [lnS_cons]; show 0 + 1 + 0 + l.length ≤ 100001; omega, rfl⟩ ?_)
  rintro n σ H' ⟨j, m, as1, p1, ps1, fs1, x4, x5, x6, rfl, hj, hg, hR1, hn1, rfl⟩
  refine t_val (e_bl ⟨_, rfl, iteT ?_⟩)
  refine l_cons (s_set (e_callN (by exact FA) (by exact tk) (by exact hr) (by decide) ?_))
  refine a_cons (e_var (a_cons (e_var (a_cons (e_var (a_nil ?_))))))
  rw [← len_cs] at hz
  refine ⟨z, j, m, u, H, as1, p1, ps1, fs1, rfl, hz, hj, hR1, hn1, fun p2 ps2 fs2 m2 j2 as2 H2 g2 h2 hh2 lt2 hn2 hR2 => ?_, fun r j' d H2 ee hj' e h => q2 r j' d H2 (.of hg ee) hj' e h⟩
  have hg2 := hg.trans g2
  show wL _ _ _ [some (.str z), some (.int (i : Int)), some (.ref u), some (.int (j2 : Int)), x4, x5, x6] _
  refine l_join (fun σ H' => ∃ (j3 : Nat) (m3 : List Nat) (as3 : List (Addr × Addr)) (p3 : Sn) (ps3 : Prs) (fs3 : Frs) (x4 : Option V), σ = [some (.str z), some (.int (i : Int)), some (.ref u), some (.int (j3 : Int)), x4, x5, x6] ∧ AtI z j3 m3 ∧ m3.head? ≠ some 32 ∧ Goes (init l) (.B p3 ps3 fs3 m3) ∧ Rdr C u H H' as3 ((some p3, ps3) :: fs3) ∧ lnS ((some p3, ps3) :: fs3) + m3.length ≤ 100001 ∧ m3.length < m.length ∧ (fs3 ≠ [] → m3.head? ≠ some 41)) (fun σ H3 hA => ?_) (fun go => ?_)
  · obtain ⟨j3, m3, as3, p3, ps3, fs3, x4, rfl, h3, hh3, hg3, hR3, hn3, lt3, hstop⟩ := hA
    have has := hR3.fs.len
    cases as3 with
    | nil => cases has
    | cons a3 as3 =>
    have has' : as3.length = fs3.length := by simpa using has
    obtain ⟨⟨⟨dx, pv, ho, hpv⟩, hfr⟩, hfs⟩ := id hR3.fs
    refine l_cons (s_set (e_slB sl_str (e_var (e_var ⟨_, rfl, e_bin (e_var (e_int (o_add ⟨_, rfl, z, rfl, hz', ?_⟩)))⟩))))
    rw [cutOne h3]
    show wL _ _ _ [some (.str z), some (.int (i : Int)), some (.ref u), some (.int (j3 : Int)), x4, some (.str (one m3.head?)), x6] _
    refine l_cons (s_if (t_cmp (e_var (e_str ?_))))
    rw [sg_am]
    refine o_eqS ⟨_, rfl, ?_⟩
    rw [one_dec]
    refine if2 (fun hc => ?_) (fun hc38 => ?_)
    · cases m3 with
      | nil => cases hc
      | cons c m3 =>
      obtain rfl : c = 38 := by simpa using hc
      simp only [List.length_cons] at hn3 lt3
      refine l_cons (s_aug (i := 3) (j := (j3 : Int)) rfl (e_int ⟨1, rfl, l_nil (l_nil ?_)⟩))
      exact ⟨m3.length, by omega, j3 + 1, m3, _, some p3, ps3, fs3, _, _, _, by rw [show (((j3 + 1 : Nat) : Int)) = (j3 : Int) + 1 by omega]; rfl, h3.next, hg3.snoc rfl, hR3, by omega, rfl⟩
    by_cases hp : m3.head? = some 62 ∨ m3.head? = some 91
    · refine l_cons (s_if (t_own true ?_ fun go2 => ?_))
      · refine iteT ?_
        cases m3 with
        | nil => rcases hp with h | h <;> cases h
        | cons c m4 =>
        have hc : c = 62 ∨ c = 91 := by simpa using hp
        simp only [List.length_cons] at hn3 lt3
        have lps : ps3.length < 100000 := by
          rw [lnS_cons] at hn3
          have : ps3.length + 1 + lnS fs3 + (m4.length + 1) ≤ 100001 := hn3
          omega
        refine l_join (fun σ H4 => ∃ (k : Pk) (r : List Nat) (j4 : Nat) (md : V), σ = [some (.str z), some (.int (i : Int)), some (.ref u), some (.int (j4 : Int)), x4, some (.str (one (some c))), some md] ∧ step (.B p3 ps3 fs3 (c :: m4)) = .inl (.A none (ps3 ++ [(k, p3)]) fs3 r) ∧ r.length < m4.length + 1 ∧ AtI z j4 r ∧ Same H3 H4 ∧ ModeV H4 md k ∧ okk k) (fun σ H4 hB => ?_) (fun go3 => ?_)
        · obtain ⟨k, r, j4, md, rfl, hstep, hr4, h4, e4, hm, hk⟩ := hB
          have hR4 := hR3.same e4
          refine l_cons (s_expr (e_meth (by exact FY) (by exact hr) (by decide) ?_))
          refine e_ix (e_var (e_neg (e_int ⟨1, rfl, ix_l (by exact SqL.of hR4.lst) last_at ?_⟩)))
          refine ⟨a3.1, dx, _, rfl, e4 _ _ ho, ufl_no _ _ (by decide +kernel) (by decide +kernel), ?_⟩
          refine a_cons (e_var (a_nil ⟨a3.1, a3.2, p3, ps3, md, k, rfl, hR4.fs.1, hm, hk, lps, fun H5 k5 ts5 f5 => ?_⟩))
          have hR5 := hR4.top (s' := (none, ps3 ++ [(k, p3)])) k5 ts5 f5
          refine l_nil (l_nil (l_nil ⟨r.length, by omega, j4, r, _, none, ps3 ++ [(k, p3)], fs3, _, _, _, rfl, h4, hg3.snoc hstep, hR5, ?_, rfl⟩))
          rw [lnS_cons] at hn3 ⊢
          have : ps3.length + 1 + lnS fs3 + (m4.length + 1) ≤ 100001 := hn3
          show (ps3 ++ [(k, p3)]).length + 1 + lnS fs3 + r.length ≤ 100001
          rw [List.length_append]
          show ps3.length + 1 + 1 + lnS fs3 + r.length ≤ 100001
          omega
        · refine l_cons (s_tup2 (e_callN (by exact FM) (by exact tk) (by exact hr) (by decide) ?_))
          refine a_cons (e_var (a_cons (e_var (a_nil ?_))))
          refine ⟨z, j3, c, m4, rfl, hz, h3, ?_⟩
          by_cases h62 : c = 62
          · subst h62
            exact .inl ⟨rfl, fun t H4 e4 ht => ⟨t, _, _, rfl, SqT.of ht, go3 _ H4 ⟨none, m4, j3 + 1, .str "once", rfl, rfl, Nat.lt_succ_self _, h3.next, e4, rfl, trivial⟩⟩⟩
          · have h91 : c = 91 := hc.resolve_left h62
            subst h91
            refine .inr ⟨h62, fun kr y4 j4 t md H4 h4 e4 ht hm hk => ?_, fun r j' d H4 y4 hj' e h => q2 r j' d H4 ⟨_, hg3, ?_⟩ hj' (hR3.sm.trans e) h⟩
            · obtain ⟨k, r⟩ := kr
              refine ⟨t, _, _, rfl, SqT.of ht, go3 _ H4 ⟨k, r, j4, md, rfl, ?_, rpay_len y4, h4, e4, hm, hk⟩⟩
              rw [step_B, if_neg (by decide), if_neg (by decide), if_neg (by decide), if_pos rfl, y4]
            · rw [step_B, if_neg (by decide), if_neg (by decide), if_neg (by decide), if_pos rfl, y4]
      · refine t_w (w_or (t_cmp (e_var (e_str ?_))))
        rw [sg_gt]
        refine o_eqS ⟨_, rfl, ?_⟩
        rw [one_dec]
        refine if2 (fun _ => go2) (fun h62 => ?_)
        refine w_or1 (t_cmp (e_var (e_str ?_)))
        rw [sg_br]
        refine o_eqS ⟨_, rfl, ?_⟩
        rw [one_dec, decide_eq_true (hp.resolve_left h62)]
        exact go2
    · have h62 : m3.head? ≠ some 62 := fun h => hp (.inl h)
      have h91 : m3.head? ≠ some 91 := fun h => hp (.inr h)
      refine l_cons (s_if (t_w (w_or (t_cmp (e_var (e_str ?_))))))
      rw [sg_gt]
      refine o_eqS ⟨_, rfl, ?_⟩
      rw [one_dec, decide_eq_false h62]
      refine iteF (w_or1 (t_cmp (e_var (e_str ?_))))
      rw [sg_br]
      refine o_eqS ⟨_, rfl, ?_⟩
      rw [one_dec, decide_eq_false h91]
      refine iteF ?_
      refine l_cons (s_if (t_cmp (e_callB (x := "len") (by assumption) b_len (a_cons (e_var (a_nil (c_lenL (by exact SqL.of hR3.hd) (e_int (o_eqI ⟨_, rfl, ?_⟩)))))))))
      rw [List.length_map, List.length_reverse, List.length_cons, has']
      by_cases hf : fs3 = []
      · subst hf
        have e0 : as3 = [] := List.eq_nil_of_length_eq_zero has'
        subst e0
        refine ite_t (decide_eq_true rfl) (l_cons (s_ret (e_tup ?_)))
        refine a_cons (e_meth0 (by exact FH) (by exact hr) (by decide) (e_ix (e_var (e_int (ix_l (by exact SqL.of hR3.hd) (atI_nat (j := 0) (v := .ref a3.1) rfl) ?_)))))
        refine ⟨a3.1, dx, _, rfl, ho, ufl_no _ _ (by decide +kernel) (by decide +kernel), a3.1, a3.2, p3, ps3, rfl, hR3.fs.1, fun v H4 e4 hv => ?_⟩
        refine a_cons (e_var (a_nil ⟨by show 2 ≤ sizeLine; decide, fun t H5 e5 _ ht => ?_⟩))
        exact q1 v t j3 m3 p3 ps3 H5 hg3 h3 (fun hne => stepB_stop p3 ps3 [] hh3 hc38 h62 h91 hstop fun _ => hne) (SnV.ts (Same.ts e5) hv) ht ((hR3.sm.trans e4).trans e5)
      · refine ite_f (decide_eq_false (by have := List.length_pos_iff.mpr hf; omega)) ?_
        refine l_cons (s_raiseN (by exact R) (by exact tk) (by exact hr) (by decide) (e_var fun d H1 e1 n1 h1 => ?_))
        exact q2 m3 j3 d H1 ⟨_, hg3, stepB_stop p3 ps3 fs3 hh3 hc38 h62 h91 hstop fun z => absurd z hf⟩ h3 (hR3.sm.trans e1) h1
  refine l_cons (s_whileN (fun n σ H' => ∃ (j3 : Nat) (m3 : List Nat) (as3 : List (Addr × Addr)) (p3 : Sn) (ps3 : Prs) (fs3 : Frs) (x4 : Option V), σ = [some (.str z), some (.int (i : Int)), some (.ref u), some (.int (j3 : Int)), x4, x5, x6] ∧ AtI z j3 m3 ∧ m3.head? ≠ some 32 ∧ Goes (init l) (.B p3 ps3 fs3 m3) ∧ Rdr C u H H' as3 ((some p3, ps3) :: fs3) ∧ lnS ((some p3, ps3) :: fs3) + m3.length ≤ 100001 ∧ m3.length < m.length ∧ n = m3.length) m2.length ⟨j2, m2, as2, p2, ps2, fs2, x4, rfl, h2, hh2, hg2, hR2, hn2, lt2, rfl⟩ ?_)
  rintro n σ H3 ⟨j3, m3, as3, p3, ps3, fs3, x4, rfl, h3, hh3, hg3, hR3, hn3, lt3, rfl⟩
  have has := hR3.fs.len
  cases as3 with
  | nil => cases has
  | cons a3 as3 =>
  have has' : as3.length = fs3.length := by simpa using has
  obtain ⟨⟨⟨dx, pv, ho, hpv⟩, hfr⟩, hfs⟩ := id hR3.fs
  refine t_w (w_and (t_cmp (e_callB (x := "len") (by assumption) b_len (a_cons (e_var (a_nil (c_lenL (by exact SqL.of hR3.hd) (e_int (o_gt ⟨_, rfl, ?_⟩)))))))))
  rw [List.length_map, List.length_reverse, List.length_cons, has']
  by_cases hf : fs3 = []
  · subst hf
    refine ite_f (decide_eq_false (by show ¬ ((1 : Int) < ((0 + 1 : Nat) : Int)); omega)) (ite_f rfl ?_)
    exact go _ H3 ⟨j3, m3, _, p3, ps3, [], x4, rfl, h3, hh3, hg3, hR3, hn3, lt3, fun z => absurd rfl z⟩
  · refine ite_t (decide_eq_true (by have := List.length_pos_iff.mpr hf; omega)) ?_
    refine w_and1 (t_cmp (e_slB sl_str (e_var (e_var ⟨_, rfl, e_bin (e_var (e_int (o_add ⟨_, rfl, z, rfl, hz', ?_⟩)))⟩))))
    rw [cutOne h3]
    refine e_str ?_
    rw [sg_rp]
    refine o_eqS ⟨_, rfl, ?_⟩
    rw [one_dec]
    refine if2 (fun hc => ?_) (fun hc => ?_)
    · cases m3 with
      | nil => cases hc
      | cons c m3 =>
      obtain rfl : c = 41 := by simpa using hc
      simp only [List.length_cons] at hn3 lt3
      cases fs3 with
      | nil => exact absurd rfl hf
      | cons q3 gs3 =>
      obtain ⟨q3, qs3⟩ := q3
      cases as3 with
      | nil => cases has'
      | cons b3 as3 =>
      refine l_cons (s_set (e_meth0 (by exact FH) (by exact hr) (by decide) (e_pop (e_var ⟨u, _, _, rfl, hR3.lst, ?_⟩))))
      obtain ⟨hR4, hF4⟩ := hR3.pop
      generalize upd H3 u (.lst ((b3 :: as3).reverse.map fun a => V.ref a.1)) = H4 at hR4 hF4
      obtain ⟨⟨⟨dy, pw, ho4, hpw⟩, hfr4⟩, hfs4⟩ := id hR4.fs
      obtain ⟨⟨dx4, pv4, ho4', _⟩, _⟩ := id hF4
      refine ⟨a3.1, dx4, _, rfl, ho4', ufl_no _ _ (by decide +kernel) (by decide +kernel), a3.1, a3.2, p3, ps3, rfl, hF4, fun v H5 e5 hv => ?_⟩
      show wL _ _ _ [some (.str z), some (.int (i : Int)), some (.ref u), some (.int (j3 : Int)), some v, x5, x6] _
      have hR5 := hR4.same e5
      refine l_cons (s_expr (e_meth (by exact FP) (by exact hr) (by decide) ?_))
      refine e_ix (e_var (e_neg (e_int ⟨1, rfl, ix_l (by exact SqL.of hR5.lst) last_at ?_⟩)))
      refine ⟨b3.1, dy, _, rfl, e5 _ _ ho4, ufl_no _ _ (by decide +kernel) (by decide +kernel), ?_⟩
      refine a_cons (e_var (a_nil ⟨b3.1, b3.2, q3, qs3, v, whole ps3 p3, rfl, hR5.fs.1, hv, fun H6 b6 ts6 f6 => ?_⟩))
      have hR6 := hR5.top (s' := (some (put q3 (whole ps3 p3)), qs3)) (fun x o n1 n2 hx => b6 x o n1 hx) ts6 f6
      refine l_cons (s_set (e_call (by exact FS) (by exact hr) (by decide) ?_))
      refine a_cons (e_var (a_cons (e_bin (e_var (e_int (o_add (a_nil ?_)))))))
      have hk := skip_len m3
      refine ⟨z, j3 + 1, m3, by rw [show (((j3 + 1 : Nat) : Int)) = (j3 : Int) + 1 by omega], hz, h3.next, fun j7 h7 => ?_⟩
      refine l_nil ⟨(skip m3).length, by simp only [List.length_cons]; omega, j7, skip m3, _, put q3 (whole ps3 p3), qs3, gs3, _, rfl, h7, skip_head m3, (hg3.snoc (show step (.B p3 ps3 ((q3, qs3) :: gs3) (41 :: m3)) = .inl (.B (put q3 (whole ps3 p3)) qs3 gs3 m3) from rfl)).trans (goB _ qs3 gs3 m3), hR6, ?_, by omega, rfl⟩
      rw [lnS_cons, lnS_cons] at hn3
      rw [lnS_cons]
      have : ps3.length + 1 + (qs3.length + 1 + lnS gs3) + (m3.length + 1) ≤ 100001 := hn3
      show qs3.length + 1 + lnS gs3 + (skip m3).length ≤ 100001
      omega
    · exact go _ H3 ⟨j3, m3, _, p3, ps3, fs3, x4, rfl, h3, hh3, hg3, hR3, hn3, lt3, fun _ => hc⟩
end



section
variable {P : Program} {w : World} {K : PySem.W.Frag} {mg : Str → Option Value} {base : Heap} {C CT : Addr}
def spParse (CT : Addr) : Sp := fun vs H Q E => ∃ (z : Str), vs = [.str z] ∧ z.length ≤ 100000 ∧
  (∀ v s H', Ends (init (cs z)) (.ok s) → SnV H' v s → Same H H' → Q v H') ∧
  ∀ r (j : Nat) d H', Ends (init (cs z)) (.err r) → AtI z j r → Same H H' → H' d = some (.xd [("index", .int (j : Int))]) → E (.ref CT) (some d) H'
theorem ok_parse (T : Top K mg "parse_sentence" s_parse_sentence) (mL : mg "len" = none) (FR : FnN P w K mg base 6 "read_sentence" (spSent CT)) (R : Er P w K mg base "TextError" CT "index") : FnN P w K mg base 7 "parse_sentence" (spParse CT) := by
  refine fn_okN T sc_parse_sentence so_parse_sentence (fun vs H Q E h => by obtain ⟨z, rfl, _⟩ := h; rfl) (fun _ _ _ _ _ _ us hl => match us, hl with | [_], _ => rfl) fun f cdv A outer s H vs Q E hr h nd tk => ?_
  obtain ⟨z, rfl, hz, q1, q2⟩ := h
  have hz' : z.length ≤ sizeLine := Nat.le_trans hz (by decide)
  refine l_cons (s_tup2 (e_callN (by exact FR) (by exact tk) (by exact hr) (by decide) ?_))
  refine a_cons (e_var (a_cons (e_int (a_nil ?_))))
  refine ⟨z, 0, cs z, rfl, hz, ⟨Nat.zero_le _, rfl⟩, fun v t j r p ps H1 hg hj hst hv ht e1 => ?_, fun r j d H' ee hj e h => q2 r j d H' ee hj e h⟩
  refine ⟨t, _, _, rfl, SqT.of ht, ?_⟩
  show wL _ _ _ [some (.str z), some v, some (.int (j : Int))] _
  refine l_cons (s_if (t_cmp (e_var (e_callB (x := "len") (by assumption) b_len (a_cons (e_var (a_nil (c_lenS hz' (o_lt ⟨_, rfl, ?_⟩)))))))))
  have hlen := hj.len
  rw [len_cs]
  refine if2 (fun h => ?_) (fun h => ?_)
  · have hne : r ≠ [] := fun e => by subst e; simp only [List.length_nil] at hlen; omega
    refine l_cons (s_raiseN (by exact R) (by exact tk) (by exact hr) (by decide) (e_var fun d H2 e2 n2 h2 => ?_))
    exact q2 r j d H2 ⟨_, hg, hst hne⟩ hj (e1.trans e2) h2
  · have he : r = [] := List.eq_nil_of_length_eq_zero (by omega)
    subst he
    refine l_nil (l_cons (s_ret (e_var ?_)))
    exact q1 v (whole ps p) H1 ⟨_, hg, by rw [step_B0, if_pos rfl]⟩ hv e1
end



/-! ### the law's own reader, sign by sign -/
inductive LSt where
  | atom (p : Option Sn) (ps : Prs) (fs : Frs)
  | name (u : List Nat) (p : Option Sn) (ps : Prs) (fs : Frs)
  | after (x : Sn) (ps : Prs) (fs : Frs)
  | uses (x : Sn) (ps : Prs) (fs : Frs)
  | usesP (u : List Nat) (x : Sn) (ps : Prs) (fs : Frs)
  | slash (u : List Nat) (x : Sn) (ps : Prs) (fs : Frs)
  | days (u : List Nat) (x : Sn) (ps : Prs) (fs : Frs)
  | daysP (u d : List Nat) (x : Sn) (ps : Prs) (fs : Frs)
  | close (u d : List Nat) (x : Sn) (ps : Prs) (fs : Frs)
  | arrow (k : Pk) (x : Sn) (ps : Prs) (fs : Frs)
def lafter (x : Sn) (ps : Prs) (fs : Frs) (c : Nat) : Option LSt :=
  if c = 32 then some (.after x ps fs)
  else if c = 38 then some (.atom (some x) ps fs)
  else if c = 91 then some (.uses x ps fs)
  else if c = 62 then some (.atom none (ps ++ [(none, x)]) fs)
  else match fs with
    | [] => none
    | (q, qs) :: gs => if c = 41 then some (.after (put q (whole ps x)) qs gs) else none
/-- a further digit of a number -/
def more (u : List Nat) (c : Nat) : Bool := dig1 c && decide (u ≠ [48]) && decide (u.length < 9)
def lstep : LSt → Nat → Option LSt
  | .atom p ps fs, c => if c = 32 then some (.atom p ps fs) else if c = 40 then some (.atom none [] ((p, ps) :: fs)) else if let1 c = true then some (.name [c] p ps fs) else none
  | .name u p ps fs, c => if alnum c = true then (if u.length < 12 then some (.name (u ++ [c]) p ps fs) else none) else lafter (put p (.word u)) ps fs c
  | .after x ps fs, c => lafter x ps fs c
  | .uses x ps fs, c => if c = 32 then some (.uses x ps fs) else if dig1 c = true ∧ c ≠ 48 then some (.usesP [c] x ps fs) else none
  | .usesP u x ps fs, c => if c = 32 then some (.slash u x ps fs) else if more u c = true then some (.usesP (u ++ [c]) x ps fs) else if c = 47 then some (.days u x ps fs) else none
  | .slash u x ps fs, c => if c = 32 then some (.slash u x ps fs) else if c = 47 then some (.days u x ps fs) else none
  | .days u x ps fs, c => if c = 32 then some (.days u x ps fs) else if dig1 c = true then some (.daysP u [c] x ps fs) else none
  | .daysP u d x ps fs, c => if c = 32 then some (.close u d x ps fs) else if more d c = true then some (.daysP u (d ++ [c]) x ps fs) else if c = 93 then some (.arrow (some ((dv u : Int), (dv d : Int))) x ps fs) else none
  | .close u d x ps fs, c => if c = 32 then some (.close u d x ps fs) else if c = 93 then some (.arrow (some ((dv u : Int), (dv d : Int))) x ps fs) else none
  | .arrow k x ps fs, c => if c = 32 then some (.arrow k x ps fs) else if c = 62 then some (.atom none (ps ++ [(k, x)]) fs) else none
def lend : LSt → Re
  | .name u p ps [] => .ok (whole ps (put p (.word u)))
  | .after x ps [] => .ok (whole ps x)
  | _ => .err []
def lrun : LSt → List Nat → Re
  | S, [] => lend S
  | S, c :: l => match lstep S c with
    | none => .err (c :: l)
    | some S' => lrun S' l
theorem lrun_cons (S : LSt) (c : Nat) (l : List Nat) : lrun S (c :: l) = match lstep S c with
    | none => .err (c :: l)
    | some S' => lrun S' l := rfl
theorem name_run (p : Option Sn) (ps : Prs) (fs : Frs) : ∀ (l u : List Nat), u.length ≤ 12 → lrun (.name u p ps fs) l = if 12 < u.length + (run alnum l).length then .err (l.drop (12 - u.length)) else lrun (.after (put p (.word (u ++ run alnum l))) ps fs) (rest alnum l)
  | [], u, hu => by
    show lend _ = if 12 < u.length + 0 then _ else lend (.after (put p (.word (u ++ []))) ps fs)
    rw [if_neg (by omega), List.append_nil]
    cases fs <;> rfl
  | c :: l, u, hu => by
    rw [lrun_cons]
    by_cases hc : alnum c = true
    · have e : lstep (.name u p ps fs) c = if u.length < 12 then some (.name (u ++ [c]) p ps fs) else none := by
        show (if alnum c = true then _ else _) = _
        rw [if_pos hc]
      rw [e, run_cons alnum hc, rest_cons alnum hc]
      by_cases h12 : u.length < 12
      · rw [if_pos h12]
        show lrun (.name (u ++ [c]) p ps fs) l = _
        rw [name_run p ps fs l (u ++ [c]) (by rw [List.length_append]; show _ + 1 ≤ 12; omega)]
        simp only [List.length_append, List.length_cons, List.length_nil, List.append_assoc, List.cons_append, List.nil_append]
        have e2 : (c :: l).drop (12 - u.length) = l.drop (12 - (u.length + (0 + 1))) := by
          rw [show 12 - u.length = (12 - (u.length + (0 + 1))) + 1 by omega, List.drop_succ_cons]
        rw [e2, show u.length + (0 + 1) + (run alnum l).length = u.length + ((run alnum l).length + 1) by omega]
      · rw [if_neg h12]
        show Re.err (c :: l) = _
        rw [if_pos (by simp only [List.length_cons]; omega), show 12 - u.length = 0 by omega]
        rfl
    · have e : lstep (.name u p ps fs) c = lafter (put p (.word u)) ps fs c := by
        show (if alnum c = true then _ else _) = _
        rw [if_neg hc]
      have hr : run alnum (c :: l) = [] ∧ rest alnum (c :: l) = c :: l := run_stop alnum (m := c :: l) (by simpa [on1] using hc)
      rw [e, hr.1, hr.2, if_neg (by simp only [List.length_nil]; omega), List.append_nil, lrun_cons]
      rfl
/-- a sign that is waited for, behind spaces -/
theorem wait_run {S : LSt} {g : Nat} {S' : LSt} (hs : ∀ c, lstep S c = if c = 32 then some S else if c = g then some S' else none) (he : lend S = .err []) : ∀ l, lrun S l = match mt [g] (skip l) with
    | .error e => .err e
    | .ok r => lrun S' r
  | [] => he
  | c :: l => by
    rw [lrun_cons, hs]
    by_cases h : c = 32
    · rw [if_pos h]
      unfold skip
      rw [if_pos h]
      exact wait_run hs he l
    · rw [if_neg h]
      unfold skip
      rw [if_neg h]
      show _ = match (if c = g then mt [] l else Except.error (c :: l)) with
        | .error e => Re.err e
        | .ok r => lrun S' r
      by_cases hg : c = g
      · rw [if_pos hg, if_pos hg]; rfl
      · rw [if_neg hg, if_neg hg]
/-- a number that goes on -/
theorem more_run {S : List Nat → LSt} {g : Nat} {S1 S' : List Nat → LSt} (hg : dig1 g = false) (hg32 : g ≠ 32)
    (hs : ∀ u c, lstep (S u) c = if c = 32 then some (S1 u) else if more u c = true then some (S (u ++ [c])) else if c = g then some (S' u) else none) (he : ∀ u, lend (S u) = .err [])
    (hs1 : ∀ u c, lstep (S1 u) c = if c = 32 then some (S1 u) else if c = g then some (S' u) else none) (he1 : ∀ u, lend (S1 u) = .err []) :
    ∀ (l u : List Nat), 1 ≤ u.length → u.length ≤ (if u = [48] then 1 else 9) → (u.head? ≠ some 48 ∨ u = [48]) → lrun (S u) l = if (if u = [48] then 1 else 9) < u.length + (run dig1 l).length then .err (l.drop ((if u = [48] then 1 else 9) - u.length)) else match mt [g] (skip (rest dig1 l)) with
      | .error e => .err e
      | .ok r => lrun (S' (u ++ run dig1 l)) r
  | [], u, h1, h9, h0 => by
    show lend (S u) = _
    rw [he]
    show _ = if _ < u.length + 0 then _ else Re.err []
    rw [if_neg (by omega)]
  | c :: l, u, h1, h9, h0 => by
    rw [lrun_cons, hs]
    by_cases hd : dig1 c = true
    · have c32 : c ≠ 32 := by rintro rfl; revert hd; decide
      have cg : c ≠ g := by rintro rfl; rw [hg] at hd; cases hd
      rw [if_neg c32, run_cons dig1 hd, rest_cons dig1 hd]
      by_cases hm : u ≠ [48] ∧ u.length < 9
      · have em : more u c = true := by unfold more; rw [hd, decide_eq_true hm.1, decide_eq_true hm.2]; rfl
        rw [if_pos em]
        show lrun (S (u ++ [c])) l = _
        have hne : u ++ [c] ≠ [48] := by
          intro z
          have := congrArg List.length z
          rw [List.length_append] at this
          simp only [List.length_cons, List.length_nil] at this
          omega
        have hh : (u ++ [c]).head? ≠ some 48 := by
          cases u with
          | nil => simp at h1
          | cons a u => rcases h0 with h0 | h0; exact h0; exact absurd h0 hm.1
        rw [more_run hg hg32 hs he hs1 he1 l (u ++ [c]) (by rw [List.length_append]; omega) (by rw [if_neg hne, List.length_append]; show _ + 1 ≤ 9; omega) (.inl hh), if_neg hne, if_neg hm.1]
        simp only [List.length_append, List.length_cons, List.length_nil, List.append_assoc, List.cons_append, List.nil_append]
        rw [show 9 - u.length = (9 - (u.length + (0 + 1))) + 1 by omega, List.drop_succ_cons, show u.length + (0 + 1) + (run dig1 l).length = u.length + ((run dig1 l).length + 1) by omega]
      · have em : more u c = false := by
          unfold more
          by_cases hu : u = [48]
          · rw [decide_eq_false (by simpa using hu)]; simp
          · rw [decide_eq_false (show ¬ u.length < 9 from fun z => hm ⟨hu, z⟩)]; simp
        rw [if_neg (by rw [em]; decide), if_neg cg]
        have hu : u.length = if u = [48] then 1 else 9 := by
          by_cases hu : u = [48]
          · rw [if_pos hu, hu]; rfl
          · rw [if_neg hu] at h9 ⊢
            have : ¬ u.length < 9 := fun z => hm ⟨hu, z⟩
            omega
        rw [if_pos (by simp only [List.length_cons]; omega), ← hu, Nat.sub_self]
        rfl
    · have hr := run_stop dig1 (m := c :: l) (by simpa [on1] using hd)
      have em : more u c = false := by unfold more; rw [Bool.eq_false_iff.mpr hd]; simp
      rw [hr.1, hr.2, List.append_nil, if_neg (show ¬ (if u = [48] then 1 else 9) < u.length + ([] : List Nat).length by simp only [List.length_nil]; omega)]
      have := wait_run (S := S1 u) (S' := S' u) (hs1 u) (he1 u) (c :: l)
      rw [← this, lrun_cons, hs1]
      by_cases h32 : c = 32
      · rw [if_pos h32, if_pos h32]
      · rw [if_neg h32, if_neg h32, em]
        rfl
theorem digit_run {S : LSt} {ok : Nat → Bool} {S' : Nat → LSt} (hs : ∀ c, lstep S c = if c = 32 then some S else if ok c = true then some (S' c) else none) (he : lend S = .err []) : ∀ l, lrun S l = match skip l with
    | [] => .err []
    | c :: r => if ok c = true then lrun (S' c) r else .err (c :: r)
  | [] => he
  | c :: l => by
    rw [lrun_cons, hs]
    by_cases h : c = 32
    · rw [if_pos h]
      unfold skip
      rw [if_pos h]
      exact digit_run hs he l
    · rw [if_neg h]
      unfold skip
      rw [if_neg h]
      show _ = if ok c = true then lrun (S' c) l else Re.err (c :: l)
      by_cases hg : ok c = true
      · rw [if_pos hg, if_pos hg]
      · rw [if_neg hg, if_neg hg]
theorem dig_rng {c : Nat} (h : dig1 c = true) : 48 ≤ c ∧ c ≤ 57 := by
  unfold dig1 at h
  simpa using h
/-- the law's reader between the brackets reads as the program's -/
theorem pay_run (x : Sn) (ps : Prs) (fs : Frs) (l : List Nat) : lrun (.uses x ps fs) l = match rpay (91 :: l) with
    | .error e => .err e
    | .ok (k, r) => lrun (.atom none (ps ++ [(k, x)]) fs) r := by
  have e91 : mt [91] (skip (91 :: l)) = .ok l := by
    rw [show skip (91 :: l) = 91 :: l from skip_sps (by decide) l 0, mt1]
  have d1 := digit_run (S := .uses x ps fs) (ok := fun c => dig1 c && !decide (c = 48)) (S' := fun c => .usesP [c] x ps fs) (fun c => by
    show (if c = 32 then _ else if dig1 c = true ∧ c ≠ 48 then _ else _) = _
    by_cases h32 : c = 32
    · rw [if_pos h32, if_pos h32]
    rw [if_neg h32, if_neg h32]
    by_cases h : dig1 c = true ∧ c ≠ 48
    · rw [if_pos h, if_pos (by rw [h.1, decide_eq_false h.2]; rfl)]
    · rw [if_neg h, if_neg (by simpa using h)]) rfl l
  rw [d1]
  unfold rpay rbr
  rw [e91]
  simp only []
  cases hsk : skip l with
  | nil => rfl
  | cons c r =>
  simp only []
  by_cases hc : dig1 c = true ∧ c ≠ 48
  · have hr := dig_rng hc.1
    rw [if_pos (by rw [hc.1, decide_eq_false hc.2]; rfl), rnum_cons, if_neg (by rintro (h | h); rw [hc.1] at h; cases h; omega)]
    have hu : ([c] : List Nat) ≠ [48] := fun z => hc.2 (by injection z)
    have m1 := more_run (S := fun u => .usesP u x ps fs) (S1 := fun u => .slash u x ps fs) (S' := fun u => .days u x ps fs) (g := 47) (by decide) (by decide) (fun u c => rfl) (fun u => rfl) (fun u c => rfl) (fun u => rfl) r [c] (Nat.le_refl 1) (by rw [if_neg hu]; show 1 ≤ 9; decide) (.inl (by simpa using hc.2))
    try simp only [] at m1
    rw [m1, if_neg hu, run_cons dig1 hc.1, rest_cons dig1 hc.1, show mst c = 9 from if_neg hc.2]
    simp only [List.length_cons, List.length_nil]
    by_cases h9 : 9 < 0 + 1 + (run dig1 r).length
    · rw [if_pos h9, if_pos (by omega)]
      rfl
    · rw [if_neg h9, if_neg (by omega)]
      simp only []
      cases hm : mt [47] (skip (rest dig1 r)) with
      | error e => rfl
      | ok l3 =>
      simp only []
      have d2 := digit_run (S := .days ([c] ++ run dig1 r) x ps fs) (ok := dig1) (S' := fun c' => .daysP ([c] ++ run dig1 r) [c'] x ps fs) (fun c => rfl) rfl l3
      rw [d2]
      cases hsk3 : skip l3 with
      | nil => rfl
      | cons c2 r2 =>
      simp only []
      by_cases h2 : dig1 c2 = true
      · rw [if_pos h2, rnum_cons, if_neg (by rintro (h | h); rw [h2] at h; cases h; omega)]
        have m2 := more_run (S := fun d => .daysP ([c] ++ run dig1 r) d x ps fs) (S1 := fun d => .close ([c] ++ run dig1 r) d x ps fs) (S' := fun d => .arrow (some ((dv ([c] ++ run dig1 r) : Int), (dv d : Int))) x ps fs) (g := 93) (by decide) (by decide) (fun u c => rfl) (fun u => rfl) (fun u c => rfl) (fun u => rfl) r2 [c2] (Nat.le_refl 1) (by split <;> simp) (by
          by_cases h48 : c2 = 48
          · exact .inr (by rw [h48])
          · exact .inl (by simpa using h48))
        try simp only [] at m2
        have em : (if ([c2] : List Nat) = [48] then 1 else 9) = mst c2 := by
          unfold mst
          by_cases h48 : c2 = 48
          · rw [if_pos h48, if_pos (by rw [h48])]
          · rw [if_neg h48, if_neg (fun z => h48 (by injection z))]
        have hm1 : 1 ≤ mst c2 := by unfold mst; split <;> decide
        rw [m2, em, run_cons dig1 h2, rest_cons dig1 h2]
        simp only [List.length_cons, List.length_nil]
        by_cases h9' : mst c2 < 0 + 1 + (run dig1 r2).length
        · rw [if_pos h9', if_pos (by omega)]
          show Re.err (r2.drop (mst c2 - (0 + 1))) = Re.err ((c2 :: r2).drop (mst c2))
          rw [show mst c2 = (mst c2 - (0 + 1)) + 1 by omega, List.drop_succ_cons]
          simp
        · rw [if_neg h9', if_neg (by omega)]
          simp only []
          cases hm5 : mt [93] (skip (rest dig1 r2)) with
          | error e => rfl
          | ok l5 =>
          simp only []
          rw [wait_run (S := .arrow (some ((dv ([c] ++ run dig1 r) : Int), (dv ([c2] ++ run dig1 r2) : Int))) x ps fs) (g := 62) (S' := .atom none (ps ++ [(some ((dv ([c] ++ run dig1 r) : Int), (dv ([c2] ++ run dig1 r2) : Int)), x)]) fs) (fun c => rfl) rfl l5]
          cases mt [62] (skip l5) <;> rfl
      · rw [if_neg h2, rnum_cons, if_pos (.inl (Bool.eq_false_iff.mpr h2))]
  · rw [if_neg (by simpa using hc), rnum_cons, if_pos (by
      by_cases hd : dig1 c = true
      · have := dig_rng hd
        have : c = 48 := Classical.byContradiction fun z => hc ⟨hd, z⟩
        right; omega
      · exact .inl (Bool.eq_false_iff.mpr hd))]
theorem Ends.step {a b : St} {r : Re} (e : K26.step a = .inl b) (h : Ends b r) : Ends a r := .of (.one e) h
/-- the law's reader answers as the program's -/
theorem law_reads : ∀ (n : Nat) (l : List Nat), l.length ≤ n → (∀ p ps fs, Ends (.A p ps fs l) (lrun (.atom p ps fs) l)) ∧ ∀ x ps fs, Ends (.B x ps fs l) (lrun (.after x ps fs) l) := by
  intro n
  induction n with
  | zero =>
    intro l hl
    have : l = [] := List.eq_nil_of_length_eq_zero (Nat.le_zero.mp hl)
    subst this
    refine ⟨fun p ps fs => ⟨_, .refl, rfl⟩, fun x ps fs => ⟨_, .refl, ?_⟩⟩
    rw [step_B0]
    cases fs with
    | nil => rfl
    | cons f fs => rw [if_neg (by simp)]; rfl
  | succ n ih =>
    intro l hl
    cases l with
    | nil =>
      refine ⟨fun p ps fs => ⟨_, .refl, rfl⟩, fun x ps fs => ⟨_, .refl, ?_⟩⟩
      rw [step_B0]
      cases fs with
      | nil => rfl
      | cons f fs => rw [if_neg (by simp)]; rfl
    | cons c l =>
    have hl' : l.length ≤ n := by simpa using hl
    obtain ⟨ihA, ihB⟩ := ih l hl'
    constructor
    · intro p ps fs
      rw [lrun_cons]
      show Ends _ (match (if c = 32 then some (LSt.atom p ps fs) else if c = 40 then some (.atom none [] ((p, ps) :: fs)) else if let1 c = true then some (.name [c] p ps fs) else none) with
        | none => .err (c :: l)
        | some S' => lrun S' l)
      by_cases h32 : c = 32
      · rw [if_pos h32]
        exact Ends.step (by rw [step_A, if_pos h32]) (ihA p ps fs)
      rw [if_neg h32]
      by_cases h40 : c = 40
      · rw [if_pos h40]
        exact Ends.step (by rw [step_A, if_neg h32, if_pos h40]) (ihA none [] ((p, ps) :: fs))
      rw [if_neg h40]
      by_cases hlet : let1 c = true
      · have ha : alnum c = true := by unfold alnum; rw [hlet]; rfl
        rw [if_pos hlet]
        show Ends _ (lrun (.name [c] p ps fs) l)
        rw [name_run p ps fs l [c] (by show 1 ≤ 12; decide)]
        have er : rname (c :: l) = if 12 < (run alnum l).length + 1 then .error (l.drop 11) else .ok (c :: run alnum l, rest alnum l) := by
          rw [rname_cons, if_neg (by rw [hlet]; decide), run_cons alnum ha, rest_cons alnum ha]
          rfl
        simp only [List.length_cons, List.length_nil]
        by_cases h12 : 12 < (run alnum l).length + 1
        · rw [if_pos (by omega)]
          refine ⟨_, .refl, ?_⟩
          rw [step_A, if_neg h32, if_neg h40, er, if_pos h12]
        · rw [if_neg (by omega)]
          rw [if_neg h12] at er
          refine Ends.step (b := .B (put p (.word (c :: run alnum l))) ps fs (rest alnum l)) (by rw [step_A, if_neg h32, if_neg h40, er]) ?_
          exact (ih (rest alnum l) (Nat.le_trans (rest_len alnum l) hl')).2 _ ps fs
      · rw [if_neg hlet]
        refine ⟨_, .refl, ?_⟩
        rw [step_A, if_neg h32, if_neg h40, rname_cons, if_pos (Bool.eq_false_iff.mpr hlet)]
    · intro x ps fs
      rw [lrun_cons]
      show Ends _ (match lafter x ps fs c with
        | none => .err (c :: l)
        | some S' => lrun S' l)
      unfold lafter
      by_cases h32 : c = 32
      · rw [if_pos h32]
        exact Ends.step (by rw [step_B, if_pos h32]) (ihB x ps fs)
      rw [if_neg h32]
      by_cases h38 : c = 38
      · rw [if_pos h38]
        exact Ends.step (by rw [step_B, if_neg h32, if_pos h38]) (ihA (some x) ps fs)
      rw [if_neg h38]
      by_cases h91 : c = 91
      · subst h91
        rw [if_pos rfl]
        show Ends _ (lrun (.uses x ps fs) l)
        rw [pay_run]
        have es : K26.step (.B x ps fs (91 :: l)) = match rpay (91 :: l) with
            | .error e => .inr (.err e)
            | .ok (k, r) => .inl (.A none (ps ++ [(k, x)]) fs r) := by
          rw [step_B, if_neg (by decide), if_neg (by decide), if_neg (by decide), if_pos rfl]
          all_goals (cases rpay (91 :: l) <;> rfl)
        cases hp : rpay (91 :: l) with
        | error e =>
          rw [hp] at es
          exact ⟨_, .refl, es⟩
        | ok kr =>
          obtain ⟨k, r⟩ := kr
          rw [hp] at es
          have hlen := rpay_len hp
          exact Ends.step es ((ih r (by simp only [List.length_cons] at hlen; omega)).1 none _ fs)
      rw [if_neg h91]
      by_cases h62 : c = 62
      · rw [if_pos h62]
        exact Ends.step (by rw [step_B, if_neg h32, if_neg h38, if_pos h62]) (ihA none _ fs)
      rw [if_neg h62]
      have es : K26.step (.B x ps fs (c :: l)) = match fs with
          | [] => .inr (.err (c :: l))
          | (q, qs) :: gs => if c = 41 then .inl (.B (put q (whole ps x)) qs gs l) else .inr (.err (c :: l)) := by
        rw [step_B, if_neg h32, if_neg h38, if_neg h62, if_neg h91]
        all_goals (rcases fs with _ | ⟨⟨q, qs⟩, gs⟩ <;> rfl)
      cases fs with
      | nil => exact ⟨_, .refl, es⟩
      | cons f gs =>
        obtain ⟨q, qs⟩ := f
        by_cases h41 : c = 41
        · simp only [h41, if_true] at es ⊢
          exact Ends.step es (ihB _ qs gs)
        · simp only [h41, if_false] at es ⊢
          exact ⟨_, .refl, es⟩



theorem at0 {a : V} {l : List V} : atI (a :: l) 0 = some a := atI_nat (j := 0) rfl
theorem at1 {a b : V} {l : List V} : atI (a :: b :: l) 1 = some b := atI_nat (j := 1) rfl
theorem at2 {a b c : V} {l : List V} : atI (a :: b :: c :: l) 2 = some c := atI_nat (j := 2) rfl
theorem at3 {a b c d : V} {l : List V} : atI (a :: b :: c :: d :: l) 3 = some d := atI_nat (j := 3) rfl
theorem cs_app (x y : Str) : cs (x ++ y) = cs x ++ cs y := Array.toList_append ..
theorem app_len (x y : Str) : (x ++ y).length = x.length + y.length := by rw [len_cs, cs_app, List.length_append, ← len_cs, ← len_cs]
theorem cs_num {u : Int} (h : 0 ≤ u) : cs (toString u : Str) = TL.numL u.toNat := by
  obtain ⟨n, rfl⟩ := Int.eq_ofNat_of_zero_le h
  exact TL.tl_num n
theorem log_9 {d : Int} (h0 : 0 ≤ d) (h1 : d < 1000000000) : d.natAbs.log2 < 1920 := by
  have h : d.natAbs < 2 ^ 30 := by omega
  rcases Nat.eq_zero_or_pos d.natAbs with z | z
  · rw [z]; decide
  · have := (Nat.log2_lt (by omega)).mpr h
    omega
theorem num_len {u : Int} (h0 : 0 ≤ u) (h1 : u < 1000000000) : (TL.numL u.toNat).length ≤ 9 := TL.numL_len (by decide) (by omega)
theorem empty_app (x : Str) : Str.empty ++ x = x := cs_ext (by rw [cs_app]; rfl)
/-- nodes -/
def nod : Sn → Nat
  | .word _ => 1
  | .menu l r => nod l + nod r + 1
  | .trade _ p g => nod p + nod g + 1
def dep : Sn → Nat
  | .word _ => 0
  | .menu l r => max (dep l) (dep r) + 1
  | .trade _ p g => max (dep p) (dep g) + 1
section
variable {P : Program} {w : World} {K : PySem.W.Frag} {mg : Str → Option Value} {base : Heap} {C CT CH : Addr}
theorem o_addS {X : Cx} {H : Hp} {Q : VK} {x y : Str} (hz : x.length + y.length ≤ 1000000) (q : Q (.str (x ++ y)) H) : wB X .Add (.str x) (.str y) H Q := b_of op_add_str ⟨x, y, rfl, rfl, by show _ ≤ 2 ^ 24; omega, q⟩
end
abbrev sVs (l : List Str) : List V := l.map V.str
theorem sVs_at {ns : List Str} {d : Int} (h0 : 0 ≤ d) (h1 : d < ns.length) : ∃ z, z ∈ ns ∧ atI (sVs ns) d = some (.str z) := by
  obtain ⟨j, rfl⟩ := Int.eq_ofNat_of_zero_le h0
  have hj : j < ns.length := by omega
  exact ⟨ns[j], List.getElem_mem hj, atI_nat (by simp [hj])⟩
theorem PoolAt.up {H H' : Hp} {p : Addr} (h : PoolAt H p) (e : Same H H') : PoolAt H' p := let ⟨a, b, c, h⟩ := h; ⟨a, b, c, e _ _ h⟩
theorem cut_hi (z : Str) (j : Nat) : cs (cutS z none (some (j : Int))) = (cs z).take j := by
  unfold cutS
  rw [HT.sIx_nat, HT.sIx_none]
  show ((cs z).drop 0).take (min j z.length - 0) = _
  rw [List.drop_zero, Nat.sub_zero, len_cs]
  by_cases h : j ≤ (cs z).length
  · rw [Nat.min_eq_left h]
  · rw [Nat.min_eq_right (by omega), List.take_length, List.take_of_length_le (by omega)]
theorem cut_lo (z : Str) (j : Nat) : cs (cutS z (some (j : Int)) none) = (cs z).drop j := by
  unfold cutS
  rw [HT.sIx_nat, HT.sIx_none]
  show ((cs z).drop (min j z.length)).take (z.length - min j z.length) = _
  rw [len_cs]
  by_cases h : j ≤ (cs z).length
  · rw [Nat.min_eq_left h, List.take_of_length_le (by simp)]
  · rw [Nat.min_eq_right (by omega), Nat.sub_self, List.take_zero, List.drop_eq_nil_of_le (by omega)]
def okN (z : Str) : Prop := nameB (cs z) = true ∧ z.length ≤ 12
/-- the codes of a name -/
def Nm (l : List Nat) : Prop := (∃ c t, l = c :: t ∧ let1 c = true) ∧ (∀ x ∈ l, alnum x = true) ∧ l.length ≤ 12
theorem Nm.b {l : List Nat} (h : Nm l) : nameB l = true := by
  obtain ⟨⟨c, t, rfl, hc⟩, ha, hl⟩ := h
  unfold nameB
  have h2 : ((c :: t).all fun c => let1 c || dig1 c) = true := by
    rw [List.all_eq_true]
    exact fun x hx => ha x hx
  rw [h2]
  simp only [List.head?_cons, Option.map_some, Option.getD_some, hc, List.length_cons] at hl ⊢
  simp
  omega
theorem Nm.ok {z : Str} (h : Nm (cs z)) : okN z := ⟨h.b, by rw [len_cs]; exact h.2.2⟩
theorem okN.nm {z : Str} (h : okN z) : Nm (cs z) := by
  obtain ⟨h, hl⟩ := h
  rw [len_cs] at hl
  have h : nameB (cs z) = true := h
  generalize cs z = l at *
  unfold nameB at h
  simp only [Bool.and_eq_true, decide_eq_true_eq, List.all_eq_true] at h
  obtain ⟨⟨h1, _⟩, h3, h4⟩ := h
  cases l with
  | nil => simp at h1
  | cons c t => exact ⟨⟨c, t, rfl, by simpa using h3⟩, h4, hl⟩
theorem Nm.len {l : List Nat} (h : Nm l) : 1 ≤ l.length := by
  obtain ⟨⟨c, t, rfl, _⟩, _⟩ := h
  simp
theorem ok1_of {c : Nat} (h : let1 c = true) : alnum c = true := by unfold alnum; rw [h]; rfl
theorem Nm.put {l : List Nat} {c : Nat} {j : Nat} (h : Nm l) (hc : let1 c = true) (hj : j < l.length) : Nm (l.take j ++ [c] ++ l.drop (j + 1)) := by
  obtain ⟨⟨a, t, rfl, ha⟩, hall, hl⟩ := h
  refine ⟨?_, fun x hx => ?_, ?_⟩
  · cases j with
    | zero => exact ⟨c, _, rfl, hc⟩
    | succ j => exact ⟨a, _, rfl, ha⟩
  · simp only [List.mem_append, List.mem_singleton] at hx
    rcases hx with (h | h) | h
    · exact hall x (List.mem_of_mem_take h)
    · subst h; exact ok1_of hc
    · exact hall x (List.mem_of_mem_drop h)
  · simp only [List.length_append, List.length_take, List.length_drop, List.length_cons, List.length_nil] at *
    omega
theorem Nm.more {l : List Nat} {c : Nat} (h : Nm l) (hc : alnum c = true) (hl : l.length < 12) : Nm (l ++ [c]) := by
  obtain ⟨⟨a, t, rfl, ha⟩, hall, _⟩ := h
  refine ⟨⟨a, t ++ [c], rfl, ha⟩, fun x hx => ?_, by simp only [List.length_append, List.length_cons, List.length_nil] at *; omega⟩
  rcases List.mem_append.mp hx with h | h
  · exact hall x h
  · simp only [List.mem_singleton] at h; subst h; exact hc
theorem Nm.cut {l : List Nat} {j : Nat} (h : Nm l) (hj : 1 ≤ j) : Nm (l.take j) := by
  obtain ⟨⟨a, t, rfl, ha⟩, hall, hl⟩ := h
  obtain ⟨i, rfl⟩ : ∃ i, j = i + 1 := ⟨j - 1, by omega⟩
  exact ⟨⟨a, t.take i, rfl, ha⟩, fun x hx => hall x (List.mem_of_mem_take hx), by simp only [List.length_take]; omega⟩
theorem Nm.one {c : Nat} (hc : let1 c = true) : Nm [c] := ⟨⟨c, [], rfl, hc⟩, fun x hx => by simp only [List.mem_singleton] at hx; subst hx; exact ok1_of hc, by simp⟩
theorem letters_cs : cs (Str.ofString "abcdefghijklmnopqrstuvwxyz") = List.range' 97 26 := by decide +kernel
theorem digits_cs : cs (Str.ofString "0123456789") = List.range' 48 10 := by decide +kernel
theorem let1_of {c : Nat} (h1 : 97 ≤ c) (h2 : c ≤ 122) : let1 c = true := by unfold let1; simp [h1, h2]
theorem dig1_of {c : Nat} (h1 : 48 ≤ c) (h2 : c ≤ 57) : dig1 c = true := by unfold dig1; simp [h1, h2]
theorem letter_at {d : Int} (h0 : 0 ≤ d) (h1 : d < 26) : ∃ c, atI (cs (Str.ofString "abcdefghijklmnopqrstuvwxyz")) d = some c ∧ let1 c = true := by
  obtain ⟨j, rfl⟩ := Int.eq_ofNat_of_zero_le h0
  refine ⟨97 + j, atI_nat ?_, let1_of (by omega) (by omega)⟩
  rw [letters_cs, List.getElem?_range' (by omega)]
  simp
theorem sign_at {d : Int} (h0 : 0 ≤ d) (h1 : d < 36) : ∃ c, atI (cs (Str.ofString "abcdefghijklmnopqrstuvwxyz" ++ Str.ofString "0123456789")) d = some c ∧ alnum c = true := by
  obtain ⟨j, rfl⟩ := Int.eq_ofNat_of_zero_le h0
  rw [cs_app, letters_cs, digits_cs]
  by_cases hj : j < 26
  · refine ⟨97 + j, atI_nat ?_, ok1_of (let1_of (by omega) (by omega))⟩
    rw [List.getElem?_append_left (by simpa using hj), List.getElem?_range' (by omega)]
    simp
  · refine ⟨48 + (j - 26), atI_nat ?_, ?_⟩
    · rw [List.getElem?_append_right (by simp; omega), List.getElem?_range' (by simp; omega)]
      simp
    · unfold alnum
      rw [dig1_of (by omega) (by omega)]
      simp
section
variable {P : Program} {w : World} {K : PySem.W.Frag} {mg : Str → Option Value} {base : Heap}
def spMode : Sp := fun vs H Q _ => ∃ a, vs = [.ref a] ∧ PoolAt H a ∧ ∀ m k H', But a H H' → PoolAt H' a → ModeV H' m k → okK k → Q m H'
theorem us_at {d : Int} (h0 : 0 ≤ d) (h1 : d < 6) : ∃ u : Int, atI [V.int 1, .int 9, .int 10, .int 99999999, .int 100000000, .int 999999999] d = some (.int u) ∧ 1 ≤ u ∧ u ≤ 999999999 := by
  obtain ⟨j, rfl⟩ := Int.eq_ofNat_of_zero_le h0
  have hj : j < 6 := by omega
  match j, hj with
  | 0, _ => exact ⟨1, atI_nat (j := 0) rfl, by decide, by decide⟩
  | 1, _ => exact ⟨9, atI_nat (j := 1) rfl, by decide, by decide⟩
  | 2, _ => exact ⟨10, atI_nat (j := 2) rfl, by decide, by decide⟩
  | 3, _ => exact ⟨99999999, atI_nat (j := 3) rfl, by decide, by decide⟩
  | 4, _ => exact ⟨100000000, atI_nat (j := 4) rfl, by decide, by decide⟩
  | 5, _ => exact ⟨999999999, atI_nat (j := 5) rfl, by decide, by decide⟩
theorem ds_at {d : Int} (h0 : 0 ≤ d) (h1 : d < 6) : ∃ u : Int, atI [V.int 0, .int 9, .int 10, .int 99999999, .int 100000000, .int 999999999] d = some (.int u) ∧ 0 ≤ u ∧ u ≤ 999999999 := by
  obtain ⟨j, rfl⟩ := Int.eq_ofNat_of_zero_le h0
  have hj : j < 6 := by omega
  match j, hj with
  | 0, _ => exact ⟨0, atI_nat (j := 0) rfl, by decide, by decide⟩
  | 1, _ => exact ⟨9, atI_nat (j := 1) rfl, by decide, by decide⟩
  | 2, _ => exact ⟨10, atI_nat (j := 2) rfl, by decide, by decide⟩
  | 3, _ => exact ⟨99999999, atI_nat (j := 3) rfl, by decide, by decide⟩
  | 4, _ => exact ⟨100000000, atI_nat (j := 4) rfl, by decide, by decide⟩
  | 5, _ => exact ⟨999999999, atI_nat (j := 5) rfl, by decide, by decide⟩
theorem ok_mode (T : Top K mg "_law_mode" s_mode) (F : Fn P w K mg base 1 "_law_next" spNext) : Fn P w K mg base 2 "_law_mode" spMode := by
  refine fn_ok T sc_mode so_mode (fun vs H Q E h => by obtain ⟨a, rfl, _⟩ := h; rfl) (fun _ _ _ _ _ _ us hl => match us, hl with | [_], _ => rfl) fun f cdv A outer s H vs Q E hr h nd => ?_
  obtain ⟨a, rfl, hp, q⟩ := h
  walk_at "sts"
  refine e_call (by exact F) (by exact hr) (by decide) ?_
  walk_at "sts"
  refine ⟨a, 4, rfl, by decide, by decide, hp, fun d H1 d0 d1 b1 p1 => ?_⟩
  walk_at "sts"
  refine if2 (fun _ => ?_) (fun _ => l_nil ?_)
  · walk_at "sts"
    exact q _ none H1 b1 p1 rfl trivial
  walk_at "sts"
  refine if2 (fun _ => ?_) (fun _ => l_nil ?_)
  · walk_at "sts"
    refine e_call (by exact F) (by exact hr) (by decide) ?_
    walk_at "sts"
    refine ⟨a, 50, rfl, by decide, by decide, p1, fun d2 H2 e0 e1 b2 p2 => ?_⟩
    walk_at "sts"
    refine e_call (by exact F) (by exact hr) (by decide) ?_
    walk_at "sts"
    refine ⟨a, 51, rfl, by decide, by decide, p2, fun d3 H3 f0 f1 b3 p3 => ?_⟩
    walk_at "sts"
    exact ⟨by show 2 ≤ sizeLine; decide, fun t H4 e4 _ ht => q _ (some (1 + d2, d3)) H4 (((b1.trans b2).trans b3).trans (But.of e4)) (p3.up e4) ⟨t, rfl, ht⟩ ⟨by omega, by omega, f0, by omega⟩⟩
  · refine l_cons (s_set (e_lst ?_))
    refine a_cons (e_int (a_cons (e_int (a_cons (e_int (a_cons (e_int (a_cons (e_int (a_cons (e_int (a_nil ⟨by show 6 ≤ sizeLine; decide, fun s1 H2 e2 n2 h2 => ?_⟩))))))))))))
    have ns1 : s1 ≠ a := fun z => by subst z; obtain ⟨x, y, c, h⟩ := p1; rw [h] at n2; cases n2
    refine l_cons (s_ret (e_tup (a_cons (e_ix (e_var (e_call (by exact F) (by exact hr) (by decide) ?_))))))
    refine a_cons (e_var (a_cons (e_int (a_nil ?_))))
    refine ⟨a, 6, rfl, by decide, by decide, p1.up e2, fun d3 H3 f0 f1 b3 p3 => ?_⟩
    obtain ⟨u, hat, u1, u2⟩ := us_at f0 f1
    refine ix_l (by exact SqL.of (b3 _ _ ns1 h2)) hat (a_cons (e_ix (e_lst ?_)))
    refine a_cons (e_int (a_cons (e_int (a_cons (e_int (a_cons (e_int (a_cons (e_int (a_cons (e_int (a_nil ⟨by show 6 ≤ sizeLine; decide, fun s4 H4 e4 n4 h4 => ?_⟩))))))))))))
    have ns4 : s4 ≠ a := fun z => by subst z; obtain ⟨x, y, c, h⟩ := p3; rw [h] at n4; cases n4
    refine e_call (by exact F) (by exact hr) (by decide) ?_
    refine a_cons (e_var (a_cons (e_int (a_nil ?_))))
    refine ⟨a, 6, rfl, by decide, by decide, p3.up e4, fun d5 H5 g0 g1 b5 p5 => ?_⟩
    obtain ⟨dd, hat5, dd1, dd2⟩ := ds_at g0 g1
    refine ix_l (by exact SqL.of (b5 _ _ ns4 h4)) hat5 (a_nil ⟨by show 2 ≤ sizeLine; decide, fun t H6 e6 _ ht => ?_⟩)
    exact q _ (some (u, dd)) H6 ((((b1.trans (But.of e2)).trans b3).trans (But.of e4)).trans (b5.trans (But.of e6))) (p5.up e6) ⟨t, rfl, ht⟩ ⟨by omega, by omega, dd1, by omega⟩
/-- a name of so many signs -/
def NmE (z : Str) (n : Nat) : Prop := Nm (cs z) ∧ (cs z).length = n
/-- the last row of the body under the test -/
def lastOf (b : List Stmt) : Stmt := match b.getD 3 (.Pass ⟨0, 0, 0, 0⟩) with
  | .If _ a _ _ => a.getD 4 (.Pass ⟨0, 0, 0, 0⟩)
  | _ => .Pass ⟨0, 0, 0, 0⟩
def spLName : Sp := fun vs H Q _ => ∃ a l ns, vs = [.ref a, .ref l] ∧ PoolAt H a ∧ l ≠ a ∧ H l = some (.lst (sVs ns)) ∧ ns.length ≤ 100 ∧ (∀ z ∈ ns, okN z) ∧ ∀ z H', But a H H' → PoolAt H' a → okN z → Q (.str z) H'
theorem ok_lname (T : Top K mg "_law_name" s_name) (mLen : mg "len" = none) (mMax : mg "max" = none) (mR : mg "range" = none) (F : Fn P w K mg base 1 "_law_next" spNext) : Fn P w K mg base 2 "_law_name" spLName := by
  refine fn_ok T sc_name so_name (fun vs H Q E h => by obtain ⟨a, l, ns, rfl, _⟩ := h; rfl) (fun _ _ _ _ _ _ us hl => match us, hl with | [_, _], _ => rfl) fun f cdv A outer s H vs Q E hr h nd => ?_
  obtain ⟨a, l, ns, rfl, hp, hla, hl, hn, hok, q⟩ := h
  walk_at "sts"
  refine o_addS (by decide +kernel) ?_
  walk_at "sts"
  refine e_call (by exact F) (by exact hr) (by decide) ?_
  walk_at "sts"
  refine ⟨a, 6, rfl, by decide, by decide, hp, fun d H1 d0 d1 b1 p1 => ?_⟩
  have hl1 := b1 l _ hla hl
  -- a new one
  have new : ∀ σ, σ = [some (V.ref a), some (.ref l), some (.str (Str.ofString "abcdefghijklmnopqrstuvwxyz")), some (.str (Str.ofString "abcdefghijklmnopqrstuvwxyz" ++ Str.ofString "0123456789")), some (.int d), none, none, none] →
      wL (cxOf CX0 P w K mg base N_name (Str.ofString "_law_name") (defScope s_name) f cdv A outer s H E).nox ((defBody s_name).drop 4) { nx := fun _ H' => Q .non H', rt := Q } σ H1 := by
    rintro σ rfl
    show wL _ (_ :: _) _ _ _
    walk_at "sts"
    refine e_call (by exact F) (by exact hr) (by decide) ?_
    walk_at "sts"
    refine ⟨a, 26, rfl, by decide, by decide, p1, fun d2 H2 e0 e1 b2 p2 => ?_⟩
    walk_at "sts"
    obtain ⟨c, hc, hc1⟩ := letter_at e0 e1
    refine ix_s (by decide +kernel) hc ?_
    walk_at "sts"
    refine s_forR (by assumption) ?_
    walk_at "sts"
    refine ⟨by show 6 ≤ sizeLine; decide, fun r H3 e3 nr hr3 => ?_⟩
    walk_at "sts"
    refine e_call (by exact F) (by exact hr) (by decide) ?_
    walk_at "sts"
    refine ⟨a, 6, rfl, by decide, by decide, p2.up e3, fun d4 H4 f0 f1 b4 p4 => ?_⟩
    have ra : r ≠ a := fun e => by subst e; obtain ⟨_, _, _, p2⟩ := p2; rw [p2] at nr; cases nr
    obtain ⟨m, hm, hm2⟩ : ∃ m : Nat, atI ([.int 0, .int 0, .int 1, .int 2, .int 5, .int 11] : List V) d4 = some (.int m) ∧ m ≤ 11 := by
      obtain ⟨j, rfl⟩ := Int.eq_ofNat_of_zero_le f0
      match j, f1 with
      | 0, _ => exact ⟨0, rfl, by decide⟩
      | 1, _ => exact ⟨0, rfl, by decide⟩
      | 2, _ => exact ⟨1, rfl, by decide⟩
      | 3, _ => exact ⟨2, rfl, by decide⟩
      | 4, _ => exact ⟨5, rfl, by decide⟩
      | 5, _ => exact ⟨11, rfl, by decide⟩
    refine ix_l (by exact SqL.of (b4 r _ ra hr3)) hm ?_
    refine ⟨m, rfl, by omega, fun i σ H' => ∃ z y, σ = [some (V.ref a), some (.ref l), some (.str (Str.ofString "abcdefghijklmnopqrstuvwxyz")), some (.str (Str.ofString "abcdefghijklmnopqrstuvwxyz" ++ Str.ofString "0123456789")), some (.int d), some (.str z), none, y] ∧ But a H H' ∧ PoolAt H' a ∧ NmE z (i + 1), ⟨sg c, _, rfl, ((b1.trans b2).trans (But.of e3)).trans b4, p4, Nm.one hc1, rfl⟩, fun i σ H5 hi hW => ?_, fun σ H5 hW => ?_⟩
    · obtain ⟨z, y, rfl, b5, p5, hz, hzl⟩ := hW
      walk_at "sts"
      refine e_call (by exact F) (by exact hr) (by decide) ?_
      walk_at "sts"
      refine ⟨a, 36, rfl, by decide, by decide, p5, fun d6 H6 g0 g1 b6 p6 => ?_⟩
      walk_at "sts"
      obtain ⟨c6, hc6, hk6⟩ := sign_at g0 g1
      refine ix_s (by decide +kernel) hc6 ?_
      have hz12 := hz.2.2
      refine o_addS (by rw [len_cs, len_cs]; show (cs z).length + 1 ≤ 1000000; omega) ?_
      walk_at "sts"
      have e7 : cs (z ++ sg c6) = cs z ++ [c6] := cs_app _ _
      refine ⟨z ++ sg c6, _, rfl, b5.trans b6, p6, ?_, ?_⟩
      · rw [e7]
        exact hz.more hk6 (by rw [hzl]; omega)
      · rw [e7, List.length_append, hzl]
        rfl
    · obtain ⟨z, y, rfl, b5, p5, hz, hzl⟩ := hW
      walk_at "sts"
      exact q z H5 b5 p5 hz.ok
  refine l_cons (s_if (t_w (w_and (t_tru ?_))))
  walk_at "sts"
  refine ⟨_, tru_l hl1, ?_⟩
  by_cases hns : ns = []
  · subst hns
    refine ite_f rfl ?_
    exact iteF (l_nil (new _ rfl))
  · have hpos : 0 < ns.length := List.length_pos_iff.mpr hns
    refine ite_t (by cases ns with | nil => exact absurd rfl hns | cons x xs => rfl) ?_
    walk_at "sts"
    refine if2 (fun h3 => ?_) (fun h3 => l_nil (new _ rfl))
    walk_at "sts"
    refine e_call (by exact F) (by exact hr) (by decide) ?_
    walk_at "sts"
    refine c_lenL (by exact SqL.of hl1) ?_
    rw [show (sVs ns).length = ns.length by simp [sVs]]
    walk_at "sts"
    refine ⟨a, _, rfl, by omega, by omega, p1, fun d2 H2 e0 e1 b2 p2 => ?_⟩
    obtain ⟨z, hz, hat⟩ := sVs_at e0 e1
    have hnz := (hok z hz).nm
    have hzl : z.length ≤ 12 := (hok z hz).2
    have hz1 := hnz.len
    have hzs : z.length ≤ sizeLine := by show z.length ≤ 2 ^ 24; omega
    have elen := len_cs z
    refine ix_l (by exact SqL.of (b2 l _ hla hl1)) hat ?_
    walk_at "sts"
    refine e_call (by exact F) (by exact hr) (by decide) ?_
    walk_at "sts"
    refine c_lenS hzs ?_
    walk_at "sts"
    refine ⟨a, _, rfl, by omega, by omega, p2, fun d3 H3 f0 f1 b3 p3 => ?_⟩
    obtain ⟨j, rfl⟩ := Int.eq_ofNat_of_zero_le f0
    have hj : j < (cs z).length := by omega
    have b13 := (b1.trans b2).trans b3
    walk_at "sts"
    refine if2 (fun h0 => ?_) (fun h0 => ?_)
    · walk_at "sts"
      refine e_slL1 sl_str ?_
      walk_at "sts"
      refine ⟨hzs, ?_⟩
      walk_at "sts"
      refine e_call (by exact F) (by exact hr) (by decide) ?_
      walk_at "sts"
      refine ⟨a, 26, rfl, by decide, by decide, p3, fun d4 H4 g0 g1 b4 p4 => ?_⟩
      obtain ⟨c, hc, hc1⟩ := letter_at g0 g1
      refine ix_s (by decide +kernel) hc ?_
      have e1' := cut_hi z j
      refine o_addS (by rw [len_cs, len_cs, e1', List.length_take]; show min j _ + 1 ≤ 1000000; have := Nat.min_le_left j (cs z).length; omega) ?_
      refine e_slL0 sl_str ?_
      walk_at "sts"
      refine ⟨hzs, ?_⟩
      have e2' := cut_lo z (j + 1)
      rw [show ((j : Int) + 1) = ((j + 1 : Nat) : Int) by omega]
      have e3' : cs (cutS z none (some (j : Int)) ++ sg c) = (cs z).take j ++ [c] := by rw [cs_app, e1']
      refine o_addS (by rw [len_cs, len_cs, e3', e2']; simp only [List.length_append, List.length_take, List.length_drop, List.length_cons, List.length_nil]; omega) ?_
      refine q _ H4 (b13.trans b4) p4 (Nm.ok ?_)
      rw [cs_app, e3', e2']
      exact hnz.put hc1 hj
    · have tl : ∀ σ, σ = [some (V.ref a), some (.ref l), some (.str (Str.ofString "abcdefghijklmnopqrstuvwxyz")), some (.str (Str.ofString "abcdefghijklmnopqrstuvwxyz" ++ Str.ofString "0123456789")), some (.int d), some (.str z), some (.int j), none] → wL (cxOf CX0 P w K mg base N_name (Str.ofString "_law_name") (defScope s_name) f cdv A outer s H E).nox [lastOf (defBody s_name)] { nx := fun σ' H' => wL (cxOf CX0 P w K mg base N_name (Str.ofString "_law_name") (defScope s_name) f cdv A outer s H E).nox ((defBody s_name).drop 4) { nx := fun _ H' => Q .non H', rt := Q } σ' H', rt := Q } σ H3 := by
        rintro σ rfl
        show wL _ (_ :: _) _ _ _
        refine l_cons (s_ret (e_slL1 sl_str ?_))
        walk_at "sts"
        refine ⟨hzs, ?_⟩
        refine q _ H3 b13 p3 (Nm.ok ?_)
        rw [show (if (j : Int) > 1 then (j : Int) else 1) = ((max 1 j : Nat) : Int) by split <;> omega, cut_hi]
        exact hnz.cut (Nat.le_max_left 1 j)
      refine l_nil ?_
      refine l_cons (s_if (t_w (w_and ?_)))
      walk_at "sts"
      refine if2 (fun h1 => ?_) (fun h1 => l_nil (tl _ rfl))
      walk_at "sts"
      refine c_lenS hzs ?_
      walk_at "sts"
      refine if2 (fun h2 => ?_) (fun h2 => l_nil (tl _ rfl))
      walk_at "sts"
      refine e_call (by exact F) (by exact hr) (by decide) ?_
      walk_at "sts"
      refine ⟨a, 36, rfl, by decide, by decide, p3, fun d4 H4 g0 g1 b4 p4 => ?_⟩
      walk_at "sts"
      obtain ⟨c, hc, hc1⟩ := sign_at g0 g1
      refine ix_s (by decide +kernel) hc ?_
      refine o_addS (by rw [len_cs, len_cs]; show (cs z).length + 1 ≤ 1000000; omega) ?_
      refine q _ H4 (b13.trans b4) p4 (Nm.ok ?_)
      rw [cs_app]
      exact hnz.more hc1 (by omega)
end



section
variable {P : Program} {w : World} {K : PySem.W.Frag} {mg : Str → Option Value} {base : Heap}
def NsAt (a l : Addr) (ns : List Str) (H : Hp) : Prop := PoolAt H a ∧ l ≠ a ∧ H l = some (.lst (sVs ns)) ∧ 0 < ns.length ∧ ns.length ≤ 100 ∧ ∀ z ∈ ns, okN z
theorem NsAt.but {a l : Addr} {ns : List Str} {H H' : Hp} (h : NsAt a l ns H) (b : But a H H') (p : PoolAt H' a) : NsAt a l ns H' := ⟨p, h.2.1, b l _ h.2.1 h.2.2.1, h.2.2.2.1, h.2.2.2.2.1, h.2.2.2.2.2⟩
/-- the suite of a test -/
def ifA (b : List Stmt) (i : Nat) : List Stmt := match b.getD i (.Pass ⟨0, 0, 0, 0⟩) with
  | .If _ a _ _ => a
  | _ => []
def spDeep (n : Nat) : Sp := fun vs H Q _ => ∃ a l ns, ∃ d : Nat, vs = [.ref a, .ref l, .int d] ∧ NsAt a l ns H ∧ d ≤ n ∧ ∀ v s H', But a H H' → PoolAt H' a → SnV H' v s → okS s → dep s ≤ d → nod s < 2 ^ (d + 1) → Q v H'
theorem ok_deepS (n : Nat) (T : Top K mg "_law_deep" s_deep) (mLen : mg "len" = none) (FX : Fn P w K mg base 1 "_law_next" spNext) (FM : Fn P w K mg base 2 "_law_mode" spMode) (F : ∀ m, n = m + 1 → Fn P w K mg base (m + 3) "_law_deep" (spDeep m)) : Fn P w K mg base (n + 3) "_law_deep" (spDeep n) := by
  refine fn_ok T sc_deep so_deep (fun vs H Q E h => by obtain ⟨a, l, ns, d, rfl, _⟩ := h; rfl) (fun _ _ _ _ _ _ us hl => match us, hl with | [_, _, _], _ => rfl) fun f cdv A outer s H vs Q E hr h nd => ?_
  obtain ⟨a, l, ns, d, rfl, hns, hdn, q⟩ := h
  walk_at "sts"
  refine e_call (by exact FX) (by exact hr) (by omega) ?_
  walk_at "sts"
  refine ⟨a, 7, rfl, by decide, by decide, hns.1, fun d1 H1 d10 d11 b1 p1 => ?_⟩
  have hn1 := hns.but b1 p1
  have leaf : ∀ σ, σ = [some (V.ref a), some (.ref l), some (.int d), some (.int d1), none, none] → wL (cxOf CX0 P w K mg base N_deep (Str.ofString "_law_deep") (defScope s_deep) f cdv A outer s H E).nox (ifA (defBody s_deep) 1) { nx := fun σ' H' => wL (cxOf CX0 P w K mg base N_deep (Str.ofString "_law_deep") (defScope s_deep) f cdv A outer s H E).nox ((defBody s_deep).drop 2) { nx := fun _ H' => Q .non H', rt := Q } σ' H', rt := Q } σ H1 := by
    rintro σ rfl
    show wL _ (_ :: _) _ _ _
    walk_at "sts"
    refine e_call (by exact FX) (by exact hr) (by omega) ?_
    walk_at "sts"
    refine c_lenL (by exact SqL.of hn1.2.2.1) ?_
    rw [show (sVs ns).length = ns.length by simp [sVs]]
    have h1 := hn1.2.2.2.1
    have h2 := hn1.2.2.2.2.1
    walk_at "sts"
    refine ⟨a, _, rfl, by omega, by omega, p1, fun d2 H2 e0 e1 b2 p2 => ?_⟩
    obtain ⟨z, hz, hat⟩ := sVs_at e0 e1
    refine ix_l (by exact SqL.of (b2 l _ hn1.2.1 hn1.2.2.1)) hat ?_
    walk_at "sts"
    refine ⟨by show 2 ≤ sizeLine; decide, fun t H3 e3 _ ht => ?_⟩
    exact q _ (.word (cs z)) H3 ((b1.trans b2).trans (But.of e3)) (p2.up e3) ⟨t, z, rfl, ht, rfl⟩ (hn1.2.2.2.2.2 z hz).1 (Nat.zero_le _) (by show 1 < 2 ^ (d + 1); rw [Nat.pow_succ]; have := Nat.one_le_two_pow (n := d); omega)
  walk_at "sts"
  refine if2 (fun h0 => leaf _ rfl) (fun h0 => ?_)
  refine w_or1 (t_cmp ?_)
  walk_at "sts"
  refine if2 (fun h1 => leaf _ rfl) (fun h1 => l_nil ?_)
  obtain ⟨m, rfl⟩ : ∃ m, n = m + 1 := ⟨n - 1, by omega⟩
  obtain ⟨i, rfl⟩ : ∃ i, d = i + 1 := ⟨d - 1, by omega⟩
  have F0 := F m rfl
  have ei : ((i + 1 : Nat) : Int) - 1 = (i : Int) := by omega
  walk_at "sts"
  refine e_call (by exact F0) (by exact hr) (by omega) ?_
  walk_at "sts"
  rw [ei]
  refine ⟨a, l, ns, i, rfl, hn1, by omega, fun v1 s1 H2 b2 p2 g1 o1 dd1 r1 => ?_⟩
  have hn2 := hn1.but b2 p2
  walk_at "sts"
  refine e_call (by exact F0) (by exact hr) (by omega) ?_
  walk_at "sts"
  rw [ei]
  refine ⟨a, l, ns, i, rfl, hn2, by omega, fun v2 s2 H3 b3 p3 g2 o2 dd2 r2 => ?_⟩
  replace g1 := g1.ts (p2.ts b3)
  have hn3 := hn2.but b3 p3
  have b13 := (b1.trans b2).trans b3
  have hpow : nod s1 + nod s2 + 1 < 2 ^ (i + 1 + 1) := by rw [Nat.pow_succ]; omega
  walk_at "sts"
  refine if2 (fun h4 => ?_) (fun h4 => l_nil ?_)
  · walk_at "sts"
    refine ⟨by show 3 ≤ sizeLine; decide, fun t H4 e4 _ ht => ?_⟩
    exact q _ (.menu s1 s2) H4 (b13.trans (But.of e4)) (p3.up e4) ⟨t, v1, v2, rfl, ht, g1.ts (Same.ts e4), g2.ts (Same.ts e4)⟩ ⟨o1, o2⟩ (by show max (dep s1) (dep s2) + 1 ≤ _; omega) hpow
  · walk_at "sts"
    refine e_call (by exact FM) (by exact hr) (by omega) ?_
    walk_at "sts"
    refine ⟨p3, fun md k H4 b4 p4 hm hk => ?_⟩
    walk_at "sts"
    refine ⟨by show 4 ≤ sizeLine; decide, fun t H5 e5 _ ht => ?_⟩
    exact q _ (.trade k s1 s2) H5 ((b13.trans b4).trans (But.of e5)) (p4.up e5) ⟨t, md, v1, v2, rfl, ht, hm.ts (Same.ts e5), (g1.ts (p3.ts b4)).ts (Same.ts e5), (g2.ts (p3.ts b4)).ts (Same.ts e5)⟩ ⟨hk, o1, o2⟩ (by show max (dep s1) (dep s2) + 1 ≤ _; omega) hpow
theorem ok_deep (T : Top K mg "_law_deep" s_deep) (mLen : mg "len" = none) (FX : Fn P w K mg base 1 "_law_next" spNext) (FM : Fn P w K mg base 2 "_law_mode" spMode) : ∀ n, Fn P w K mg base (n + 3) "_law_deep" (spDeep n)
  | 0 => ok_deepS 0 T mLen FX FM fun m h => by cases h
  | n + 1 => ok_deepS (n + 1) T mLen FX FM fun m h => by cases h; exact ok_deep T mLen FX FM n
end

section
variable {P : Program} {w : World} {K : PySem.W.Frag} {mg : Str → Option Value} {base : Heap}
def spLSent : Sp := fun vs H Q _ => ∃ a l ns, vs = [.ref a, .ref l] ∧ NsAt a l ns H ∧ ∀ v s H', But a H H' → PoolAt H' a → SnV H' v s → okS s → dep s ≤ 20 → nod s ≤ 64 → Q v H'
theorem ok_lsent (T : Top K mg "_law_sentence" s_sentence) (mLen : mg "len" = none) (mR : mg "range" = none) (FX : Fn P w K mg base 1 "_law_next" spNext) (FM : Fn P w K mg base 2 "_law_mode" spMode) (FD : Fn P w K mg base 7 "_law_deep" (spDeep 4)) : Fn P w K mg base 8 "_law_sentence" spLSent := by
  refine fn_ok T sc_sentence so_sentence (fun vs H Q E h => by obtain ⟨a, l, ns, rfl, _⟩ := h; rfl) (fun _ _ _ _ _ _ us hl => match us, hl with | [_, _], _ => rfl) fun f cdv A outer s H vs Q E hr h nd => ?_
  obtain ⟨a, l, ns, rfl, hns, q⟩ := h
  walk_at "sts"
  refine e_call (by exact FX) (by exact hr) (by decide) ?_
  walk_at "sts"
  refine ⟨a, 4, rfl, by decide, by decide, hns.1, fun d1 H1 d10 d11 b1 p1 => ?_⟩
  have hn1 := hns.but b1 p1
  walk_at "sts"
  refine if2 (fun h0 => ?_) (fun h0 => l_nil ?_)
  · walk_at "sts"
    refine e_call (by exact FD) (by exact hr) (by decide) ?_
    walk_at "sts"
    refine e_call (by exact FX) (by exact hr) (by decide) ?_
    walk_at "sts"
    refine ⟨a, 5, rfl, by decide, by decide, p1, fun d2 H2 e0 e1 b2 p2 => ?_⟩
    obtain ⟨d, rfl⟩ := Int.eq_ofNat_of_zero_le e0
    walk_at "sts"
    refine ⟨a, l, ns, d, rfl, hn1.but b2 p2, by omega, fun v s H3 b3 p3 g o dd r => ?_⟩
    have h5 : 2 ^ (d + 1) ≤ 32 := (Nat.pow_le_pow_right (n := 2) (j := 5) (by decide) (by omega))
    exact q v s H3 ((b1.trans b2).trans b3) p3 g o (by omega) (by omega)
  · walk_at "sts"
    obtain ⟨z0, hz0, hat0⟩ := sVs_at (ns := ns) (d := 0) (Int.le_refl 0) (by have := hn1.2.2.2.1; omega)
    refine ix_l (by exact SqL.of hn1.2.2.1) hat0 ?_
    walk_at "sts"
    refine ⟨by show 2 ≤ sizeLine; decide, fun t H2 e2 _ ht => ?_⟩
    have p2 := p1.up e2
    walk_at "sts"
    refine s_forR (by assumption) ?_
    walk_at "sts"
    refine e_call (by exact FX) (by exact hr) (by decide) ?_
    walk_at "sts"
    refine ⟨a, 18, rfl, by decide, by decide, p2, fun d3 H3 e0 e1 b3 p3 => ?_⟩
    obtain ⟨n, rfl⟩ := Int.eq_ofNat_of_zero_le e0
    walk_at "sts"
    have b13 := (b1.trans (But.of e2)).trans b3
    refine ⟨(have hn : n < 18 := by omega
      Nat.lt_of_lt_of_le (Nat.add_lt_add_left hn 1) (by decide)), fun k σ H' => ∃ v s y1 y2 y3, σ = [some (.ref a), some (.ref l), some v, y1, y2, y3] ∧ But a H H' ∧ PoolAt H' a ∧ SnV H' v s ∧ okS s ∧ dep s ≤ k ∧ nod s ≤ 2 * k + 1, ⟨_, .word (cs z0), _, _, _, rfl, b13, p3, ⟨t, z0, rfl, p2.ts b3 _ _ ht, rfl⟩, (hn1.2.2.2.2.2 z0 hz0).1, Nat.le_refl _, Nat.le_refl _⟩, fun k σ H4 hk hW => ?_, fun σ H4 hW => ?_⟩
    · obtain ⟨v, s, y1, y2, y3, rfl, b4, p4, g4, o4, dd4, r4⟩ := hW
      have hn4 := hns.but b4 p4
      have h1 := hn4.2.2.2.1
      have h2 := hn4.2.2.2.2.1
      walk_at "sts"
      refine e_call (by exact FX) (by exact hr) (by decide) ?_
      walk_at "sts"
      refine c_lenL (by exact SqL.of hn4.2.2.1) ?_
      rw [show (sVs ns).length = ns.length by simp [sVs]]
      walk_at "sts"
      refine ⟨a, _, rfl, by omega, by omega, p4, fun d5 H5 e0 e1 b5 p5 => ?_⟩
      obtain ⟨z, hz, hat⟩ := sVs_at e0 e1
      refine ix_l (by exact SqL.of (b5 l _ hn4.2.1 hn4.2.2.1)) hat ?_
      walk_at "sts"
      refine ⟨by show 2 ≤ sizeLine; decide, fun t6 H6 e6 _ ht6 => ?_⟩
      have p6 := p5.up e6
      have oz := (hns.2.2.2.2.2 z hz).1
      walk_at "sts"
      refine e_call (by exact FX) (by exact hr) (by decide) ?_
      walk_at "sts"
      refine ⟨a, 4, rfl, by decide, by decide, p6, fun d7 H7 f0 f1 b7 p7 => ?_⟩
      have ts47 : TS H4 H7 := ((p4.ts b5).trans (Same.ts e6)).trans (p6.ts b7)
      have b47 := (b5.trans (But.of e6)).trans b7
      have g7 := g4.ts ts47
      have w7 : SnV H7 (.ref t6) (.word (cs z)) := ⟨t6, z, rfl, p6.ts b7 _ _ ht6, rfl⟩
      have d0 : dep (.word (cs z)) = 0 := rfl
      have r0 : nod (.word (cs z)) = 1 := rfl
      walk_at "sts"
      refine if2 (fun h0 => ?_) (fun h0 => ?_)
      · walk_at "sts"
        refine ⟨by show 3 ≤ sizeLine; decide, fun t8 H8 e8 _ ht8 => ?_⟩
        refine l_nil (l_nil ⟨_, .menu s (.word (cs z)), _, _, _, rfl, (b4.trans b47).trans (But.of e8), p7.up e8, ⟨t8, _, _, rfl, ht8, g7.ts (Same.ts e8), w7.ts (Same.ts e8)⟩, ⟨o4, oz⟩, ?_, ?_⟩)
        · show max (dep s) 0 + 1 ≤ _; omega
        · show nod s + 1 + 1 ≤ _; omega
      walk_at "sts"
      refine if2 (fun h0 => ?_) (fun h0 => ?_)
      · walk_at "sts"
        refine ⟨by show 3 ≤ sizeLine; decide, fun t8 H8 e8 _ ht8 => ?_⟩
        refine l_nil (l_nil (l_nil ⟨_, .menu (.word (cs z)) s, _, _, _, rfl, (b4.trans b47).trans (But.of e8), p7.up e8, ⟨t8, _, _, rfl, ht8, w7.ts (Same.ts e8), g7.ts (Same.ts e8)⟩, ⟨oz, o4⟩, ?_, ?_⟩))
        · show max 0 (dep s) + 1 ≤ _; omega
        · show 1 + nod s + 1 ≤ _; omega
      walk_at "sts"
      refine if2 (fun h0 => ?_) (fun h0 => ?_)
      · walk_at "sts"
        refine e_call (by exact FM) (by exact hr) (by decide) ?_
        walk_at "sts"
        refine ⟨p7, fun md kk H8 b8 p8 hm hk8 => ?_⟩
        walk_at "sts"
        refine ⟨by show 4 ≤ sizeLine; decide, fun t9 H9 e9 _ ht9 => ?_⟩
        refine l_nil (l_nil (l_nil (l_nil ⟨_, .trade kk s (.word (cs z)), _, _, _, rfl, ((b4.trans b47).trans b8).trans (But.of e9), p8.up e9, ⟨t9, _, _, _, rfl, ht9, hm.ts (Same.ts e9), (g7.ts (p7.ts b8)).ts (Same.ts e9), (w7.ts (p7.ts b8)).ts (Same.ts e9)⟩, ⟨hk8, o4, oz⟩, ?_, ?_⟩)))
        · show max (dep s) 0 + 1 ≤ _; omega
        · show nod s + 1 + 1 ≤ _; omega
      · walk_at "sts"
        refine e_call (by exact FM) (by exact hr) (by decide) ?_
        walk_at "sts"
        refine ⟨p7, fun md kk H8 b8 p8 hm hk8 => ?_⟩
        walk_at "sts"
        refine ⟨by show 4 ≤ sizeLine; decide, fun t9 H9 e9 _ ht9 => ?_⟩
        refine l_nil (l_nil (l_nil (l_nil ⟨_, .trade kk (.word (cs z)) s, _, _, _, rfl, ((b4.trans b47).trans b8).trans (But.of e9), p8.up e9, ⟨t9, _, _, _, rfl, ht9, hm.ts (Same.ts e9), (w7.ts (p7.ts b8)).ts (Same.ts e9), (g7.ts (p7.ts b8)).ts (Same.ts e9)⟩, ⟨hk8, oz, o4⟩, ?_, ?_⟩)))
        · show max 0 (dep s) + 1 ≤ _; omega
        · show 1 + nod s + 1 ≤ _; omega
    · obtain ⟨v, s, y1, y2, y3, rfl, b4, p4, g4, o4, dd4, r4⟩ := hW
      have dd5 : dep s ≤ 1 + n := dd4
      have r5 : nod s ≤ 2 * (1 + n) + 1 := r4
      walk_at "sts"
      exact q v s H4 b4 p4 g4 o4 (by omega) (by omega)
end




def mine : Sn → Nat
  | .word _ => 2
  | .menu _ _ => 1
  | .trade _ _ _ => 0
theorem Spc.app {b : List (List Nat)} {y : List Nat} (hb : Spc b y) : ∀ {a : List (List Nat)} {x : List Nat}, Spc a x → Spc (a ++ b) (x ++ y)
  | _, _, .nil => hb
  | _, _, .cons (n := n) (t := t) (ts := ts) (l := l) h => by
    rw [List.cons_append, List.append_assoc, List.append_assoc]
    exact .cons (Spc.app hb h)
theorem Spc.tok (n : Nat) (t : List Nat) : Spc [t] (sps n ++ t) := by
  have := Spc.cons (n := n) (t := t) .nil
  rwa [List.append_nil] at this
def tagS : Sn → Str
  | .word _ => "word"
  | .menu _ _ => "menu"
  | .trade _ _ _ => "trade"
theorem SnV.tag {H : Hp} {v : V} {s : Sn} (h : SnV H v s) : ∃ t xs, v = .ref t ∧ H t = some (.tup (.str (tagS s) :: xs)) := by
  cases s with
  | word => obtain ⟨t, z, h1, h2, _⟩ := h; exact ⟨t, _, h1, h2⟩
  | menu => obtain ⟨t, _, _, h1, h2, _⟩ := h; exact ⟨t, _, h1, h2⟩
  | trade => obtain ⟨t, _, _, _, h1, h2, _⟩ := h; exact ⟨t, _, h1, h2⟩
theorem mw : ¬ (("menu" : Str) = "word") := by decide +kernel
theorem mt' : ¬ (("menu" : Str) = "trade") := by decide +kernel
theorem tw : ¬ (("trade" : Str) = "word") := by decide +kernel
theorem tm : ¬ (("trade" : Str) = "menu") := by decide +kernel
theorem wt : ¬ (("word" : Str) = "trade") := by decide +kernel
theorem wm : ¬ (("word" : Str) = "menu") := by decide +kernel
section
variable {P : Program} {w : World} {K : PySem.W.Frag} {mg : Str → Option Value} {base : Heap} {C CT CH : Addr}
theorem o_nePS {X : Cx} {H : Hp} {Q : VK} {n : Nat} {a : Addr} {u v : Int} {z : Str} (hr : Room n X.A) (h : H a = some (.tup [.int u, .int v])) (hz : SeqAt.shaped (.str z) = true) (q : Q (.bl true) H) : wK X .NotEq (.ref a) (.str z) H Q :=
  o_neD hr (.tup (SqT.of h) (.cons (.int u) (.cons (.int v) .nil))) (.str z) rfl hz q
end
theorem Tk.up {s : Sn} {ts : List (List Nat)} {j : Nat} (ht : Tk s (mine s) ts) (hj : j ≤ mine s) : Tk s j ts := by
  generalize e : mine s = m at ht hj
  cases ht with
  | word h => exact .word (by assumption)
  | menu h1 h2 h3 => cases e; exact .menu hj h2 h3
  | trade h1 h2 h3 => cases e; cases Nat.le_zero.mp hj; exact .trade h1 h2 h3
  | par h => exact .par h
def parN (m : Nat) (ts : List (List Nat)) : List (List Nat) := List.replicate m [40] ++ ts ++ List.replicate m [41]
theorem parN_succ (m : Nat) (ts : List (List Nat)) : parN (m + 1) ts = [[40]] ++ parN m ts ++ [[41]] := by
  unfold parN
  rw [List.replicate_succ, List.replicate_succ' (n := m) (a := [41])]
  simp
theorem Tk.parN0 {s : Sn} {ts : List (List Nat)} (h : Tk s 0 ts) : ∀ m, Tk s 0 (parN m ts)
  | 0 => by unfold parN; simpa using h
  | m + 1 => by rw [parN_succ]; exact .par (Tk.parN0 h m)
theorem Tk.parN {s : Sn} {ts : List (List Nat)} (h : Tk s (mine s) ts) {k : Nat} : ∀ {m : Nat}, (m = 0 → k ≤ mine s) → Tk s k (parN m ts)
  | 0, e => by unfold K26.parN; simpa using h.up (e rfl)
  | m + 1, _ => by rw [parN_succ]; exact .par ((h.up (Nat.zero_le _)).parN0 m)
theorem rep1 (n : Nat) (x : V) : (List.replicate n [x]).flatten = List.replicate n x := by
  induction n with
  | zero => rfl
  | succ n ih => rw [List.replicate_succ, List.flatten_cons, ih]; rfl
theorem o_rep1 {X : Cx} {H : Hp} {Q : VK} {l : Addr} {x : V} {n : Nat} (h : H l = some (.lst [x])) (hn : n ≤ 1000) (q : ∀ p H2, Same H H2 → H p = none → H2 p = some (.lst (List.replicate n x)) → Q (.ref p) H2) : wB X .Mult (.ref l) (.int (n : Int)) H Q :=
  b_of op_rep ⟨l, (n : Int), [x], rfl, rfl, h, by omega, by omega, by show 1 * n ≤ 2 ^ 24; omega, fun p np => by
    rw [Int.toNat_natCast, rep1]
    exact q p _ (fun c u eo => by rw [upd_ne (ne_of_none eo np)]; exact eo) np upd_same⟩
theorem six_at {d : Int} (h0 : 0 ≤ d) (h1 : d < 6) : ∃ m : Nat, m ≤ 2 ∧ atI [V.int 0, .int 0, .int 0, .int 0, .int 1, .int 2] d = some (.int (m : Int)) := by
  obtain ⟨j, rfl⟩ := Int.eq_ofNat_of_zero_le h0
  have hj : j < 6 := by omega
  match j, hj with
  | 0, _ => exact ⟨0, by decide, atI_nat (j := 0) rfl⟩
  | 1, _ => exact ⟨0, by decide, atI_nat (j := 1) rfl⟩
  | 2, _ => exact ⟨0, by decide, atI_nat (j := 2) rfl⟩
  | 3, _ => exact ⟨0, by decide, atI_nat (j := 3) rfl⟩
  | 4, _ => exact ⟨1, by decide, atI_nat (j := 4) rfl⟩
  | 5, _ => exact ⟨2, by decide, atI_nat (j := 5) rfl⟩
/-- tokens of a sentence as texts -/
theorem no_pool {a b c : Int} {zs : List Str} (h : some (HO.lst [V.int a, .int b, .int c]) = some (.lst (sVs zs))) : False := by
  cases zs with
  | nil => cases h
  | cons z zs => injection h with h; injection h with h; injection h with h1 h2; cases h1
def TkZ (s : Sn) (k : Nat) (zs : List Str) : Prop := Tk s k (zs.map cs) ∧ zs.length ≤ 20 * nod s ∧ ∀ z ∈ zs, z.length ≤ 12
theorem but_lst {p l : Addr} {H H' : Hp} {xs : List V} (b : But p H H') (hp : l ≠ p) (h : H l = some (.lst xs)) : H' l = some (.lst xs) := b l _ hp h
section
variable {P : Program} {w : World} {K : PySem.W.Frag} {mg : Str → Option Value} {base : Heap} {C CT CH : Addr}
def spTok (n : Nat) : Sp := fun vs H Q _ => ∃ p v s k, vs = [.ref p, v, .int ((k : Nat) : Int)] ∧ PoolAt H p ∧ SnV H v s ∧ okS s ∧ dep s ≤ n ∧ nod s ≤ 1000 ∧ k ≤ 2 ∧ ∀ l zs H', But p H H' → PoolAt H' p → H l = none → H' l = some (.lst (sVs zs)) → TkZ s k zs → Q (.ref l) H'
theorem ok_tokS (n : Nat) (T : Top K mg "_law_tokens" s_tokens) (mS : mg "str" = none) (mI : mg "int" = none) (FN : Fn P w K mg base 1 "_law_next" spNext) (F : ∀ m, n = m + 1 → Fn P w K mg base (m + 2) "_law_tokens" (spTok m)) : Fn P w K mg base (n + 2) "_law_tokens" (spTok n) := by
  refine fn_ok T sc_tokens so_tokens (fun vs H Q E h => by obtain ⟨p, v, sn, k, rfl, _⟩ := h; rfl) (fun _ _ _ _ _ _ us hl => match us, hl with | [_, _, _], _ => rfl) fun f cdv A outer s H vs Q E hr h nd => ?_
  obtain ⟨p, v, sn, k, rfl, hp, hv, ho, hd, hn, hk, q⟩ := h
  obtain ⟨qx, qy, qz, hq⟩ := id hp
  refine l_cons (s_set (e_int ?_))
  show wL _ _ _ [some (.ref p), some v, some (.int (k : Int)), some (.int 2), none, none, none] _
  have hv0 : ∃ t xs y, v = .ref t ∧ H t = some (.tup (.str (tagS sn) :: y :: xs)) := by
    cases sn with
    | word => obtain ⟨t, z, h1, h2, _⟩ := hv; exact ⟨t, _, _, h1, h2⟩
    | menu => obtain ⟨t, _, _, h1, h2, _⟩ := hv; exact ⟨t, _, _, h1, h2⟩
    | trade => obtain ⟨t, _, _, _, h1, h2, _⟩ := hv; exact ⟨t, _, _, h1, h2⟩
  obtain ⟨t0, xs0, y0, rfl, ht0⟩ := hv0
  refine l_cons (s_set (e_lst (a_cons (e_ix (e_var (e_int (ix_t (by exact SqT.of ht0) at1 (a_nil ⟨by show 1 ≤ sizeLine; decide, fun l1 H1 e1 n1 h1 => ?_⟩))))))))
  show wL _ _ _ [some (.ref p), some (.ref t0), some (.int (k : Int)), some (.int 2), some (.ref l1), none, none] _
  have hp1 := hp.up e1
  -- after the three cases
  have fin : ∀ (l : Addr) (zs : List Str) (x5 : Option V) (H2 : Hp), But p H H2 → PoolAt H2 p → H2 l = some (.lst (sVs zs)) → TkZ sn (mine sn) zs → zs.length + 6 ≤ 20 * nod sn → wL (cxOf CX0 P w K mg base N_tokens (Str.ofString "_law_tokens") (defScope s_tokens) f cdv A outer s H E).nox ((defBody s_tokens).drop 4) { nx := fun _ H' => Q .non H', rt := Q } [some (.ref p), some (.ref t0), some (.int (k : Int)), some (.int (mine sn : Int)), some (.ref l), x5, none] H2 := by
    intro l zs x5 H2 b2 p2 hl ⟨tk, lz, sz⟩ l6
    have nlp : l ≠ p := fun z => by subst z; obtain ⟨a, b, c, h⟩ := p2; rw [h] at hl; exact no_pool hl
    refine l_cons (s_set (e_bin (e_ix (e_lst ?_))))
    refine a_cons (e_int (a_cons (e_int (a_cons (e_int (a_cons (e_int (a_cons (e_int (a_cons (e_int (a_nil ⟨by show 6 ≤ sizeLine; decide, fun sl H3 e3 n3 h3 => ?_⟩))))))))))))
    have nsp : sl ≠ p := fun z => by subst z; obtain ⟨a, b, c, h⟩ := p2; rw [h] at n3; cases n3
    refine e_call (by exact FN) (by exact hr) (by omega) ?_
    refine a_cons (e_var (a_cons (e_int (a_nil ?_))))
    refine ⟨p, 6, rfl, by decide, by decide, p2.up e3, fun d H4 d0 d1 b4 p4 => ?_⟩
    obtain ⟨m, hm, hat⟩ := six_at d0 d1
    refine ix_l (by exact SqL.of (b4 _ _ nsp h3)) hat ?_
    refine e_callTy (x := "int") (by assumption) b_int ?_
    refine a_cons (e_cmp (e_var (e_var (o_lt (a_nil ?_)))))
    refine c_intB (o_add ?_)
    have hl4 := b4 _ _ nlp (e3 _ _ hl)
    obtain ⟨M, eM, hM, hM0⟩ : ∃ M : Nat, ((m : Int) + (if decide ((mine sn : Int) < (k : Int)) = true then 1 else 0)) = (M : Int) ∧ M ≤ 3 ∧ (M = 0 → k ≤ mine sn) := by
      by_cases h : (mine sn : Int) < (k : Int)
      · rw [if_pos (decide_eq_true h)]
        exact ⟨m + 1, by omega, by omega, fun z => by omega⟩
      · rw [if_neg (by rw [decide_eq_false h]; decide)]
        exact ⟨m, by omega, by omega, fun _ => by omega⟩
    rw [eM]
    show wL _ _ _ [some (.ref p), some (.ref t0), some (.int (k : Int)), some (.int (mine sn : Int)), some (.ref l), x5, some (.int (M : Int))] _
    refine l_cons (s_ret (e_bin (e_bin (e_bin (e_lst ?_)))))
    refine a_cons (e_str (a_nil ⟨by show 1 ≤ sizeLine; decide, fun a5 H5 e5 _ h5 => ?_⟩))
    refine e_var (o_rep1 (n := M) h5 (by omega) fun a6 H6 e6 _ h6 => ?_)
    have hl6 := e6 _ _ (e5 _ _ hl4)
    refine e_var (o_cat h6 hl6 (by rw [List.length_replicate, List.length_map]; show _ ≤ 2 ^ 24; omega) fun a7 H7 e7 h7 => ?_)
    refine e_bin (e_lst ?_)
    refine a_cons (e_str (a_nil ⟨by show 1 ≤ sizeLine; decide, fun a8 H8 e8 _ h8 => ?_⟩))
    refine e_var (o_rep1 (n := M) h8 (by omega) fun a9 H9 e9 _ h9 => ?_)
    have h79 := e9 _ _ (e8 _ _ h7)
    refine b_of op_cat ⟨a7, a9, _, _, rfl, rfl, h79, h9, by rw [List.length_append, List.length_replicate, List.length_replicate, List.length_map]; show _ ≤ 2 ^ 24; omega, fun pp npp => ?_⟩
    have eA : Same H9 (upd H9 pp (.lst (List.replicate M (V.str (Str.ofString "(")) ++ sVs zs ++ List.replicate M (V.str (Str.ofString ")"))))) := fun c u eo => by rw [upd_ne (ne_of_none eo npp)]; exact eo
    have bA := (((((b2.trans (But.of e3)).trans b4).trans (But.of e5)).trans (But.of e6)).trans (But.of e7)).trans ((But.of e8).trans ((But.of e9).trans (But.of eA)))
    have npH : H pp = none := by
      cases hz : H pp with
      | none => rfl
      | some o =>
        by_cases hpp : pp = p
        · subst hpp
          obtain ⟨a, b, c, h⟩ := (((((p4.up e5).up e6).up e7).up e8).up e9)
          rw [h] at npp
          cases npp
        · have := ((((((b2.trans (But.of e3)).trans b4).trans (But.of e5)).trans (But.of e6)).trans (But.of e7)).trans ((But.of e8).trans (But.of e9))) pp o hpp hz
          rw [this] at npp
          cases npp
    have ez : List.replicate M (V.str (Str.ofString "(")) ++ sVs zs ++ List.replicate M (V.str (Str.ofString ")")) = sVs (List.replicate M (Str.ofString "(") ++ zs ++ List.replicate M (Str.ofString ")")) := by
      simp [List.map_replicate]
    refine q pp (List.replicate M (Str.ofString "(") ++ zs ++ List.replicate M (Str.ofString ")")) _ bA ((((((p4.up e5).up e6).up e7).up e8).up e9).up eA) npH (by rw [← ez]; exact upd_same) ⟨?_, ?_, ?_⟩
    · have := Tk.parN tk (m := M) hM0
      have e : (List.replicate M (Str.ofString "(") ++ zs ++ List.replicate M (Str.ofString ")")).map cs = parN M (zs.map cs) := by
        unfold parN
        rw [List.map_append, List.map_append, List.map_replicate, List.map_replicate, sg_lp, sg_rp]
      rw [e]
      exact this
    · rw [List.length_append, List.length_append, List.length_replicate, List.length_replicate]
      omega
    · intro z hz
      rcases List.mem_append.mp hz with hz | hz
      · rcases List.mem_append.mp hz with hz | hz
        · rw [(List.mem_replicate.mp hz).2, sg_lp]; show 1 ≤ 12; decide
        · exact sz z hz
      · rw [(List.mem_replicate.mp hz).2, sg_rp]; show 1 ≤ 12; decide
  cases sn with
  | word nm =>
    obtain ⟨t, z, et, ht, hz⟩ := hv
    cases et
    rw [ht] at ht0
    injection ht0 with ht0; injection ht0 with ht0; injection ht0 with _ ht0; injection ht0 with ey ex
    subst ey
    subst ex
    have hn12 := (name_parts ho).2.1
    refine l_cons (s_if (t_cmp (e_ix (e_var (e_int (ix_t (by exact SqT.of (e1 _ _ ht)) at0 (e_str (o_eqS ⟨_, rfl, ite_f (decide_eq_false wm) (l_nil ?_)⟩))))))))
    refine l_cons (s_if (t_cmp (e_ix (e_var (e_int (ix_t (by exact SqT.of (e1 _ _ ht)) at0 (e_str (o_eqS ⟨_, rfl, ite_f (decide_eq_false wt) (l_nil ?_)⟩))))))))
    refine fin l1 [z] none H1 (But.of e1) hp1 h1 ⟨by show Tk (.word nm) 2 [cs z]; rw [hz]; exact .word ho, by show 1 ≤ 20 * 1; decide, fun y hy => by rw [List.mem_singleton.mp hy, len_cs, hz]; exact hn12⟩ (by show 1 + 6 ≤ 20 * 1; decide)
  | menu l r =>
    obtain ⟨t, a, b, et, ht, ha, hb⟩ := hv
    cases et
    obtain ⟨m, rfl⟩ : ∃ m, n = m + 1 := ⟨n - 1, by simp only [dep] at hd; omega⟩
    simp only [dep] at hd
    simp only [nod] at hn
    have F0 := F m rfl
    have ht1 := e1 _ _ ht
    refine l_cons (s_if (t_cmp (e_ix (e_var (e_int (ix_t (by exact SqT.of ht1) at0 (e_str (o_eqS ⟨_, rfl, ite_t (by simp [tagS]) ?_⟩))))))))
    refine l_cons (s_set (e_int ?_))
    refine l_cons (s_set (e_bin (e_bin (e_call (by exact F0) (by exact hr) (by omega) ?_))))
    refine a_cons (e_var (a_cons (e_ix (e_var (e_int (ix_t (by exact SqT.of ht1) at1 (a_cons (e_int (a_nil ?_)))))))))
    refine ⟨p, a, l, 1, rfl, hp1, SnV.ts (Same.ts e1) ha, ho.1, by omega, by omega, by decide, fun la za H2 b2 p2 _ hla ta => ?_⟩
    have nla : la ≠ p := fun z => by subst z; obtain ⟨a, b, c, h⟩ := p2; rw [h] at hla; exact no_pool hla
    have ts2 : TS H H2 := (Same.ts e1).trans (PoolAt.ts hp1 b2)
    refine e_lst (a_cons (e_str (a_nil ⟨by show 1 ≤ sizeLine; decide, fun l3 H3 e3 _ h3 => ?_⟩)))
    have la1 := ta.2.1
    refine o_cat (e3 _ _ hla) h3 (by rw [List.length_map]; show _ + 1 ≤ 2 ^ 24; omega) fun l4 H4 e4 h4 => ?_
    refine e_call (by exact F0) (by exact hr) (by omega) ?_
    have ht4 := e4 _ _ (e3 _ _ (ts2 _ _ ht))
    refine a_cons (e_var (a_cons (e_ix (e_var (e_int (ix_t (by exact SqT.of ht4) at2 (a_cons (e_int (a_nil ?_)))))))))
    have p4 := (p2.up e3).up e4
    refine ⟨p, b, r, 2, rfl, p4, SnV.ts (ts2.trans ((Same.ts e3).trans (Same.ts e4))) hb, ho.2, by omega, by omega, by decide, fun lb zb H5 b5 p5 _ hlb tb => ?_⟩
    have nl4 : l4 ≠ p := fun z => by
      subst z
      obtain ⟨a, b, c, h⟩ := p4
      rw [h] at h4
      exact no_pool (zs := za ++ [Str.ofString "&"]) (by rw [h4]; simp)
    have lb1 := tb.2.1
    refine o_cat (b5 _ _ nl4 h4) hlb (by rw [List.length_append, List.length_map, List.length_map]; show _ + 1 + _ ≤ 2 ^ 24; omega) fun l6 H6 e6 h6 => l_nil ?_
    have bb : But p H H6 := ((((But.of e1).trans b2).trans (But.of e3)).trans (But.of e4)).trans (b5.trans (But.of e6))
    have es : sVs za ++ [V.str (Str.ofString "&")] ++ sVs zb = sVs (za ++ [Str.ofString "&"] ++ zb) := by simp
    rw [es] at h6
    refine l_cons (s_if (t_cmp (e_ix (e_var (e_int (ix_t (by exact SqT.of (e6 _ _ (PoolAt.ts p4 b5 _ _ ht4))) at0 (e_str (o_eqS ⟨_, rfl, ite_f (decide_eq_false mt') (l_nil ?_)⟩))))))))
    refine fin l6 (za ++ [Str.ofString "&"] ++ zb) none H6 bb (p5.up e6) h6 ⟨?_, ?_, ?_⟩ ?_
    · rw [List.map_append, List.map_append, List.map_singleton, sg_am]
      exact .menu (Nat.le_refl 1) ta.1 tb.1
    · simp only [nod, List.length_append, List.length_cons, List.length_nil]; omega
    · intro y hy
      rcases List.mem_append.mp hy with hy | hy
      · rcases List.mem_append.mp hy with hy | hy
        · exact ta.2.2 y hy
        · rw [List.mem_singleton.mp hy, sg_am]; show 1 ≤ 12; decide
      · exact tb.2.2 y hy
    · simp only [nod, List.length_append, List.length_cons, List.length_nil]; omega
  | trade kd l r =>
    obtain ⟨t, md, a, b, et, ht, hm, ha, hb⟩ := hv
    cases et
    obtain ⟨m, rfl⟩ : ∃ m, n = m + 1 := ⟨n - 1, by simp only [dep] at hd; omega⟩
    simp only [dep] at hd
    simp only [nod] at hn
    obtain ⟨ok, ol, or⟩ := ho
    have F0 := F m rfl
    have ht1 := e1 _ _ ht
    refine l_cons (s_if (t_cmp (e_ix (e_var (e_int (ix_t (by exact SqT.of ht1) at0 (e_str (o_eqS ⟨_, rfl, ite_f (decide_eq_false tm) (l_nil ?_)⟩))))))))
    refine l_cons (s_if (t_cmp (e_ix (e_var (e_int (ix_t (by exact SqT.of ht1) at0 (e_str (o_eqS ⟨_, rfl, ite_t (by simp [tagS]) ?_⟩))))))))
    refine l_cons (s_set (e_int ?_))
    refine l_cons (s_set (e_lst (a_nil ⟨by show 0 ≤ sizeLine; decide, fun r0 H2 e2 n2 h2 => ?_⟩)))
    show wL _ _ _ [some (.ref p), some (.ref t0), some (.int (k : Int)), some (.int 0), some (.ref l1), some (.ref r0), none] _
    refine l_join (fun σ H' => ∃ lr zr, σ = [some (.ref p), some (.ref t0), some (.int (k : Int)), some (.int 0), some (.ref l1), some (.ref lr), none] ∧ Same H H' ∧ H' lr = some (.lst (sVs zr)) ∧ zr.map cs = rm kd ∧ zr.length ≤ 5 ∧ ∀ z ∈ zr, z.length ≤ 12) (fun σ H3 hA => ?_) (fun go => ?_)
    · obtain ⟨lr, zr, rfl, e3, hlr, er, lr5, sr⟩ := hA
      have p3 := hp.up e3
      have nlr : lr ≠ p := fun z => by subst z; obtain ⟨a, b, c, h⟩ := p3; rw [h] at hlr; exact no_pool hlr
      refine l_cons (s_set (e_bin (e_bin (e_bin (e_call (by exact F0) (by exact hr) (by omega) ?_)))))
      refine a_cons (e_var (a_cons (e_ix (e_var (e_int (ix_t (by exact SqT.of (e3 _ _ ht)) at2 (a_cons (e_int (a_nil ?_)))))))))
      refine ⟨p, a, l, 1, rfl, p3, SnV.ts (Same.ts e3) ha, ol, by omega, by omega, by decide, fun la za H4 b4 p4 _ hla ta => ?_⟩
      have nla : la ≠ p := fun z => by subst z; obtain ⟨a, b, c, h⟩ := p4; rw [h] at hla; exact no_pool hla
      have ts4 : TS H H4 := (Same.ts e3).trans (PoolAt.ts p3 b4)
      have la1 := ta.2.1
      refine e_var (o_cat hla (b4 _ _ nlr hlr) (by rw [List.length_map, List.length_map]; show _ ≤ 2 ^ 24; omega) fun l5 H5 e5 h5 => ?_)
      refine e_lst (a_cons (e_str (a_nil ⟨by show 1 ≤ sizeLine; decide, fun l6 H6 e6 _ h6 => ?_⟩)))
      refine o_cat (e6 _ _ h5) h6 (by rw [List.length_append, List.length_map, List.length_map]; show _ + 1 ≤ 2 ^ 24; omega) fun l7 H7 e7 h7 => ?_
      refine e_call (by exact F0) (by exact hr) (by omega) ?_
      have e47 : Same H4 H7 := (e5.trans e6).trans e7
      have ht7 := e47 _ _ (ts4 _ _ ht)
      refine a_cons (e_var (a_cons (e_ix (e_var (e_int (ix_t (by exact SqT.of ht7) at3 (a_cons (e_int (a_nil ?_)))))))))
      have p7 := p4.up e47
      refine ⟨p, b, r, 0, rfl, p7, SnV.ts (ts4.trans (Same.ts e47)) hb, or, by omega, by omega, by decide, fun lb zb H8 b8 p8 _ hlb tb => ?_⟩
      have es7 : sVs za ++ sVs zr ++ [V.str (Str.ofString ">")] = sVs (za ++ zr ++ [Str.ofString ">"]) := by simp
      rw [es7] at h7
      have nl7 : l7 ≠ p := fun z => by subst z; obtain ⟨a, b, c, h⟩ := p7; rw [h] at h7; exact no_pool h7
      have lb1 := tb.2.1
      refine o_cat (b8 _ _ nl7 h7) hlb (by rw [List.length_map, List.length_map, List.length_append, List.length_append]; show _ + 1 + _ ≤ 2 ^ 24; omega) fun l9 H9 e9 h9 => l_nil ?_
      have bb : But p H H9 := (((But.of e3).trans b4).trans (But.of e47)).trans (b8.trans (But.of e9))
      have es : sVs (za ++ zr ++ [Str.ofString ">"]) ++ sVs zb = sVs (za ++ zr ++ [Str.ofString ">"] ++ zb) := by simp
      rw [es] at h9
      refine fin l9 (za ++ zr ++ [Str.ofString ">"] ++ zb) _ H9 bb (p8.up e9) h9 ⟨?_, ?_, ?_⟩ ?_
      · rw [List.map_append, List.map_append, List.map_append, List.map_singleton, sg_gt, er]
        exact .trade ok ta.1 tb.1
      · simp only [nod, List.length_append, List.length_cons, List.length_nil]; omega
      · intro y hy
        rcases List.mem_append.mp hy with hy | hy
        · rcases List.mem_append.mp hy with hy | hy
          · rcases List.mem_append.mp hy with hy | hy
            · exact ta.2.2 y hy
            · exact sr y hy
          · rw [List.mem_singleton.mp hy, sg_gt]; show 1 ≤ 12; decide
        · exact tb.2.2 y hy
      · simp only [nod, List.length_append, List.length_cons, List.length_nil]; omega
    · have e12 := e1.trans e2
      refine l_cons (s_if (t_cmp (e_ix (e_var (e_int (ix_t (by exact SqT.of (e12 _ _ ht)) at1 (e_str ?_)))))))
      rcases kd with _ | ⟨u, d⟩
      · obtain rfl : md = .str "once" := hm
        refine o_neS ⟨_, rfl, ite_f (by simp) (l_nil (go _ H2 ⟨r0, [], rfl, e12, h2, rfl, by decide, fun z hz => by cases hz⟩))⟩
      · obtain ⟨tk, rfl, htk⟩ := hm
        obtain ⟨u1, u9, d0, d9⟩ := ok
        have cu := cs_num (u := u) (by omega)
        have cd := cs_num (u := d) d0
        have lu := num_len (u := u) (by omega) u9
        have ld := num_len d0 d9
        have lu' : (toString u : Str).length ≤ 9 := by rw [len_cs, cu]; exact lu
        have ld' : (toString d : Str).length ≤ 9 := by rw [len_cs, cd]; exact ld
        have htk2 := e12 _ _ htk
        refine o_nePS (by exact hr) htk2 once_shaped ⟨_, rfl, iteT ?_⟩
        refine l_cons (s_set (e_lst ?_))
        refine a_cons (e_str (a_cons (e_callTy (x := "str") (by assumption) b_str ?_)))
        refine a_cons (e_ix (e_ix (e_var (e_int (ix_t (by exact SqT.of (e12 _ _ ht)) at1 (e_int (ix_t (by exact SqT.of htk2) at0 (a_nil ?_))))))))
        refine c_strI (log_9 (by omega) u9) (a_cons (e_str (a_cons (e_callTy (x := "str") (by assumption) b_str ?_))))
        refine a_cons (e_ix (e_ix (e_var (e_int (ix_t (by exact SqT.of (e12 _ _ ht)) at1 (e_int (ix_t (by exact SqT.of htk2) at1 (a_nil ?_))))))))
        refine c_strI (log_9 d0 d9) (a_cons (e_str (a_nil ⟨by show 5 ≤ sizeLine; decide, fun r3 H3 e3 _ h3 => l_nil ?_⟩)))
        refine go _ H3 ⟨r3, [Str.ofString "[", toString u, Str.ofString "/", toString d, Str.ofString "]"], rfl, e12.trans e3, h3, ?_, by simp, ?_⟩
        · show [cs (Str.ofString "["), cs (toString u), cs (Str.ofString "/"), cs (toString d), cs (Str.ofString "]")] = _
          rw [cu, cd, sg_br, sg_sl, sg_rb]
          rfl
        · intro z hz
          simp only [List.mem_cons, List.not_mem_nil, or_false] at hz
          rcases hz with rfl | rfl | rfl | rfl | rfl
          · rw [sg_br]; show 1 ≤ 12; decide
          · omega
          · rw [sg_sl]; show 1 ≤ 12; decide
          · omega
          · rw [sg_rb]; show 1 ≤ 12; decide
theorem ok_tok (T : Top K mg "_law_tokens" s_tokens) (mS : mg "str" = none) (mI : mg "int" = none) (FN : Fn P w K mg base 1 "_law_next" spNext) : ∀ n, Fn P w K mg base (n + 2) "_law_tokens" (spTok n)
  | 0 => ok_tokS 0 T mS mI FN fun m h => by cases h
  | n + 1 => ok_tokS (n + 1) T mS mI FN fun m h => by cases h; exact ok_tok T mS mI FN n
end



section
variable {X : Cx} {σ : L2.St} {H : Hp} {Q : VK} {pos : Pos}
/-- a displayed dict of three text keys -/
theorem e_d3 {k v k2 v2 k3 v3 : Expr} (q : ∀ p, H p = none → wE X k σ (upd H p (.dK [])) fun x H1 => wE X v σ H1 fun y H2 => wE X k2 σ H2 fun x2 H3 => wE X v2 σ H3 fun y2 H4 => wE X k3 σ H4 fun x3 H5 => wE X v3 σ H5 fun y3 H6 => H6 p = some (.dK []) ∧ ∃ z z2 z3, x = .str z ∧ x2 = .str z2 ∧ x3 = .str z3 ∧ z ≠ z2 ∧ z ≠ z3 ∧ z2 ≠ z3 ∧ Q (.ref p) (upd H6 p (.dK [(Sum.inr z, y), (Sum.inr z2, y2), (Sum.inr z3, y3)]))) :
    wE X (.Dict [some k, some k2, some k3] [v, v2, v3] pos) σ H Q := by
  refine e_of (pe_disp (pps_cons pe pe (pps_cons pe pe (pps_cons pe pe pps_nil))) rfl rfl (by simp) (by simp)) fun p np => e_mono (q p np) fun x H1 q1 => e_mono q1 fun y H2 q2 => e_mono q2 fun x2 H3 q3 => e_mono q3 fun y2 H4 q4 => e_mono q4 fun x3 H5 q5 => e_mono q5 fun y3 H6 q6 => ?_
  obtain ⟨h, z, z2, z3, rfl, rfl, rfl, n1, n2, n3, q7⟩ := q6
  refine ⟨h, [(Sum.inr z, y), (Sum.inr z2, y2), (Sum.inr z3, y3)], rfl, by simp, ?_⟩
  have e : mergeK [] [((Sum.inr z : Key), y), (Sum.inr z2, y2), (Sum.inr z3, y3)] = [(Sum.inr z, y), (Sum.inr z2, y2), (Sum.inr z3, y3)] := by
    show putK (putK (putK [] (Sum.inr z) y) (Sum.inr z2) y2) (Sum.inr z3) y3 = _
    simp [putK, n1, n2, n3]
  rw [e]
  exact q7
end
def lfl (pv : V) (rl : Addr) (md : V) : List (Key × V) := [(Sum.inr "part", pv), (Sum.inr "rows", .ref rl), (Sum.inr "mode", md)]



theorem snoc_ind {α : Type} {P : List α → Prop} (h0 : P []) (h1 : ∀ l a, P l → P (l ++ [a])) (l : List α) : P l := by
  have h : ∀ m : List α, P m.reverse := by
    intro m
    induction m with
    | nil => exact h0
    | cons a m ih => rw [List.reverse_cons]; exact h1 _ _ ih
  have := h l.reverse
  rwa [List.reverse_reverse] at this
/-! ### how deep what is read can be: it counts the signs & and > -/
def isop (c : Nat) : Bool := c == 38 || c == 62
def opc (l : List Nat) : Nat := l.countP isop
theorem opc_app (a b : List Nat) : opc (a ++ b) = opc a + opc b := List.countP_append ..
theorem opc_cons (c : Nat) (l : List Nat) : opc (c :: l) = opc l + if isop c = true then 1 else 0 := List.countP_cons ..
theorem opc_le (l : List Nat) : opc l ≤ l.length := List.countP_le_length
def opS : Sn → Nat
  | .word _ => 0
  | .menu l r => opS l + opS r + 1
  | .trade _ p g => opS p + opS g + 1
theorem dep_ops : ∀ s : Sn, dep s ≤ opS s
  | .word _ => Nat.le_refl _
  | .menu l r => by have := dep_ops l; have := dep_ops r; simp only [dep, opS]; omega
  | .trade _ p g => by have := dep_ops p; have := dep_ops g; simp only [dep, opS]; omega
def wP : Option Sn → Nat
  | none => 0
  | some x => opS x + 1
def wPs : Prs → Nat
  | [] => 0
  | kp :: ps => opS kp.2 + 1 + wPs ps
def wFs : Frs → Nat
  | [] => 0
  | f :: fs => wP f.1 + wPs f.2 + wFs fs
theorem wPs_snoc (ps : Prs) (k : Pk) (x : Sn) : wPs (ps ++ [(k, x)]) = wPs ps + opS x + 1 := by
  induction ps with
  | nil => simp only [List.nil_append, wPs]; omega
  | cons a ps ih => simp only [List.cons_append, wPs, ih]; omega
theorem opS_put (p : Option Sn) (u : List Nat) : opS (put p (.word u)) = wP p := by
  cases p <;> simp [put, opS, wP]
theorem opS_putS (p : Option Sn) (x : Sn) : opS (put p x) = wP p + opS x := by
  cases p <;> simp [put, opS, wP] <;> omega
theorem opS_whole : ∀ (ps : Prs) (x : Sn), opS (whole ps x) = wPs ps + opS x := by
  intro ps
  refine snoc_ind (P := fun ps => ∀ x, opS (whole ps x) = wPs ps + opS x) ?_ ?_ ps
  · intro x; simp [whole, wPs]
  · intro ps kp ih x
    obtain ⟨k, y⟩ := kp
    rw [whole_snoc, ih, wPs_snoc]
    simp only [opS]
    omega
def wS : LSt → Nat
  | .atom p ps fs => wP p + wPs ps + wFs fs
  | .name _ p ps fs => wP p + wPs ps + wFs fs
  | .after x ps fs => opS x + wPs ps + wFs fs
  | .uses x ps fs => opS x + wPs ps + wFs fs
  | .usesP _ x ps fs => opS x + wPs ps + wFs fs
  | .slash _ x ps fs => opS x + wPs ps + wFs fs
  | .days _ x ps fs => opS x + wPs ps + wFs fs
  | .daysP _ _ x ps fs => opS x + wPs ps + wFs fs
  | .close _ _ x ps fs => opS x + wPs ps + wFs fs
  | .arrow _ x ps fs => opS x + wPs ps + wFs fs
theorem lafter_w {x : Sn} {ps : Prs} {fs : Frs} {c : Nat} {S : LSt} (h : lafter x ps fs c = some S) : K26.wS S ≤ opS x + wPs ps + wFs fs + if isop c = true then 1 else 0 := by
  unfold lafter at h
  split at h
  · cases h; simp only [K26.wS]; omega
  split at h
  · next e => cases h; subst e; simp only [K26.wS, wP, show isop 38 = true from rfl, if_true]; omega
  split at h
  · cases h; simp only [K26.wS]; omega
  split at h
  · next e => cases h; subst e; simp only [K26.wS, wP, wPs_snoc, show isop 62 = true from rfl, if_true]; omega
  split at h
  · cases h
  · next q qs gs _ =>
    split at h
    · cases h
      simp only [K26.wS, opS_putS, opS_whole, wFs]
      omega
    · cases h
theorem lstep_w {S S' : LSt} {c : Nat} (h : lstep S c = some S') : K26.wS S' ≤ K26.wS S + if isop c = true then 1 else 0 := by
  cases S with
  | atom p ps fs =>
    simp only [lstep] at h
    split at h
    · cases h; simp only [K26.wS]; omega
    split at h
    · cases h; simp only [K26.wS, wP, wPs, wFs]; omega
    split at h
    · cases h; simp only [K26.wS]; omega
    · cases h
  | name u p ps fs =>
    simp only [lstep] at h
    split at h
    · split at h
      · cases h; simp only [K26.wS]; omega
      · cases h
    · have := lafter_w h
      rw [opS_put] at this
      exact this
  | after x ps fs => exact lafter_w h
  | uses x ps fs =>
    simp only [lstep] at h
    split at h
    · cases h; simp only [K26.wS]; omega
    split at h
    · cases h; simp only [K26.wS]; omega
    · cases h
  | usesP u x ps fs =>
    simp only [lstep] at h
    split at h
    · cases h; simp only [K26.wS]; omega
    split at h
    · cases h; simp only [K26.wS]; omega
    split at h
    · cases h; simp only [K26.wS]; omega
    · cases h
  | slash u x ps fs =>
    simp only [lstep] at h
    split at h
    · cases h; simp only [K26.wS]; omega
    split at h
    · cases h; simp only [K26.wS]; omega
    · cases h
  | days u x ps fs =>
    simp only [lstep] at h
    split at h
    · cases h; simp only [K26.wS]; omega
    split at h
    · cases h; simp only [K26.wS]; omega
    · cases h
  | daysP u d x ps fs =>
    simp only [lstep] at h
    split at h
    · cases h; simp only [K26.wS]; omega
    split at h
    · cases h; simp only [K26.wS]; omega
    split at h
    · cases h; simp only [K26.wS]; omega
    · cases h
  | close u d x ps fs =>
    simp only [lstep] at h
    split at h
    · cases h; simp only [K26.wS]; omega
    split at h
    · cases h; simp only [K26.wS]; omega
    · cases h
  | arrow k x ps fs =>
    simp only [lstep] at h
    split at h
    · cases h; simp only [K26.wS]; omega
    split at h
    · next e => cases h; subst e; simp only [K26.wS, wP, wPs_snoc, show isop 62 = true from rfl, if_true]; omega
    · cases h
theorem lrun_w : ∀ {l : List Nat} {S : LSt} {s : Sn}, lrun S l = .ok s → opS s ≤ K26.wS S + opc l
  | [], S, s, h => by
    show _ ≤ _ + 0
    unfold lrun lend at h
    split at h
    · injection h with h; subst h; rw [opS_whole, opS_put]; simp only [K26.wS, wFs]; omega
    · injection h with h; subst h; rw [opS_whole]; simp only [K26.wS, wFs]; omega
    · cases h
  | c :: l, S, s, h => by
    rw [lrun_cons] at h
    cases e : lstep S c with
    | none => rw [e] at h; cases h
    | some S' =>
      rw [e] at h
      have h1 := lrun_w h
      have h2 := lstep_w e
      rw [opc_cons]
      omega
/-- what comes behind the first sign that cannot stand does not matter -/
theorem lrun_err : ∀ {l : List Nat} {S : LSt} {r : List Nat}, lrun S l = .err r → ∃ a, l = a ++ r ∧ ∀ c t, r = c :: t → ∀ t', lrun S (a ++ c :: t') = .err (c :: t')
  | [], S, r, h => by
    have hr : r = [] := by
      unfold lrun lend at h
      split at h
      · cases h
      · cases h
      · injection h with h; exact h.symm
    subst hr
    exact ⟨[], rfl, fun c t z => by cases z⟩
  | c :: l, S, r, h => by
    rw [lrun_cons] at h
    cases e : lstep S c with
    | none =>
      rw [e] at h
      injection h with h
      subst h
      refine ⟨[], rfl, fun c' t z t' => ?_⟩
      cases z
      rw [List.nil_append, lrun_cons, e]
    | some S' =>
      rw [e] at h
      obtain ⟨a, rfl, h2⟩ := lrun_err h
      refine ⟨c :: a, rfl, fun c' t z t' => ?_⟩
      rw [List.cons_append, lrun_cons, e]
      exact h2 c' t z t'
/-! ### the state of the law's reader as texts -/
def stT : LSt → Str
  | .atom .. => "atom"
  | .name .. => "name"
  | .after .. => "after"
  | .uses .. => "uses"
  | .usesP .. => "uses+"
  | .slash .. => "slash"
  | .days .. => "days"
  | .daysP .. => "days+"
  | .close .. => "close"
  | .arrow .. => "arrow"
def rnT : LSt → List Nat
  | .name u _ _ _ => u
  | .usesP u _ _ _ => u
  | .slash u _ _ _ => u
  | .days u _ _ _ => u ++ [47]
  | .daysP u d _ _ _ => u ++ 47 :: d
  | .close u d _ _ _ => u ++ 47 :: d
  | _ => []
/-- a number between the brackets -/
def okD (least : Nat) (u : List Nat) : Prop := u ≠ [] ∧ (∀ c ∈ u, dig1 c = true) ∧ u.length ≤ 9 ∧ least ≤ dv u
def WF : LSt → Prop
  | .name u _ _ _ => Nm u
  | .usesP u _ _ _ => okD 1 u
  | .slash u _ _ _ => okD 1 u
  | .days u _ _ _ => okD 1 u
  | .daysP u d _ _ _ => okD 1 u ∧ okD 0 d
  | .close u d _ _ _ => okD 1 u ∧ okD 0 d
  | .arrow k _ _ _ => okk k
  | _ => True
def topM : LSt → Pk
  | .arrow k _ _ _ => k
  | _ => none
def topS' : LSt → Option Sn × Prs
  | .atom p ps _ => (p, ps)
  | .name _ p ps _ => (p, ps)
  | .after x ps _ => (some x, ps)
  | .uses x ps _ => (some x, ps)
  | .usesP _ x ps _ => (some x, ps)
  | .slash _ x ps _ => (some x, ps)
  | .days _ x ps _ => (some x, ps)
  | .daysP _ _ x ps _ => (some x, ps)
  | .close _ _ x ps _ => (some x, ps)
  | .arrow _ x ps _ => (some x, ps)
def restS : LSt → Frs
  | .atom _ _ fs => fs
  | .name _ _ _ fs => fs
  | .after _ _ fs => fs
  | .uses _ _ fs => fs
  | .usesP _ _ _ fs => fs
  | .slash _ _ _ fs => fs
  | .days _ _ _ fs => fs
  | .daysP _ _ _ _ fs => fs
  | .close _ _ _ _ fs => fs
  | .arrow _ _ _ fs => fs
theorem dv_snoc (u : List Nat) (c : Nat) : dv (u ++ [c]) = dv u * 10 + (c - 48) := by
  show (u ++ [c]).foldl _ 0 = _
  rw [List.foldl_append]
  rfl
theorem dv_lt : ∀ (u : List Nat), (∀ c ∈ u, dig1 c = true) → dv u < 10 ^ u.length := by
  intro u
  refine snoc_ind (P := fun u => (∀ c ∈ u, dig1 c = true) → dv u < 10 ^ u.length) ?_ ?_ u
  · intro _; decide
  · intro u c ih h
    have h1 := ih fun d hd => h d (List.mem_append_left _ hd)
    have h2 := dig_rng (h c (by simp))
    rw [dv_snoc, List.length_append]
    show _ < 10 ^ (u.length + 1)
    rw [Nat.pow_succ]
    omega
theorem okD.lt {least : Nat} {u : List Nat} (h : okD least u) : dv u < 1000000000 := by
  have h1 := dv_lt u h.2.1
  have h2 : 10 ^ u.length ≤ 10 ^ 9 := Nat.pow_le_pow_right (by decide) h.2.2.1
  have : (10 : Nat) ^ 9 = 1000000000 := by decide
  omega
theorem okD.one {c least : Nat} (h : dig1 c = true) (h2 : least ≤ c - 48) : okD least [c] := by
  refine ⟨by simp, fun d hd => by rw [List.mem_singleton.mp hd]; exact h, by show 1 ≤ 9; decide, ?_⟩
  show least ≤ 0 * 10 + (c - 48)
  omega
theorem okD.more {u : List Nat} {c least : Nat} (h : okD least u) (hc : dig1 c = true) (h9 : u.length < 9) : okD least (u ++ [c]) := by
  obtain ⟨h1, h2, h3, h4⟩ := h
  refine ⟨by simp, fun d hd => ?_, by rw [List.length_append]; show _ + 1 ≤ 9; omega, by rw [dv_snoc]; omega⟩
  rcases List.mem_append.mp hd with hd | hd
  · exact h2 d hd
  · rw [List.mem_singleton.mp hd]; exact hc
theorem more_of {u : List Nat} {c : Nat} (h : more u c = true) : dig1 c = true ∧ u ≠ [48] ∧ u.length < 9 := by
  unfold more at h
  simp only [Bool.and_eq_true, decide_eq_true_eq] at h
  exact ⟨h.1.1, h.1.2, h.2⟩
theorem lafter_wf {x : Sn} {ps : Prs} {fs : Frs} {c : Nat} {S : LSt} (h : lafter x ps fs c = some S) : WF S := by
  unfold lafter at h
  split at h
  · cases h; exact trivial
  split at h
  · cases h; exact trivial
  split at h
  · cases h; exact trivial
  split at h
  · cases h; exact trivial
  split at h
  · cases h
  · split at h
    · cases h; exact trivial
    · cases h
theorem lstep_wf {S S' : LSt} {c : Nat} (hw : WF S) (h : lstep S c = some S') : WF S' := by
  cases S with
  | atom p ps fs =>
    simp only [lstep] at h
    split at h
    · cases h; exact trivial
    split at h
    · cases h; exact trivial
    split at h
    · next e => cases h; exact Nm.one e
    · cases h
  | name u p ps fs =>
    simp only [lstep] at h
    split at h
    · next e =>
      split at h
      · next e2 => cases h; exact Nm.more hw e e2
      · cases h
    · exact lafter_wf h
  | after x ps fs => exact lafter_wf h
  | uses x ps fs =>
    simp only [lstep] at h
    split at h
    · cases h; exact trivial
    split at h
    · next e => cases h; have := dig_rng e.1; exact okD.one e.1 (by omega)
    · cases h
  | usesP u x ps fs =>
    simp only [lstep] at h
    split at h
    · cases h; exact hw
    split at h
    · next e => cases h; obtain ⟨e1, _, e3⟩ := more_of e; exact okD.more hw e1 e3
    split at h
    · cases h; exact hw
    · cases h
  | slash u x ps fs =>
    simp only [lstep] at h
    split at h
    · cases h; exact hw
    split at h
    · cases h; exact hw
    · cases h
  | days u x ps fs =>
    simp only [lstep] at h
    split at h
    · cases h; exact hw
    split at h
    · next e => cases h; exact ⟨hw, okD.one e (Nat.zero_le _)⟩
    · cases h
  | daysP u d x ps fs =>
    simp only [lstep] at h
    split at h
    · cases h; exact hw
    split at h
    · next e => cases h; obtain ⟨e1, _, e3⟩ := more_of e; exact ⟨hw.1, okD.more hw.2 e1 e3⟩
    split at h
    · cases h
      have h1 := hw.1.lt
      have h2 := hw.1.2.2.2
      exact ⟨by omega, by omega⟩
    · cases h
  | close u d x ps fs =>
    simp only [lstep] at h
    split at h
    · cases h; exact hw
    split at h
    · cases h
      have h1 := hw.1.lt
      have h2 := hw.1.2.2.2
      exact ⟨by omega, by omega⟩
    · cases h
  | arrow k x ps fs =>
    simp only [lstep] at h
    split at h
    · cases h; exact hw
    split at h
    · cases h; exact trivial
    · cases h
/-- the frames and their rows: at most one more a sign -/
theorem lafter_sz {x : Sn} {ps : Prs} {fs : Frs} {c : Nat} {S : LSt} (h : lafter x ps fs c = some S) : lnS (topS' S :: restS S) ≤ ps.length + 1 + lnS fs + 1 := by
  unfold lafter at h
  split at h
  · cases h; simp only [topS', restS, lnS_cons]; omega
  split at h
  · cases h; simp only [topS', restS, lnS_cons]; omega
  split at h
  · cases h; simp only [topS', restS, lnS_cons]; omega
  split at h
  · cases h; simp only [topS', restS, lnS_cons, List.length_append, List.length_cons, List.length_nil]; omega
  split at h
  · cases h
  · split at h
    · cases h; simp only [topS', restS, lnS_cons]; omega
    · cases h
theorem lstep_sz {S S' : LSt} {c : Nat} (h : lstep S c = some S') : lnS (topS' S' :: restS S') ≤ lnS (topS' S :: restS S) + 1 := by
  cases S with
  | atom p ps fs =>
    simp only [lstep] at h
    split at h
    · cases h; exact Nat.le_succ _
    split at h
    · cases h; simp only [topS', restS, lnS_cons, List.length_nil]; omega
    split at h
    · cases h; exact Nat.le_succ _
    · cases h
  | name u p ps fs =>
    simp only [lstep] at h
    split at h
    · split at h
      · cases h; exact Nat.le_succ _
      · cases h
    · have := lafter_sz h
      simp only [topS', restS, lnS_cons] at this ⊢
      exact this
  | after x ps fs =>
    have := lafter_sz h
    simp only [topS', restS, lnS_cons] at this ⊢
    exact this
  | uses x ps fs =>
    simp only [lstep] at h
    split at h
    · cases h; exact Nat.le_succ _
    split at h
    · cases h; exact Nat.le_succ _
    · cases h
  | usesP u x ps fs =>
    simp only [lstep] at h
    split at h
    · cases h; exact Nat.le_succ _
    split at h
    · cases h; exact Nat.le_succ _
    split at h
    · cases h; exact Nat.le_succ _
    · cases h
  | slash u x ps fs =>
    simp only [lstep] at h
    split at h
    · cases h; exact Nat.le_succ _
    split at h
    · cases h; exact Nat.le_succ _
    · cases h
  | days u x ps fs =>
    simp only [lstep] at h
    split at h
    · cases h; exact Nat.le_succ _
    split at h
    · cases h; exact Nat.le_succ _
    · cases h
  | daysP u d x ps fs =>
    simp only [lstep] at h
    split at h
    · cases h; exact Nat.le_succ _
    split at h
    · cases h; exact Nat.le_succ _
    split at h
    · cases h; exact Nat.le_succ _
    · cases h
  | close u d x ps fs =>
    simp only [lstep] at h
    split at h
    · cases h; exact Nat.le_succ _
    split at h
    · cases h; exact Nat.le_succ _
    · cases h
  | arrow k x ps fs =>
    simp only [lstep] at h
    split at h
    · cases h; exact Nat.le_succ _
    split at h
    · cases h; simp only [topS', restS, lnS_cons, List.length_append, List.length_cons, List.length_nil]; omega
    · cases h
/-! ### a text cut at / -/
theorem split1 {z y : Str} {u : List Nat} (e : cs z = u) (h : 47 ∉ u) (hy : y = "/") : Txt.split z y = [z] := by
  subst hy
  have := TL.split_spl z "/" (by decide +kernel) (TL.kind_ok (by decide +kernel))
  have ey : TL.tl ("/" : Str) = [47] := by decide +kernel
  rw [ey] at this
  refine TL.map_tl_inj ?_
  rw [this]
  show TL.spl [47] 0 [] (cs z) = [cs z]
  rw [e, TL.spl_last1 h, List.nil_append]
theorem split2 {z y : Str} {u d : List Nat} (e : cs z = u ++ 47 :: d) (h : 47 ∉ u) (h2 : 47 ∉ d) (hy : y = "/") : (Txt.split z y).map cs = [u, d] := by
  subst hy
  have := TL.split_spl z "/" (by decide +kernel) (TL.kind_ok (by decide +kernel))
  have ey : TL.tl ("/" : Str) = [47] := by decide +kernel
  rw [ey] at this
  show (Txt.split z "/").map TL.tl = _
  rw [this]
  show TL.spl [47] 0 [] (cs z) = _
  rw [e]
  have h3 := TL.spl_part1 (s := 47) (S := []) (p := u) (rest := d) (acc := []) h
  rw [show u ++ 47 :: d = u ++ ([47] ++ d) from rfl, h3, List.nil_append, TL.spl_last1 h2, List.nil_append]
theorem no47 {l : Nat} {u : List Nat} (h : okD l u) : 47 ∉ u := fun z => by have := h.2.1 47 z; revert this; decide
/-! ### the frames of the law's reader -/
theorem lfl_part (pv md : V) (rl : Addr) : valV (lfl pv rl md) (Sum.inr "part") = some pv := by
  unfold lfl
  exact valV_pos rfl
theorem lfl_rows (pv md : V) (rl : Addr) : valV (lfl pv rl md) (Sum.inr "rows") = some (.ref rl) := by
  have h1 : ¬ (("part" : Str) = "rows") := by decide +kernel
  unfold lfl
  rw [valV_neg (fun z => h1 (Sum.inr.inj z))]
  exact valV_pos rfl
theorem lfl_mode (pv md : V) (rl : Addr) : valV (lfl pv rl md) (Sum.inr "mode") = some md := by
  have h1 : ¬ (("part" : Str) = "mode") := by decide +kernel
  have h2 : ¬ (("rows" : Str) = "mode") := by decide +kernel
  unfold lfl
  rw [valV_neg (fun z => h1 (Sum.inr.inj z)), valV_neg (fun z => h2 (Sum.inr.inj z))]
  exact valV_pos rfl
theorem lfl_putP (pv md x : V) (rl : Addr) : putK (lfl pv rl md) (Sum.inr "part") x = lfl x rl md := by
  have h1 : ¬ (("rows" : Str) = "part") := by decide +kernel
  have h2 : ¬ (("mode" : Str) = "part") := by decide +kernel
  simp [putK, lfl, h1, h2]
theorem lfl_putM (pv md x : V) (rl : Addr) : putK (lfl pv rl md) (Sum.inr "mode") x = lfl pv rl x := by
  have h1 : ¬ (("rows" : Str) = "mode") := by decide +kernel
  have h2 : ¬ (("part" : Str) = "mode") := by decide +kernel
  simp [putK, lfl, h1, h2]
def LFr (H : Hp) (a : Addr × Addr) (s : Option Sn × Prs) (k : Pk) : Prop := (∃ pv mv, H a.1 = some (.dK (lfl pv a.2 mv)) ∧ PartV H pv s.1 ∧ ModeV H mv k ∧ okk k) ∧ ∃ es, H a.2 = some (.lst es) ∧ PrsV H es s.2
theorem LFr.keep {H H' : Hp} {a : Addr × Addr} {s : Option Sn × Prs} {k : Pk} (h : LFr H a s k) (e : TS H H') (h1 : ∀ u, H a.1 = some u → H' a.1 = some u) (h2 : ∀ u, H a.2 = some u → H' a.2 = some u) : LFr H' a s k := by
  obtain ⟨⟨pv, mv, c1, c2, c3, c4⟩, es, d1, d2⟩ := h
  exact ⟨⟨pv, mv, h1 _ c1, c2.ts e, c3.ts e, c4⟩, es, h2 _ d1, d2.ts e⟩
theorem LFr.same {H H' : Hp} {a : Addr × Addr} {s : Option Sn × Prs} {k : Pk} (h : LFr H a s k) (e : Same H H') : LFr H' a s k := h.keep (Same.ts e) (fun u hu => e _ _ hu) fun u hu => e _ _ hu
def LFs (H : Hp) : List (Addr × Addr) → Frs → Prop
  | [], [] => True
  | a :: as, s :: st => LFr H a s none ∧ LFs H as st
  | _, _ => False
theorem LFs.keep {H H' : Hp} (e : TS H H') : ∀ {as : List (Addr × Addr)} {st : Frs}, LFs H as st → (∀ x ∈ fl as, ∀ u, H x = some u → H' x = some u) → LFs H' as st
  | [], [], _, _ => trivial
  | a :: as, s :: st, ⟨h, r⟩, k => ⟨h.keep e (fun u => k a.1 (by simp [fl]) u) (fun u => k a.2 (by simp [fl]) u), LFs.keep e r fun x hx => k x (by
      show x ∈ [a.1, a.2] ++ fl as
      exact List.mem_append_right _ hx)⟩
theorem LFs.len {H : Hp} : ∀ {as : List (Addr × Addr)} {st : Frs}, LFs H as st → as.length = st.length
  | [], [], _ => rfl
  | _ :: _, _ :: _, ⟨_, r⟩ => by simp [r.len]
theorem LFs.live {H : Hp} : ∀ {as : List (Addr × Addr)} {st : Frs}, LFs H as st → ∀ x ∈ fl as, H x ≠ none
  | [], _, _, x, hx => by cases hx
  | a :: as, s :: st, ⟨⟨⟨pv, mv, f1, _⟩, es, f2, _⟩, fr⟩, x, hx => by
    have hx : x ∈ a.1 :: a.2 :: fl as := hx
    rcases List.mem_cons.mp hx with rfl | hx
    · rw [f1]; intro z; cases z
    rcases List.mem_cons.mp hx with rfl | hx
    · rw [f2]; intro z; cases z
    · exact LFs.live fr x hx
structure LRd (u : Addr) (H0 H : Hp) (a : Addr × Addr) (as : List (Addr × Addr)) (s : Option Sn × Prs) (st : Frs) (k : Pk) : Prop where
  hd : H u = some (.lst (as.reverse.map (fun a => V.ref a.1) ++ [.ref a.1]))
  tp : LFr H a s k
  fs : LFs H as st
  nd : (u :: fl (a :: as)).Nodup
  nw : ∀ x ∈ u :: fl (a :: as), H0 x = none
  sm : Same H0 H
theorem LRd.top {u : Addr} {H0 H H' : Hp} {a : Addr × Addr} {as : List (Addr × Addr)} {s s' : Option Sn × Prs} {st : Frs} {k k' : Pk} (h : LRd u H0 H a as s st k) (kp : ∀ x o, x ≠ a.1 → x ≠ a.2 → H x = some o → H' x = some o) (e : TS H H') (f : LFr H' a s' k') : LRd u H0 H' a as s' st k' := by
  obtain ⟨h1, _, h2, h3, h4, h5⟩ := h
  obtain ⟨n1, n2, n3, n4, n5⟩ := fl_nd h3
  refine ⟨kp _ _ n1 n2 h1, f, h2.keep e fun x hx o ho => kp x o (n4 x hx).1 (n4 x hx).2 ho, h3, h4, fun x o hx => ?_⟩
  have hx1 : x ≠ a.1 := fun z => by subst z; rw [h4 _ (by simp [fl])] at hx; cases hx
  have hx2 : x ≠ a.2 := fun z => by subst z; rw [h4 _ (by simp [fl])] at hx; cases hx
  exact kp x o hx1 hx2 (h5 _ _ hx)
theorem LRd.same {u : Addr} {H0 H H' : Hp} {a : Addr × Addr} {as : List (Addr × Addr)} {s : Option Sn × Prs} {st : Frs} {k : Pk} (h : LRd u H0 H a as s st k) (e : Same H H') : LRd u H0 H' a as s st k :=
  ⟨e _ _ h.hd, h.tp.same e, h.fs.keep (Same.ts e) fun x _ o ho => e _ _ ho, h.nd, h.nw, h.sm.trans e⟩
theorem LRd.ne {u : Addr} {H0 H : Hp} {a : Addr × Addr} {as : List (Addr × Addr)} {s : Option Sn × Prs} {st : Frs} {k : Pk} (h : LRd u H0 H a as s st k) : u ≠ a.1 ∧ u ≠ a.2 ∧ a.1 ≠ a.2 := by
  obtain ⟨n1, n2, n3, _⟩ := fl_nd h.nd
  exact ⟨n1, n2, n3⟩
theorem LRd.push {u : Addr} {H0 H H' : Hp} {a b : Addr × Addr} {as : List (Addr × Addr)} {s : Option Sn × Prs} {st : Frs} (h : LRd u H0 H a as s st none) (e : Same H H') (no : H b.1 = none) (npl : H b.2 = none) (ne : b.2 ≠ b.1) (f : LFr H' b (none, []) none) :
    LRd u H0 (upd H' u (.lst (as.reverse.map (fun a => V.ref a.1) ++ [.ref a.1] ++ [.ref b.1]))) b (a :: as) (none, []) (s :: st) none := by
  have nuo : u ≠ b.1 := fun z => by rw [← z, h.hd] at no; cases no
  have nupl : u ≠ b.2 := fun z => by rw [← z, h.hd] at npl; cases npl
  have hu' := e _ _ h.hd
  have fr : ∀ {x}, H x = none → H0 x = none := fun {x} hx => none_of h.sm hx
  have ts : TS H' (upd H' u (.lst (as.reverse.map (fun a => V.ref a.1) ++ [.ref a.1] ++ [.ref b.1]))) := TS.upd hu'
  obtain ⟨h1, ht, h2, h3, h4, h5⟩ := h
  have hall : LFs H (a :: as) (s :: st) := ⟨ht, h2⟩
  have lv := hall.live
  obtain ⟨nu, nf⟩ := List.nodup_cons.mp h3
  refine ⟨?_, f.keep ts (fun o' ho => by rw [upd_ne nuo.symm]; exact ho) (fun o' ho => by rw [upd_ne nupl.symm]; exact ho), ?_, ?_, ?_, ?_⟩
  · rw [List.reverse_cons, List.map_append]
    exact upd_same
  · exact LFs.keep (H := H) ((Same.ts e).trans ts) hall fun x hx o ho => by
      rw [upd_ne (fun z => by subst z; exact nu hx)]
      exact e _ _ ho
  · show (u :: b.1 :: b.2 :: fl (a :: as)).Nodup
    simp only [List.nodup_cons, List.mem_cons, not_or]
    exact ⟨⟨nuo, nupl, nu⟩, ⟨ne.symm, fun z => lv _ z no⟩, fun z => lv _ z npl, nf⟩
  · intro x hx
    have hx : x ∈ u :: b.1 :: b.2 :: fl (a :: as) := hx
    rcases List.mem_cons.mp hx with rfl | hx
    · exact h4 _ List.mem_cons_self
    rcases List.mem_cons.mp hx with rfl | hx
    · exact fr no
    rcases List.mem_cons.mp hx with rfl | hx
    · exact fr npl
    · exact h4 _ (List.mem_cons_of_mem _ hx)
  · intro x o hx
    have : x ≠ u := fun z => by subst z; rw [h4 _ List.mem_cons_self] at hx; cases hx
    rw [upd_ne this]
    exact e _ _ (h5 _ _ hx)
theorem LRd.pop {u : Addr} {H0 H : Hp} {a b : Addr × Addr} {as : List (Addr × Addr)} {s t : Option Sn × Prs} {st : Frs} {k : Pk} (h : LRd u H0 H a (b :: as) s (t :: st) k) :
    LRd u H0 (upd H u (.lst (as.reverse.map (fun a => V.ref a.1) ++ [.ref b.1]))) b as t st none ∧ LFr (upd H u (.lst (as.reverse.map (fun a => V.ref a.1) ++ [.ref b.1]))) a s k := by
  have ts : TS H (upd H u (.lst (as.reverse.map (fun a => V.ref a.1) ++ [.ref b.1]))) := TS.upd h.hd
  obtain ⟨h1, hf, ⟨hb, h2⟩, h3, h4, h5⟩ := h
  obtain ⟨n1, n2, n3, n4, n5⟩ := fl_nd h3
  obtain ⟨m1, m2, m3, m4, m5⟩ := fl_nd n5
  obtain ⟨nu, nf⟩ := List.nodup_cons.mp m5
  refine ⟨⟨upd_same, hb.keep ts (fun o ho => by rw [upd_ne m1.symm]; exact ho) (fun o ho => by rw [upd_ne m2.symm]; exact ho), h2.keep ts fun x hx o ho => by rw [upd_ne (fun z => by subst z; exact nu hx)]; exact ho, n5, fun x hx => ?_, fun x o hx => ?_⟩, hf.keep ts (fun o ho => by rw [upd_ne n1.symm]; exact ho) (fun o ho => by rw [upd_ne n2.symm]; exact ho)⟩
  · rcases List.mem_cons.mp hx with rfl | hx
    · exact h4 _ List.mem_cons_self
    · exact h4 _ (List.mem_cons_of_mem _ (List.mem_append_right [a.1, a.2] hx))
  · have : x ≠ u := fun z => by subst z; rw [h4 _ List.mem_cons_self] at hx; cases hx
    rw [upd_ne this]
    exact h5 _ _ hx



theorem sVs_get {l : List Str} {k : Nat} {v : V} (h : (sVs l)[k]? = some v) : ∃ z, l[k]? = some z ∧ v = .str z := by
  rw [List.getElem?_map] at h
  obtain ⟨z, hz, rfl⟩ := Option.map_eq_some_iff.mp h
  exact ⟨z, hz, rfl⟩
theorem four_at {d : Int} (h0 : 0 ≤ d) (h1 : d < 4) : ∃ z n, atI [V.str (Str.ofString " "), .str (Str.ofString ""), .str (Str.ofString "  "), .str (Str.ofString "")] d = some (.str z) ∧ cs z = sps n ∧ n ≤ 2 := by
  obtain ⟨j, rfl⟩ := Int.eq_ofNat_of_zero_le h0
  have hj : j < 4 := by omega
  match j, hj with
  | 0, _ => exact ⟨_, 1, atI_nat (j := 0) rfl, by decide +kernel, by decide⟩
  | 1, _ => exact ⟨_, 0, atI_nat (j := 1) rfl, by decide +kernel, by decide⟩
  | 2, _ => exact ⟨_, 2, atI_nat (j := 2) rfl, by decide +kernel, by decide⟩
  | 3, _ => exact ⟨_, 0, atI_nat (j := 3) rfl, by decide +kernel, by decide⟩
theorem three_at {d : Int} (h0 : 0 ≤ d) (h1 : d < 3) : ∃ z n, atI [V.str (Str.ofString ""), .str (Str.ofString " "), .str (Str.ofString "   ")] d = some (.str z) ∧ cs z = sps n ∧ n ≤ 3 := by
  obtain ⟨j, rfl⟩ := Int.eq_ofNat_of_zero_le h0
  have hj : j < 3 := by omega
  match j, hj with
  | 0, _ => exact ⟨_, 0, atI_nat (j := 0) rfl, by decide +kernel, by decide⟩
  | 1, _ => exact ⟨_, 1, atI_nat (j := 1) rfl, by decide +kernel, by decide⟩
  | 2, _ => exact ⟨_, 3, atI_nat (j := 2) rfl, by decide +kernel, by decide⟩
theorem take_snoc {α : Type} {l : List α} {k : Nat} {x : α} (h : l[k]? = some x) : l.take (k + 1) = l.take k ++ [x] := by
  rw [List.take_add_one, h]
  rfl
section
variable {P : Program} {w : World} {K : PySem.W.Frag} {mg : Str → Option Value} {base : Heap} {C CT CH : Addr}
def spSpaced : Sp := fun vs H Q _ => ∃ p l zs, vs = [.ref p, .ref l] ∧ PoolAt H p ∧ H l = some (.lst (sVs zs)) ∧ zs.length ≤ 5000 ∧ (∀ z ∈ zs, z.length ≤ 30) ∧ ∀ z x n H', But p H H' → PoolAt H' p → Spc (zs.map cs) x → cs z = x ++ sps n → z.length ≤ 32 * zs.length + 3 → Q (.str z) H'
theorem ok_spaced (T : Top K mg "_law_spaced" s_spaced) (FN : Fn P w K mg base 1 "_law_next" spNext) : Fn P w K mg base 2 "_law_spaced" spSpaced := by
  refine fn_ok T sc_spaced so_spaced (fun vs H Q E h => by obtain ⟨p, l, zs, rfl, _⟩ := h; rfl) (fun _ _ _ _ _ _ us hl => match us, hl with | [_, _], _ => rfl) fun f cdv A outer s H vs Q E hr h nd => ?_
  obtain ⟨p, l, zs, rfl, hp, hl, hn, hz, q⟩ := h
  have nlp : l ≠ p := fun z => by subst z; obtain ⟨a, b, c, h⟩ := hp; rw [h] at hl; exact no_pool hl
  refine l_cons (s_set (e_str ?_))
  refine l_cons (s_forL (e_var ⟨l, _, rfl, SqL.of hl, ?_⟩))
  refine ⟨fun k σ H' => ∃ acc y, σ = [some (.ref p), some (.ref l), some (.str acc), y] ∧ But p H H' ∧ PoolAt H' p ∧ Spc ((zs.take k).map cs) (cs acc) ∧ acc.length ≤ 32 * k, ⟨_, none, rfl, .refl, hp, by rw [List.take_zero, show cs (Str.ofString "") = [] by decide +kernel]; exact .nil, by decide +kernel⟩, ?_, ?_, ?_⟩
  · rintro k σ H' _ ⟨_, _, _, b, _⟩
    exact SqL.of (b _ _ nlp hl)
  · rintro k v σ H' hv ⟨acc, y, rfl, b, p', hs, la⟩
    obtain ⟨z, hzk, rfl⟩ := sVs_get hv
    have lz := hz z (List.mem_of_getElem? hzk)
    have hkn := (List.getElem?_eq_some_iff.mp hzk).1
    show wL _ _ _ [some (.ref p), some (.ref l), some (.str acc), some (.str z)] _
    refine l_cons (s_set (e_bin (e_bin (e_var (e_ix (e_lst ?_))))))
    refine a_cons (e_str (a_cons (e_str (a_cons (e_str (a_cons (e_str (a_nil ⟨by show 4 ≤ sizeLine; decide, fun sl H3 e3 n3 h3 => ?_⟩))))))))
    have nsp : sl ≠ p := fun z => by subst z; obtain ⟨a, b, c, h⟩ := p'; rw [h] at n3; cases n3
    refine e_call (by exact FN) (by exact hr) (by decide) ?_
    refine a_cons (e_var (a_cons (e_int (a_nil ?_))))
    refine ⟨p, 4, rfl, by decide, by decide, p'.up e3, fun d H4 d0 d1 b4 p4 => ?_⟩
    obtain ⟨zp, np, hat, hzp, hnp⟩ := four_at d0 d1
    refine ix_l (by exact SqL.of (b4 _ _ nsp h3)) hat ?_
    have lzp : zp.length ≤ 2 := by rw [len_cs, hzp, List.length_replicate]; exact hnp
    refine o_addS (by omega) ?_
    refine e_var ?_
    refine o_addS (by rw [app_len]; omega) (l_nil ?_)
    refine ⟨acc ++ zp ++ z, _, rfl, b.trans ((But.of e3).trans b4), p4, ?_, by rw [app_len, app_len]; omega⟩
    rw [take_snoc hzk, List.map_append, cs_app, cs_app, hzp, List.append_assoc]
    exact Spc.app (.tok np (cs z)) hs
  · rintro σ H' ⟨acc, y, rfl, b, p', hs, la⟩
    rw [show (sVs zs).length = zs.length by simp] at hs la
    rw [List.take_length] at hs
    refine l_cons (s_ret (e_bin (e_var (e_ix (e_lst ?_)))))
    refine a_cons (e_str (a_cons (e_str (a_cons (e_str (a_nil ⟨by show 3 ≤ sizeLine; decide, fun sl H3 e3 n3 h3 => ?_⟩))))))
    have nsp : sl ≠ p := fun z => by subst z; obtain ⟨a, b, c, h⟩ := p'; rw [h] at n3; cases n3
    refine e_call (by exact FN) (by exact hr) (by decide) ?_
    refine a_cons (e_var (a_cons (e_int (a_nil ?_))))
    refine ⟨p, 3, rfl, by decide, by decide, p'.up e3, fun d H4 d0 d1 b4 p4 => ?_⟩
    obtain ⟨zp, np, hat, hzp, hnp⟩ := three_at d0 d1
    refine ix_l (by exact SqL.of (b4 _ _ nsp h3)) hat ?_
    have lzp : zp.length ≤ 3 := by rw [len_cs, hzp, List.length_replicate]; exact hnp
    refine o_addS (by omega) ?_
    exact q _ (cs acc) np H4 (b.trans ((But.of e3).trans b4)) p4 hs (by rw [cs_app, hzp]) (by rw [app_len]; omega)
end



theorem at_mem {l : List Nat} {d : Int} (h0 : 0 ≤ d) (h1 : d < l.length) : ∃ c, atI l d = some c ∧ c ∈ l := by
  obtain ⟨j, rfl⟩ := Int.eq_ofNat_of_zero_le h0
  have hj : j < l.length := by omega
  exact ⟨l[j], atI_nat (by simp [hj]), List.getElem_mem hj⟩
theorem len_cut (z : Str) (lo hi : Option Int) : (cutS z lo hi).length ≤ z.length := by
  rw [len_cs, len_cs]
  unfold cutS
  show (((cs z).drop _).take _).length ≤ _
  rw [List.length_take, List.length_drop]
  omega
section
variable {P : Program} {w : World} {K : PySem.W.Frag} {mg : Str → Option Value} {base : Heap} {C CT CH : Addr}
def spLSign : Sp := fun vs H Q _ => ∃ p, vs = [.ref p] ∧ PoolAt H p ∧ ∀ c H', But p H H' → PoolAt H' p → Q (.str (sg c)) H'
theorem ok_lsign (T : Top K mg "_law_sign" s_sign) (mL : mg "len" = none) (FX : Fn P w K mg base 1 "_law_next" spNext) : Fn P w K mg base 2 "_law_sign" spLSign := by
  refine fn_ok T sc_sign so_sign (fun vs H Q E h => by obtain ⟨p, rfl, _⟩ := h; rfl) (fun _ _ _ _ _ _ us hl => match us, hl with | [_], _ => rfl) fun f cdv A outer s H vs Q E hr h nd => ?_
  obtain ⟨p, rfl, hp, q⟩ := h
  refine l_cons (s_set (e_str ?_))
  refine l_cons (s_set (e_str ?_))
  refine l_cons (s_set (e_bin (e_var (e_str ?_))))
  refine o_addS (by decide +kernel) ?_
  have l1 : (Str.ofString "ab1 2&>()[]/0,|-A~").length = 18 := by decide +kernel
  have l2 : (Str.ofString " !\"#$&'()*+,-./0123456789:;<=>?@ABCDEFGHIJKLMNOPQRSTUVWXYZ[\\]^_`" ++ Str.ofString "abcdefghijklmnopqrstuvwxyz{|}~").length = 94 := by decide +kernel
  generalize Str.ofString " !\"#$&'()*+,-./0123456789:;<=>?@ABCDEFGHIJKLMNOPQRSTUVWXYZ[\\]^_`" ++ Str.ofString "abcdefghijklmnopqrstuvwxyz{|}~" = zw at l2
  generalize Str.ofString "ab1 2&>()[]/0,|-A~" = zn at l1
  have go : ∀ (z : Str) (n : Nat) (H1 : Hp) (Q' : VK), z.length = n → 0 < n → n ≤ 100 → But p H H1 → PoolAt H1 p → (∀ c H', But p H H' → PoolAt H' p → Q' (.str (sg c)) H') → ∀ d H2, 0 ≤ d → d < (n : Int) → But p H1 H2 → PoolAt H2 p → wIx (cxOf CX0 P w K mg base N_sign (Str.ofString "_law_sign") (defScope s_sign) f cdv A outer s H E).nox (.str z) (.int d) H2 Q' := by
    intro z n H1 Q' lz n0 n1 b1 p1 q' d H2 d0 d1 b2 p2
    obtain ⟨c, hc, _⟩ := at_mem (l := cs z) d0 (by rw [← len_cs, lz]; exact d1)
    exact ix_s (by rw [lz]; show _ ≤ 2 ^ 24; omega) hc (q' c H2 (b1.trans b2) p2)
  refine l_cons (s_if (t_cmp (e_call (by exact FX) (by exact hr) (by decide) ?_)))
  refine a_cons (e_var (a_cons (e_int (a_nil ?_))))
  refine ⟨p, 2, rfl, by decide, by decide, hp, fun d H1 d0 d1 b1 p1 => e_int (o_eqI ⟨_, rfl, ?_⟩)⟩
  refine if2 (fun _ => ?_) (fun _ => l_nil ?_)
  · refine l_cons (s_ret (e_ix (e_var (e_call (by exact FX) (by exact hr) (by decide) ?_))))
    refine a_cons (e_var (a_cons (e_callB (x := "len") (by assumption) b_len (a_cons (e_var (a_nil (c_lenS (by rw [l1]; decide) (a_nil ?_))))))))
    exact ⟨p, _, rfl, by rw [l1]; decide, by rw [l1]; decide, p1, fun d2 H2 e0 e1 b2 p2 => go zn 18 H1 Q l1 (by decide) (by decide) b1 p1 q d2 H2 e0 (by rw [l1] at e1; exact e1) b2 p2⟩
  · refine l_cons (s_ret (e_ix (e_var (e_call (by exact FX) (by exact hr) (by decide) ?_))))
    refine a_cons (e_var (a_cons (e_callB (x := "len") (by assumption) b_len (a_cons (e_var (a_nil (c_lenS (by rw [l2]; decide) (a_nil ?_))))))))
    exact ⟨p, _, rfl, by rw [l2]; decide, by rw [l2]; decide, p1, fun d2 H2 e0 e1 b2 p2 => go zw 94 H1 Q l2 (by decide) (by decide) b1 p1 q d2 H2 e0 (by rw [l2] at e1; exact e1) b2 p2⟩
end



theorem opc_hi (z : Str) (a : Nat) : opc (cs (cutS z none (some (a : Int)))) = opc ((cs z).take a) := by rw [cut_hi]
theorem opc_lo (z : Str) (a j : Nat) : opc (cs (cutS z (some ((a : Int) + (j : Int))) none)) ≤ opc ((cs z).drop a) := by
  rw [show ((a : Int) + (j : Int)) = (((a + j : Nat)) : Int) by omega, cut_lo, ← List.drop_drop]
  exact (List.drop_sublist _ _).countP_le
theorem len_m (z : Str) (a : Nat) : (cutS z (some (a : Int)) (some ((a : Int) + 1))).length ≤ 1 := by
  rw [len_cs]
  unfold cutS
  rw [show ((a : Int) + 1) = (((a + 1 : Nat)) : Int) by omega, HT.sIx_nat, HT.sIx_nat]
  show ((((cs z).drop (min a z.length)).take (min (a + 1) z.length - min a z.length))).length ≤ 1
  rw [List.length_take]
  omega
theorem opc_m (z : Str) (a : Nat) : opc (cs (cutS z (some (a : Int)) (some ((a : Int) + 1)))) ≤ 1 := Nat.le_trans (opc_le _) (by rw [← len_cs]; exact len_m z a)
theorem len_hi (z : Str) (a : Nat) : (cutS z none (some (a : Int))).length ≤ a := by rw [len_cs, cut_hi, List.length_take]; exact Nat.min_le_left _ _
theorem len_lo (z : Str) (a j : Nat) : (cutS z (some ((a : Int) + (j : Int))) none).length ≤ z.length - a := by
  rw [show ((a : Int) + (j : Int)) = (((a + j : Nat)) : Int) by omega, len_cs, cut_lo, List.length_drop, ← len_cs]
  omega
section
variable {P : Program} {w : World} {K : PySem.W.Frag} {mg : Str → Option Value} {base : Heap} {C CT CH : Addr}
def spSpoilt : Sp := fun vs H Q _ => ∃ p z, vs = [.ref p, .str z] ∧ PoolAt H p ∧ z.length ≤ 50000 ∧ ∀ y H', But p H H' → PoolAt H' p → y.length ≤ z.length + 2 → opc (cs y) ≤ opc (cs z) + 2 → Q (.str y) H'
theorem ok_spoilt (T : Top K mg "_law_spoilt" s_spoilt) (mL : mg "len" = none) (FX : Fn P w K mg base 1 "_law_next" spNext) (FG : Fn P w K mg base 2 "_law_sign" spLSign) : Fn P w K mg base 3 "_law_spoilt" spSpoilt := by
  refine fn_ok T sc_spoilt so_spoilt (fun vs H Q E h => by obtain ⟨p, z, rfl, _⟩ := h; rfl) (fun _ _ _ _ _ _ us hl => match us, hl with | [_, _], _ => rfl) fun f cdv A outer s H vs Q E hr h nd => ?_
  obtain ⟨p, z, rfl, hp, hz, q⟩ := h
  have hz' : z.length ≤ sizeLine := Nat.le_trans hz (by decide)
  refine l_cons (s_set (e_call (by exact FX) (by exact hr) (by decide) ?_))
  refine a_cons (e_var (a_cons (e_bin (e_callB (x := "len") (by assumption) b_len (a_cons (e_var (a_nil (c_lenS hz' (e_int (o_add (a_nil ?_))))))))))) 
  refine ⟨p, _, rfl, by omega, by omega, hp, fun d1 H1 d10 d11 b1 p1 => ?_⟩
  obtain ⟨a, rfl⟩ := Int.eq_ofNat_of_zero_le d10
  have haz : a ≤ z.length := by omega
  have hAB : opc ((cs z).take a) + opc ((cs z).drop a) = opc (cs z) := by rw [← opc_app, List.take_append_drop]
  refine l_cons (s_set (e_call (by exact FX) (by exact hr) (by decide) ?_))
  refine a_cons (e_var (a_cons (e_int (a_nil ?_))))
  refine ⟨p, 9, rfl, by decide, by decide, p1, fun d2 H2 e0 e1 b2 p2 => ?_⟩
  have b02 := b1.trans b2
  show wL _ _ _ [some (.ref p), some (.str z), some (.int (a : Int)), some (.int d2)] _
  refine l_cons (s_if (t_cmp (e_var (e_int (o_eqI ⟨_, rfl, ?_⟩)))))
  refine if2 (fun _ => ?_) (fun _ => l_nil ?_)
  · refine l_cons (s_ret ?_)
    refine e_bin (e_bin ?_)
    refine e_slL1 sl_str ?_
    refine e_var (e_var ⟨_, rfl, z, rfl, hz', ?_⟩)
    have l0 : (cutS z none (some (a : Int))).length ≤ a := len_hi z a
    have c0 : opc (cs (cutS z none (some (a : Int)))) = opc ((cs z).take a) := opc_hi z a
    generalize cutS z none (some (a : Int)) = y0 at l0 c0
    refine e_call (by exact FG) (by exact hr) (by decide) ?_
    refine a_cons (e_var (a_nil ⟨p, rfl, p2, fun c H3 b3 p3 => ?_⟩))
    have l1 : (sg c).length ≤ 1 := Nat.le_refl 1
    have c1 : opc (cs (sg c)) ≤ 1 := opc_le [c]
    generalize sg c = y1 at l1 c1
    refine o_addS (by omega) ?_
    have lA1 := app_len y0 y1
    have cA1 : opc (cs (y0 ++ y1)) = opc (cs y0) + opc (cs y1) := by rw [cs_app, opc_app]
    generalize y0 ++ y1 = w1 at lA1 cA1
    refine e_slL0 sl_str ?_
    refine e_var (e_var ⟨_, rfl, z, rfl, hz', ?_⟩)
    have l2 : (cutS z (some (a : Int)) none).length ≤ z.length - a := by simpa using len_lo z a 0
    have c2 : opc (cs (cutS z (some (a : Int)) none)) ≤ opc ((cs z).drop a) := by simpa using opc_lo z a 0
    generalize cutS z (some (a : Int)) none = y2 at l2 c2
    refine o_addS (by omega) ?_
    have lA2 := app_len w1 y2
    have cA2 : opc (cs (w1 ++ y2)) = opc (cs w1) + opc (cs y2) := by rw [cs_app, opc_app]
    generalize w1 ++ y2 = w2 at lA2 cA2
    exact q _ _ (b02.trans b3) p3 (by omega) (by omega)
  refine l_cons (s_if (t_cmp (e_var (e_int (o_eqI ⟨_, rfl, ?_⟩)))))
  refine if2 (fun _ => ?_) (fun _ => l_nil ?_)
  · refine l_cons (s_ret ?_)
    refine e_bin ?_
    refine e_slL1 sl_str ?_
    refine e_var (e_var ⟨_, rfl, z, rfl, hz', ?_⟩)
    have l0 : (cutS z none (some (a : Int))).length ≤ a := len_hi z a
    have c0 : opc (cs (cutS z none (some (a : Int)))) = opc ((cs z).take a) := opc_hi z a
    generalize cutS z none (some (a : Int)) = y0 at l0 c0
    refine e_slL0 sl_str ?_
    refine e_var (e_bin (e_var (e_int (o_add ⟨_, rfl, z, rfl, hz', ?_⟩))))
    have l1 : (cutS z (some ((a : Int) + 1)) none).length ≤ z.length - a := len_lo z a 1
    have c1 : opc (cs (cutS z (some ((a : Int) + 1)) none)) ≤ opc ((cs z).drop a) := opc_lo z a 1
    generalize cutS z (some ((a : Int) + 1)) none = y1 at l1 c1
    refine o_addS (by omega) ?_
    have lA1 := app_len y0 y1
    have cA1 : opc (cs (y0 ++ y1)) = opc (cs y0) + opc (cs y1) := by rw [cs_app, opc_app]
    generalize y0 ++ y1 = w1 at lA1 cA1
    exact q _ _ b02 p2 (by omega) (by omega)
  refine l_cons (s_if (t_cmp (e_var (e_int (o_eqI ⟨_, rfl, ?_⟩)))))
  refine if2 (fun _ => ?_) (fun _ => l_nil ?_)
  · refine l_cons (s_ret ?_)
    refine e_bin (e_bin ?_)
    refine e_slL1 sl_str ?_
    refine e_var (e_var ⟨_, rfl, z, rfl, hz', ?_⟩)
    have l0 : (cutS z none (some (a : Int))).length ≤ a := len_hi z a
    have c0 : opc (cs (cutS z none (some (a : Int)))) = opc ((cs z).take a) := opc_hi z a
    generalize cutS z none (some (a : Int)) = y0 at l0 c0
    refine e_call (by exact FG) (by exact hr) (by decide) ?_
    refine a_cons (e_var (a_nil ⟨p, rfl, p2, fun c H3 b3 p3 => ?_⟩))
    have l1 : (sg c).length ≤ 1 := Nat.le_refl 1
    have c1 : opc (cs (sg c)) ≤ 1 := opc_le [c]
    generalize sg c = y1 at l1 c1
    refine o_addS (by omega) ?_
    have lA1 := app_len y0 y1
    have cA1 : opc (cs (y0 ++ y1)) = opc (cs y0) + opc (cs y1) := by rw [cs_app, opc_app]
    generalize y0 ++ y1 = w1 at lA1 cA1
    refine e_slL0 sl_str ?_
    refine e_var (e_bin (e_var (e_int (o_add ⟨_, rfl, z, rfl, hz', ?_⟩))))
    have l2 : (cutS z (some ((a : Int) + 1)) none).length ≤ z.length - a := len_lo z a 1
    have c2 : opc (cs (cutS z (some ((a : Int) + 1)) none)) ≤ opc ((cs z).drop a) := opc_lo z a 1
    generalize cutS z (some ((a : Int) + 1)) none = y2 at l2 c2
    refine o_addS (by omega) ?_
    have lA2 := app_len w1 y2
    have cA2 : opc (cs (w1 ++ y2)) = opc (cs w1) + opc (cs y2) := by rw [cs_app, opc_app]
    generalize w1 ++ y2 = w2 at lA2 cA2
    exact q _ _ (b02.trans b3) p3 (by omega) (by omega)
  refine l_cons (s_if (t_cmp (e_var (e_int (o_eqI ⟨_, rfl, ?_⟩)))))
  refine if2 (fun _ => ?_) (fun _ => l_nil ?_)
  · refine l_cons (s_ret ?_)
    refine e_slL1 sl_str ?_
    refine e_var (e_var ⟨_, rfl, z, rfl, hz', ?_⟩)
    have l0 : (cutS z none (some (a : Int))).length ≤ a := len_hi z a
    have c0 : opc (cs (cutS z none (some (a : Int)))) = opc ((cs z).take a) := opc_hi z a
    generalize cutS z none (some (a : Int)) = y0 at l0 c0
    exact q _ _ b02 p2 (by omega) (by omega)
  refine l_cons (s_if (t_cmp (e_var (e_int (o_eqI ⟨_, rfl, ?_⟩)))))
  refine if2 (fun _ => ?_) (fun _ => l_nil ?_)
  · refine l_cons (s_ret ?_)
    refine e_bin (e_bin ?_)
    refine e_slL1 sl_str ?_
    refine e_var (e_var ⟨_, rfl, z, rfl, hz', ?_⟩)
    have l0 : (cutS z none (some (a : Int))).length ≤ a := len_hi z a
    have c0 : opc (cs (cutS z none (some (a : Int)))) = opc ((cs z).take a) := opc_hi z a
    generalize cutS z none (some (a : Int)) = y0 at l0 c0
    refine e_slB sl_str ?_
    refine e_var (e_var ⟨_, rfl, e_bin (e_var (e_int (o_add ⟨_, rfl, z, rfl, hz', ?_⟩)))⟩)
    have l1 : (cutS z (some (a : Int)) (some ((a : Int) + 1))).length ≤ 1 := len_m z a
    have c1 : opc (cs (cutS z (some (a : Int)) (some ((a : Int) + 1)))) ≤ 1 := opc_m z a
    generalize cutS z (some (a : Int)) (some ((a : Int) + 1)) = y1 at l1 c1
    refine o_addS (by omega) ?_
    have lA1 := app_len y0 y1
    have cA1 : opc (cs (y0 ++ y1)) = opc (cs y0) + opc (cs y1) := by rw [cs_app, opc_app]
    generalize y0 ++ y1 = w1 at lA1 cA1
    refine e_slL0 sl_str ?_
    refine e_var (e_var ⟨_, rfl, z, rfl, hz', ?_⟩)
    have l2 : (cutS z (some (a : Int)) none).length ≤ z.length - a := by simpa using len_lo z a 0
    have c2 : opc (cs (cutS z (some (a : Int)) none)) ≤ opc ((cs z).drop a) := by simpa using opc_lo z a 0
    generalize cutS z (some (a : Int)) none = y2 at l2 c2
    refine o_addS (by omega) ?_
    have lA2 := app_len w1 y2
    have cA2 : opc (cs (w1 ++ y2)) = opc (cs w1) + opc (cs y2) := by rw [cs_app, opc_app]
    generalize w1 ++ y2 = w2 at lA2 cA2
    exact q _ _ b02 p2 (by omega) (by omega)
  refine l_cons (s_if (t_cmp (e_var (e_int (o_eqI ⟨_, rfl, ?_⟩)))))
  refine if2 (fun _ => ?_) (fun _ => l_nil ?_)
  · refine l_cons (s_ret ?_)
    refine e_bin (e_bin ?_)
    refine e_slL1 sl_str ?_
    refine e_var (e_var ⟨_, rfl, z, rfl, hz', ?_⟩)
    have l0 : (cutS z none (some (a : Int))).length ≤ a := len_hi z a
    have c0 : opc (cs (cutS z none (some (a : Int)))) = opc ((cs z).take a) := opc_hi z a
    generalize cutS z none (some (a : Int)) = y0 at l0 c0
    refine e_str ?_
    have l1 : (Str.ofString " ").length ≤ 1 := by decide +kernel
    have c1 : opc (cs (Str.ofString " ")) ≤ 1 := by decide +kernel
    generalize Str.ofString " " = y1 at l1 c1
    refine o_addS (by omega) ?_
    have lA1 := app_len y0 y1
    have cA1 : opc (cs (y0 ++ y1)) = opc (cs y0) + opc (cs y1) := by rw [cs_app, opc_app]
    generalize y0 ++ y1 = w1 at lA1 cA1
    refine e_slL0 sl_str ?_
    refine e_var (e_var ⟨_, rfl, z, rfl, hz', ?_⟩)
    have l2 : (cutS z (some (a : Int)) none).length ≤ z.length - a := by simpa using len_lo z a 0
    have c2 : opc (cs (cutS z (some (a : Int)) none)) ≤ opc ((cs z).drop a) := by simpa using opc_lo z a 0
    generalize cutS z (some (a : Int)) none = y2 at l2 c2
    refine o_addS (by omega) ?_
    have lA2 := app_len w1 y2
    have cA2 : opc (cs (w1 ++ y2)) = opc (cs w1) + opc (cs y2) := by rw [cs_app, opc_app]
    generalize w1 ++ y2 = w2 at lA2 cA2
    exact q _ _ b02 p2 (by omega) (by omega)
  refine l_cons (s_if (t_cmp (e_var (e_int (o_eqI ⟨_, rfl, ?_⟩)))))
  refine if2 (fun _ => ?_) (fun _ => l_nil ?_)
  · refine l_cons (s_ret ?_)
    refine e_bin (e_bin (e_bin ?_))
    refine e_slL1 sl_str ?_
    refine e_var (e_var ⟨_, rfl, z, rfl, hz', ?_⟩)
    have l0 : (cutS z none (some (a : Int))).length ≤ a := len_hi z a
    have c0 : opc (cs (cutS z none (some (a : Int)))) = opc ((cs z).take a) := opc_hi z a
    generalize cutS z none (some (a : Int)) = y0 at l0 c0
    refine e_slB sl_str ?_
    refine e_var (e_bin (e_var (e_int (o_add ⟨_, rfl, e_bin (e_var (e_int (o_add ⟨_, rfl, z, rfl, hz', ?_⟩)))⟩))))
    have l1 : (cutS z (some ((a : Int) + 1)) (some ((a : Int) + 2))).length ≤ 1 := by have := len_m z (a + 1); rwa [show (((a + 1 : Nat)) : Int) = (a : Int) + 1 by omega, show ((a : Int) + 1 + 1) = (a : Int) + 2 by omega] at this
    have c1 : opc (cs (cutS z (some ((a : Int) + 1)) (some ((a : Int) + 2)))) ≤ 1 := by have := opc_m z (a + 1); rwa [show (((a + 1 : Nat)) : Int) = (a : Int) + 1 by omega, show ((a : Int) + 1 + 1) = (a : Int) + 2 by omega] at this
    generalize cutS z (some ((a : Int) + 1)) (some ((a : Int) + 2)) = y1 at l1 c1
    refine o_addS (by omega) ?_
    have lA1 := app_len y0 y1
    have cA1 : opc (cs (y0 ++ y1)) = opc (cs y0) + opc (cs y1) := by rw [cs_app, opc_app]
    generalize y0 ++ y1 = w1 at lA1 cA1
    refine e_slB sl_str ?_
    refine e_var (e_var ⟨_, rfl, e_bin (e_var (e_int (o_add ⟨_, rfl, z, rfl, hz', ?_⟩)))⟩)
    have l2 : (cutS z (some (a : Int)) (some ((a : Int) + 1))).length ≤ 1 := len_m z a
    have c2 : opc (cs (cutS z (some (a : Int)) (some ((a : Int) + 1)))) ≤ 1 := opc_m z a
    generalize cutS z (some (a : Int)) (some ((a : Int) + 1)) = y2 at l2 c2
    refine o_addS (by omega) ?_
    have lA2 := app_len w1 y2
    have cA2 : opc (cs (w1 ++ y2)) = opc (cs w1) + opc (cs y2) := by rw [cs_app, opc_app]
    generalize w1 ++ y2 = w2 at lA2 cA2
    refine e_slL0 sl_str ?_
    refine e_var (e_bin (e_var (e_int (o_add ⟨_, rfl, z, rfl, hz', ?_⟩))))
    have l3 : (cutS z (some ((a : Int) + 2)) none).length ≤ z.length - a := len_lo z a 2
    have c3 : opc (cs (cutS z (some ((a : Int) + 2)) none)) ≤ opc ((cs z).drop a) := opc_lo z a 2
    generalize cutS z (some ((a : Int) + 2)) none = y3 at l3 c3
    refine o_addS (by omega) ?_
    have lA3 := app_len w2 y3
    have cA3 : opc (cs (w2 ++ y3)) = opc (cs w2) + opc (cs y3) := by rw [cs_app, opc_app]
    generalize w2 ++ y3 = w3 at lA3 cA3
    exact q _ _ b02 p2 (by omega) (by omega)
  refine l_cons (s_if (t_cmp (e_var (e_int (o_eqI ⟨_, rfl, ?_⟩)))))
  refine if2 (fun _ => ?_) (fun _ => l_nil ?_)
  · refine l_cons (s_ret ?_)
    refine e_bin (e_bin ?_)
    refine e_slL1 sl_str ?_
    refine e_var (e_var ⟨_, rfl, z, rfl, hz', ?_⟩)
    have l0 : (cutS z none (some (a : Int))).length ≤ a := len_hi z a
    have c0 : opc (cs (cutS z none (some (a : Int)))) = opc ((cs z).take a) := opc_hi z a
    generalize cutS z none (some (a : Int)) = y0 at l0 c0
    refine e_ix (e_str (e_call (by exact FX) (by exact hr) (by decide) ?_))
    refine a_cons (e_var (a_cons (e_int (a_nil ⟨p, 4, rfl, by decide, by decide, p2, fun d3 H3 i0 i1 b3 p3 => ?_⟩))))
    obtain ⟨c, hc, _⟩ := at_mem (l := cs (Str.ofString "a1 0")) i0 (by rw [show (cs (Str.ofString "a1 0")).length = 4 by decide +kernel]; exact i1)
    refine ix_s (by decide +kernel) hc ?_
    have l1 : (sg c).length ≤ 1 := Nat.le_refl 1
    have c1 : opc (cs (sg c)) ≤ 1 := opc_le [c]
    generalize sg c = y1 at l1 c1
    refine o_addS (by omega) ?_
    have lA1 := app_len y0 y1
    have cA1 : opc (cs (y0 ++ y1)) = opc (cs y0) + opc (cs y1) := by rw [cs_app, opc_app]
    generalize y0 ++ y1 = w1 at lA1 cA1
    refine e_slL0 sl_str ?_
    refine e_var (e_var ⟨_, rfl, z, rfl, hz', ?_⟩)
    have l2 : (cutS z (some (a : Int)) none).length ≤ z.length - a := by simpa using len_lo z a 0
    have c2 : opc (cs (cutS z (some (a : Int)) none)) ≤ opc ((cs z).drop a) := by simpa using opc_lo z a 0
    generalize cutS z (some (a : Int)) none = y2 at l2 c2
    refine o_addS (by omega) ?_
    have lA2 := app_len w1 y2
    have cA2 : opc (cs (w1 ++ y2)) = opc (cs w1) + opc (cs y2) := by rw [cs_app, opc_app]
    generalize w1 ++ y2 = w2 at lA2 cA2
    exact q _ _ (b02.trans b3) p3 (by omega) (by omega)
  exact l_cons (s_ret (e_var (q z H2 b02 p2 (by omega) (by omega))))
end



local macro_rules | `(tactic| walk_at "tv") => `(tactic| first
  | exact pv_var
  | exact tv_var
  | exact pv_lenS pv_var (by assumption)
  | exact pv_lenL pv_var (by assumption)
  | with_reducible exact pv_str
  | with_reducible exact pv_int
  | with_reducible exact pv_non
  | with_reducible exact pv_bl
  | with_reducible refine tv_w ?_
  | with_reducible refine tw_and (x := ?_) (y := ?_) ?_ ?_
  | with_reducible refine tw_or (x := ?_) (y := ?_) ?_ ?_
  | with_reducible refine tw_and1 ?_
  | with_reducible refine tw_or1 ?_
  | with_reducible refine tv_not (x := ?_) ?_
  | with_reducible refine tv_eqS (m := ?_) (n := ?_) ?_ ?_
  | with_reducible refine tv_neS (m := ?_) (n := ?_) ?_ ?_
  | with_reducible refine tv_eqI (i := ?_) (j := ?_) ?_ ?_
  | with_reducible refine tv_neI (i := ?_) (j := ?_) ?_ ?_
  | with_reducible refine tv_lt (i := ?_) (j := ?_) ?_ ?_
  | with_reducible refine tv_gt (i := ?_) (j := ?_) ?_ ?_
  | with_reducible refine tv_le (i := ?_) (j := ?_) ?_ ?_
  | with_reducible refine tv_ge (i := ?_) (j := ?_) ?_ ?_
  | refine tv_inT (m := ?_) (zs := ?_) ?_ ?_ ?_
  | refine tv_ninT (m := ?_) (zs := ?_) ?_ ?_ ?_
  | refine tv_inS (k := ?_) (n := ?_) ?_ ?_
  | (show List.length _ ≤ 1000; decide)
  | with_reducible exact Paired.nil
  | with_reducible refine Paired.cons (l₂ := ?_) pc1 ?_)
local macro_rules | `(tactic| walk_at "tvs") => `(tactic| repeat' walk_at "tv")
section
variable {P : Program} {w : World} {K : PySem.W.Frag} {mg : Str → Option Value} {base : Heap} {C CT CH : Addr}
def spFrame : Sp := fun vs H Q _ => vs = [] ∧ ∀ d r H', Same H H' → H d = none → H r = none → r ≠ d → LFr H' (d, r) (none, []) none → Q (.ref d) H'
theorem ok_frame (T : Top K mg "_law_frame" s_frame) : Fn P w K mg base 1 "_law_frame" spFrame := by
  refine fn_ok T sc_frame so_frame (fun vs H Q E h => by obtain ⟨rfl, _⟩ := h; rfl) (fun _ _ _ _ _ _ us hl => match us, hl with | [], _ => rfl) fun f cdv A outer s H vs Q E hr h nd => ?_
  obtain ⟨rfl, q⟩ := h
  refine l_cons (s_ret (e_d3 fun p np => e_str (e_non (e_str (e_lst (a_nil ⟨by show 0 ≤ sizeLine; decide, fun r H2 e2 n2 h2 => e_str (e_str ⟨e2 _ _ upd_same, "part", "rows", "mode", rfl, rfl, rfl, by decide +kernel, by decide +kernel, by decide +kernel, ?_⟩)⟩))))))
  have nrp : r ≠ p := fun z => by subst z; rw [upd_same] at n2; cases n2
  rw [upd_ne nrp] at n2
  refine q p r _ (fun x o hx => ?_) np n2 nrp ?_
  · rw [upd_ne (ne_of_none hx np)]
    exact e2 _ _ (by rw [upd_ne (ne_of_none hx np)]; exact hx)
  · exact ⟨⟨.non, .str "once", upd_same, rfl, rfl, trivial⟩, [], by rw [upd_ne nrp]; exact h2, trivial⟩
theorem lfl_len {pv md : V} {rl : Addr} : (lfl pv rl md).length < sizeLine := by show 3 < sizeLine; decide
theorem TS.dk {a : Addr} {kvs : List (Key × V)} {H : Hp} {o : HO} (ha : H a = some (.dK kvs)) : TS H (L2.upd H a o) := fun t xs h => by
  rw [upd_ne (ne_of h ha (by intro z; cases z))]
  exact h
def spJoin : Sp := fun vs H Q _ => ∃ u v x H0 a as s st k, vs = [.ref u, v] ∧ LRd u H0 H a as s st k ∧ SnV H v x ∧ ∀ H', TS H H' → LRd u H0 H' a as (some (put s.1 x), s.2) st k → Q .non H'
theorem ok_join (T : Top K mg "_law_join" s_join) : Fn P w K mg base 1 "_law_join" spJoin := by
  refine fn_ok T sc_join so_join (fun vs H Q E h => by obtain ⟨u, v, x, H0, a, as, s, st, k, rfl, _⟩ := h; rfl) (fun _ _ _ _ _ _ us hl => match us, hl with | [_, _], _ => rfl) fun f cdv A outer s H vs Q E hr h nd => ?_
  obtain ⟨u, v, x, H0, a, as, s, st, k, rfl, hR, hv, q⟩ := h
  obtain ⟨⟨pv, mv, c1, c2, c3, c4⟩, es, d1, d2⟩ := id hR.tp
  refine l_cons (s_set (e_ix (e_var (e_neg (e_int ⟨1, rfl, ix_l (by exact SqL.of hR.hd) last_at ?_⟩)))))
  show wL _ _ _ [some (.ref u), some v, some (.ref a.1)] _
  have fin : ∀ H1 y, Same H H1 → SnV H1 y (put s.1 x) → LRd u H0 (upd H1 a.1 (.dK (lfl y a.2 mv))) a as (some (put s.1 x), s.2) st k ∧ TS H (upd H1 a.1 (.dK (lfl y a.2 mv))) := by
    intro H1 y e1 hy
    have ts : TS H1 (upd H1 a.1 (.dK (lfl y a.2 mv))) := TS.dk (e1 _ _ c1)
    refine ⟨(hR.same e1).top (fun z o n1 _ hz => by rw [upd_ne n1]; exact hz) ts ⟨⟨y, mv, upd_same, SnV.ts ts hy, (c3.ts (Same.ts e1)).ts ts, c4⟩, es, ?_, (d2.ts (Same.ts e1)).ts ts⟩, (Same.ts e1).trans ts⟩
    rw [upd_ne hR.ne.2.2.symm]
    exact e1 _ _ d1
  refine l_cons (s_if (t_cmp (e_ix (e_var (e_str (ix_d (by exact hr) ⟨_, _, rfl, dg_k c1 (lfl_part pv mv a.2), e_non (o_isN ⟨_, rfl, ?_⟩)⟩))))))
  cases hs : s.1 with
  | none =>
    rw [hs] at c2 fin q
    obtain rfl : pv = .non := c2
    refine ite_t (by simp) (l_cons (s_dput (hu_of (by exact hr)) (e_var (e_var (e_str ⟨_, _, rfl, .inl ⟨_, Sum.inr "part", c1, rfl, lfl_len, rfl⟩, l_nil (l_nil ?_)⟩)))))
    rw [lfl_putP]
    obtain ⟨f1, f2⟩ := fin H v (Same.refl H) hv
    exact q _ f2 f1
  | some y =>
    rw [hs] at c2 fin q
    have c2 : SnV H pv y := c2
    obtain ⟨t0, rfl⟩ := c2.ref
    refine ite_f (by simp) (l_cons (s_dput (hu_of (by exact hr)) ?_))
    refine e_tup (a_cons (e_str (a_cons (e_ix (e_var (e_str (ix_d (by exact hr) ⟨_, _, rfl, dg_k c1 (lfl_part _ mv a.2), a_cons (e_var (a_nil ⟨by show 3 ≤ sizeLine; decide, fun t H1 e1 _ ht => ?_⟩))⟩)))))))
    refine e_var (e_str ⟨_, _, rfl, .inl ⟨_, Sum.inr "part", e1 _ _ c1, rfl, lfl_len, rfl⟩, l_nil (l_nil ?_)⟩)
    rw [lfl_putP]
    obtain ⟨f1, f2⟩ := fin H1 (.ref t) e1 ⟨t, _, _, rfl, ht, c2.ts (Same.ts e1), hv.ts (Same.ts e1)⟩
    exact q _ f2 f1
def spFold : Sp := fun vs H Q _ => ∃ a p ps k, vs = [.ref a.1] ∧ LFr H a (some p, ps) k ∧ ∀ v H', Same H H' → SnV H' v (whole ps p) → Q v H'
theorem ok_fold (T : Top K mg "_law_fold" s_fold) (mR : mg "reversed" = none) : Fn P w K mg base 1 "_law_fold" spFold := by
  refine fn_ok T sc_fold so_fold (fun vs H Q E h => by obtain ⟨a, p, ps, k, rfl, _⟩ := h; rfl) (fun _ _ _ _ _ _ us hl => match us, hl with | [_], _ => rfl) fun f cdv A outer s H vs Q E hr h nd => ?_
  obtain ⟨a, p, ps, k, rfl, ⟨⟨pv, mv, c1, c2, c3, c4⟩, es, d1, d2⟩, q⟩ := h
  have lps := d2.len
  have hrev := d2.rev
  refine l_cons (s_set (e_ix (e_var (e_str (ix_d (by exact hr) ⟨_, _, rfl, dg_k c1 (lfl_part pv mv a.2), ?_⟩)))))
  show wL _ _ _ [some (.ref a.1), some pv, none] _
  refine l_cons (s_forRv (by assumption) ?_)
  refine e_ix (e_var (e_str (ix_d (by exact hr) ⟨_, _, rfl, dg_k c1 (lfl_rows pv mv a.2), a.2, es, rfl, SqL.of d1, ?_⟩)))
  refine ⟨fun j σ H' => ∃ y x3, σ = [some (.ref a.1), some y, x3] ∧ Same H H' ∧ SnV H' y ((ps.reverse.take j).foldl (fun m kp => .trade kp.1 kp.2 m) p), ⟨pv, none, rfl, Same.refl H, by rw [List.take_zero]; exact c2⟩, ?_, ?_, ?_⟩
  · rintro j σ H' _ ⟨_, _, _, e, _⟩
    exact SqL.of (e _ _ d1)
  · rintro j y σ H' hy ⟨y2, x3, rfl, e, hv⟩
    obtain ⟨kp, hkp, t, m, x, rfl, ht, hm, hx, hok⟩ := hrev.get hy
    have ht' := e _ _ ht
    show wL _ _ _ [some (.ref a.1), some y2, some (.ref t)] _
    refine l_cons (s_set (e_tup ?_))
    refine a_cons <| e_str <| a_cons <| e_ix <| e_var <| e_int <| ix_t (by exact SqT.of ht') at0 <| a_cons <| e_ix <| e_var <| e_int <| ix_t (by exact SqT.of ht') at1 <| a_cons <| e_var <| a_nil ⟨by show 4 ≤ sizeLine; decide, fun t' H1 e1 _ h1 => l_nil ⟨_, _, rfl, e.trans e1, ?_⟩⟩
    have et : ps.reverse.take (j + 1) = ps.reverse.take j ++ [kp] := by
      rw [List.take_add_one, hkp]
      rfl
    rw [et, List.foldl_append]
    exact ⟨t', m, x, y2, rfl, h1, hm.ts (Same.ts (e.trans e1)), SnV.ts (Same.ts (e.trans e1)) hx, SnV.ts (Same.ts e1) hv⟩
  · rintro σ H' ⟨y2, x3, rfl, e, hv⟩
    refine l_cons (s_ret (e_var ?_))
    refine q y2 H' e ?_
    rw [lps, show ps.length = ps.reverse.length by simp, List.take_length] at hv
    exact hv
/-! ### between the brackets -/
def brkF (z num r : Str) (c : Nat) : Str × Str :=
  if (decide (sg c = Str.ofString " ") && decide (z = Str.ofString "uses+")) = true then ("slash", r)
  else if (decide (sg c = Str.ofString " ") && decide (z = Str.ofString "days+")) = true then ("close", r)
  else if decide (sg c = Str.ofString " ") = true then (z, r)
  else if (decide (c ∈ cs (Str.ofString "0123456789")) && (decide (z ∈ [Str.ofString "uses+", Str.ofString "days+"]) && (!decide (num = Str.ofString "0") && decide ((num.length : Int) < 9)))) = true then (z, r ++ sg c)
  else if (decide (c ∈ cs (Str.ofString "0123456789")) && (decide (z = Str.ofString "days") || (decide (z = Str.ofString "uses") && !decide (sg c = Str.ofString "0")))) = true then (z ++ Str.ofString "+", r ++ sg c)
  else if (decide (sg c = Str.ofString "/") && decide (z ∈ [Str.ofString "uses+", Str.ofString "slash"])) = true then ("days", r ++ Str.ofString "/")
  else if (decide (sg c = Str.ofString "]") && decide (z ∈ [Str.ofString "days+", Str.ofString "close"])) = true then ("done", r)
  else ("", r)
def spBrk : Sp := fun vs H Q _ => ∃ (z r num : Str) (ys : List Str) (c : Nat), vs = [.str z, .str r, .str (sg c)] ∧ z.length ≤ 100 ∧ r.length ≤ 100 ∧ num.length ≤ 100 ∧ Txt.split r "/" = ys ++ [num] ∧ ∀ t H', Same H H' → H' t = some (.tup [.str (brkF z num r c).1, .str (brkF z num r c).2]) → Q (.ref t) H'
theorem ok_brk (T : Top K mg "_law_bracket" s_bracket) (mL : mg "len" = none) : Fn P w K mg base 1 "_law_bracket" spBrk := by
  refine fn_ok T sc_bracket so_bracket (fun vs H Q E h => by obtain ⟨z, r, num, ys, c, rfl, _⟩ := h; rfl) (fun _ _ _ _ _ _ us hl => match us, hl with | [_, _, _], _ => rfl) fun f cdv A outer s H vs Q E hr h nd => ?_
  obtain ⟨z, r, num, ys, c, rfl, hz, hr1, hn, hsp, q⟩ := h
  have lplus : (Str.ofString "+").length = 1 := by decide +kernel
  have lsl : (Str.ofString "/").length = 1 := by decide +kernel
  have hns : num.length ≤ sizeLine := Nat.le_trans hn (by decide)
  refine l_cons (s_set (e_ix (e_split (e_var ⟨r, rfl, e_str ⟨_, rfl, by decide +kernel, by show _ ≤ 2 ^ 24; omega, fun l H1 e1 _ h1 => ?_⟩⟩))))
  rw [show Txt.split r (Str.ofString "/") = ys ++ [num] from hsp, List.map_append] at h1
  refine e_neg (e_int ⟨1, rfl, ix_l (by exact SqL.of h1) last_at ?_⟩)
  show wL _ _ _ [some (.str z), some (.str r), some (.str (sg c)), some (.str num), none] _
  refine l_cons (s_set (pv_use (pv_inS (k := c) pv_var pv_str rfl) fun H2 e2 => ?_))
  show wL _ _ _ [some (.str z), some (.str r), some (.str (sg c)), some (.str num), some (.bl (decide (c ∈ cs (Str.ofString "0123456789"))))] _
  generalize hdg : decide (c ∈ cs (Str.ofString "0123456789")) = dg
  have e12 := e1.trans e2
  have go : ∀ {H3 : Hp} (y1 y2 : Str), Same H H3 → brkF z num r c = (y1, y2) → ∀ t H4, Same H3 H4 → H4 t = some (.tup [.str y1, .str y2]) → Q (.ref t) H4 := fun y1 y2 e3 hb t H4 e4 h4 => q t H4 (e3.trans e4) (by rw [hb]; exact h4)
  refine l_cons (s_ift (x := ?b1) ?t1 (fun k1 H3 e3 => ?_) fun k1 H3 e3 => l_nil ?_)
  case t1 => walk_at "tvs"
  · refine l_cons (s_ret (e_tup (a_cons (e_str (a_cons (e_var (a_nil ⟨by show 2 ≤ sizeLine; decide, fun t H4 e4 _ h4 => ?_⟩)))))))
    exact go _ _ (e12.trans e3) (by unfold brkF; rw [if_pos k1]) t H4 e4 h4
  refine l_cons (s_ift (x := ?b2) ?t2 (fun k2 H4 e4 => ?_) fun k2 H4 e4 => l_nil ?_)
  case t2 => walk_at "tvs"
  · refine l_cons (s_ret (e_tup (a_cons (e_str (a_cons (e_var (a_nil ⟨by show 2 ≤ sizeLine; decide, fun t H5 e5 _ h5 => ?_⟩)))))))
    exact go _ _ ((e12.trans e3).trans e4) (by unfold brkF; rw [if_neg (by rw [k1]; decide), if_pos k2]) t H5 e5 h5
  refine l_cons (s_ift (x := ?b3) ?t3 (fun k3 H5 e5 => ?_) fun k3 H5 e5 => l_nil ?_)
  case t3 => walk_at "tvs"
  · refine l_cons (s_ret (e_tup (a_cons (e_var (a_cons (e_var (a_nil ⟨by show 2 ≤ sizeLine; decide, fun t H6 e6 _ h6 => ?_⟩)))))))
    exact go _ _ (((e12.trans e3).trans e4).trans e5) (by unfold brkF; rw [if_neg (by rw [k1]; decide), if_neg (by rw [k2]; decide), if_pos k3]) t H6 e6 h6
  refine l_cons (s_ift (x := ?b4) ?t4 (fun k4 H6 e6 => ?_) fun k4 H6 e6 => l_nil ?_)
  case t4 =>
    walk_at "tvs"
  · refine l_cons <| s_ret <| e_tup <| a_cons <| e_var <| a_cons <| e_bin <| e_var <| e_var <| o_addS ?hh <| a_nil ⟨by show 2 ≤ sizeLine; decide, fun t H7 e7 _ h7 => ?_⟩
    case hh => show _ + 1 ≤ _; omega
    exact go _ _ ((((e12.trans e3).trans e4).trans e5).trans e6) (by unfold brkF; rw [hdg, if_neg (by rw [k1]; decide), if_neg (by rw [k2]; decide), if_neg (by rw [k3]; decide), if_pos k4]) t H7 e7 h7
  refine l_cons (s_ift (x := ?b5) ?t5 (fun k5 H7 e7 => ?_) fun k5 H7 e7 => l_nil ?_)
  case t5 =>
    walk_at "tvs"
  · refine l_cons <| s_ret <| e_tup <| a_cons <| e_bin <| e_var <| e_str <| o_addS ?hp <| a_cons <| e_bin <| e_var <| e_var <| o_addS ?hh <| a_nil ⟨by show 2 ≤ sizeLine; decide, fun t H8 e8 _ h8 => ?_⟩
    case hp => rw [lplus]; omega
    case hh => show _ + 1 ≤ _; omega
    exact go _ _ (((((e12.trans e3).trans e4).trans e5).trans e6).trans e7) (by unfold brkF; rw [hdg, if_neg (by rw [k1]; decide), if_neg (by rw [k2]; decide), if_neg (by rw [k3]; decide), if_neg (by rw [k4]; decide), if_pos k5]) t H8 e8 h8
  refine l_cons (s_ift (x := ?b6) ?t6 (fun k6 H8 e8 => ?_) fun k6 H8 e8 => l_nil ?_)
  case t6 =>
    walk_at "tvs"
  · refine l_cons <| s_ret <| e_tup <| a_cons <| e_str <| a_cons <| e_bin <| e_var <| e_str <| o_addS ?hs <| a_nil ⟨by show 2 ≤ sizeLine; decide, fun t H9 e9 _ h9 => ?_⟩
    case hs => rw [lsl]; omega
    exact go _ _ ((((((e12.trans e3).trans e4).trans e5).trans e6).trans e7).trans e8) (by unfold brkF; rw [hdg, if_neg (by rw [k1]; decide), if_neg (by rw [k2]; decide), if_neg (by rw [k3]; decide), if_neg (by rw [k4]; decide), if_neg (by rw [k5]; decide), if_pos k6]) t H9 e9 h9
  refine l_cons (s_ift (x := ?b7) ?t7 (fun k7 H9 e9 => ?_) fun k7 H9 e9 => l_nil ?_)
  case t7 =>
    walk_at "tvs"
  · refine l_cons (s_ret (e_tup (a_cons (e_str (a_cons (e_var (a_nil ⟨by show 2 ≤ sizeLine; decide, fun t H10 e10 _ h10 => ?_⟩)))))))
    exact go _ _ (((((((e12.trans e3).trans e4).trans e5).trans e6).trans e7).trans e8).trans e9) (by unfold brkF; rw [hdg, if_neg (by rw [k1]; decide), if_neg (by rw [k2]; decide), if_neg (by rw [k3]; decide), if_neg (by rw [k4]; decide), if_neg (by rw [k5]; decide), if_neg (by rw [k6]; decide), if_pos k7]) t H10 e10 h10
  · refine l_cons (s_ret (e_tup (a_cons (e_str (a_cons (e_var (a_nil ⟨by show 2 ≤ sizeLine; decide, fun t H10 e10 _ h10 => ?_⟩)))))))
    exact go _ _ (((((((e12.trans e3).trans e4).trans e5).trans e6).trans e7).trans e8).trans e9) (by unfold brkF; rw [hdg, if_neg (by rw [k1]; decide), if_neg (by rw [k2]; decide), if_neg (by rw [k3]; decide), if_neg (by rw [k4]; decide), if_neg (by rw [k5]; decide), if_neg (by rw [k6]; decide), if_neg (by rw [k7]; decide)]) t H10 e10 h10
end



/-! ### what is told between the brackets -/
theorem sg_inj {c d : Nat} : (sg c = sg d) ↔ c = d := ⟨fun h => by have := congrArg cs h; simpa [cs, sg] using this, fun h => by rw [h]⟩
theorem sg_sp' : Str.ofString " " = sg 32 := by decide +kernel
theorem sg_z0 : Str.ofString "0" = sg 48 := by decide +kernel
theorem sg_sl' : Str.ofString "/" = sg 47 := by decide +kernel
theorem sg_rb' : Str.ofString "]" = sg 93 := by decide +kernel
theorem dec_sg {c d : Nat} : decide (sg c = sg d) = decide (c = d) := by
  by_cases h : c = d
  · subst h; simp
  · rw [decide_eq_false h, decide_eq_false fun z => h (sg_inj.mp z)]
theorem dig_in (c : Nat) : decide (c ∈ cs (Str.ofString "0123456789")) = dig1 c := by
  rw [digits_cs]
  unfold dig1
  by_cases h : c ∈ List.range' 48 10
  · rw [decide_eq_true h]
    simp only [List.mem_range'_1] at h
    rw [decide_eq_true h.1, decide_eq_true (show c ≤ 57 by omega)]
    rfl
  · rw [decide_eq_false h]
    simp only [List.mem_range'_1] at h
    by_cases h1 : 48 ≤ c
    · rw [decide_eq_false (show ¬ c ≤ 57 by omega)]; simp
    · rw [decide_eq_false h1]; simp
def isArr : LSt → Bool
  | .arrow .. => true
  | _ => false
def brkR (S : LSt) (c : Nat) (y : Str × Str) : Prop := (lstep S c = none → y.1 = "") ∧ ∀ S', lstep S c = some S' → (isArr S' = true → y.1 = "done") ∧ (isArr S' = false → y.1 = stT S' ∧ cs y.2 = rnT S')
theorem brkR_none {S : LSt} {c : Nat} {y2 : Str} (h : lstep S c = none) : brkR S c ("", y2) := ⟨fun _ => rfl, fun S' z => (by rw [h] at z; cases z)⟩
theorem brkR_some {S S1 : LSt} {c : Nat} {y1 y2 : Str} (h : lstep S c = some S1) (na : isArr S1 = false) (e1 : y1 = stT S1) (e2 : cs y2 = rnT S1) : brkR S c (y1, y2) :=
  ⟨fun z => (by rw [h] at z; cases z), fun S' z => by rw [h] at z; cases z; exact ⟨fun z => (by rw [na] at z; cases z), fun _ => ⟨e1, e2⟩⟩⟩
theorem brkR_arr {S S1 : LSt} {c : Nat} {y2 : Str} (h : lstep S c = some S1) (na : isArr S1 = true) : brkR S c ("done", y2) :=
  ⟨fun z => (by rw [h] at z; cases z), fun S' z => by rw [h] at z; cases z; exact ⟨fun _ => rfl, fun z => (by rw [na] at z; cases z)⟩⟩
def isBrk : LSt → Bool
  | .uses .. => true
  | .usesP .. => true
  | .slash .. => true
  | .days .. => true
  | .daysP .. => true
  | .close .. => true
  | _ => false
theorem str_dec (x y : Str) : decide (x = y) = decide (cs x = cs y) := by
  by_cases h : x = y
  · subst h; rw [decide_eq_true rfl, decide_eq_true rfl]
  · rw [decide_eq_false h, decide_eq_false fun z => h (cs_ext z)]
theorem more_dec {num : Str} {u : List Nat} (hn : cs num = u) (c : Nat) : (dig1 c && (!decide (num = sg 48) && decide ((num.length : Int) < 9))) = more u c := by
  have e1 : decide (num = sg 48) = decide (u = [48]) := by
    rw [str_dec, hn]
  have e2 : decide ((num.length : Int) < 9) = decide (u.length < 9) := by
    rw [len_cs, hn]
    by_cases h : u.length < 9
    · rw [decide_eq_true h, decide_eq_true (by omega)]
    · rw [decide_eq_false h, decide_eq_false (by omega)]
  rw [e1, e2]
  unfold more
  by_cases h : u = [48]
  · subst h; simp
  · rw [decide_eq_false h, decide_eq_true (show u ≠ [48] from h)]
    cases dig1 c <;> simp
theorem brk_uses (u d : List Nat) {x : Sn} {ps : Prs} {fs : Frs} {num r : Str} (hr : cs r = rnT (.uses x ps fs)) (hn : cs num = []) (c : Nat) : brkR (.uses x ps fs) c (brkF "uses" num r c) := by
  have d0 : decide (Str.ofString "uses" = Str.ofString "uses+") = false := by decide +kernel
  have d1 : decide (Str.ofString "uses" = Str.ofString "days+") = false := by decide +kernel
  have d2 : decide (Str.ofString "uses" = Str.ofString "days") = false := by decide +kernel
  have d3 : decide (Str.ofString "uses" = Str.ofString "uses") = true := by decide +kernel
  have d4 : decide (Str.ofString "uses" ∈ [Str.ofString "uses+", Str.ofString "days+"]) = false := by decide +kernel
  have d5 : decide (Str.ofString "uses" ∈ [Str.ofString "uses+", Str.ofString "slash"]) = false := by decide +kernel
  have d6 : decide (Str.ofString "uses" ∈ [Str.ofString "days+", Str.ofString "close"]) = false := by decide +kernel
  unfold brkF
  rw [d0, d1, d2, d3, d4, d5, d6, sg_sp', sg_z0, sg_sl', sg_rb', dec_sg, dec_sg, dec_sg, dec_sg, dig_in]
  simp only [Bool.true_and, Bool.false_and, Bool.and_true, Bool.and_false, Bool.or_false, Bool.false_or, Bool.or_true, Bool.true_or, more_dec hn, if_true, if_false, Bool.false_eq_true]
  by_cases h32 : c = 32
  · subst h32
    simp only [decide_true, if_true]
    exact brkR_some rfl rfl rfl hr
  rw [decide_eq_false h32]
  simp only [Bool.false_eq_true, if_false]
  by_cases hd : dig1 c = true ∧ c ≠ 48
  · rw [if_pos (by rw [hd.1, decide_eq_false hd.2]; rfl)]
    exact brkR_some (S1 := .usesP [c] x ps fs) (by show (if c = 32 then _ else if dig1 c = true ∧ c ≠ 48 then _ else _) = _; rw [if_neg h32, if_pos hd]) rfl (by show _ = Str.ofString "uses+"; decide +kernel) (by rw [cs_app, hr]; rfl)
  · rw [if_neg (by
      intro z
      simp only [Bool.and_eq_true, Bool.not_eq_true', decide_eq_false_iff_not] at z
      exact hd z)]
    exact brkR_none (by show (if c = 32 then _ else if dig1 c = true ∧ c ≠ 48 then _ else _) = _; rw [if_neg h32, if_neg hd])
theorem brk_usesP (u d : List Nat) {x : Sn} {ps : Prs} {fs : Frs} {num r : Str} (hr : cs r = rnT (.usesP u x ps fs)) (hn : cs num = u) (c : Nat) : brkR (.usesP u x ps fs) c (brkF "uses+" num r c) := by
  have d0 : decide (Str.ofString "uses+" = Str.ofString "uses+") = true := by decide +kernel
  have d1 : decide (Str.ofString "uses+" = Str.ofString "days+") = false := by decide +kernel
  have d2 : decide (Str.ofString "uses+" = Str.ofString "days") = false := by decide +kernel
  have d3 : decide (Str.ofString "uses+" = Str.ofString "uses") = false := by decide +kernel
  have d4 : decide (Str.ofString "uses+" ∈ [Str.ofString "uses+", Str.ofString "days+"]) = true := by decide +kernel
  have d5 : decide (Str.ofString "uses+" ∈ [Str.ofString "uses+", Str.ofString "slash"]) = true := by decide +kernel
  have d6 : decide (Str.ofString "uses+" ∈ [Str.ofString "days+", Str.ofString "close"]) = false := by decide +kernel
  unfold brkF
  rw [d0, d1, d2, d3, d4, d5, d6, sg_sp', sg_z0, sg_sl', sg_rb', dec_sg, dec_sg, dec_sg, dec_sg, dig_in]
  simp only [Bool.true_and, Bool.false_and, Bool.and_true, Bool.and_false, Bool.or_false, Bool.false_or, Bool.or_true, Bool.true_or, more_dec hn, if_true, if_false, Bool.false_eq_true]
  by_cases h32 : c = 32
  · subst h32
    simp only [decide_true, if_true]
    exact brkR_some rfl rfl rfl hr
  rw [decide_eq_false h32]
  simp only [Bool.false_eq_true, if_false]
  have st : lstep (.usesP u x ps fs) c = if c = 32 then some (.slash u x ps fs) else if more u c = true then some (.usesP (u ++ [c]) x ps fs) else if c = 47 then some (.days u x ps fs) else none := rfl
  rw [if_neg h32] at st
  by_cases hm : more u c = true
  · rw [if_pos hm] at st ⊢
    exact brkR_some st rfl rfl (by rw [cs_app, hr]; rfl)
  rw [if_neg hm] at st ⊢
  by_cases h47 : c = 47
  · rw [if_pos h47] at st
    rw [decide_eq_true h47, if_pos rfl]
    exact brkR_some st rfl rfl (by rw [cs_app, hr]; rfl)
  · rw [if_neg h47] at st
    rw [decide_eq_false h47, if_neg (by decide)]
    exact brkR_none st
theorem brk_slash (u d : List Nat) {x : Sn} {ps : Prs} {fs : Frs} {num r : Str} (hr : cs r = rnT (.slash u x ps fs)) (hn : cs num = u) (c : Nat) : brkR (.slash u x ps fs) c (brkF "slash" num r c) := by
  have d0 : decide (Str.ofString "slash" = Str.ofString "uses+") = false := by decide +kernel
  have d1 : decide (Str.ofString "slash" = Str.ofString "days+") = false := by decide +kernel
  have d2 : decide (Str.ofString "slash" = Str.ofString "days") = false := by decide +kernel
  have d3 : decide (Str.ofString "slash" = Str.ofString "uses") = false := by decide +kernel
  have d4 : decide (Str.ofString "slash" ∈ [Str.ofString "uses+", Str.ofString "days+"]) = false := by decide +kernel
  have d5 : decide (Str.ofString "slash" ∈ [Str.ofString "uses+", Str.ofString "slash"]) = true := by decide +kernel
  have d6 : decide (Str.ofString "slash" ∈ [Str.ofString "days+", Str.ofString "close"]) = false := by decide +kernel
  unfold brkF
  rw [d0, d1, d2, d3, d4, d5, d6, sg_sp', sg_z0, sg_sl', sg_rb', dec_sg, dec_sg, dec_sg, dec_sg, dig_in]
  simp only [Bool.true_and, Bool.false_and, Bool.and_true, Bool.and_false, Bool.or_false, Bool.false_or, Bool.or_true, Bool.true_or, more_dec hn, if_true, if_false, Bool.false_eq_true]
  by_cases h32 : c = 32
  · subst h32
    simp only [decide_true, if_true]
    exact brkR_some rfl rfl rfl hr
  rw [decide_eq_false h32]
  simp only [Bool.false_eq_true, if_false]
  have st : lstep (.slash u x ps fs) c = if c = 32 then some (.slash u x ps fs) else if c = 47 then some (.days u x ps fs) else none := rfl
  rw [if_neg h32] at st
  by_cases h47 : c = 47
  · rw [if_pos h47] at st
    rw [decide_eq_true h47, if_pos rfl]
    exact brkR_some st rfl rfl (by rw [cs_app, hr]; rfl)
  · rw [if_neg h47] at st
    rw [decide_eq_false h47, if_neg (by decide)]
    exact brkR_none st
theorem brk_days (u d : List Nat) {x : Sn} {ps : Prs} {fs : Frs} {num r : Str} (hr : cs r = rnT (.days u x ps fs)) (hn : cs num = []) (c : Nat) : brkR (.days u x ps fs) c (brkF "days" num r c) := by
  have d0 : decide (Str.ofString "days" = Str.ofString "uses+") = false := by decide +kernel
  have d1 : decide (Str.ofString "days" = Str.ofString "days+") = false := by decide +kernel
  have d2 : decide (Str.ofString "days" = Str.ofString "days") = true := by decide +kernel
  have d3 : decide (Str.ofString "days" = Str.ofString "uses") = false := by decide +kernel
  have d4 : decide (Str.ofString "days" ∈ [Str.ofString "uses+", Str.ofString "days+"]) = false := by decide +kernel
  have d5 : decide (Str.ofString "days" ∈ [Str.ofString "uses+", Str.ofString "slash"]) = false := by decide +kernel
  have d6 : decide (Str.ofString "days" ∈ [Str.ofString "days+", Str.ofString "close"]) = false := by decide +kernel
  unfold brkF
  rw [d0, d1, d2, d3, d4, d5, d6, sg_sp', sg_z0, sg_sl', sg_rb', dec_sg, dec_sg, dec_sg, dec_sg, dig_in]
  simp only [Bool.true_and, Bool.false_and, Bool.and_true, Bool.and_false, Bool.or_false, Bool.false_or, Bool.or_true, Bool.true_or, more_dec hn, if_true, if_false, Bool.false_eq_true]
  by_cases h32 : c = 32
  · subst h32
    simp only [decide_true, if_true]
    exact brkR_some rfl rfl rfl hr
  rw [decide_eq_false h32]
  simp only [Bool.false_eq_true, if_false]
  have st : lstep (.days u x ps fs) c = if c = 32 then some (.days u x ps fs) else if dig1 c = true then some (.daysP u [c] x ps fs) else none := rfl
  rw [if_neg h32] at st
  by_cases hd : dig1 c = true
  · rw [if_pos hd] at st ⊢
    exact brkR_some st rfl (by show _ = Str.ofString "days+"; decide +kernel) (by rw [cs_app, hr]; show (u ++ [47]) ++ [c] = u ++ 47 :: [c]; simp)
  · rw [if_neg hd] at st ⊢
    exact brkR_none st
theorem brk_daysP (u d : List Nat) {x : Sn} {ps : Prs} {fs : Frs} {num r : Str} (hr : cs r = rnT (.daysP u d x ps fs)) (hn : cs num = d) (c : Nat) : brkR (.daysP u d x ps fs) c (brkF "days+" num r c) := by
  have d0 : decide (Str.ofString "days+" = Str.ofString "uses+") = false := by decide +kernel
  have d1 : decide (Str.ofString "days+" = Str.ofString "days+") = true := by decide +kernel
  have d2 : decide (Str.ofString "days+" = Str.ofString "days") = false := by decide +kernel
  have d3 : decide (Str.ofString "days+" = Str.ofString "uses") = false := by decide +kernel
  have d4 : decide (Str.ofString "days+" ∈ [Str.ofString "uses+", Str.ofString "days+"]) = true := by decide +kernel
  have d5 : decide (Str.ofString "days+" ∈ [Str.ofString "uses+", Str.ofString "slash"]) = false := by decide +kernel
  have d6 : decide (Str.ofString "days+" ∈ [Str.ofString "days+", Str.ofString "close"]) = true := by decide +kernel
  unfold brkF
  rw [d0, d1, d2, d3, d4, d5, d6, sg_sp', sg_z0, sg_sl', sg_rb', dec_sg, dec_sg, dec_sg, dec_sg, dig_in]
  simp only [Bool.true_and, Bool.false_and, Bool.and_true, Bool.and_false, Bool.or_false, Bool.false_or, Bool.or_true, Bool.true_or, more_dec hn, if_true, if_false, Bool.false_eq_true]
  by_cases h32 : c = 32
  · subst h32
    simp only [decide_true, if_true]
    exact brkR_some rfl rfl rfl hr
  rw [decide_eq_false h32]
  simp only [Bool.false_eq_true, if_false]
  have st : lstep (.daysP u d x ps fs) c = if c = 32 then some (.close u d x ps fs) else if more d c = true then some (.daysP u (d ++ [c]) x ps fs) else if c = 93 then some (.arrow (some ((dv u : Int), (dv d : Int))) x ps fs) else none := rfl
  rw [if_neg h32] at st
  by_cases hm : more d c = true
  · rw [if_pos hm] at st ⊢
    exact brkR_some st rfl rfl (by rw [cs_app, hr]; show (u ++ 47 :: d) ++ [c] = u ++ 47 :: (d ++ [c]); simp)
  rw [if_neg hm] at st ⊢
  by_cases h93 : c = 93
  · rw [if_pos h93] at st
    rw [decide_eq_true h93, if_pos rfl]
    exact brkR_arr st rfl
  · rw [if_neg h93] at st
    rw [decide_eq_false h93, if_neg (by decide)]
    exact brkR_none st
theorem brk_close (u d : List Nat) {x : Sn} {ps : Prs} {fs : Frs} {num r : Str} (hr : cs r = rnT (.close u d x ps fs)) (hn : cs num = d) (c : Nat) : brkR (.close u d x ps fs) c (brkF "close" num r c) := by
  have d0 : decide (Str.ofString "close" = Str.ofString "uses+") = false := by decide +kernel
  have d1 : decide (Str.ofString "close" = Str.ofString "days+") = false := by decide +kernel
  have d2 : decide (Str.ofString "close" = Str.ofString "days") = false := by decide +kernel
  have d3 : decide (Str.ofString "close" = Str.ofString "uses") = false := by decide +kernel
  have d4 : decide (Str.ofString "close" ∈ [Str.ofString "uses+", Str.ofString "days+"]) = false := by decide +kernel
  have d5 : decide (Str.ofString "close" ∈ [Str.ofString "uses+", Str.ofString "slash"]) = false := by decide +kernel
  have d6 : decide (Str.ofString "close" ∈ [Str.ofString "days+", Str.ofString "close"]) = true := by decide +kernel
  unfold brkF
  rw [d0, d1, d2, d3, d4, d5, d6, sg_sp', sg_z0, sg_sl', sg_rb', dec_sg, dec_sg, dec_sg, dec_sg, dig_in]
  simp only [Bool.true_and, Bool.false_and, Bool.and_true, Bool.and_false, Bool.or_false, Bool.false_or, Bool.or_true, Bool.true_or, more_dec hn, if_true, if_false, Bool.false_eq_true]
  by_cases h32 : c = 32
  · subst h32
    simp only [decide_true, if_true]
    exact brkR_some rfl rfl rfl hr
  rw [decide_eq_false h32]
  simp only [Bool.false_eq_true, if_false]
  have st : lstep (.close u d x ps fs) c = if c = 32 then some (.close u d x ps fs) else if c = 93 then some (.arrow (some ((dv u : Int), (dv d : Int))) x ps fs) else none := rfl
  rw [if_neg h32] at st
  by_cases h93 : c = 93
  · rw [if_pos h93] at st
    rw [decide_eq_true h93, if_pos rfl]
    exact brkR_arr st rfl
  · rw [if_neg h93] at st
    rw [decide_eq_false h93, if_neg (by decide)]
    exact brkR_none st
/-- the text of the run, cut at /: what the bracket's reader wants -/
theorem brk_ok {S : LSt} (hb : isBrk S = true) (hw : WF S) {r : Str} (hr : cs r = rnT S) (c : Nat) : r.length ≤ 100 ∧ ∃ ys num, Txt.split r "/" = ys ++ [num] ∧ num.length ≤ 100 ∧ brkR S c (brkF (stT S) num r c) := by
  have one : ∀ u, cs r = u → 47 ∉ u → Txt.split r "/" = [] ++ [r] := fun u e h => by rw [split1 e h rfl]; rfl
  have two : ∀ u d, cs r = u ++ 47 :: d → 47 ∉ u → 47 ∉ d → ∃ y num, Txt.split r "/" = [y] ++ [num] ∧ cs num = d := fun u d e h h2 => by
    have := split2 e h h2 rfl
    match hs : Txt.split r "/", this with
    | [y, num], e => injection e with e1 e2; injection e2 with e2; exact ⟨y, num, rfl, e2⟩
    | [], e => cases e
    | [_], e => cases e
    | _ :: _ :: _ :: _, e => cases e
  cases S with
  | atom => cases hb
  | name => cases hb
  | after => cases hb
  | arrow => cases hb
  | uses x ps fs =>
    have hl : r.length = 0 := by rw [len_cs, hr]; rfl
    exact ⟨by omega, [], r, one [] hr (by simp), by omega, brk_uses [] [] hr hr c⟩
  | usesP u x ps fs =>
    have hw : okD 1 u := hw
    have hr' : cs r = u := hr
    have hl : r.length ≤ 9 := by rw [len_cs, hr']; exact hw.2.2.1
    exact ⟨by omega, [], r, one u hr' (no47 hw), by omega, brk_usesP u [] hr hr' c⟩
  | slash u x ps fs =>
    have hw : okD 1 u := hw
    have hr' : cs r = u := hr
    have hl : r.length ≤ 9 := by rw [len_cs, hr']; exact hw.2.2.1
    exact ⟨by omega, [], r, one u hr' (no47 hw), by omega, brk_slash u [] hr hr' c⟩
  | days u x ps fs =>
    have hw : okD 1 u := hw
    have hr' : cs r = u ++ 47 :: [] := hr
    have h9 := hw.2.2.1
    obtain ⟨y, num, hs, hn⟩ := two u [] hr' (no47 hw) (by simp)
    have hl : num.length = 0 := by rw [len_cs, hn]; rfl
    exact ⟨by rw [len_cs, hr', List.length_append]; show _ + 1 ≤ 100; omega, [y], num, hs, by omega, brk_days u [] hr hn c⟩
  | daysP u d x ps fs =>
    obtain ⟨hw, hw2⟩ : okD 1 u ∧ okD 0 d := hw
    have h9 := hw.2.2.1
    have h92 := hw2.2.2.1
    obtain ⟨y, num, hs, hn⟩ := two u d hr (no47 hw) (no47 hw2)
    have hl : num.length ≤ 9 := by rw [len_cs, hn]; exact h92
    have hr' : cs r = u ++ 47 :: d := hr
    exact ⟨by rw [len_cs, hr', List.length_append, List.length_cons]; omega, [y], num, hs, by omega, brk_daysP u d hr hn c⟩
  | close u d x ps fs =>
    obtain ⟨hw, hw2⟩ : okD 1 u ∧ okD 0 d := hw
    have h9 := hw.2.2.1
    have h92 := hw2.2.2.1
    obtain ⟨y, num, hs, hn⟩ := two u d hr (no47 hw) (no47 hw2)
    have hl : num.length ≤ 9 := by rw [len_cs, hn]; exact h92
    have hr' : cs r = u ++ 47 :: d := hr
    exact ⟨by rw [len_cs, hr', List.length_append, List.length_cons]; omega, [y], num, hs, by omega, brk_close u d hr hn c⟩
/-- what is done with > at the end of the brackets: both numbers -/
theorem brk_nums {S S' : LSt} (hb : isBrk S = true) (hw : WF S) {r : Str} (hr : cs r = rnT S) {c : Nat} (h : lstep S c = some S') (ha : isArr S' = true) : ∃ u d x ps fs, S' = .arrow (some ((dv u : Int), (dv d : Int))) x ps fs ∧ topS' S = (some x, ps) ∧ restS S = fs ∧ topM S = none ∧ okD 1 u ∧ okD 0 d ∧ (Txt.split r "/").map cs = [u, d] := by
  cases S with
  | atom => cases hb
  | name => cases hb
  | after => cases hb
  | arrow => cases hb
  | uses x ps fs =>
    simp only [lstep] at h
    split at h
    · cases h; cases ha
    split at h
    · cases h; cases ha
    · cases h
  | usesP u x ps fs =>
    simp only [lstep] at h
    split at h
    · cases h; cases ha
    split at h
    · cases h; cases ha
    split at h
    · cases h; cases ha
    · cases h
  | slash u x ps fs =>
    simp only [lstep] at h
    split at h
    · cases h; cases ha
    split at h
    · cases h; cases ha
    · cases h
  | days u x ps fs =>
    simp only [lstep] at h
    split at h
    · cases h; cases ha
    split at h
    · cases h; cases ha
    · cases h
  | daysP u d x ps fs =>
    obtain ⟨hw, hw2⟩ : okD 1 u ∧ okD 0 d := hw
    simp only [lstep] at h
    split at h
    · cases h; cases ha
    split at h
    · cases h; cases ha
    split at h
    · cases h
      exact ⟨u, d, x, ps, fs, rfl, rfl, rfl, rfl, hw, hw2, split2 hr (no47 hw) (no47 hw2) rfl⟩
    · cases h
  | close u d x ps fs =>
    obtain ⟨hw, hw2⟩ : okD 1 u ∧ okD 0 d := hw
    simp only [lstep] at h
    split at h
    · cases h; cases ha
    split at h
    · cases h
      exact ⟨u, d, x, ps, fs, rfl, rfl, rfl, rfl, hw, hw2, split2 hr (no47 hw) (no47 hw2) rfl⟩
    · cases h
/-- between the brackets the frames stay -/
theorem brk_keep {S S' : LSt} (hb : isBrk S = true) {c : Nat} (h : lstep S c = some S') (ha : isArr S' = false) : topS' S' = topS' S ∧ restS S' = restS S ∧ topM S' = topM S := by
  cases S with
  | atom => cases hb
  | name => cases hb
  | after => cases hb
  | arrow => cases hb
  | uses x ps fs =>
    simp only [lstep] at h
    split at h
    · cases h; exact ⟨rfl, rfl, rfl⟩
    split at h
    · cases h; exact ⟨rfl, rfl, rfl⟩
    · cases h
  | usesP u x ps fs =>
    simp only [lstep] at h
    split at h
    · cases h; exact ⟨rfl, rfl, rfl⟩
    split at h
    · cases h; exact ⟨rfl, rfl, rfl⟩
    split at h
    · cases h; exact ⟨rfl, rfl, rfl⟩
    · cases h
  | slash u x ps fs =>
    simp only [lstep] at h
    split at h
    · cases h; exact ⟨rfl, rfl, rfl⟩
    split at h
    · cases h; exact ⟨rfl, rfl, rfl⟩
    · cases h
  | days u x ps fs =>
    simp only [lstep] at h
    split at h
    · cases h; exact ⟨rfl, rfl, rfl⟩
    split at h
    · cases h; exact ⟨rfl, rfl, rfl⟩
    · cases h
  | daysP u d x ps fs =>
    simp only [lstep] at h
    split at h
    · cases h; exact ⟨rfl, rfl, rfl⟩
    split at h
    · cases h; exact ⟨rfl, rfl, rfl⟩
    split at h
    · cases h; cases ha
    · cases h
  | close u d x ps fs =>
    simp only [lstep] at h
    split at h
    · cases h; exact ⟨rfl, rfl, rfl⟩
    split at h
    · cases h; cases ha
    · cases h



local macro_rules | `(tactic| walk_at "tv") => `(tactic| first
  | exact pv_var
  | exact tv_var
  | exact pv_lenS pv_var (by assumption)
  | exact pv_lenL pv_var (by assumption)
  | with_reducible exact pv_str
  | with_reducible exact pv_int
  | with_reducible exact pv_non
  | with_reducible exact pv_bl
  | with_reducible refine tv_w ?_
  | with_reducible refine tw_and (x := ?_) (y := ?_) ?_ ?_
  | with_reducible refine tw_or (x := ?_) (y := ?_) ?_ ?_
  | with_reducible refine tw_and1 ?_
  | with_reducible refine tw_or1 ?_
  | with_reducible refine tv_not (x := ?_) ?_
  | with_reducible refine tv_eqS (m := ?_) (n := ?_) ?_ ?_
  | with_reducible refine tv_neS (m := ?_) (n := ?_) ?_ ?_
  | with_reducible refine tv_eqI (i := ?_) (j := ?_) ?_ ?_
  | with_reducible refine tv_neI (i := ?_) (j := ?_) ?_ ?_
  | with_reducible refine tv_lt (i := ?_) (j := ?_) ?_ ?_
  | with_reducible refine tv_gt (i := ?_) (j := ?_) ?_ ?_
  | with_reducible refine tv_le (i := ?_) (j := ?_) ?_ ?_
  | with_reducible refine tv_ge (i := ?_) (j := ?_) ?_ ?_
  | refine tv_inT (m := ?_) (zs := ?_) ?_ ?_ ?_
  | refine tv_ninT (m := ?_) (zs := ?_) ?_ ?_ ?_
  | refine tv_inS (k := ?_) (n := ?_) ?_ ?_
  | (show List.length _ ≤ 1000; decide)
  | with_reducible exact Paired.nil
  | with_reducible refine Paired.cons (l₂ := ?_) pc1 ?_)
local macro_rules | `(tactic| walk_at "tvs") => `(tactic| repeat' walk_at "tv")
section
variable {P : Program} {w : World} {K : PySem.W.Frag} {mg : Str → Option Value} {base : Heap} {C CT CH : Addr}
def lafterK (k : Pk) (x : Sn) (ps : Prs) (fs : Frs) (c : Nat) : Option LSt :=
  if c = 38 then some (.atom (some x) ps fs)
  else if c = 91 then some (.uses x ps fs)
  else if c = 62 then some (.atom none (ps ++ [(k, x)]) fs)
  else match fs with
    | [] => none
    | (q, qs) :: gs => if c = 41 then some (.after (put q (whole ps x)) qs gs) else none
theorem sg_br' : Str.ofString "[" = sg 91 := by decide +kernel
def spAfter : Sp := fun vs H Q _ => ∃ u x ps H0 a as st k c, vs = [.ref u, .str (sg c)] ∧ LRd u H0 H a as (some x, ps) st k ∧ (k = none ∨ c = 62) ∧ ps.length < 100000 ∧ as.length < 100000 ∧ (lafterK k x ps st c = none → ∀ H', Same H H' → Q (.str (Str.ofString "")) H') ∧ ∀ S' a' as' H', lafterK k x ps st c = some S' → LRd u H0 H' a' as' (topS' S') (restS S') none → Q (.str (stT S')) H'
theorem ok_after (T : Top K mg "_law_after" s_after) (mL : mg "len" = none) (FF : Fn P w K mg base 1 "_law_fold" spFold) (FJ : Fn P w K mg base 1 "_law_join" spJoin) : Fn P w K mg base 2 "_law_after" spAfter := by
  refine fn_ok T sc_after so_after (fun vs H Q E h => by obtain ⟨u, x, ps, H0, a, as, st, k, c, rfl, _⟩ := h; rfl) (fun _ _ _ _ _ _ us hl => match us, hl with | [_, _], _ => rfl) fun f cdv A outer s H vs Q E hr h nd => ?_
  obtain ⟨u, x, ps, H0, a, as, st, k, c, rfl, hR, hk, lps, las, q1, q2⟩ := h
  obtain ⟨⟨pv, mv, c1, c2, c3, c4⟩, es, d1, d2⟩ := id hR.tp
  have hst := hR.fs.len
  refine l_cons (s_set (e_ix (e_var (e_neg (e_int ⟨1, rfl, ix_l (by exact SqL.of hR.hd) last_at ?_⟩)))))
  show wL _ _ _ [some (.ref u), some (.str (sg c)), some (.ref a.1), none] _
  refine l_cons (s_ift (x := ?b1) ?t1 (fun k1 H3 e3 => ?_) fun k1 H3 e3 => l_nil ?_)
  case t1 => walk_at "tvs"
  · rw [sg_am, dec_sg] at k1
    have hc : c = 38 := of_decide_eq_true k1
    subst hc
    have hk0 : k = none := hk.resolve_right (by decide)
    subst hk0
    exact l_cons (s_ret (e_str (q2 (.atom (some x) ps st) a as H3 rfl (hR.same e3))))
  rw [sg_am, dec_sg] at k1
  have n38 : c ≠ 38 := of_decide_eq_false k1
  refine l_cons (s_ift (x := ?b2) ?t2 (fun k2 H4 e4 => ?_) fun k2 H4 e4 => l_nil ?_)
  case t2 => walk_at "tvs"
  · rw [sg_br', dec_sg] at k2
    have hc : c = 91 := of_decide_eq_true k2
    subst hc
    have hk0 : k = none := hk.resolve_right (by decide)
    subst hk0
    exact l_cons (s_ret (e_str (q2 (.uses x ps st) a as H4 rfl (hR.same (e3.trans e4)))))
  rw [sg_br', dec_sg] at k2
  have n91 : c ≠ 91 := of_decide_eq_false k2
  have e34 := e3.trans e4
  refine l_cons (s_ift (x := ?b3) ?t3 (fun k3 H5 e5 => ?_) fun k3 H5 e5 => l_nil ?_)
  case t3 => walk_at "tvs"
  · rw [sg_gt, dec_sg] at k3
    have hc : c = 62 := of_decide_eq_true k3
    subst hc
    have e05 := e34.trans e5
    have hR5 := hR.same e05
    refine l_cons (s_set (e_ix (e_var (e_str (ix_d (by exact hr) ⟨_, _, rfl, dg_k (e05 _ _ c1) (lfl_rows pv mv a.2), ?_⟩)))))
    show wL _ _ _ [some (.ref u), some (.str (sg 62)), some (.ref a.1), some (.ref a.2)] _
    refine l_cons (s_expr (e_app (e_var ⟨a.2, es, rfl, SqL.of (e05 _ _ d1), ?_⟩)))
    refine e_tup <| a_cons <| e_ix <| e_var <| e_str <| ix_d (by exact hr) ⟨_, _, rfl, dg_k (e05 _ _ c1) (lfl_mode pv mv a.2), ?_⟩
    refine a_cons <| e_ix <| e_var <| e_str <| ix_d (by exact hr) ⟨_, _, rfl, dg_k (e05 _ _ c1) (lfl_part pv mv a.2), ?_⟩
    refine a_nil ⟨by show 2 ≤ sizeLine; decide, fun t H6 e6 n6 h6 => ⟨es, e6 _ _ (e05 _ _ d1), by rw [d2.len]; show _ < 2 ^ 24; have : (some x, ps).2.length = ps.length := rfl; omega, ?_⟩⟩
    have e06 := e05.trans e6
    have ts7 : TS H6 (upd H6 a.2 (.lst (es ++ [.ref t]))) := TS.upd (e06 _ _ d1)
    have n12 := hR.ne.2.2
    have c17 : upd H6 a.2 (.lst (es ++ [.ref t])) a.1 = some (.dK (lfl pv a.2 mv)) := by rw [upd_ne n12]; exact e06 _ _ c1
    have d17 : upd H6 a.2 (.lst (es ++ [.ref t])) a.2 = some (.lst (es ++ [.ref t])) := upd_same
    have kp7 : ∀ y o, y ≠ a.2 → H y = some o → upd H6 a.2 (.lst (es ++ [.ref t])) y = some o := fun y o ny hy => by rw [upd_ne ny]; exact e06 _ _ hy
    have t7 := ts7 _ _ h6
    have ts07 := (Same.ts e06).trans ts7
    generalize upd H6 a.2 (.lst (es ++ [.ref t])) = H7 at c17 d17 kp7 t7 ts07
    refine l_cons (s_dput (hu_of (by exact hr)) (e_non (e_var (e_str ⟨_, _, rfl, .inl ⟨_, Sum.inr "part", c17, rfl, lfl_len, rfl⟩, ?_⟩))))
    rw [lfl_putP]
    have ts8 : TS H7 (upd H7 a.1 (.dK (lfl .non a.2 mv))) := TS.dk c17
    have c18 : upd H7 a.1 (.dK (lfl .non a.2 mv)) a.1 = some (.dK (lfl .non a.2 mv)) := upd_same
    refine l_cons (s_dput (hu_of (by exact hr)) (e_str (e_var (e_str ⟨_, _, rfl, .inl ⟨_, Sum.inr "mode", c18, rfl, lfl_len, rfl⟩, ?_⟩))))
    rw [lfl_putM]
    have ts9 : TS (upd H7 a.1 (.dK (lfl .non a.2 mv))) (upd (upd H7 a.1 (.dK (lfl .non a.2 mv))) a.1 (.dK (lfl .non a.2 (.str (Str.ofString "once"))))) := TS.dk c18
    have ts79 := ts8.trans ts9
    have ts09 := ts07.trans ts79
    refine l_cons (s_ret (e_str (q2 (.atom none (ps ++ [(k, x)]) st) a as _ rfl ?_)))
    refine hR.top (fun y o n1 n2 hy => by rw [upd_ne n1, upd_ne n1]; exact kp7 y o n2 hy) ts09 ⟨⟨.non, .str (Str.ofString "once"), upd_same, rfl, rfl, trivial⟩, es ++ [.ref t], by rw [upd_ne n12.symm, upd_ne n12.symm]; exact d17, ?_⟩
    exact (d2.ts ts09).snoc ⟨t, mv, pv, rfl, ts79 _ _ t7, c3.ts ts09, SnV.ts (s := x) ts09 c2, c4⟩
  rw [sg_gt, dec_sg] at k3
  have n62 : c ≠ 62 := of_decide_eq_false k3
  have hk0 : k = none := hk.resolve_right n62
  subst hk0
  have e05 := e34.trans e5
  have bad : (¬ (c = 41 ∧ st ≠ [])) → lafterK none x ps st c = none := by
    intro hn
    unfold lafterK
    rw [if_neg n38, if_neg n91, if_neg n62]
    cases st with
    | nil => rfl
    | cons q gs =>
      obtain ⟨q, qs⟩ := q
      show (if c = 41 then _ else _) = _
      rw [if_neg fun z => hn ⟨z, by simp⟩]
  have hu5 := e05 _ _ hR.hd
  refine l_cons (s_ift (x := ?b4) ?t4 (fun k4 H6 e6 => ?_) fun k4 H6 e6 => l_nil ?_)
  case t4 =>
    walk_at "tvs"
  · rw [sg_rp, dec_sg] at k4
    simp only [Bool.and_eq_true, decide_eq_true_eq, List.length_append, List.length_map, List.length_reverse, List.length_cons, List.length_nil] at k4
    obtain ⟨hc, hl⟩ := k4
    subst hc
    cases as with
    | nil => simp at hl
    | cons b as =>
    cases st with
    | nil => cases hst
    | cons t st =>
    have e06 := e05.trans e6
    have hR6 := hR.same e06
    obtain ⟨hR7, hF7⟩ := hR6.pop
    refine l_cons (s_expr (e_pop (e_var ⟨u, (b :: as).reverse.map (fun a => V.ref a.1), _, rfl, hR6.hd, ?_⟩)))
    have eL : ((b :: as).reverse.map (fun a => V.ref a.1)) = as.reverse.map (fun a => V.ref a.1) ++ [.ref b.1] := by rw [List.reverse_cons, List.map_append]; rfl
    rw [eL]
    generalize upd H6 u (.lst (as.reverse.map (fun a => V.ref a.1) ++ [.ref b.1])) = H7 at hR7 hF7
    refine l_cons (s_expr (e_call (by exact FJ) (by exact hr) (by decide) ?_))
    refine a_cons (e_var (a_cons (e_call (by exact FF) (by exact hr) (by decide) ?_)))
    refine a_cons (e_var (a_nil ⟨a, x, ps, none, rfl, hF7, fun v H8 e8 hv => a_nil ?_⟩))
    refine ⟨u, v, whole ps x, H0, b, as, t, st, none, rfl, hR7.same e8, hv, fun H9 ts9 hR9 => ?_⟩
    obtain ⟨q, qs⟩ := t
    exact l_cons (s_ret (e_str (q2 (.after (put q (whole ps x)) qs st) b as H9 rfl hR9)))
  · refine l_cons (s_ret (e_str (q1 (bad ?_) H6 (e05.trans e6))))
    rintro ⟨hc, hs⟩
    subst hc
    rw [sg_rp, dec_sg] at k4
    simp only [Bool.and_eq_false_iff, decide_eq_false_iff_not, List.length_append, List.length_map, List.length_reverse, List.length_cons, List.length_nil, not_true_eq_false, false_or] at k4
    have := List.length_pos_iff.mpr hs
    omega
end



local macro_rules | `(tactic| walk_at "tv") => `(tactic| first
  | exact pv_var
  | exact tv_var
  | exact pv_lenS pv_var (by assumption)
  | exact pv_lenL pv_var (by assumption)
  | with_reducible exact pv_str
  | with_reducible exact pv_int
  | with_reducible exact pv_non
  | with_reducible exact pv_bl
  | with_reducible refine tv_w ?_
  | with_reducible refine tw_and (x := ?_) (y := ?_) ?_ ?_
  | with_reducible refine tw_or (x := ?_) (y := ?_) ?_ ?_
  | with_reducible refine tw_and1 ?_
  | with_reducible refine tw_or1 ?_
  | with_reducible refine tv_not (x := ?_) ?_
  | with_reducible refine tv_eqS (m := ?_) (n := ?_) ?_ ?_
  | with_reducible refine tv_neS (m := ?_) (n := ?_) ?_ ?_
  | with_reducible refine tv_eqI (i := ?_) (j := ?_) ?_ ?_
  | with_reducible refine tv_neI (i := ?_) (j := ?_) ?_ ?_
  | with_reducible refine tv_lt (i := ?_) (j := ?_) ?_ ?_
  | with_reducible refine tv_gt (i := ?_) (j := ?_) ?_ ?_
  | with_reducible refine tv_le (i := ?_) (j := ?_) ?_ ?_
  | with_reducible refine tv_ge (i := ?_) (j := ?_) ?_ ?_
  | refine tv_inT (m := ?_) (zs := ?_) ?_ ?_ ?_
  | refine tv_ninT (m := ?_) (zs := ?_) ?_ ?_ ?_
  | refine tv_inS (k := ?_) (n := ?_) ?_ ?_
  | (show List.length _ ≤ 1000; decide)
  | with_reducible exact Paired.nil
  | with_reducible refine Paired.cons (l₂ := ?_) pc1 ?_)
local macro_rules | `(tactic| walk_at "tvs") => `(tactic| repeat' walk_at "tv")
theorem cs_e : cs (Str.ofString "") = [] := by decide +kernel
theorem pv_hi {X : Cx} {a b : Expr} {σ : L2.St} {H : Hp} {pos p2 : Pos} {z : Str} {j : Int} {v : V} (h1 : PV X a σ H (.str z)) (h2 : PV X b σ H (.int j)) (hz : z.length ≤ sizeLine) (hv : v = .str (cutS z none (some j)) := by exact rfl) : PV X (.Subscript a (.Slice none (some b) none p2) pos) σ H v := by
  subst hv
  exact pv_of fun H1 Q s q => e_slL1 sl_str (pv_use (pv_up h1 s) fun H2 s2 => pv_use (pv_up h2 (s.trans s2)) fun H3 s3 => ⟨j, rfl, z, rfl, hz, q H3 (s2.trans s3)⟩)
theorem st_brk (S : LSt) : decide (stT S ∈ [Str.ofString "uses", Str.ofString "uses+", Str.ofString "slash", Str.ofString "days", Str.ofString "days+", Str.ofString "close"]) = isBrk S := by
  cases S with
  | atom => exact (show decide (Str.ofString "atom" ∈ [Str.ofString "uses", Str.ofString "uses+", Str.ofString "slash", Str.ofString "days", Str.ofString "days+", Str.ofString "close"]) = false by decide +kernel)
  | name => exact (show decide (Str.ofString "name" ∈ [Str.ofString "uses", Str.ofString "uses+", Str.ofString "slash", Str.ofString "days", Str.ofString "days+", Str.ofString "close"]) = false by decide +kernel)
  | after => exact (show decide (Str.ofString "after" ∈ [Str.ofString "uses", Str.ofString "uses+", Str.ofString "slash", Str.ofString "days", Str.ofString "days+", Str.ofString "close"]) = false by decide +kernel)
  | uses => exact (show decide (Str.ofString "uses" ∈ [Str.ofString "uses", Str.ofString "uses+", Str.ofString "slash", Str.ofString "days", Str.ofString "days+", Str.ofString "close"]) = true by decide +kernel)
  | usesP => exact (show decide (Str.ofString "uses+" ∈ [Str.ofString "uses", Str.ofString "uses+", Str.ofString "slash", Str.ofString "days", Str.ofString "days+", Str.ofString "close"]) = true by decide +kernel)
  | slash => exact (show decide (Str.ofString "slash" ∈ [Str.ofString "uses", Str.ofString "uses+", Str.ofString "slash", Str.ofString "days", Str.ofString "days+", Str.ofString "close"]) = true by decide +kernel)
  | days => exact (show decide (Str.ofString "days" ∈ [Str.ofString "uses", Str.ofString "uses+", Str.ofString "slash", Str.ofString "days", Str.ofString "days+", Str.ofString "close"]) = true by decide +kernel)
  | daysP => exact (show decide (Str.ofString "days+" ∈ [Str.ofString "uses", Str.ofString "uses+", Str.ofString "slash", Str.ofString "days", Str.ofString "days+", Str.ofString "close"]) = true by decide +kernel)
  | close => exact (show decide (Str.ofString "close" ∈ [Str.ofString "uses", Str.ofString "uses+", Str.ofString "slash", Str.ofString "days", Str.ofString "days+", Str.ofString "close"]) = true by decide +kernel)
  | arrow => exact (show decide (Str.ofString "arrow" ∈ [Str.ofString "uses", Str.ofString "uses+", Str.ofString "slash", Str.ofString "days", Str.ofString "days+", Str.ofString "close"]) = false by decide +kernel)
def isName : LSt → Bool
  | .name .. => true
  | _ => false
def isAtom : LSt → Bool
  | .atom .. => true
  | _ => false
def isAft : LSt → Bool
  | .after .. => true
  | _ => false
theorem st_name (S : LSt) : decide (stT S = Str.ofString "name") = isName S := by
  cases S with
  | atom => exact (show decide (Str.ofString "atom" = Str.ofString "name") = false by decide +kernel)
  | name => exact (show decide (Str.ofString "name" = Str.ofString "name") = true by decide +kernel)
  | after => exact (show decide (Str.ofString "after" = Str.ofString "name") = false by decide +kernel)
  | uses => exact (show decide (Str.ofString "uses" = Str.ofString "name") = false by decide +kernel)
  | usesP => exact (show decide (Str.ofString "uses+" = Str.ofString "name") = false by decide +kernel)
  | slash => exact (show decide (Str.ofString "slash" = Str.ofString "name") = false by decide +kernel)
  | days => exact (show decide (Str.ofString "days" = Str.ofString "name") = false by decide +kernel)
  | daysP => exact (show decide (Str.ofString "days+" = Str.ofString "name") = false by decide +kernel)
  | close => exact (show decide (Str.ofString "close" = Str.ofString "name") = false by decide +kernel)
  | arrow => exact (show decide (Str.ofString "arrow" = Str.ofString "name") = false by decide +kernel)
theorem st_atom (S : LSt) : decide (stT S = Str.ofString "atom") = isAtom S := by
  cases S with
  | atom => exact (show decide (Str.ofString "atom" = Str.ofString "atom") = true by decide +kernel)
  | name => exact (show decide (Str.ofString "name" = Str.ofString "atom") = false by decide +kernel)
  | after => exact (show decide (Str.ofString "after" = Str.ofString "atom") = false by decide +kernel)
  | uses => exact (show decide (Str.ofString "uses" = Str.ofString "atom") = false by decide +kernel)
  | usesP => exact (show decide (Str.ofString "uses+" = Str.ofString "atom") = false by decide +kernel)
  | slash => exact (show decide (Str.ofString "slash" = Str.ofString "atom") = false by decide +kernel)
  | days => exact (show decide (Str.ofString "days" = Str.ofString "atom") = false by decide +kernel)
  | daysP => exact (show decide (Str.ofString "days+" = Str.ofString "atom") = false by decide +kernel)
  | close => exact (show decide (Str.ofString "close" = Str.ofString "atom") = false by decide +kernel)
  | arrow => exact (show decide (Str.ofString "arrow" = Str.ofString "atom") = false by decide +kernel)
theorem st_aft (S : LSt) : decide (stT S = Str.ofString "after") = isAft S := by
  cases S with
  | atom => exact (show decide (Str.ofString "atom" = Str.ofString "after") = false by decide +kernel)
  | name => exact (show decide (Str.ofString "name" = Str.ofString "after") = false by decide +kernel)
  | after => exact (show decide (Str.ofString "after" = Str.ofString "after") = true by decide +kernel)
  | uses => exact (show decide (Str.ofString "uses" = Str.ofString "after") = false by decide +kernel)
  | usesP => exact (show decide (Str.ofString "uses+" = Str.ofString "after") = false by decide +kernel)
  | slash => exact (show decide (Str.ofString "slash" = Str.ofString "after") = false by decide +kernel)
  | days => exact (show decide (Str.ofString "days" = Str.ofString "after") = false by decide +kernel)
  | daysP => exact (show decide (Str.ofString "days+" = Str.ofString "after") = false by decide +kernel)
  | close => exact (show decide (Str.ofString "close" = Str.ofString "after") = false by decide +kernel)
  | arrow => exact (show decide (Str.ofString "arrow" = Str.ofString "after") = false by decide +kernel)
theorem st_arr (S : LSt) : decide (stT S = Str.ofString "arrow") = isArr S := by
  cases S with
  | atom => exact (show decide (Str.ofString "atom" = Str.ofString "arrow") = false by decide +kernel)
  | name => exact (show decide (Str.ofString "name" = Str.ofString "arrow") = false by decide +kernel)
  | after => exact (show decide (Str.ofString "after" = Str.ofString "arrow") = false by decide +kernel)
  | uses => exact (show decide (Str.ofString "uses" = Str.ofString "arrow") = false by decide +kernel)
  | usesP => exact (show decide (Str.ofString "uses+" = Str.ofString "arrow") = false by decide +kernel)
  | slash => exact (show decide (Str.ofString "slash" = Str.ofString "arrow") = false by decide +kernel)
  | days => exact (show decide (Str.ofString "days" = Str.ofString "arrow") = false by decide +kernel)
  | daysP => exact (show decide (Str.ofString "days+" = Str.ofString "arrow") = false by decide +kernel)
  | close => exact (show decide (Str.ofString "close" = Str.ofString "arrow") = false by decide +kernel)
  | arrow => exact (show decide (Str.ofString "arrow" = Str.ofString "arrow") = true by decide +kernel)
theorem signs_in (c : Nat) : decide (c ∈ cs (Str.ofString "abcdefghijklmnopqrstuvwxyz0123456789")) = alnum c := by
  have e : cs (Str.ofString "abcdefghijklmnopqrstuvwxyz0123456789") = List.range' 97 26 ++ List.range' 48 10 := by decide +kernel
  rw [e]
  unfold alnum let1 dig1
  by_cases h : c ∈ List.range' 97 26 ++ List.range' 48 10
  · rw [decide_eq_true h]
    simp only [List.mem_append, List.mem_range'_1] at h
    rcases h with h | h
    · rw [decide_eq_true h.1, decide_eq_true (show c ≤ 122 by omega)]; rfl
    · rw [decide_eq_true h.1, decide_eq_true (show c ≤ 57 by omega)]; simp
  · rw [decide_eq_false h]
    simp only [List.mem_append, List.mem_range'_1, not_or] at h
    symm
    simp only [Bool.or_eq_false_iff, Bool.and_eq_false_iff, decide_eq_false_iff_not]
    omega
theorem letters_in (c : Nat) : decide (c ∈ cs (cutS (Str.ofString "abcdefghijklmnopqrstuvwxyz0123456789") none (some 26))) = let1 c := by
  have e : cs (cutS (Str.ofString "abcdefghijklmnopqrstuvwxyz0123456789") none (some 26)) = List.range' 97 26 := by decide +kernel
  rw [e]
  unfold let1
  by_cases h : c ∈ List.range' 97 26
  · rw [decide_eq_true h]
    simp only [List.mem_range'_1] at h
    rw [decide_eq_true h.1, decide_eq_true (show c ≤ 122 by omega)]
    rfl
  · rw [decide_eq_false h]
    simp only [List.mem_range'_1] at h
    symm
    simp only [Bool.and_eq_false_iff, decide_eq_false_iff_not]
    omega
theorem lstep_name {u : List Nat} {p : Option Sn} {ps : Prs} {fs : Frs} {c : Nat} (h : alnum c = false) : lstep (.name u p ps fs) c = lstep (.after (put p (.word u)) ps fs) c := by
  show (if alnum c = true then _ else _) = _
  rw [if_neg (by rw [h]; decide)]
  rfl
section
variable {P : Program} {w : World} {K : PySem.W.Frag} {mg : Str → Option Value} {base : Heap} {C CT CH : Addr}
def spLStep : Sp := fun vs H Q _ => ∃ u H0 a as S zs zr c, vs = [.ref u, .str zs, .str zr, .str (sg c)] ∧ zs = stT S ∧ cs zr = rnT S ∧ WF S ∧ LRd u H0 H a as (topS' S) (restS S) (topM S) ∧ lnS (topS' S :: restS S) < 100000 ∧
  (lstep S c = none → ∀ t z2 H' xs, Same H0 H' → H' u = some (.lst xs) → xs.length ≤ lnS (topS' S :: restS S) → 1 ≤ xs.length → H' t = some (.tup [.str (Str.ofString ""), .str z2]) → Q (.ref t) H') ∧
  ∀ S' t z2 a' as' H', lstep S c = some S' → cs z2 = rnT S' → LRd u H0 H' a' as' (topS' S') (restS S') (topM S') → H' t = some (.tup [.str (stT S'), .str z2]) → Q (.ref t) H'
theorem LRd.small {u : Addr} {H0 H : Hp} {a : Addr × Addr} {as : List (Addr × Addr)} {s : Option Sn × Prs} {st : Frs} {k : Pk} (h : LRd u H0 H a as s st k) (hl : lnS (s :: st) < 100000) : as.length < 100000 ∧ s.2.length < 100000 ∧ as.length + 1 ≤ lnS (s :: st) := by
  have h1 := h.fs.len
  have h2 := len_lnS st
  rw [lnS_cons] at hl ⊢
  omega
theorem stn_ne (S : LSt) : stT S ≠ Str.ofString "" := by
  cases S with
  | atom => exact (show Str.ofString "atom" ≠ Str.ofString "" by decide +kernel)
  | name => exact (show Str.ofString "name" ≠ Str.ofString "" by decide +kernel)
  | after => exact (show Str.ofString "after" ≠ Str.ofString "" by decide +kernel)
  | uses => exact (show Str.ofString "uses" ≠ Str.ofString "" by decide +kernel)
  | usesP => exact (show Str.ofString "uses+" ≠ Str.ofString "" by decide +kernel)
  | slash => exact (show Str.ofString "slash" ≠ Str.ofString "" by decide +kernel)
  | days => exact (show Str.ofString "days" ≠ Str.ofString "" by decide +kernel)
  | daysP => exact (show Str.ofString "days+" ≠ Str.ofString "" by decide +kernel)
  | close => exact (show Str.ofString "close" ≠ Str.ofString "" by decide +kernel)
  | arrow => exact (show Str.ofString "arrow" ≠ Str.ofString "" by decide +kernel)
theorem stn_done (S : LSt) : stT S ≠ Str.ofString "done" := by
  cases S with
  | atom => exact (show Str.ofString "atom" ≠ Str.ofString "done" by decide +kernel)
  | name => exact (show Str.ofString "name" ≠ Str.ofString "done" by decide +kernel)
  | after => exact (show Str.ofString "after" ≠ Str.ofString "done" by decide +kernel)
  | uses => exact (show Str.ofString "uses" ≠ Str.ofString "done" by decide +kernel)
  | usesP => exact (show Str.ofString "uses+" ≠ Str.ofString "done" by decide +kernel)
  | slash => exact (show Str.ofString "slash" ≠ Str.ofString "done" by decide +kernel)
  | days => exact (show Str.ofString "days" ≠ Str.ofString "done" by decide +kernel)
  | daysP => exact (show Str.ofString "days+" ≠ Str.ofString "done" by decide +kernel)
  | close => exact (show Str.ofString "close" ≠ Str.ofString "done" by decide +kernel)
  | arrow => exact (show Str.ofString "arrow" ≠ Str.ofString "done" by decide +kernel)
theorem map_cs2 {l : List Str} {u d : List Nat} (h : l.map cs = [u, d]) : ∃ y z, l = [y, z] ∧ cs y = u ∧ cs z = d := by
  match l, h with
  | [y, z], h => injection h with h1 h2; injection h2 with h2; exact ⟨y, z, rfl, h1, h2⟩
theorem int_dv {z : Str} {l : Nat} {u : List Nat} (h : cs z = u) (hu : okD l u) : PySem.intText? z = some ((dv u : Nat) : Int) := by
  have := PySem.intText_digits (x := z) (by show NumText.AllDigits (cs z); rw [h]; exact dig_digits hu.2.1) (by show cs z ≠ []; rw [h]; exact hu.1) (by rw [len_cs, h]; have := hu.2.2.1; omega)
  rw [this]
  show some (((NumText.digitsVal (cs z) : Nat)) : Int) = _
  rw [h]
theorem st_len (S : LSt) : (stT S).length ≤ 100 := by
  cases S with
  | atom => exact (show (Str.ofString "atom").length ≤ 100 by decide +kernel)
  | name => exact (show (Str.ofString "name").length ≤ 100 by decide +kernel)
  | after => exact (show (Str.ofString "after").length ≤ 100 by decide +kernel)
  | uses => exact (show (Str.ofString "uses").length ≤ 100 by decide +kernel)
  | usesP => exact (show (Str.ofString "uses+").length ≤ 100 by decide +kernel)
  | slash => exact (show (Str.ofString "slash").length ≤ 100 by decide +kernel)
  | days => exact (show (Str.ofString "days").length ≤ 100 by decide +kernel)
  | daysP => exact (show (Str.ofString "days+").length ≤ 100 by decide +kernel)
  | close => exact (show (Str.ofString "close").length ≤ 100 by decide +kernel)
  | arrow => exact (show (Str.ofString "arrow").length ≤ 100 by decide +kernel)
theorem ok_lstep (T : Top K mg "_law_step" s_step) (mL : mg "len" = none) (mI : mg "int" = none) (FB : Fn P w K mg base 1 "_law_bracket" spBrk) (FA : Fn P w K mg base 2 "_law_after" spAfter) (FJ : Fn P w K mg base 1 "_law_join" spJoin) (FR : Fn P w K mg base 1 "_law_frame" spFrame) : Fn P w K mg base 3 "_law_step" spLStep := by
  refine fn_ok T sc_step so_step (fun vs H Q E h => by obtain ⟨u, H0, a, as, S, zs, zr, c, rfl, _⟩ := h; rfl) (fun _ _ _ _ _ _ us hl => match us, hl with | [_, _, _, _], _ => rfl) fun f cdv A outer s H vs Q E hr h nd => ?_
  obtain ⟨u, H0, a, as, S, zs, zr, c, rfl, rfl, hzr, hw, hR, hsz, q1, q2⟩ := h
  refine l_cons (s_set (e_str ?_))
  show wL _ _ _ [some (.ref u), some (.str (stT S)), some (.str zr), some (.str (sg c)), some (.str (Str.ofString "abcdefghijklmnopqrstuvwxyz0123456789")), none, none] _
  refine l_cons (s_ift (x := ?b1) ?t1 (fun k1 H1 e1 => ?_) fun k1 H1 e1 => l_nil ?_)
  case t1 => walk_at "tvs"
  · rw [st_brk] at k1
    obtain ⟨lr, ys, num, hsp, hln, hbr⟩ := brk_ok k1 hw hzr c
    have lst : (stT S).length ≤ 100 := st_len S
    refine l_cons (s_set (e_call (by exact FB) (by exact hr) (by decide) ?_))
    refine a_cons (e_var (a_cons (e_var (a_cons (e_var (a_nil ⟨stT S, zr, num, ys, c, rfl, lst, lr, hln, hsp, fun t H2 e2 h2 => ?_⟩))))))
    generalize brkF (stT S) num zr c = y at hbr h2
    obtain ⟨y1, y2⟩ := y
    show wL _ _ _ [some (.ref u), some (.str (stT S)), some (.str zr), some (.str (sg c)), some (.str (Str.ofString "abcdefghijklmnopqrstuvwxyz0123456789")), some (.ref t), none] _
    have e02 := e1.trans e2
    refine l_cons (s_ift (x := decide (y1 = Str.ofString "done")) (tv_eqS (pv_ixT pv_var pv_int h2 at0) pv_str) (fun k2 H3 e3 => ?_) fun k2 H3 e3 => l_nil ?_)
    · have hy : y1 = Str.ofString "done" := of_decide_eq_true k2
      cases hl : lstep S c with
      | none => exact absurd ((hbr.1 hl).symm.trans hy) (by show ¬ (Str.ofString "" = _); decide +kernel)
      | some S' =>
      have hb := hbr.2 S' hl
      cases ha : isArr S' with
      | false => exact absurd ((hb.2 ha).1.symm.trans hy) (stn_done S')
      | true =>
      obtain ⟨u1, d1, x, ps, fs, rfl, eT, eR, eM, ok1, ok2, hsp2⟩ := brk_nums k1 hw hzr hl ha
      obtain ⟨w1, w2, hs12, hw1, hw2⟩ := map_cs2 hsp2
      have e03 := e02.trans e3
      have hR3 := hR.same e03
      refine l_cons (s_set (e_ix (e_var (e_neg (e_int ⟨1, rfl, ix_l (by exact SqL.of hR3.hd) last_at ?_⟩)))))
      show wL _ _ _ [some (.ref u), some (.str (stT S)), some (.str zr), some (.str (sg c)), some (.str (Str.ofString "abcdefghijklmnopqrstuvwxyz0123456789")), some (.ref t), some (.ref a.1)] _
      have lw1 : w1.length ≤ 640 := by rw [len_cs, hw1]; have := ok1.2.2.1; omega
      have lw2 : w2.length ≤ 640 := by rw [len_cs, hw2]; have := ok2.2.2.1; omega
      refine l_cons (s_dput (hu_of (by exact hr)) ?_)
      refine e_tup (a_cons (e_callTy (x := "int") (by assumption) b_int ?_))
      refine a_cons (e_ix (e_split (e_var ⟨zr, rfl, e_str ⟨_, rfl, by decide +kernel, by show _ ≤ 2 ^ 24; omega, fun l1 H4 e4 _ h4 => ?_⟩⟩)))
      rw [show Txt.split zr (Str.ofString "/") = [w1, w2] from hs12] at h4
      refine e_int (ix_l (by exact SqL.of h4) at0 (a_nil (c_intS (int_dv hw1 ok1) lw1 ?_)))
      refine a_cons (e_callTy (x := "int") (by assumption) b_int ?_)
      refine a_cons (e_ix (e_split (e_var ⟨zr, rfl, e_str ⟨_, rfl, by decide +kernel, by show _ ≤ 2 ^ 24; omega, fun l2 H5 e5 _ h5 => ?_⟩⟩)))
      rw [show Txt.split zr (Str.ofString "/") = [w1, w2] from hs12] at h5
      refine e_int (ix_l (by exact SqL.of h5) at1 (a_nil (c_intS (int_dv hw2 ok2) lw2 ?_)))
      refine a_nil ⟨by show 2 ≤ sizeLine; decide, fun tm H6 e6 _ h6 => ?_⟩
      have e36 := (e4.trans e5).trans e6
      have hR6 := hR3.same e36
      obtain ⟨⟨pv, mv, c1, c2, c3, c4⟩, es, dd1, dd2⟩ := id hR6.tp
      refine e_var (e_str ⟨_, _, rfl, .inl ⟨_, Sum.inr "mode", c1, rfl, lfl_len, rfl⟩, ?_⟩)
      rw [lfl_putM]
      have ts7 : TS H6 (upd H6 a.1 (.dK (lfl pv a.2 (.ref tm)))) := TS.dk c1
      have hR7 : LRd u H0 (upd H6 a.1 (.dK (lfl pv a.2 (.ref tm)))) a as (some x, ps) fs (some ((dv u1 : Int), (dv d1 : Int))) := by
        have hR6' := hR6
        rw [eT, eR] at hR6'
        refine hR6'.top (fun y o n1 n2 hy => by rw [upd_ne n1]; exact hy) ts7 ⟨⟨pv, .ref tm, upd_same, ?_, ⟨tm, rfl, ts7 _ _ h6⟩, ?_⟩, es, by rw [upd_ne hR6.ne.2.2.symm]; exact dd1, ?_⟩
        · rw [eT] at c2
          exact PartV.ts (p := some x) ts7 c2
        · have := ok1.lt
          have := ok1.2.2.2
          exact ⟨by omega, by omega⟩
        · rw [eT] at dd2
          exact dd2.ts ts7
      refine l_cons (s_ret (e_tup (a_cons (e_str (a_cons (e_str (a_nil ⟨by show 2 ≤ sizeLine; decide, fun tr H8 e8 _ h8 => ?_⟩)))))))
      exact q2 _ tr _ a as H8 hl rfl (hR7.same e8) h8
    · have hy : y1 ≠ Str.ofString "done" := of_decide_eq_false k2
      have e03 := e02.trans e3
      refine l_cons (s_ret (e_var ?_))
      cases hl : lstep S c with
      | none =>
        have h1 : y1 = Str.ofString "" := hbr.1 hl
        have hl' := (hR.small hsz).2.2
        exact q1 hl t y2 H3 _ (hR.sm.trans e03) (e03 _ _ hR.hd) (by simp only [List.length_append, List.length_map, List.length_reverse, List.length_cons, List.length_nil]; omega) (by simp) (by rw [← h1]; exact e3 _ _ h2)
      | some S' =>
        have hb := hbr.2 S' hl
        cases ha : isArr S' with
        | true => exact absurd (hb.1 ha) hy
        | false =>
        obtain ⟨k1', k2', k3'⟩ := brk_keep k1 hl ha
        refine q2 S' t y2 a as H3 hl (hb.2 ha).2 (by rw [k1', k2', k3']; exact hR.same e03) (by rw [← (hb.2 ha).1]; exact e3 _ _ h2)
  rw [st_brk] at k1
  have hR1 := hR.same e1
  refine l_cons (s_ift (x := (decide (stT S = Str.ofString "name") && decide (c ∈ cs (Str.ofString "abcdefghijklmnopqrstuvwxyz0123456789")))) (tv_w (tw_and (tv_eqS pv_var pv_str) (tw_and1 (tv_inS pv_var pv_var rfl)))) (fun k3 H2 e2 => ?_) fun k3 H2 e2 => l_nil ?_)
  · rw [st_name] at k3
    cases S with
    | name nm p ps fs =>
      have hal : alnum c = true := by
        have : decide (c ∈ cs (Str.ofString "abcdefghijklmnopqrstuvwxyz0123456789")) = true := by simpa [isName] using k3
        rwa [signs_in] at this
      have hnm : cs zr = nm := hzr
      have l12 := (show Nm nm from hw).2.2
      have hzs : zr.length ≤ sizeLine := by rw [len_cs, hnm]; show _ ≤ 2 ^ 24; omega
      refine l_cons (s_ift (x := ?b4) ?t4 (fun k4 H3 e3 => ?_) fun k4 H3 e3 => l_nil ?_)
      case t4 => walk_at "tvs"
      · have hl12 : nm.length < 12 := by
          have := of_decide_eq_true k4
          rw [len_cs, hnm] at this
          omega
        refine l_cons <| s_ret <| e_tup <| a_cons <| e_str <| a_cons <| e_bin <| e_var <| e_var <| o_addS ?hh <| a_nil ⟨by show 2 ≤ sizeLine; decide, fun t H4 e4 _ h4 => ?_⟩
        case hh => rw [len_cs, hnm]; show _ + 1 ≤ _; omega
        refine q2 (.name (nm ++ [c]) p ps fs) t _ a as H4 ?_ (by rw [cs_app, hnm]; rfl) (((hR1.same e2).same e3).same e4) h4
        show (if alnum c = true then _ else _) = _
        rw [if_pos hal, if_pos hl12]
      · have hl12 : ¬ nm.length < 12 := by
          have := of_decide_eq_false k4
          rw [len_cs, hnm] at this
          omega
        refine l_cons <| s_ret <| e_tup <| a_cons <| e_str <| a_cons <| e_var <| a_nil ⟨by show 2 ≤ sizeLine; decide, fun t H4 e4 _ h4 => ?_⟩
        have e04 := ((e1.trans e2).trans e3).trans e4
        have hl' := (hR.small hsz).2.2
        refine q1 ?_ t zr H4 _ (hR.sm.trans e04) (e04 _ _ hR.hd) (by simp only [List.length_append, List.length_map, List.length_reverse, List.length_cons, List.length_nil]; omega) (by simp) h4
        show (if alnum c = true then _ else _) = _
        rw [if_pos hal, if_neg hl12]
    | atom => simp [isName] at k3
    | after => simp [isName] at k3
    | uses => simp [isName] at k3
    | usesP => simp [isName] at k3
    | slash => simp [isName] at k3
    | days => simp [isName] at k3
    | daysP => simp [isName] at k3
    | close => simp [isName] at k3
    | arrow => simp [isName] at k3
  rw [st_name] at k3
  have hR2 := hR1.same e2
  refine l_join (fun σ H' => ∃ (S1 : LSt) (a' : Addr × Addr) (as' : List (Addr × Addr)) (zz : Str), σ = [some (.ref u), some (.str (stT S1)), some (.str zz), some (.str (sg c)), some (.str (Str.ofString "abcdefghijklmnopqrstuvwxyz0123456789")), none, none] ∧ lstep S c = lstep S1 c ∧ (isBrk S1 = false ∧ isName S1 = false) ∧ LRd u H0 H' a' as' (topS' S1) (restS S1) (topM S1) ∧ lnS (topS' S1 :: restS S1) < 100000 ∧ lnS (topS' S1 :: restS S1) = lnS (topS' S :: restS S)) (fun σ H3 hA => ?_) (fun go => ?_)
  · obtain ⟨S1, a', as', zz, rfl, hst, ⟨nb, nn⟩, hR3, hsz3, hszE⟩ := hA
    rw [hst] at q1 q2
    rw [← hszE] at q1
    obtain ⟨las, lps, las1⟩ := hR3.small hsz3
    clear hR hR1 hR2 hsz hszE hw hzr k3 k1
    refine l_cons (s_ift (x := ?b5) ?t5 (fun k5 H4 e4 => ?_) fun k5 H4 e4 => l_nil ?_)
    case t5 => walk_at "tvs"
    · rw [sg_sp, dec_sg] at k5
      have hc : c = 32 := of_decide_eq_true k5
      subst hc
      refine l_cons <| s_ret <| e_tup <| a_cons <| e_var <| a_cons <| e_str <| a_nil ⟨by show 2 ≤ sizeLine; decide, fun t H5 e5 _ h5 => ?_⟩
      cases S1 with
      | atom p ps fs => exact q2 _ t _ a' as' H5 rfl cs_e ((hR3.same e4).same e5) h5
      | after x ps fs => exact q2 _ t _ a' as' H5 rfl cs_e ((hR3.same e4).same e5) h5
      | arrow k x ps fs => exact q2 _ t _ a' as' H5 rfl cs_e ((hR3.same e4).same e5) h5
      | name => cases nn
      | uses => cases nb
      | usesP => cases nb
      | slash => cases nb
      | days => cases nb
      | daysP => cases nb
      | close => cases nb
    rw [sg_sp, dec_sg] at k5
    have n32 : c ≠ 32 := of_decide_eq_false k5
    refine l_cons (s_ift (x := ?b6) ?t6 (fun k6 H5 e5 => ?_) fun k6 H5 e5 => l_nil ?_)
    case t6 => walk_at "tvs"
    · rw [st_atom, sg_lp, dec_sg] at k6
      simp only [Bool.and_eq_true, decide_eq_true_eq] at k6
      obtain ⟨ka, hc⟩ := k6
      subst hc
      cases S1 with
      | atom p ps fs =>
        have hR5 := (hR3.same e4).same e5
        refine l_cons (s_expr (e_app (e_var ⟨u, _, rfl, SqL.of hR5.hd, ?_⟩)))
        refine e_call0 (by exact FR) (by exact hr) (by decide) ?_
        refine ⟨rfl, fun d r H6 e6 nd nr nrd hF => ?_⟩
        refine ⟨_, e6 _ _ hR5.hd, by simp only [List.length_append, List.length_map, List.length_reverse, List.length_cons, List.length_nil]; show _ < 2 ^ 24; omega, ?_⟩
        have hR7 := hR5.push (b := (d, r)) e6 nd nr nrd hF
        refine l_cons <| s_ret <| e_tup <| a_cons <| e_str <| a_cons <| e_str <| a_nil ⟨by show 2 ≤ sizeLine; decide, fun t H8 e8 _ h8 => ?_⟩
        exact q2 (.atom none [] ((p, ps) :: fs)) t _ (d, r) (a' :: as') H8 rfl cs_e (hR7.same e8) h8
      | after => cases ka
      | arrow => cases ka
      | name => cases nn
      | uses => cases nb
      | usesP => cases nb
      | slash => cases nb
      | days => cases nb
      | daysP => cases nb
      | close => cases nb
    rw [st_atom, sg_lp, dec_sg] at k6
    have lsg : (Str.ofString "abcdefghijklmnopqrstuvwxyz0123456789").length ≤ sizeLine := by decide +kernel
    refine l_cons (s_ift (x := (decide (stT S1 = Str.ofString "atom") && decide (c ∈ cs (cutS (Str.ofString "abcdefghijklmnopqrstuvwxyz0123456789") none (some 26))))) (tv_w (tw_and (tv_eqS pv_var pv_str) (tw_and1 (tv_inS pv_var (pv_hi pv_var pv_int lsg) rfl)))) (fun k7 H6 e6 => ?_) fun k7 H6 e6 => l_nil ?_)
    · rw [st_atom] at k7
      have k7' : isAtom S1 = true ∧ let1 c = true := by
        rw [Bool.and_eq_true] at k7
        exact ⟨k7.1, by rw [← letters_in]; exact k7.2⟩
      obtain ⟨ka, hlt⟩ := k7'
      cases S1 with
      | atom p ps fs =>
        have hR6 := ((hR3.same e4).same e5).same e6
        refine l_cons <| s_ret <| e_tup <| a_cons <| e_str <| a_cons <| e_var <| a_nil ⟨by show 2 ≤ sizeLine; decide, fun t H8 e8 _ h8 => ?_⟩
        refine q2 (.name [c] p ps fs) t _ a' as' H8 ?_ rfl (hR6.same e8) h8
        have n40 : c ≠ 40 := fun z => by subst z; revert hlt; decide
        show (if c = 32 then _ else if c = 40 then _ else if let1 c = true then _ else _) = _
        rw [if_neg n32, if_neg n40, if_pos hlt]
      | after => cases ka
      | arrow => cases ka
      | name => cases nn
      | uses => cases nb
      | usesP => cases nb
      | slash => cases nb
      | days => cases nb
      | daysP => cases nb
      | close => cases nb
    rw [st_atom] at k7
    have e46 := (e4.trans e5).trans e6
    have hR6 := hR3.same e46
    refine l_cons (s_ift (x := ?b8) ?t8 (fun k8 H7 e7 => ?_) fun k8 H7 e7 => l_nil ?_)
    case t8 => walk_at "tvs"
    · rw [st_aft, st_arr, sg_gt, dec_sg] at k8
      have hR7 := hR6.same e7
      have arg : ∃ k x ps fs, topS' S1 = (some x, ps) ∧ restS S1 = fs ∧ topM S1 = k ∧ (k = none ∨ c = 62) ∧ lstep S1 c = lafterK k x ps fs c := by
        cases S1 with
        | after x ps fs =>
          refine ⟨none, x, ps, fs, rfl, rfl, rfl, .inl rfl, ?_⟩
          show lafter x ps fs c = _
          unfold lafter lafterK
          rw [if_neg n32]
          all_goals (rcases fs with _ | ⟨⟨q, qs⟩, gs⟩ <;> rfl)
        | arrow k x ps fs =>
          have hc : c = 62 := by simpa [isAft, isArr] using k8
          subst hc
          exact ⟨k, x, ps, fs, rfl, rfl, rfl, .inr rfl, rfl⟩
        | atom => simp [isAft, isArr] at k8
        | name => cases nn
        | uses => cases nb
        | usesP => cases nb
        | slash => cases nb
        | days => cases nb
        | daysP => cases nb
        | close => cases nb
      obtain ⟨k, x, ps, fs, eT, eR, eM, hk, hlk⟩ := arg
      rw [eT, eR, eM] at hR7
      rw [eT] at lps
      rw [eT] at las1 q1
      refine l_cons (s_ret (e_tup (a_cons (e_call (by exact FA) (by exact hr) (by decide) ?_))))
      refine a_cons (e_var (a_cons (e_var (a_nil ⟨u, x, ps, H0, a', as', fs, k, c, rfl, hR7, hk, lps, las, fun hn H8 e8 => ?_, fun S' a8 as8 H8 hs hR8 => ?_⟩))))
      · refine a_cons (e_str (a_nil ⟨by show 2 ≤ sizeLine; decide, fun t H9 e9 _ h9 => ?_⟩))
        exact q1 (hlk.trans hn) t _ H9 _ ((hR7.sm.trans e8).trans e9) (e9 _ _ (e8 _ _ hR7.hd)) (by simp only [List.length_append, List.length_map, List.length_reverse, List.length_cons, List.length_nil]; omega) (by simp) h9
      · refine a_cons (e_str (a_nil ⟨by show 2 ≤ sizeLine; decide, fun t H9 e9 _ h9 => ?_⟩))
        have tm : topM S' = none ∧ rnT S' = [] := by
          unfold lafterK at hs
          split at hs
          · cases hs; exact ⟨rfl, rfl⟩
          split at hs
          · cases hs; exact ⟨rfl, rfl⟩
          split at hs
          · cases hs; exact ⟨rfl, rfl⟩
          split at hs
          · cases hs
          · split at hs
            · cases hs; exact ⟨rfl, rfl⟩
            · cases hs
        refine q2 S' t _ a8 as8 H9 (hlk.trans hs) (by rw [tm.2]; exact cs_e) ?_ h9
        rw [tm.1]
        exact hR8.same e9
    · rw [st_aft, st_arr, sg_gt, dec_sg] at k8
      refine l_cons <| s_ret <| e_tup <| a_cons <| e_str <| a_cons <| e_str <| a_nil ⟨by show 2 ≤ sizeLine; decide, fun t H8 e8 _ h8 => ?_⟩
      have e48 := (e46.trans e7).trans e8
      refine q1 ?_ t _ H8 _ (hR3.sm.trans e48) (e48 _ _ hR3.hd) (by simp only [List.length_append, List.length_map, List.length_reverse, List.length_cons, List.length_nil]; omega) (by simp) h8
      cases S1 with
      | atom p ps fs =>
        have h40 : c ≠ 40 := by simpa [isAtom] using k6
        have hlt : let1 c = false := by
          rw [← letters_in]
          simpa [isAtom] using k7
        show (if c = 32 then _ else if c = 40 then _ else if let1 c = true then _ else _) = _
        rw [if_neg n32, if_neg h40, if_neg (by rw [hlt]; decide)]
      | arrow k x ps fs =>
        have h62 : c ≠ 62 := by simpa [isAft, isArr] using k8
        show (if c = 32 then _ else if c = 62 then _ else _) = _
        rw [if_neg n32, if_neg h62]
      | after => simp [isAft] at k8
      | name => cases nn
      | uses => cases nb
      | usesP => cases nb
      | slash => cases nb
      | days => cases nb
      | daysP => cases nb
      | close => cases nb
  · refine l_cons (s_ift (x := ?b9) ?t9 (fun k9 H3 e3 => ?_) fun k9 H3 e3 => l_nil ?_)
    case t9 => walk_at "tvs"
    · rw [st_name] at k9
      cases S with
      | name nm p ps fs =>
        have hal : alnum c = false := by
          rw [← signs_in]
          simpa [isName] using k3
        have hR3 := hR2.same e3
        refine l_cons (s_expr (e_call (by exact FJ) (by exact hr) (by decide) ?_))
        refine a_cons (e_var (a_cons (e_tup (a_cons (e_str (a_cons (e_var (a_nil ⟨by show 2 ≤ sizeLine; decide, fun t H4 e4 _ h4 => a_nil ?_⟩))))))))
        refine ⟨u, .ref t, .word nm, H0, a, as, (p, ps), fs, none, rfl, hR3.same e4, ⟨t, zr, rfl, h4, hzr⟩, fun H5 ts5 hR5 => ?_⟩
        refine l_cons (s_set (e_str (l_nil (go _ H5 ⟨.after (put p (.word nm)) ps fs, a, as, zr, rfl, lstep_name hal, ⟨rfl, rfl⟩, hR5, ?_, ?_⟩))))
        · have := hsz
          simp only [topS', restS, lnS_cons] at this ⊢
          exact this
        · simp only [topS', restS, lnS_cons]
      | atom => cases k9
      | after => cases k9
      | uses => cases k9
      | usesP => cases k9
      | slash => cases k9
      | days => cases k9
      | daysP => cases k9
      | close => cases k9
      | arrow => cases k9
    · rw [st_name] at k9
      exact go _ H3 ⟨S, a, as, zr, rfl, rfl, ⟨k1, k9⟩, hR2.same e3, hsz, rfl⟩
end



local macro_rules | `(tactic| walk_at "tv") => `(tactic| first
  | exact pv_var
  | exact tv_var
  | exact pv_lenS pv_var (by assumption)
  | exact pv_lenL pv_var (by assumption)
  | with_reducible exact pv_str
  | with_reducible exact pv_int
  | with_reducible exact pv_non
  | with_reducible exact pv_bl
  | with_reducible refine tv_w ?_
  | with_reducible refine tw_and (x := ?_) (y := ?_) ?_ ?_
  | with_reducible refine tw_or (x := ?_) (y := ?_) ?_ ?_
  | with_reducible refine tw_and1 ?_
  | with_reducible refine tw_or1 ?_
  | with_reducible refine tv_not (x := ?_) ?_
  | with_reducible refine tv_eqS (m := ?_) (n := ?_) ?_ ?_
  | with_reducible refine tv_neS (m := ?_) (n := ?_) ?_ ?_
  | with_reducible refine tv_eqI (i := ?_) (j := ?_) ?_ ?_
  | with_reducible refine tv_neI (i := ?_) (j := ?_) ?_ ?_
  | with_reducible refine tv_lt (i := ?_) (j := ?_) ?_ ?_
  | with_reducible refine tv_gt (i := ?_) (j := ?_) ?_ ?_
  | with_reducible refine tv_le (i := ?_) (j := ?_) ?_ ?_
  | with_reducible refine tv_ge (i := ?_) (j := ?_) ?_ ?_
  | refine tv_inT (m := ?_) (zs := ?_) ?_ ?_ ?_
  | refine tv_ninT (m := ?_) (zs := ?_) ?_ ?_ ?_
  | refine tv_inS (k := ?_) (n := ?_) ?_ ?_
  | (show List.length _ ≤ 1000; decide)
  | with_reducible exact Paired.nil
  | with_reducible refine Paired.cons (l₂ := ?_) pc1 ?_)
local macro_rules | `(tactic| walk_at "tvs") => `(tactic| repeat' walk_at "tv")
theorem fold_rep (c : Nat) : ∀ (m : Nat) (a : Array Nat), ((List.replicate m #[c]).foldl (· ++ ·) a).toList = a.toList ++ List.replicate m c
  | 0, a => by simp
  | m + 1, a => by
    rw [List.replicate_succ, List.foldl_cons, fold_rep c m, Array.toList_append, List.replicate_succ]
    simp
theorem cs_mul (c M : Nat) : cs (Txt.mul (sg c) (M : Int)) = List.replicate M c := by
  unfold Txt.mul
  match M with
  | 0 => rfl
  | 1 => rfl
  | M + 2 =>
    rw [if_neg (by omega), if_neg]
    · have := fold_rep c (((M + 2 : Nat) : Int)).toNat #[]
      rw [Int.toNat_natCast] at this
      show ((List.replicate (((M + 2 : Nat) : Int)).toNat #[c]).foldl (· ++ ·) #[]).toList = _
      rw [Int.toNat_natCast, this]
      simp
    · have h1 : (((M + 2 : Nat) : Int) == 1) = false := by
        rw [beq_eq_false_iff_ne]
        omega
      rw [h1]
      show ¬ ((false || ((1 : Nat) == 0)) = true)
      decide
theorem opc_rep (M : Nat) : opc (List.replicate M 41) = 0 := by
  induction M with
  | zero => rfl
  | succ M ih => rw [List.replicate_succ, opc_cons, ih]; rfl
def restK : List Str := [Str.ofString "atom", Str.ofString "uses", Str.ofString "uses+", Str.ofString "slash", Str.ofString "days", Str.ofString "days+", Str.ofString "close", Str.ofString "arrow"]
def restV : List Str := [Str.ofString "a", Str.ofString "1/0]>a", Str.ofString "/0]>a", Str.ofString "/0]>a", Str.ofString "0]>a", Str.ofString "]>a", Str.ofString "]>a", Str.ofString ">a"]
theorem restV_ok : ∀ y ∈ restV, y.length ≤ 10 ∧ opc (cs y) ≤ 1 := by decide +kernel
section
variable {P : Program} {w : World} {K : PySem.W.Frag} {mg : Str → Option Value} {base : Heap} {C CT CH : Addr}
def spRest : Sp := fun vs H Q _ => ∃ zs u xs, vs = [.str zs, .ref u] ∧ H u = some (.lst xs) ∧ xs.length ≤ 100001 ∧ 1 ≤ xs.length ∧ ∀ y H', Same H H' → y.length ≤ xs.length + 10 → opc (cs y) ≤ 1 → Q (.str y) H'
theorem ok_rest (T : Top K mg "_law_rest" s_rest) (mL : mg "len" = none) : Fn P w K mg base 1 "_law_rest" spRest := by
  refine fn_ok T sc_rest so_rest (fun vs H Q E h => by obtain ⟨zs, u, xs, rfl, _⟩ := h; rfl) (fun _ _ _ _ _ _ us hl => match us, hl with | [_, _], _ => rfl) fun f cdv A outer s H vs Q E hr h nd => ?_
  obtain ⟨zs, u, xs, rfl, hu, h1, h2, q⟩ := h
  refine l_cons (s_set (e_dC (zs := restK) (ws := restV) (.cons ⟨_, _, rfl⟩ (.cons ⟨_, _, rfl⟩ (.cons ⟨_, _, rfl⟩ (.cons ⟨_, _, rfl⟩ (.cons ⟨_, _, rfl⟩ (.cons ⟨_, _, rfl⟩ (.cons ⟨_, _, rfl⟩ (.cons ⟨_, _, rfl⟩ .nil)))))))) (.cons pc1 (.cons pc1 (.cons pc1 (.cons pc1 (.cons pc1 (.cons pc1 (.cons pc1 (.cons pc1 .nil)))))))) rfl (by simp) (by show 8 ≤ 15; decide) (by show 8 ≤ 15; decide) fun d H2 e2 nd h => ?_))
  show wL _ _ _ [some (.str zs), some (.ref u), some (.ref d)] _
  refine l_cons (s_ret (e_bin (e_dget2 (by exact hr) (e_var ⟨d, rfl, .inl ⟨_, .inl h⟩, ?_⟩))))
  refine e_var (e_str ⟨_, dg_K (k := Sum.inr zs) h, ?_⟩)
  have hA := merge_all (P := fun v => ∃ y : Str, v = .str y ∧ y.length ≤ 10 ∧ opc (cs y) ≤ 1) (more := (restK.zip restV).map fun z => ((Sum.inr z.1 : Key), V.str z.2)) (acc := []) (fun p hp => by cases hp) (fun p hp => by
    obtain ⟨z, hz, rfl⟩ := List.mem_map.mp hp
    exact ⟨z.2, rfl, restV_ok _ (List.of_mem_zip hz).2⟩)
  obtain ⟨y, hy, ly, oy⟩ : ∃ y : Str, ((valV (mergeK [] ((restK.zip restV).map fun z => ((Sum.inr z.1 : Key), V.str z.2))) (Sum.inr zs)).getD (.str (Str.ofString ""))) = .str y ∧ y.length ≤ 10 ∧ opc (cs y) ≤ 1 := by
    cases hv : valV (mergeK [] ((restK.zip restV).map fun z => ((Sum.inr z.1 : Key), V.str z.2))) (Sum.inr zs) with
    | none => exact ⟨_, rfl, by decide +kernel, by decide +kernel⟩
    | some v =>
      obtain ⟨p, hp, rfl⟩ := Wk.valV_in hv
      exact hA p hp
  rw [hy]
  refine e_bin (e_str (e_bin (e_callB (x := "len") (by assumption) b_len (a_cons (e_var (a_nil (c_lenL (by exact SqL.of (e2 _ _ hu)) (e_int (o_sub ?_)))))))))
  rw [show ((xs.length : Int) - 1) = ((xs.length - 1 : Nat) : Int) by omega, sg_rp]
  refine b_of op_mulS ⟨sg 41, ((xs.length - 1 : Nat) : Int), rfl, rfl, mulOk_of 1 100001 (Nat.le_refl 1) (by omega) (by omega) (by decide) (by decide), ?_⟩
  have lm : (Txt.mul (sg 41) ((xs.length - 1 : Nat) : Int)).length = xs.length - 1 := by rw [len_cs, cs_mul, List.length_replicate]
  refine o_addS (by omega) (q _ _ e2 (by rw [app_len]; omega) ?_)
  rw [cs_app, opc_app, cs_mul, opc_rep]
  omega
/-- what is told of a text: read, or the place of the sign that cannot stand -/
def ToldV (H : Hp) (n : Nat) (xs : List V) : Re → Prop
  | .ok s => ∃ v, xs = [.bl true, v] ∧ SnV H v s
  | .err r => xs = [.bl false, .int ((n - r.length : Nat) : Int)]
theorem ToldV.ts {H H' : Hp} (e : TS H H') {n : Nat} {xs : List V} {R : Re} (h : ToldV H n xs R) : ToldV H' n xs R := by
  cases R with
  | ok s => obtain ⟨v, h1, h2⟩ := h; exact ⟨v, h1, h2.ts e⟩
  | err r => exact h
abbrev lin (l : List Nat) : Re := lrun (.atom none [] []) l
def spRead : Sp := fun vs H Q _ => ∃ z : Str, vs = [.str z, .int 0, .str (Str.ofString "")] ∧ z.length ≤ 90000 ∧ ∀ t H' x y w, Same H H' → H' t = some (.tup [x, y, w]) → ToldV H' (cs z).length [x, y] (lin (cs z)) → (∀ r, lin (cs z) = .err r → ∃ rz : Str, w = .str rz ∧ rz.length ≤ z.length + 20 ∧ opc (cs rz) ≤ 1) → Q (.ref t) H'
theorem ok_read (T : Top K mg "_law_read" s_read) (mL : mg "len" = none) (mR : mg "range" = none) (FF : Fn P w K mg base 1 "_law_fold" spFold) (FJ : Fn P w K mg base 1 "_law_join" spJoin) (FR : Fn P w K mg base 1 "_law_frame" spFrame) (FS : Fn P w K mg base 3 "_law_step" spLStep) (FE : Fn P w K mg base 1 "_law_rest" spRest) : Fn P w K mg base 4 "_law_read" spRead := by
  refine fn_ok T sc_read so_read (fun vs H Q E h => by obtain ⟨z, rfl, _⟩ := h; rfl) (fun _ _ _ _ _ _ us hl => match us, hl with | [_, _, _], _ => rfl) fun f cdv A outer s H vs Q E hr h nd => ?_
  obtain ⟨z, rfl, hz, q⟩ := h
  have hzs : z.length ≤ sizeLine := Nat.le_trans hz (by decide)
  have hlz := len_cs z
  refine l_cons (s_set (e_lst (a_cons (e_call0 (by exact FR) (by exact hr) (by decide) ?_))))
  refine ⟨rfl, fun d r H1 e1 nd nr nrd hF => a_nil ⟨by show 1 ≤ sizeLine; decide, fun u H2 e2 nu hu => ?_⟩⟩
  have hR : LRd u H H2 (d, r) [] (none, []) [] none := by
    have n1 : u ≠ d := fun z => by subst z; obtain ⟨⟨pv, mv, c1, _⟩, _⟩ := hF; rw [c1] at nu; cases nu
    have n2 : u ≠ r := fun z => by subst z; obtain ⟨_, es, c1, _⟩ := hF; rw [c1] at nu; cases nu
    refine ⟨hu, hF.same e2, trivial, ?_, ?_, e1.trans e2⟩
    · show [u, d, r].Nodup
      simp [n1, n2, nrd.symm]
    · intro x hx
      have hx : x ∈ [u, d, r] := hx
      simp only [List.mem_cons, List.not_mem_nil, or_false] at hx
      rcases hx with rfl | rfl | rfl
      · exact none_of e1 nu
      · exact nd
      · exact nr
  show wL _ _ _ [some (.str z), some (.int 0), some (.str (Str.ofString "")), some (.ref u), none, none, none, none] _
  refine l_cons (s_set (e_str (l_cons (s_set (e_str ?_)))))
  show wL _ _ _ [some (.str z), some (.int 0), some (.str (Str.ofString "")), some (.ref u), some (.str (Str.ofString "atom")), some (.str (Str.ofString "")), none, none] _
  refine l_cons (s_forR12 (by assumption) ?_)
  refine e_var (e_callB (x := "len") (by assumption) b_len (a_cons (e_var (a_nil (c_lenS hzs ?_)))))
  refine ⟨0, z.length, rfl, by rw [Nat.zero_add], by omega, fun k σ H' => ∃ (S : LSt) (zr : Str) (a : Addr × Addr) (as : List (Addr × Addr)) (x6 x7 : Option V), σ = [some (.str z), some (.int 0), some (.str (Str.ofString "")), some (.ref u), some (.str (stT S)), some (.str zr), x6, x7] ∧ k ≤ z.length ∧ lin (cs z) = lrun S ((cs z).drop k) ∧ cs zr = rnT S ∧ WF S ∧ LRd u H H' a as (topS' S) (restS S) (topM S) ∧ lnS (topS' S :: restS S) ≤ k + 1, ⟨.atom none [] [], _, (d, r), [], none, none, rfl, Nat.zero_le _, rfl, cs_e, trivial, hR, by decide⟩, ?_, ?_⟩
  · rintro k σ H' hk ⟨S, zr, a, as, x6, x7, rfl, _, hl, hzr, hw, hR', hsz⟩
    have hkl : k < (cs z).length := by omega
    obtain ⟨c, hc⟩ : ∃ c, (cs z)[k]? = some c := ⟨(cs z)[k], by simp [hkl]⟩
    have hdr : (cs z).drop k = c :: (cs z).drop (k + 1) := by
      rw [List.drop_eq_getElem_cons hkl]
      have : (cs z)[k] = c := by rw [List.getElem?_eq_getElem hkl] at hc; injection hc
      rw [this]
    have hat : atI (cs z) ((k : Nat) : Int) = some c := atI_nat hc
    have hat0 : atI (cs z) (((0 + k : Nat)) : Int) = some c := by rw [Nat.zero_add]; exact hat
    show wL _ _ _ [some (.str z), some (.int 0), some (.str (Str.ofString "")), some (.ref u), some (.str (stT S)), some (.str zr), some (.int ((0 + k : Nat) : Int)), x7] _
    rw [Nat.zero_add] at hat0 ⊢
    refine l_cons (s_if (t_w (w_and (t_cmp (e_ix (e_var (e_var (ix_s hzs hat (e_var (o_inS ⟨_, rfl, ?_⟩))))))))))
    refine ite_f (decide_eq_false (by show ¬ c ∈ cs (Str.ofString ""); rw [cs_e]; simp)) (iteF (l_nil ?_))
    refine l_cons (s_set (e_call (by exact FS) (by exact hr) (by decide) ?_))
    refine a_cons <| e_var <| a_cons <| e_var <| a_cons <| e_var <| a_cons <| e_ix <| e_var <| e_var <| ix_s hzs hat <| a_nil ?_
    rw [hdr, lrun_cons] at hl
    refine ⟨u, H, a, as, S, _, zr, c, rfl, rfl, hzr, hw, hR', by omega, fun hn t z2 H3 xs e3 hu3 lx lx1 h3 => ?_, fun S' t z2 a' as' H3 hs hz2 hR3 h3 => ?_⟩
    · rw [hn] at hl
      show wL _ _ _ [some (.str z), some (.int 0), some (.str (Str.ofString "")), some (.ref u), some (.str (stT S)), some (.str zr), some (.int ((k : Nat) : Int)), some (.ref t)] _
      refine l_cons (s_ift (x := true) (tv_of fun H4 QT s4 q4 => tv_use (tv_eqS (pv_ixT pv_var pv_int (s4 _ _ h3) at0) pv_str) fun H5 s5 => by rw [decide_eq_true rfl]; exact q4 H5 s5) (fun _ H4 e4 => ?_) fun k4 => by cases k4)
      refine l_cons (s_ret (e_tup (a_cons (e_bl (a_cons (e_var (a_cons (e_call (by exact FE) (by exact hr) (by decide) ?_))))))))
      refine a_cons (e_var (a_cons (e_var (a_nil ⟨stT S, u, xs, rfl, e4 _ _ hu3, by omega, lx1, fun y H5 e5 ly oy => a_nil ⟨by show 3 ≤ sizeLine; decide, fun t6 H6 e6 _ h6 => ?_⟩⟩))))
      refine q t6 H6 _ _ _ (((e3.trans e4).trans e5).trans e6) h6 ?_ fun r _ => ⟨y, rfl, by omega, oy⟩
      rw [hl]
      show _ = _
      rw [show (cs z).length - (c :: (cs z).drop (k + 1)).length = k by simp only [List.length_cons, List.length_drop]; omega]
    · rw [hs] at hl
      show wL _ _ _ [some (.str z), some (.int 0), some (.str (Str.ofString "")), some (.ref u), some (.str (stT S)), some (.str zr), some (.int ((k : Nat) : Int)), some (.ref t)] _
      refine l_cons (s_ift (x := false) (tv_of fun H4 QT s4 q4 => tv_use (tv_eqS (pv_ixT pv_var pv_int (s4 _ _ h3) at0) pv_str) fun H5 s5 => by rw [decide_eq_false (stn_ne S')]; exact q4 H5 s5) (fun k4 => by cases k4) fun _ H4 e4 => l_nil ?_)
      have h4 := e4 _ _ h3
      refine l_cons (s_set (e_ix (e_var (e_int (ix_t (by exact SqT.of h4) at0 ?_)))))
      refine l_cons (s_set (e_ix (e_var (e_int (ix_t (by exact SqT.of h4) at1 (l_nil ?_))))))
      exact ⟨S', z2, a', as', _, _, rfl, by omega, hl, hz2, lstep_wf hw hs, hR3.same e4, by have := lstep_sz hs; omega⟩
  · rintro σ H' ⟨S, zr, a, as, x6, x7, rfl, _, hl, hzr, hw, hR', hsz⟩
    rw [show (cs z).drop z.length = [] from List.drop_eq_nil_of_le (by omega)] at hl
    have hl : lin (cs z) = lend S := hl
    have hfs := hR'.fs.len
    have hln := len_lnS (restS S)
    have hu5 := hR'.hd
    rw [lnS_cons] at hsz
    refine l_cons (s_ift (x := ?b1) ?t1 (fun k1 H1 e1 => ?_) fun k1 H1 e1 => l_nil ?_)
    case t1 => walk_at "tvs"
    · have herr : lend S = .err [] := by
        simp only [decide_true, Bool.not_true, Bool.false_or, Bool.or_eq_true, decide_eq_true_eq, List.length_append, List.length_map, List.length_reverse, List.length_cons, List.length_nil, Bool.not_eq_true', decide_eq_false_iff_not] at k1
        have aux : ∀ fs, restS S = fs → (fs ≠ [] ∨ stT S ∉ [Str.ofString "name", Str.ofString "after"]) → lend S = .err [] := by
          intro fs hfs' ho
          cases S with
          | name v p ps gs =>
            cases gs with
            | nil =>
              rcases ho with ho | ho
              · exact absurd hfs'.symm ho
              · exact absurd (List.mem_cons_self) ho
            | cons => rfl
          | after x ps gs =>
            cases gs with
            | nil =>
              rcases ho with ho | ho
              · exact absurd hfs'.symm ho
              · exact absurd (List.mem_cons_of_mem _ List.mem_cons_self) ho
            | cons => rfl
          | atom => rfl
          | uses => rfl
          | usesP => rfl
          | slash => rfl
          | days => rfl
          | daysP => rfl
          | close => rfl
          | arrow => rfl
        refine aux _ rfl ?_
        rcases k1 with k1 | k1
        · exact .inl (fun z => by rw [z] at hfs; simp only [List.length_nil] at hfs; omega)
        · exact .inr k1
      rw [herr] at hl
      refine l_cons <| s_ret <| e_tup <| a_cons <| e_bl <| a_cons <| e_callB (x := "len") (by assumption) b_len <| a_cons <| e_var <| a_nil <| c_lenS hzs <| a_cons <| e_call (by exact FE) (by exact hr) (by decide) ?_
      refine a_cons (e_var (a_cons (e_var (a_nil ⟨stT S, u, _, rfl, e1 _ _ hu5, by simp only [List.length_append, List.length_map, List.length_reverse, List.length_cons, List.length_nil]; omega, by simp, fun y H5 e5 ly oy => a_nil ⟨by show 3 ≤ sizeLine; decide, fun t6 H6 e6 _ h6 => ?_⟩⟩))))
      refine q t6 H6 _ _ _ (((hR'.sm.trans e1).trans e5).trans e6) h6 ?_ fun r _ => ⟨y, rfl, by simp only [List.length_append, List.length_map, List.length_reverse, List.length_cons, List.length_nil] at ly; omega, oy⟩
      rw [hl]
      show _ = _
      rw [show (cs z).length - ([] : List Nat).length = z.length by simp only [List.length_nil]; omega]
    · have hok : (∃ v p ps, S = .name v p ps []) ∨ ∃ x ps, S = .after x ps [] := by
        simp only [decide_true, Bool.not_true, Bool.false_or, Bool.or_eq_false_iff, decide_eq_false_iff_not, List.length_append, List.length_map, List.length_reverse, List.length_cons, List.length_nil, Bool.not_eq_false', decide_eq_true_eq] at k1
        obtain ⟨k2, k3⟩ := k1
        have hnil : restS S = [] := List.eq_nil_of_length_eq_zero (by omega)
        cases S with
        | name v p ps gs => cases hnil; exact .inl ⟨v, p, ps, rfl⟩
        | after x ps gs => cases hnil; exact .inr ⟨x, ps, rfl⟩
        | atom => exact absurd k3 (show ¬ Str.ofString "atom" ∈ [Str.ofString "name", Str.ofString "after"] by decide +kernel)
        | uses => exact absurd k3 (show ¬ Str.ofString "uses" ∈ [Str.ofString "name", Str.ofString "after"] by decide +kernel)
        | usesP => exact absurd k3 (show ¬ Str.ofString "uses+" ∈ [Str.ofString "name", Str.ofString "after"] by decide +kernel)
        | slash => exact absurd k3 (show ¬ Str.ofString "slash" ∈ [Str.ofString "name", Str.ofString "after"] by decide +kernel)
        | days => exact absurd k3 (show ¬ Str.ofString "days" ∈ [Str.ofString "name", Str.ofString "after"] by decide +kernel)
        | daysP => exact absurd k3 (show ¬ Str.ofString "days+" ∈ [Str.ofString "name", Str.ofString "after"] by decide +kernel)
        | close => exact absurd k3 (show ¬ Str.ofString "close" ∈ [Str.ofString "name", Str.ofString "after"] by decide +kernel)
        | arrow => exact absurd k3 (show ¬ Str.ofString "arrow" ∈ [Str.ofString "name", Str.ofString "after"] by decide +kernel)
      have hR1 := hR'.same e1
      refine l_join (fun σ H3 => ∃ (zs zr : Str) (x6 x7 : Option V) (x : Sn) (ps : Prs), σ = [some (.str z), some (.int 0), some (.str (Str.ofString "")), some (.ref u), some (.str zs), some (.str zr), x6, x7] ∧ LRd u H H3 a [] (some x, ps) [] none ∧ lend S = .ok (whole ps x)) (fun σ H3 hA => ?_) (fun go => ?_)
      · obtain ⟨zs, zr, x6, x7, x, ps, rfl, hR3, he⟩ := hA
        rw [he] at hl
        refine l_cons (s_ret (e_tup (a_cons (e_bl (a_cons (e_call (by exact FF) (by exact hr) (by decide) ?_))))))
        refine a_cons (e_ix (e_var (e_int (ix_l (by exact SqL.of hR3.hd) (atI_nat (j := 0) (v := .ref a.1) rfl) (a_nil ?_)))))
        refine ⟨a, x, ps, none, rfl, hR3.tp, fun v H4 e4 hv => ?_⟩
        refine a_cons (e_callB (x := "len") (by assumption) b_len (a_cons (e_var (a_nil (c_lenS hzs (a_nil ⟨by show 3 ≤ sizeLine; decide, fun t6 H6 e6 _ h6 => ?_⟩))))))
        refine q t6 H6 _ _ _ ((hR3.sm.trans e4).trans e6) h6 ?_ fun r hr' => by rw [hl] at hr'; cases hr'
        rw [hl]
        exact ⟨v, rfl, SnV.ts (Same.ts e6) hv⟩
      · rcases hok with ⟨v, p, ps, rfl⟩ | ⟨x, ps, rfl⟩
        · have has : as = [] := List.eq_nil_of_length_eq_zero hfs
          subst has
          refine l_cons (s_ift (x := true) (tv_of fun H4 QT s4 q4 => tv_use (tv_eqS pv_var pv_str) fun H5 s5 => by rw [decide_eq_true (show stT (.name v p ps []) = Str.ofString "name" from rfl)]; exact q4 H5 s5) (fun _ H4 e4 => ?_) fun k4 => by cases k4)
          refine l_cons (s_expr (e_call (by exact FJ) (by exact hr) (by decide) ?_))
          refine a_cons (e_var (a_cons (e_tup (a_cons (e_str (a_cons (e_var (a_nil ⟨by show 2 ≤ sizeLine; decide, fun t H5 e5 _ h5 => a_nil ?_⟩))))))))
          refine ⟨u, .ref t, .word v, H, a, [], (p, ps), [], none, rfl, (hR1.same e4).same e5, ⟨t, zr, rfl, h5, hzr⟩, fun H6 ts6 hR6 => l_nil (go _ H6 ⟨_, _, _, _, _, _, rfl, hR6, rfl⟩)⟩
        · have has : as = [] := List.eq_nil_of_length_eq_zero hfs
          subst has
          refine l_cons (s_ift (x := false) (tv_of fun H4 QT s4 q4 => tv_use (tv_eqS pv_var pv_str) fun H5 s5 => by rw [decide_eq_false (show ¬ stT (.after x ps []) = Str.ofString "name" from (show ¬ Str.ofString "after" = Str.ofString "name" by decide +kernel))]; exact q4 H5 s5) (fun k4 => by cases k4) fun _ H4 e4 => l_nil ?_)
          exact go _ H4 ⟨_, _, _, _, _, _, rfl, hR1.same e4, rfl⟩
end



local macro_rules | `(tactic| walk_at "tv") => `(tactic| first
  | exact pv_var
  | exact tv_var
  | exact pv_lenS pv_var (by assumption)
  | exact pv_lenL pv_var (by assumption)
  | with_reducible exact pv_str
  | with_reducible exact pv_int
  | with_reducible exact pv_non
  | with_reducible exact pv_bl
  | with_reducible refine tv_w ?_
  | with_reducible refine tw_and (x := ?_) (y := ?_) ?_ ?_
  | with_reducible refine tw_or (x := ?_) (y := ?_) ?_ ?_
  | with_reducible refine tw_and1 ?_
  | with_reducible refine tw_or1 ?_
  | with_reducible refine tv_not (x := ?_) ?_
  | with_reducible refine tv_eqS (m := ?_) (n := ?_) ?_ ?_
  | with_reducible refine tv_neS (m := ?_) (n := ?_) ?_ ?_
  | with_reducible refine tv_eqI (i := ?_) (j := ?_) ?_ ?_
  | with_reducible refine tv_neI (i := ?_) (j := ?_) ?_ ?_
  | with_reducible refine tv_lt (i := ?_) (j := ?_) ?_ ?_
  | with_reducible refine tv_gt (i := ?_) (j := ?_) ?_ ?_
  | with_reducible refine tv_le (i := ?_) (j := ?_) ?_ ?_
  | with_reducible refine tv_ge (i := ?_) (j := ?_) ?_ ?_
  | refine tv_inT (m := ?_) (zs := ?_) ?_ ?_ ?_
  | refine tv_ninT (m := ?_) (zs := ?_) ?_ ?_ ?_
  | refine tv_inS (k := ?_) (n := ?_) ?_ ?_
  | (show List.length _ ≤ 1000; decide)
  | with_reducible exact Paired.nil
  | with_reducible refine Paired.cons (l₂ := ?_) pc1 ?_)
local macro_rules | `(tactic| walk_at "tvs") => `(tactic| repeat' walk_at "tv")
/-! ### the same data -/
def Eqv (H : Hp) : Nat → V → V → Prop
  | n, u, v => (∃ b, u = .bl b ∧ v = .bl b) ∨ (∃ i, u = .int i ∧ v = .int i) ∨ (∃ x, u = .str x ∧ v = .str x) ∨ match n with
    | 0 => False
    | m + 1 => ∃ (t r : Addr) (xs ys : List V), u = .ref t ∧ v = .ref r ∧ H t = some (.tup xs) ∧ H r = some (.tup ys) ∧ xs.length = ys.length ∧ ys.length ≤ 1000 ∧ ∀ (i : Nat) x y, xs[i]? = some x → ys[i]? = some y → Eqv H m x y
theorem eqv_str {H : Hp} (n : Nat) (x : Str) : Eqv H n (.str x) (.str x) := by unfold Eqv; exact .inr (.inr (.inl ⟨x, rfl, rfl⟩))
theorem eqv_int {H : Hp} (n : Nat) (x : Int) : Eqv H n (.int x) (.int x) := by unfold Eqv; exact .inr (.inl ⟨x, rfl, rfl⟩)
theorem eqv_bl {H : Hp} (n : Nat) (x : Bool) : Eqv H n (.bl x) (.bl x) := by unfold Eqv; exact .inl ⟨x, rfl, rfl⟩
theorem eqv_tup {H : Hp} (n : Nat) {t r : Addr} {xs ys : List V} (h1 : H t = some (.tup xs)) (h2 : H r = some (.tup ys)) (hl : xs.length = ys.length) (hm : ys.length ≤ 1000) (h : ∀ (i : Nat) x y, xs[i]? = some x → ys[i]? = some y → Eqv H n x y) : Eqv H (n + 1) (.ref t) (.ref r) := by
  unfold Eqv
  exact .inr (.inr (.inr ⟨t, r, xs, ys, rfl, rfl, h1, h2, hl, hm, h⟩))
theorem eqv_2 {H : Hp} (n : Nat) {t r : Addr} {a b c d : V} (h1 : H t = some (.tup [a, b])) (h2 : H r = some (.tup [c, d])) (e1 : Eqv H n a c) (e2 : Eqv H n b d) : Eqv H (n + 1) (.ref t) (.ref r) :=
  eqv_tup n h1 h2 rfl (by show 2 ≤ 1000; decide) fun i x y hx hy => by
    match i, hx, hy with
    | 0, hx, hy => cases hx; cases hy; exact e1
    | 1, hx, hy => cases hx; cases hy; exact e2
theorem eqv_3 {H : Hp} (n : Nat) {t r : Addr} {a b e c d f : V} (h1 : H t = some (.tup [a, b, e])) (h2 : H r = some (.tup [c, d, f])) (e1 : Eqv H n a c) (e2 : Eqv H n b d) (e3 : Eqv H n e f) : Eqv H (n + 1) (.ref t) (.ref r) :=
  eqv_tup n h1 h2 rfl (by show 3 ≤ 1000; decide) fun i x y hx hy => by
    match i, hx, hy with
    | 0, hx, hy => cases hx; cases hy; exact e1
    | 1, hx, hy => cases hx; cases hy; exact e2
    | 2, hx, hy => cases hx; cases hy; exact e3
theorem eqv_4 {H : Hp} (n : Nat) {t r : Addr} {a b e g c d f k : V} (h1 : H t = some (.tup [a, b, e, g])) (h2 : H r = some (.tup [c, d, f, k])) (e1 : Eqv H n a c) (e2 : Eqv H n b d) (e3 : Eqv H n e f) (e4 : Eqv H n g k) : Eqv H (n + 1) (.ref t) (.ref r) :=
  eqv_tup n h1 h2 rfl (by show 4 ≤ 1000; decide) fun i x y hx hy => by
    match i, hx, hy with
    | 0, hx, hy => cases hx; cases hy; exact e1
    | 1, hx, hy => cases hx; cases hy; exact e2
    | 2, hx, hy => cases hx; cases hy; exact e3
    | 3, hx, hy => cases hx; cases hy; exact e4
theorem eqv_mode {H : Hp} (n : Nat) {x y : V} {k : Pk} (h1 : ModeV H x k) (h2 : ModeV H y k) : Eqv H (n + 1) x y := by
  rcases k with _ | ⟨a, b⟩
  · obtain rfl : x = .str "once" := h1
    obtain rfl : y = .str "once" := h2
    exact eqv_str _ _
  · obtain ⟨t, rfl, ht⟩ := h1
    obtain ⟨r, rfl, hr⟩ := h2
    exact eqv_2 n ht hr (eqv_int _ _) (eqv_int _ _)
theorem eqv_sn {H : Hp} : ∀ {s : Sn} {n : Nat} {u v : V}, SnV H u s → SnV H v s → dep s ≤ n → Eqv H (n + 2) u v
  | .word z, n, u, v, ⟨t, x, e1, h1, c1⟩, ⟨r, y, e2, h2, c2⟩, _ => by
    subst e1 e2
    obtain rfl : x = y := cs_ext (c1.trans c2.symm)
    exact eqv_2 _ h1 h2 (eqv_str _ _) (eqv_str _ _)
  | .menu l r, 0, u, v, _, _, hd => by simp only [dep] at hd; omega
  | .menu l r, n + 1, u, v, ⟨t, a, b, e1, h1, ha, hb⟩, ⟨t', c, d, e2, h2, hc, hd'⟩, hd => by
    subst e1 e2
    simp only [dep] at hd
    exact eqv_3 _ h1 h2 (eqv_str _ _) (eqv_sn ha hc (by omega)) (eqv_sn hb hd' (by omega))
  | .trade k p g, 0, u, v, _, _, hd => by simp only [dep] at hd; omega
  | .trade k p g, n + 1, u, v, ⟨t, m, a, b, e1, h1, hm, ha, hb⟩, ⟨t', m', c, d, e2, h2, hm', hc, hd'⟩, hd => by
    subst e1 e2
    simp only [dep] at hd
    exact eqv_4 _ h1 h2 (eqv_str _ _) (eqv_mode _ hm hm') (eqv_sn ha hc (by omega)) (eqv_sn hb hd' (by omega))
section
variable {P : Program} {w : World} {K : PySem.W.Frag} {mg : Str → Option Value} {base : Heap} {C CT CH CB CN CD CM : Addr}
def spEqv (n : Nat) : Sp := fun vs H Q _ => ∃ u v, vs = [u, v] ∧ Eqv H n u v ∧ Q (.bl true) H
theorem ok_eqvS (n : Nat) (T : Top K mg "_law_same" s_same) (B : BOk mg) (F : ∀ m, n = m + 1 → Fn P w K mg base (m + 1) "_law_same" (spEqv m)) : Fn P w K mg base (n + 1) "_law_same" (spEqv n) := by
  refine fn_ok T sc_same so_same (fun vs H Q E h => by obtain ⟨u, v, rfl, _⟩ := h; rfl) (fun _ _ _ _ _ _ us hl => match us, hl with | [_, _], _ => rfl) fun f cdv A outer s H vs Q E hr h nd => ?_
  obtain ⟨u, v, rfl, hh, q⟩ := h
  obtain ⟨bi, bt, bb, bs, btu, bl, bn, br⟩ := B
  unfold Eqv at hh
  rcases hh with ⟨b, rfl, rfl⟩ | ⟨i, rfl, rfl⟩ | ⟨x, rfl, rfl⟩ | hh
  · refine l_cons (s_if (t_cmp (e_var (e_non (o_isN ⟨_, rfl, ite_f ?hn (l_nil ?_)⟩)))))
    case hn => simp
    walk_at "sts"
    refine c_isi ty_bl (.ty _) (kit_ty kb_bool_bool) ?_
    walk_at "sts"
    refine c_isi ty_bl (.ty _) (kit_ty kb_bool_bool) ?_
    walk_at "sts"
    rw [decide_eq_true rfl]
    exact q
  · refine l_cons (s_if (t_cmp (e_var (e_non (o_isN ⟨_, rfl, ite_f ?hn (l_nil ?_)⟩)))))
    case hn => simp
    walk_at "sts"
    refine c_isi ty_int (.ty _) (kit_ty kb_int_bool) ?_
    walk_at "sts"
    refine c_isi ty_int (.ty _) (kit_ty kb_int_int) ?_
    walk_at "sts"
    refine c_isi ty_int (.ty _) (kit_ty kb_int_int) ?_
    walk_at "sts"
    refine c_isi ty_int (.ty _) (kit_ty kb_int_bool) ?_
    walk_at "sts"
    rw [decide_eq_true rfl]
    exact q
  · refine l_cons (s_if (t_cmp (e_var (e_non (o_isN ⟨_, rfl, ite_f ?hn (l_nil ?_)⟩)))))
    case hn => simp
    walk_at "sts"
    refine c_isi ty_str (.ty _) (kit_ty kb_str_bool) ?_
    walk_at "sts"
    refine c_isi ty_str (.ty _) (kit_ty kb_str_int) ?_
    walk_at "sts"
    refine c_isi ty_str (.ty _) (kit_ty kb_str_str) ?_
    walk_at "sts"
    refine c_isi ty_str (.ty _) (kit_ty kb_str_str) ?_
    walk_at "sts"
    rw [decide_eq_true rfl]
    exact q
  · cases n with
    | zero => exact hh.elim
    | succ n =>
    obtain ⟨t, r, xs, ys, rfl, rfl, ht, hr', hl, hm, hc⟩ := hh
    have F0 := F n rfl
    refine l_cons (s_if (t_cmp (e_var (e_non (o_isN ⟨_, rfl, ite_f ?hn (l_nil ?_)⟩)))))
    case hn => simp
    walk_at "sts"
    refine c_isi (ty_tup hr') (.ty _) (kit_ty kb_tuple_bool) ?_
    walk_at "sts"
    refine c_isi (ty_tup hr') (.ty _) (kit_ty kb_tuple_int) ?_
    walk_at "sts"
    refine c_isi (ty_tup hr') (.ty _) (kit_ty kb_tuple_str) ?_
    walk_at "sts"
    refine c_isi (ty_tup hr') (.ty _) (kit_ty kb_tuple_list) ?_
    walk_at "sts"
    refine c_isi (ty_tup hr') (.ty _) (kit_ty kb_tuple_tuple) ?_
    walk_at "sts"
    refine c_isi (ty_tup ht) (.ty _) (kit_ty kb_tuple_tuple) ?_
    walk_at "sts"
    refine c_lenT (by exact SqT.of ht) ?_
    walk_at "sts"
    refine c_lenT (by exact SqT.of hr') ?_
    rw [hl]
    walk_at "sts"
    rw [decide_eq_true (rfl : (ys.length : Int) = ys.length)]
    walk_at "sts"
    refine s_forR (by assumption) ?_
    walk_at "sts"
    refine c_lenT (by exact SqT.of hr') ?_
    refine ⟨ys.length, rfl, by omega, fun i σ H' => (∃ y, σ = [some (.ref t), some (.ref r), y]) ∧ H' = H, ⟨⟨_, rfl⟩, rfl⟩, fun k σ H3 hk hW => ?_, fun σ H3 hW => ?_⟩
    · obtain ⟨⟨y, rfl⟩, rfl⟩ := hW
      have hx : xs[k]? = some xs[k] := by simp [hl, hk]
      have hy : ys[k]? = some ys[k] := by simp [hk]
      walk_at "sts"
      refine e_call (by exact F0) (by exact hr) (Nat.le_refl _) ?_
      walk_at "sts"
      refine ix_t (by exact SqT.of ht) (atI_nat hx) ?_
      walk_at "sts"
      refine ix_t (by exact SqT.of hr') (atI_nat hy) ?_
      walk_at "sts"
      refine ⟨_, _, rfl, hc k _ _ hx hy, ?_⟩
      exact ⟨_, rfl, ite_f rfl (l_nil (l_nil ⟨⟨_, rfl⟩, rfl⟩))⟩
    · obtain ⟨⟨y, rfl⟩, rfl⟩ := hW
      exact l_cons (s_ret (e_bl q))
theorem ok_eqv (T : Top K mg "_law_same" s_same) (B : BOk mg) : ∀ n, Fn P w K mg base (n + 1) "_law_same" (spEqv n)
  | 0 => ok_eqvS 0 T B fun m h => by cases h
  | n + 1 => ok_eqvS (n + 1) T B fun m h => by cases h; exact ok_eqv T B n
/-! ### what is told -/
theorem Ends_lin (z : Str) : Ends (init (cs z)) (lin (cs z)) := (law_reads _ (cs z) (Nat.le_refl _)).1 none [] []
theorem AtI.eq {z : Str} {j : Nat} {r : List Nat} (h : AtI z j r) : j = (cs z).length - r.length := by have := h.len; omega
structure Errs (K : PySem.W.Frag) (mg : Str → Option Value) (CT CH CB CN CD CM : Addr) : Prop where
  mV : mg "ValueError" = none
  mT : mg "TextError" = some (.ref CT)
  mH : mg "HeldError" = some (.ref CH)
  mB : mg "BadKind" = some (.ref CB)
  mN : mg "BadName" = some (.ref CN)
  mD : mg "DerivationError" = some (.ref CD)
  mM : mg "NameTaken" = some (.ref CM)
  ec : EcC K CT
  xf : XfC K CT
  no : PySem.W.findIn K (.ref CT) "index" = some none
  xT : PySem.W.exmOne K (.ref CT) (.ref CT) = some true
  xH : PySem.W.exmOne K (.ref CT) (.ref CH) = some true
  kV : PySem.W.kitOne K (.ref CT) (.type "ValueError") = some true
  kT : PySem.W.kitOne K (.ref CT) (.ref CT) = some true
  kA : PySem.W.kitAny K (.ref CT) [.ref CB, .ref CN, .ref CD, .ref CM] = some false
theorem b_ve : bootBuiltins "ValueError" = some (.type "ValueError") := by decide +kernel
def spTold : Sp := fun vs H Q _ => ∃ z : Str, vs = [.str z] ∧ z.length ≤ 90000 ∧ ∀ t H' x y, Same H H' → H' t = some (.tup [x, y]) → ToldV H' (cs z).length [x, y] (lin (cs z)) → Q (.ref t) H'
theorem ok_told (T : Top K mg "_law_told" s_told) (mIs : mg "isinstance" = none) (R : Errs K mg CT CH CB CN CD CM) (FP : FnN P w K mg base 7 "parse_sentence" (spParse CT)) : Fn P w K mg base 8 "_law_told" spTold := by
  refine fn_ok T sc_told so_told (fun vs H Q E h => by obtain ⟨z, rfl, _⟩ := h; rfl) (fun _ _ _ _ _ _ us hl => match us, hl with | [_], _ => rfl) fun f cdv A outer s H vs Q E hr h nd => ?_
  obtain ⟨z, rfl, hz, q⟩ := h
  refine l_cons (s_tryN (by exact R.mT) takesN0 fun pn xe tk nod' => ?_)
  refine l_cons (s_ret (e_tup (a_cons (e_bl (a_cons (e_callN (by exact FP) (by exact tk) (by exact hr) (by decide) ?_))))))
  refine a_cons (e_var (a_nil ⟨z, rfl, by omega, fun v s H1 ee hv e1 => ?_, fun r j d H1 ee hj e1 h1 => ?_⟩))
  · refine a_nil ⟨by show 2 ≤ sizeLine; decide, fun t H2 e2 _ h2 => ?_⟩
    refine q t H2 _ _ (e1.trans e2) h2 ?_
    rw [(Ends_lin z).det ee]
    exact ⟨v, rfl, SnV.ts (Same.ts e2) hv⟩
  · refine ⟨true, R.xT, fun _ ea na => ?_, fun z => nomatch z⟩
    intro oe pn2 hz2 hf nd2 hot
    have hdx : ∀ d', some d = some d' → H1 d' = some (.xd [(("index" : Str), V.int (j : Int))]) := fun d' e => by cases e; exact h1
    refine l_cons (s_if (t_w (w_or (t_val ?_))))
    refine e_callB (x := "isinstance") (by assumption) b_isi (a_cons (e_var (a_cons ?_)))
    refine e_tup ?_
    refine a_cons (e_glob (v := .ref CB) (by exact R.mB) rfl ?_)
    refine a_cons (e_glob (v := .ref CN) (by exact R.mN) rfl ?_)
    refine a_cons (e_glob (v := .ref CD) (by exact R.mD) rfl ?_)
    refine a_cons (e_glob (v := .ref CM) (by exact R.mM) rfl ?_)
    refine a_nil ⟨by show 4 ≤ sizeLine; decide, fun tp H2 e2 _ h2 => a_nil ?_⟩
    refine c_isET R.ec hz2 hf (fun d' e => e2 _ _ (hdx d' e)) h2 (.cons (.own _) (.cons (.own _) (.cons (.own _) (.cons (.own _) .nil)))) R.kA ?_
    refine ⟨_, rfl, iteF (w_or1 (t_not (t_val ?_)))⟩
    refine e_callB (x := "isinstance") (by assumption) b_isi (a_cons (e_var (a_cons ?_)))
    refine e_bltn (v := .ty "ValueError") (by exact R.mV) b_ve rfl (a_nil ?_)
    refine c_isE R.ec hz2 hf (fun d' e => e2 _ _ (hdx d' e)) (.ty _) R.kV ⟨_, rfl, iteF (l_nil ?_)⟩
    refine l_cons (s_ret (e_tup (a_cons (e_bl (a_cons ?_)))))
    refine e_xf R.xf R.no hz2 hf (e_var ⟨rfl, d, _, .int (j : Int), rfl, e2 _ _ h1, by simp [List.lookup], a_nil ⟨by show 2 ≤ sizeLine; decide, fun t H3 e3 _ h3 => ?_⟩⟩)
    refine q t H3 _ _ ((e1.trans e2).trans e3) h3 ?_
    rw [(Ends_lin z).det ee]
    show _ = _
    rw [← hj.eq]
def spRefA : Sp := fun vs H Q _ => ∃ z : Str, vs = [.str z] ∧ z.length ≤ 90000 ∧ (∃ r, lin (cs z) = .err r) ∧ ∀ H', Same H H' → Q (.bl true) H'
theorem ok_refA (T : Top K mg "_law_refused_at_all" s_refused_at_all) (mIs : mg "isinstance" = none) (R : Errs K mg CT CH CB CN CD CM) (FP : FnN P w K mg base 7 "parse_sentence" (spParse CT)) : Fn P w K mg base 8 "_law_refused_at_all" spRefA := by
  refine fn_ok T sc_refused_at_all so_refused_at_all (fun vs H Q E h => by obtain ⟨z, rfl, _⟩ := h; rfl) (fun _ _ _ _ _ _ us hl => match us, hl with | [_], _ => rfl) fun f cdv A outer s H vs Q E hr h nd => ?_
  obtain ⟨z, rfl, hz, ⟨r0, hr0⟩, q⟩ := h
  refine l_cons (s_tryN (by exact R.mH) takesN0 fun pn xe tk nod' => ?_)
  refine l_cons (s_expr (e_callN (by exact FP) (by exact tk) (by exact hr) (by decide) ?_))
  refine a_cons (e_var (a_nil ⟨z, rfl, by omega, fun v s H1 ee hv e1 => ?_, fun r j d H1 ee hj e1 h1 => ?_⟩))
  · have := (Ends_lin z).det ee
    rw [hr0] at this
    cases this
  · refine ⟨true, R.xH, fun _ ea na => ?_, fun z => nomatch z⟩
    intro oe pn2 hz2 hf nd2 hot
    have hdx : ∀ d', some d = some d' → H1 d' = some (.xd [(("index" : Str), V.int (j : Int))]) := fun d' e => by cases e; exact h1
    refine l_cons (s_ret ?_)
    refine e_callB (x := "isinstance") (by assumption) b_isi (a_cons (e_var (a_cons ?_)))
    refine e_glob (v := .ref CT) (by exact R.mT) rfl (a_nil ?_)
    exact c_isE R.ec hz2 hf hdx (.own _) R.kT (q H1 e1)
end



local macro_rules | `(tactic| walk_at "tv") => `(tactic| first
  | exact pv_var
  | exact tv_var
  | exact pv_lenS pv_var (by assumption)
  | exact pv_lenL pv_var (by assumption)
  | with_reducible exact pv_str
  | with_reducible exact pv_int
  | with_reducible exact pv_non
  | with_reducible exact pv_bl
  | with_reducible refine tv_w ?_
  | with_reducible refine tw_and (x := ?_) (y := ?_) ?_ ?_
  | with_reducible refine tw_or (x := ?_) (y := ?_) ?_ ?_
  | with_reducible refine tw_and1 ?_
  | with_reducible refine tw_or1 ?_
  | with_reducible refine tv_not (x := ?_) ?_
  | with_reducible refine tv_eqS (m := ?_) (n := ?_) ?_ ?_
  | with_reducible refine tv_neS (m := ?_) (n := ?_) ?_ ?_
  | with_reducible refine tv_eqI (i := ?_) (j := ?_) ?_ ?_
  | with_reducible refine tv_neI (i := ?_) (j := ?_) ?_ ?_
  | with_reducible refine tv_lt (i := ?_) (j := ?_) ?_ ?_
  | with_reducible refine tv_gt (i := ?_) (j := ?_) ?_ ?_
  | with_reducible refine tv_le (i := ?_) (j := ?_) ?_ ?_
  | with_reducible refine tv_ge (i := ?_) (j := ?_) ?_ ?_
  | refine tv_inT (m := ?_) (zs := ?_) ?_ ?_ ?_
  | refine tv_ninT (m := ?_) (zs := ?_) ?_ ?_ ?_
  | refine tv_inS (k := ?_) (n := ?_) ?_ ?_
  | (show List.length _ ≤ 1000; decide)
  | with_reducible exact Paired.nil
  | with_reducible refine Paired.cons (l₂ := ?_) pc1 ?_)
local macro_rules | `(tactic| walk_at "tvs") => `(tactic| repeat' walk_at "tv")
theorem alnum_noop {c : Nat} (h : alnum c = true) : isop c = false := by
  unfold alnum let1 dig1 at h
  unfold isop
  simp only [Bool.or_eq_true, Bool.and_eq_true, decide_eq_true_eq] at h
  simp only [Bool.or_eq_false_iff, beq_eq_false_iff_ne]
  omega
theorem opc_alnum {l : List Nat} (h : ∀ c ∈ l, alnum c = true) : opc l = 0 := by
  unfold opc
  rw [List.countP_eq_zero]
  intro c hc
  rw [alnum_noop (h c hc)]
  decide
theorem opc_num (n : Nat) : opc (TL.numL n) = 0 := opc_alnum fun c hc => by unfold alnum; rw [dig_all n c hc]; simp
theorem opc_flat_app (a b : List (List Nat)) : opc (a ++ b).flatten = opc a.flatten + opc b.flatten := by rw [List.flatten_append, opc_app]
theorem opc_rm : ∀ m : Pk, opc (rm m).flatten = 0
  | none => rfl
  | some (u, d) => by
    show opc ([91] ++ (TL.numL u.toNat ++ ([47] ++ (TL.numL d.toNat ++ ([93] ++ []))))) = 0
    rw [opc_app, opc_app, opc_app, opc_app, opc_num, opc_num]
    rfl
theorem tk_ops {s : Sn} {k : Nat} {ts : List (List Nat)} (h : Tk s k ts) : opc ts.flatten = opS s := by
  induction h with
  | word h =>
    have := (name_parts h).2.2
    show opc (_ ++ []) = 0
    rw [List.append_nil]
    exact opc_alnum this
  | menu _ _ _ ih1 ih2 =>
    rw [opc_flat_app, opc_flat_app, ih1, ih2]
    simp only [opS]
    show _ + 1 + _ = _
    omega
  | @trade m p g tp tg _ _ _ ih1 ih2 =>
    rw [opc_flat_app, opc_flat_app, opc_flat_app, ih1, ih2, opc_rm]
    simp only [opS]
    show _ + 0 + 1 + _ = _
    omega
  | par _ ih =>
    rw [opc_flat_app, opc_flat_app, ih]
    show 0 + _ + 0 = _
    omega
theorem tk_ne {s : Sn} {k : Nat} {ts : List (List Nat)} (h : Tk s k ts) : ts ≠ [] := by
  cases h <;> simp
theorem opc_sps (n : Nat) : opc (sps n) = 0 := by
  induction n with
  | zero => rfl
  | succ n ih => show opc (32 :: sps n) = 0; rw [opc_cons, ih]; rfl
theorem spc_ops {ts : List (List Nat)} {l : List Nat} (h : Spc ts l) : opc l = opc ts.flatten := by
  induction h with
  | nil => rfl
  | cons _ ih => rw [List.flatten_cons, opc_app, opc_app, opc_app, opc_sps, ih]; omega
theorem opc_set : ∀ {l : List (List Nat)} {i : Nat} {a b : List Nat}, l[i]? = some a → opc (l.set i b).flatten + opc a = opc l.flatten + opc b
  | [], i, a, b, h => by simp at h
  | x :: l, 0, a, b, h => by
    cases h
    rw [List.set_cons_zero, List.flatten_cons, List.flatten_cons, opc_app, opc_app]
    omega
  | x :: l, i + 1, a, b, h => by
    have := opc_set (l := l) (i := i) (a := a) (b := b) h
    rw [List.set_cons_succ, List.flatten_cons, List.flatten_cons, opc_app, opc_app]
    omega
theorem opS_nod : ∀ s : Sn, opS s ≤ nod s
  | .word _ => Nat.zero_le _
  | .menu l r => by have := opS_nod l; have := opS_nod r; simp only [opS, nod]; omega
  | .trade _ p g => by have := opS_nod p; have := opS_nod g; simp only [opS, nod]; omega
theorem joinL_nil : ∀ ps : List (List Nat), TL.joinL [] ps = ps.flatten
  | [] => rfl
  | [p] => by show p = p ++ []; rw [List.append_nil]
  | p :: q :: r => by
    show p ++ ([] ++ TL.joinL [] (q :: r)) = p ++ (q :: r).flatten
    rw [List.nil_append, joinL_nil (q :: r)]
theorem cs_join (ys : List Str) : cs (Txt.join (Str.ofString "") ys) = (ys.map cs).flatten := by
  rw [show cs (Txt.join (Str.ofString "") ys) = TL.tl (Str.join (Str.ofString "") ys) by rw [← TL.join_eq], TL.tl_join, show TL.tl (Str.ofString "") = [] by decide +kernel, joinL_nil]
theorem flat_len : ∀ {ys : List Str}, (∀ y ∈ ys, y.length = 1) → ((ys.map cs).flatten).length = ys.length ∧ (ys.map (·.length)).sum = ys.length
  | [], _ => ⟨rfl, rfl⟩
  | y :: ys, h => by
    obtain ⟨h1, h2⟩ := flat_len (ys := ys) fun z hz => h z (List.mem_cons_of_mem _ hz)
    have h3 := h y List.mem_cons_self
    refine ⟨?_, ?_⟩
    · rw [List.map_cons, List.flatten_cons, List.length_append, h1, ← len_cs, h3, List.length_cons]; omega
    · rw [List.map_cons, List.sum_cons, h2, h3, List.length_cons]; omega
theorem But.fresh {p l : Addr} {H H1 : Hp} {o : HO} (b : But p H H1) (nl : H l = none) : But p H (upd H1 l o) := fun x u nx hx => by
  rw [upd_ne (ne_of_none hx nl)]
  exact b x u nx hx
theorem PoolAt.at {H H' : Hp} {p : Addr} (h : PoolAt H p) (e : ∀ o, H p = some o → H' p = some o) : PoolAt H' p := by
  obtain ⟨a, b, c, h⟩ := h
  exact ⟨a, b, c, e _ h⟩
theorem cut_len (z : Str) (j : Int) : (cutS z none (some j)).length ≤ z.length := len_cut z none (some j)
theorem cut_mem {z : Str} {lo hi : Option Int} {c : Nat} (h : c ∈ cs (cutS z lo hi)) : c ∈ cs z := by
  unfold cutS at h
  have h : c ∈ ((cs z).drop _).take _ := h
  exact List.mem_of_mem_drop (List.mem_of_mem_take h)
theorem ite_both {c : Bool} {A B : Prop} (h1 : A) (h2 : B) : if c = true then A else B := by
  cases c with
  | true => exact iteT h1
  | false => exact iteF h2
section
variable {P : Program} {w : World} {K : PySem.W.Frag} {mg : Str → Option Value} {base : Heap} {C CT CH CB CN CD CM : Addr}
def spDrawn : Sp := fun vs H Q _ => ∃ p, vs = [.ref p] ∧ PoolAt H p ∧ ∀ z H', But p H H' → PoolAt H' p → z.length ≤ 41000 → opc (cs z) ≤ 66 → Q (.str z) H'
theorem ok_drawn (T : Top K mg "_law_drawn" s_drawn) (mR : mg "range" = none) (mL : mg "len" = none) (FX : Fn P w K mg base 1 "_law_next" spNext) (FG : Fn P w K mg base 2 "_law_sign" spLSign) (FN : Fn P w K mg base 2 "_law_name" spLName) (FSe : Fn P w K mg base 8 "_law_sentence" spLSent) (FTk : Fn P w K mg base 22 "_law_tokens" (spTok 20)) (FSp : Fn P w K mg base 2 "_law_spaced" spSpaced) (FO : Fn P w K mg base 3 "_law_spoilt" spSpoilt) : Fn P w K mg base 23 "_law_drawn" spDrawn := by
  refine fn_ok T sc_drawn so_drawn (fun vs H Q E h => by obtain ⟨p, rfl, _⟩ := h; rfl) (fun _ _ _ _ _ _ us hl => match us, hl with | [_], _ => rfl) fun f cdv A outer s H vs Q E hr h nd => ?_
  obtain ⟨p, rfl, hp, q⟩ := h
  show wL _ _ _ [some (.ref p), none, none, none, none] _
  refine l_cons (s_if (t_cmp (e_call (by exact FX) (by exact hr) (by decide) ?_)))
  refine a_cons (e_var (a_cons (e_int (a_nil ⟨p, 3, rfl, by decide, by decide, hp, fun d1 H1 d10 d11 b1 p1 => e_int (o_eqI ⟨_, rfl, ?_⟩)⟩))))
  refine if2 (fun _ => ?_) (fun _ => l_nil ?_)
  · refine l_cons (s_ret (e_join (e_str ⟨_, rfl, e_lcR bk_drawn0 (by assumption) ?_⟩)))
    refine e_call (by exact FX) (by exact hr) (by decide) ?_
    refine a_cons (e_var (a_cons (e_int (a_nil ⟨p, 31, rfl, by decide, by decide, p1, fun d2 H2 d20 d21 b2 p2 => ?_⟩))))
    obtain ⟨n, rfl⟩ := Int.eq_ofNat_of_zero_le d20
    have hn : n < 31 := by omega
    refine ⟨n, rfl, by omega, fun D nD => ?_⟩
    have b02 := b1.trans b2
    have nD0 : H D = none := by
      cases hz : H D with
      | none => rfl
      | some o =>
        by_cases e : D = p
        · subst e; obtain ⟨x, y, c, h⟩ := p2; rw [h] at nD; cases nD
        · rw [b02 D o e hz] at nD; cases nD
    have nDp : D ≠ p := fun e => by subst e; obtain ⟨x, y, c, h⟩ := p2; rw [h] at nD; cases nD
    refine ⟨fun k H3 => ∃ ys : List Str, H3 D = some (.lst (sVs ys)) ∧ ys.length = k ∧ (∀ y ∈ ys, y.length = 1) ∧ But p H H3 ∧ PoolAt H3 p, ⟨[], upd_same, rfl, by simp, But.fresh b02 nD0, p2.at fun o ho => by rw [upd_ne nDp.symm]; exact ho⟩, ?_, ?_⟩
    · rintro k H3 hk ⟨ys, hD, ly, hy, b3, p3⟩ s0 H0 C cl fp IB
      refine b_call (by exact FG) (by exact hr) (by decide) ?_
      refine a_cons (b_var (a_nil ⟨p, rfl, p3, fun c H4 b4 p4 => ?_⟩))
      have hD4 := b4 D _ nDp hD
      refine ⟨sVs ys, hD4, by rw [List.length_map, ly]; show _ < 2 ^ 24; omega, ys ++ [sg c], ?_, by simp [ly], ?_, But.fresh (b3.trans b4) nD0, p4.at fun o ho => by rw [upd_ne nDp.symm]; exact ho⟩
      · rw [upd_same]; simp
      · intro y hy'
        rcases List.mem_append.mp hy' with h | h
        · exact hy y h
        · rw [List.mem_singleton.mp h]; rfl
    · rintro H3 ⟨ys, hD, ly, hy, b3, p3⟩
      obtain ⟨f1, f2⟩ := flat_len hy
      have e0 : (Str.ofString "").length = 0 := by decide +kernel
      refine ⟨D, ys, rfl, SqL.of hD, by rw [f2, e0]; omega, ?_⟩
      have lj : (Txt.join (Str.ofString "") ys).length = n := by rw [len_cs, cs_join, f1, ly]
      exact q _ H3 b3 p3 (by omega) (Nat.le_trans (opc_le _) (by rw [← len_cs, lj]; omega))
  refine l_cons (s_set (e_lst (a_nil ⟨by show 0 ≤ sizeLine; decide, fun l H2 e2 nl hl => ?_⟩)))
  have p2 := p1.up e2
  have b02 := b1.trans (But.of e2)
  have lp : l ≠ p := fun e => by subst e; obtain ⟨_, _, _, p1⟩ := p1; rw [p1] at nl; cases nl
  have nl0 : H l = none := by
    cases hz : H l with
    | none => rfl
    | some o => rw [b1 l o lp hz] at nl; cases nl
  show wL _ _ _ [some (.ref p), none, some (.ref l), none, none] _
  refine l_cons (s_forR (by assumption) ?_)
  refine e_bin (e_int (e_call (by exact FX) (by exact hr) (by decide) ?_))
  refine a_cons (e_var (a_cons (e_int (a_nil ⟨p, 3, rfl, by decide, by decide, p2, fun d3 H3 d30 d31 b3 p3 => ?_⟩))))
  obtain ⟨n, rfl⟩ := Int.eq_ofNat_of_zero_le d30
  have hn : n < 3 := by omega
  refine o_add ⟨1 + n, rfl, by omega, fun k σ H' => ∃ y ns, σ = [some (.ref p), y, some (.ref l), none, none] ∧ But p H H' ∧ PoolAt H' p ∧ H' l = some (.lst (sVs ns)) ∧ ns.length = k ∧ ∀ z ∈ ns, okN z, ⟨_, [], rfl, b02.trans b3, p3, b3 l _ lp hl, rfl, by simp⟩, fun k σ H4 hk hW => ?_, fun σ H4 hW => ?_⟩
  · obtain ⟨y, ns, rfl, b4, p4, hl4, hlen4, hok4⟩ := hW
    refine l_cons (s_expr (e_app (e_var ⟨l, _, rfl, SqL.of hl4, ?_⟩)))
    refine e_call (by exact FN) (by exact hr) (by decide) ?_
    refine a_cons (e_var (a_cons (e_var (a_nil ⟨p, l, ns, rfl, p4, lp, hl4, by omega, hok4, fun z H5 b5 p5 hz => ?_⟩))))
    have hl5 := b5 l _ lp hl4
    refine ⟨_, hl5, by rw [List.length_map, hlen4]; show _ < 2 ^ 24; omega, ?_⟩
    refine l_nil ⟨_, ns ++ [z], rfl, But.fresh (b4.trans b5) nl0, p5.at fun o ho => by rw [upd_ne lp.symm]; exact ho, by rw [upd_same]; simp, by simp [hlen4], fun x hx => ?_⟩
    rcases List.mem_append.mp hx with h | h
    · exact hok4 x h
    · rw [List.mem_singleton.mp h]; exact hz
  obtain ⟨y, ns, rfl, b4, p4, hl4, hlen4, hok4⟩ := hW
  have N4 : NsAt p l ns H4 := ⟨p4, lp, hl4, by omega, by omega, hok4⟩
  refine l_cons (s_set (e_call (by exact FTk) (by exact hr) (by decide) ?_))
  refine a_cons (e_var (a_cons (e_call (by exact FSe) (by exact hr) (by decide) ?_)))
  refine a_cons (e_var (a_cons (e_var (a_nil ⟨p, l, ns, rfl, N4, fun v sn H5 b5 p5 g5 o5 dd r5 => ?_⟩))))
  refine a_cons (e_int (a_nil ⟨p, v, sn, 0, rfl, p5, g5, o5, dd, by omega, by decide, fun lt zs H6 b6 p6 nlt hlt htk => ?_⟩))
  obtain ⟨tk1, tk2, tk3⟩ := htk
  have tkn : 0 < zs.length := by
    cases zs with
    | nil =>
      have := tk_ne tk1
      exact absurd rfl this
    | cons => simp
  have b06 := (b4.trans b5).trans b6
  have ltp : lt ≠ p := fun e => by subst e; obtain ⟨_, _, _, h⟩ := p5; rw [h] at nlt; cases nlt
  have nlt0 : H lt = none := by
    cases hz : H lt with
    | none => rfl
    | some o => rw [(b4.trans b5) lt o ltp hz] at nlt; cases nlt
  have hops := tk_ops tk1
  have hon := opS_nod sn
  show wL _ _ _ [some (.ref p), y, some (.ref l), some (.ref lt), none] _
  refine l_cons (s_set (e_call (by exact FX) (by exact hr) (by decide) ?_))
  refine a_cons (e_var (a_cons (e_callB (x := "len") (by assumption) b_len (a_cons (e_var (a_nil (c_lenL (by exact SqL.of hlt) ?_)))))))
  rw [show (sVs zs).length = zs.length by simp]
  refine a_nil ⟨p, _, rfl, by omega, by omega, p6, fun d7 H7 d70 d71 b7 p7 => ?_⟩
  obtain ⟨i, rfl⟩ := Int.eq_ofNat_of_zero_le d70
  have hi : i < zs.length := by omega
  obtain ⟨zi, hzi⟩ : ∃ zi, zs[i]? = some zi := ⟨zs[i], by simp [hi]⟩
  have hvi : (sVs zs)[i]? = some (.str zi) := by rw [List.getElem?_map, hzi]; rfl
  have lzi := tk3 zi (List.mem_of_getElem? hzi)
  have hlt7 := b7 lt _ ltp hlt
  show wL _ _ _ [some (.ref p), y, some (.ref l), some (.ref lt), some (.int (i : Int))] _
  refine l_join (fun σ H' => ∃ zs' : List Str, σ = [some (.ref p), y, some (.ref l), some (.ref lt), some (.int (i : Int))] ∧ But p H H' ∧ PoolAt H' p ∧ H' lt = some (.lst (sVs zs')) ∧ zs'.length = zs.length ∧ (∀ z ∈ zs', z.length ≤ 30) ∧ opc ((zs'.map cs).flatten) ≤ 64) (fun σ H8 hA => ?_) (fun go => ?_)
  · obtain ⟨zs', rfl, b8, p8, hlt8, lz8, hz8, ho8⟩ := hA
    refine l_cons (s_ret (e_call (by exact FO) (by exact hr) (by decide) ?_))
    refine a_cons (e_var (a_cons (e_call (by exact FSp) (by exact hr) (by decide) ?_)))
    refine a_cons (e_var (a_cons (e_var (a_nil ⟨p, lt, zs', rfl, p8, hlt8, by omega, hz8, fun z x n H9 b9 p9 hs hx lz => a_nil ?_⟩))))
    refine ⟨p, z, rfl, p9, by omega, fun y H10 b10 p10 ly oy => ?_⟩
    refine q y H10 ((b8.trans b9).trans b10) p10 (by omega) ?_
    have : opc (cs z) = opc ((zs'.map cs).flatten) := by rw [hx, opc_app, opc_sps, spc_ops hs]; rfl
    omega
  · have same : ∀ H8, But p H7 H8 → PoolAt H8 p → wL (cxOf CX0 P w K mg base N_drawn (Str.ofString "_law_drawn") (defScope s_drawn) f cdv A outer s H E).nox ((defBody s_drawn).drop 6) { nx := fun _ H' => Q .non H', rt := Q } [some (.ref p), y, some (.ref l), some (.ref lt), some (.int (i : Int))] H8 := fun H8 b8 p8 => by
      refine go _ H8 ⟨zs, rfl, (b06.trans b7).trans b8, p8, b8 lt _ ltp hlt7, rfl, fun z hz => by have := tk3 z hz; omega, by rw [hops]; omega⟩
    refine l_cons (s_if (t_w (w_and (t_cmp (e_call (by exact FX) (by exact hr) (by decide) ?_)))))
    refine a_cons (e_var (a_cons (e_int (a_nil ⟨p, 4, rfl, by decide, by decide, p7, fun d8 H8 d80 d81 b8 p8 => e_int (o_eqI ⟨_, rfl, ?_⟩)⟩))))
    refine if2 (fun _ => ?_) (fun _ => iteF (l_nil (same H8 b8 p8)))
    have hlt8 := b8 lt _ ltp hlt7
    refine w_and1 (tv_use (tv_ninT (m := zi) (zs := _) (pv_of fun H9 Q9 s9 q9 => e_ix (e_var (e_var (ix_l (by exact SqL.of (s9 _ _ hlt8)) (atI_nat hvi) (q9 H9 (Same.refl H9)))))) (.cons pc1 (.cons pc1 (.cons pc1 (.cons pc1 (.cons pc1 (.cons pc1 (.cons pc1 .nil))))))) (by show 7 ≤ 1000; decide)) fun H9 e9 => ?_)
    have p9 := p8.up e9
    have hlt9 := e9 _ _ hlt8
    refine ite_both ?_ (l_nil (same H9 (b8.trans (But.of e9)) p9))
    refine l_cons (s_sub (e_bin (e_ix (e_var (e_var (ix_l (by exact SqL.of hlt9) (atI_nat hvi) ?_))))))
    refine e_slL1 sl_str (e_str (e_call (by exact FX) (by exact hr) (by decide) ?_))
    refine a_cons (e_var (a_cons (e_int (a_nil ⟨p, 13, rfl, by decide, by decide, p9, fun d10 H10 d100 d101 b10 p10 => ⟨d10, rfl, Str.ofString "123456789012", rfl, by decide +kernel, ?_⟩⟩))))
    have lc := cut_len (Str.ofString "123456789012") d10
    have lc2 : (Str.ofString "123456789012").length = 12 := by decide +kernel
    have oc : opc (cs (cutS (Str.ofString "123456789012") none (some d10))) = 0 := by
      refine opc_alnum fun c hc => ?_
      have h1 := cut_mem hc
      have h2 : ∀ c ∈ cs (Str.ofString "123456789012"), alnum c = true := by decide +kernel
      exact h2 c h1
    generalize cutS (Str.ofString "123456789012") none (some d10) = cz at lc oc
    refine o_addS (by omega) ?_
    have hlt10 := b10 lt _ ltp hlt9
    refine e_var (e_var (set_l hlt10 (k := i) (show ixN (sVs zs).length (i : Int) = some i by rw [List.length_map]; unfold ixN; rw [if_pos (by omega), if_pos (by omega)]; rfl) ?_))
    have hset := opc_set (l := zs.map cs) (i := i) (a := cs zi) (b := cs (zi ++ cz)) (by rw [List.getElem?_map, hzi]; rfl)
    refine l_nil (go _ _ ⟨zs.set i (zi ++ cz), rfl, But.fresh ((((b06.trans b7).trans b8).trans (But.of e9)).trans b10) nlt0, p10.at fun o ho => by rw [upd_ne ltp.symm]; exact ho, by rw [upd_same]; show _ = some (HO.lst ((zs.set i (zi ++ cz)).map V.str)); rw [List.map_set], by simp, fun z hz => ?_, ?_⟩)
    · rcases List.mem_or_eq_of_mem_set hz with h | h
      · have := tk3 z h; omega
      · rw [h, app_len]; omega
    · rw [List.map_set]
      rw [cs_app, opc_app, oc] at hset
      rw [cs_app]
      omega
end



local macro_rules | `(tactic| walk_at "tv") => `(tactic| first
  | exact pv_var
  | exact tv_var
  | exact pv_lenS pv_var (by assumption)
  | exact pv_lenL pv_var (by assumption)
  | with_reducible exact pv_str
  | with_reducible exact pv_int
  | with_reducible exact pv_non
  | with_reducible exact pv_bl
  | with_reducible refine tv_w ?_
  | with_reducible refine tw_and (x := ?_) (y := ?_) ?_ ?_
  | with_reducible refine tw_or (x := ?_) (y := ?_) ?_ ?_
  | with_reducible refine tw_and1 ?_
  | with_reducible refine tw_or1 ?_
  | with_reducible refine tv_not (x := ?_) ?_
  | with_reducible refine tv_eqS (m := ?_) (n := ?_) ?_ ?_
  | with_reducible refine tv_neS (m := ?_) (n := ?_) ?_ ?_
  | with_reducible refine tv_eqI (i := ?_) (j := ?_) ?_ ?_
  | with_reducible refine tv_neI (i := ?_) (j := ?_) ?_ ?_
  | with_reducible refine tv_lt (i := ?_) (j := ?_) ?_ ?_
  | with_reducible refine tv_gt (i := ?_) (j := ?_) ?_ ?_
  | with_reducible refine tv_le (i := ?_) (j := ?_) ?_ ?_
  | with_reducible refine tv_ge (i := ?_) (j := ?_) ?_ ?_
  | refine tv_inT (m := ?_) (zs := ?_) ?_ ?_ ?_
  | refine tv_ninT (m := ?_) (zs := ?_) ?_ ?_ ?_
  | refine tv_inS (k := ?_) (n := ?_) ?_ ?_
  | (show List.length _ ≤ 1000; decide)
  | with_reducible exact Paired.nil
  | with_reducible refine Paired.cons (l₂ := ?_) pc1 ?_)
local macro_rules | `(tactic| walk_at "tvs") => `(tactic| repeat' walk_at "tv")
theorem ToldV.ints {H : Hp} {n : Nat} {xs : List V} {r : List Nat} (h : ToldV H n xs (.err r)) : xs = [.bl false, .int ((n - r.length : Nat) : Int)] := h
theorem eqv_told {H : Hp} {n : Nat} {t t' : Addr} {x y x' y' : V} {R : Re} (h1 : H t = some (.tup [x, y])) (h2 : H t' = some (.tup [x', y'])) (v1 : ToldV H n [x, y] R) (v2 : ToldV H n [x', y'] R) (hd : ∀ s, R = .ok s → dep s ≤ 70) : Eqv H 73 (.ref t) (.ref t') := by
  cases R with
  | err r =>
    injection v1 with a1 a2
    injection a2 with a2
    injection v2 with b1 b2
    injection b2 with b2
    subst a1 a2 b1 b2
    exact eqv_2 72 h1 h2 (eqv_bl _ _) (eqv_int _ _)
  | ok s =>
    obtain ⟨v, e, hv⟩ := v1
    obtain ⟨v', e', hv'⟩ := v2
    injection e with a1 a2
    injection a2 with a2
    injection e' with b1 b2
    injection b2 with b2
    subst a1 a2 b1 b2
    exact eqv_2 72 h1 h2 (eqv_bl _ _) (eqv_sn (n := 70) hv hv' (hd s rfl))
theorem lin_dep {l : List Nat} {s : Sn} (h : lin l = .ok s) : dep s ≤ opc l := by
  have h1 := lrun_w h
  have h2 := dep_ops s
  simp only [wS, wP, wPs, wFs] at h1
  omega
section
variable {P : Program} {w : World} {K : PySem.W.Frag} {mg : Str → Option Value} {base : Heap} {C CT CH CB CN CD CM : Addr}
def spAsks : Sp := fun vs H Q _ => ∃ p z, vs = [.ref p, .str z] ∧ PoolAt H p ∧ z.length ≤ 41000 ∧ opc (cs z) ≤ 66 ∧ ∀ H', But p H H' → PoolAt H' p → Q (.bl true) H'
theorem four_txt {d : Int} (h0 : 0 ≤ d) (h1 : d < 4) : ∃ y : Str, atI [V.str (Str.ofString ""), .str (Str.ofString "a"), .str (Str.ofString ")"), .str (Str.ofString " > b")] d = some (.str y) ∧ y.length ≤ 4 ∧ opc (cs y) ≤ 1 := by
  obtain ⟨j, rfl⟩ := Int.eq_ofNat_of_zero_le h0
  have hj : j < 4 := by omega
  match j, hj with
  | 0, _ => exact ⟨_, atI_nat (j := 0) rfl, by decide +kernel, by decide +kernel⟩
  | 1, _ => exact ⟨_, atI_nat (j := 1) rfl, by decide +kernel, by decide +kernel⟩
  | 2, _ => exact ⟨_, atI_nat (j := 2) rfl, by decide +kernel, by decide +kernel⟩
  | 3, _ => exact ⟨_, atI_nat (j := 3) rfl, by decide +kernel, by decide +kernel⟩
theorem ok_asks (T : Top K mg "_law_asks" s_asks) (mL : mg "len" = none) (FX : Fn P w K mg base 1 "_law_next" spNext) (FG : Fn P w K mg base 2 "_law_sign" spLSign) (FRd : Fn P w K mg base 4 "_law_read" spRead) (FS : Fn P w K mg base 74 "_law_same" (spEqv 73)) (FT : Fn P w K mg base 8 "_law_told" spTold) (FA : Fn P w K mg base 8 "_law_refused_at_all" spRefA) : Fn P w K mg base 75 "_law_asks" spAsks := by
  refine fn_ok T sc_asks so_asks (fun vs H Q E h => by obtain ⟨p, z, rfl, _⟩ := h; rfl) (fun _ _ _ _ _ _ us hl => match us, hl with | [_, _], _ => rfl) fun f cdv A outer s H vs Q E hr h nd => ?_
  obtain ⟨p, z, rfl, hp, hz, ho, q⟩ := h
  have hzs : z.length ≤ sizeLine := Nat.le_trans hz (by decide)
  have hlz := len_cs z
  show wL _ _ _ [some (.ref p), some (.str z), none, none, none] _
  refine l_cons (s_set (e_call (by exact FRd) (by exact hr) (by decide) ?_))
  refine a_cons (e_var (a_cons (e_int (a_cons (e_str (a_nil ⟨z, rfl, by omega, fun t H1 x y r e1 h1 v1 hrz => ?_⟩))))))
  show wL _ _ _ [some (.ref p), some (.str z), some (.ref t), none, none] _
  have p1 := hp.up e1
  refine l_cons (s_if (t_not (t_val (e_call (by exact FS) (by exact hr) (by decide) ?_))))
  refine a_cons (e_call (by exact FT) (by exact hr) (by decide) ?_)
  refine a_cons (e_var (a_nil ?_))
  refine ⟨z, rfl, by omega, fun t2 H2 x2 y2 e2 h2 v2 => ?_⟩
  refine a_cons (e_tHi (e_var (e_int ⟨t, [x, y], [r], rfl, rfl, e2 _ _ h1, fun t3 H3 e3 h3 => ?_⟩)))
  refine a_nil ⟨.ref t2, .ref t3, rfl, eqv_told (n := (cs z).length) (R := lin (cs z)) (e3 _ _ h2) h3 (v2.ts (Same.ts e3)) (v1.ts (Same.ts (e2.trans e3))) (fun s hs => by have := lin_dep hs; omega), ?_⟩
  refine ⟨_, rfl, ite_f rfl (l_nil ?_)⟩
  have e13 := e2.trans e3
  have e03 := e1.trans e13
  have p3 := p1.up e13
  have h13 := e13 _ _ h1
  cases hlin : lin (cs z) with
  | ok s =>
    rw [hlin] at v1
    obtain ⟨v, ev, hv⟩ := v1
    injection ev with ea eb
    subst ea
    refine l_cons (s_if (t_val (e_ix (e_var (e_int (ix_t (by exact SqT.of h13) at0 ⟨true, rfl, iteT ?_⟩))))))
    exact l_cons (s_ret (e_bl (q H3 (But.of e03) p3)))
  | err rr =>
    obtain ⟨rz, rfl, lrz, orz⟩ := hrz rr hlin
    obtain ⟨ap, eap, hap⟩ := lrun_err (l := cs z) hlin
    have hj : (cs z).length - rr.length = ap.length := by rw [eap, List.length_append]; omega
    rw [hlin] at v1
    have v1 := v1.ints
    rw [hj] at v1
    injection v1 with ea eb
    injection eb with eb
    subst ea eb
    have lap : ap.length ≤ (cs z).length := by rw [eap, List.length_append]; omega
    refine l_cons (s_if (t_val (e_ix (e_var (e_int (ix_t (by exact SqT.of h13) at0 ⟨false, rfl, iteF (l_nil ?_)⟩))))))
    refine l_cons (s_set (e_bin (e_slL1 sl_str (e_var (e_ix (e_var (e_int (ix_t (by exact SqT.of h13) at1 ⟨_, rfl, z, rfl, hzs, ?_⟩)))))))) 
    have lc := len_cut z none (some ((ap.length : Nat) : Int))
    have occ : opc (cs (cutS z none (some ((ap.length : Nat) : Int)))) ≤ opc (cs z) := by rw [cut_hi]; exact (List.take_sublist _ _).countP_le
    generalize cutS z none (some ((ap.length : Nat) : Int)) = zc at lc occ
    refine e_ix (e_var (e_int (ix_t (by exact SqT.of h13) at2 (o_addS (by omega) ?_))))
    have lw : (zc ++ rz).length ≤ 83000 := by rw [app_len]; omega
    have ow : opc (cs (zc ++ rz)) ≤ 67 := by rw [cs_app, opc_app]; omega
    generalize zc ++ rz = zw at lw ow
    show wL _ _ _ [some (.ref p), some (.str z), some (.ref t), some (.str zw), none] _
    refine l_cons (s_if (t_not (t_val (e_call (by exact FS) (by exact hr) (by decide) ?_))))
    refine a_cons (e_call (by exact FT) (by exact hr) (by decide) ?_)
    refine a_cons (e_var (a_nil ?_))
    refine ⟨zw, rfl, by omega, fun t4 H4 x4 y4 e4 h4 v4 => ?_⟩
    refine a_cons (e_tHi (e_call (by exact FRd) (by exact hr) (by decide) ?_))
    refine a_cons (e_var (a_cons (e_int (a_cons (e_str (a_nil ⟨zw, rfl, by omega, fun t5 H5 x5 y5 r5 e5 h5 v5 _ => ?_⟩))))))
    refine e_int ⟨t5, [x5, y5], [r5], rfl, rfl, h5, fun t6 H6 e6 h6 => ?_⟩
    refine a_nil ⟨.ref t4, .ref t6, rfl, eqv_told (n := (cs zw).length) (R := lin (cs zw)) (e6 _ _ (e5 _ _ h4)) h6 (v4.ts (Same.ts (e5.trans e6))) (v5.ts (Same.ts e6)) (fun s hs => by have := lin_dep hs; omega), ?_⟩
    refine ⟨_, rfl, ite_f rfl (l_nil ?_)⟩
    have e36 := (e4.trans e5).trans e6
    have h16 := e36 _ _ h13
    have p6 := p3.up e36
    have e06 := e03.trans e36
    refine l_cons (s_if (t_cmp (e_ix (e_var (e_int (ix_t (by exact SqT.of h16) at1 (e_callB (x := "len") (by assumption) b_len (a_cons (e_var (a_nil (c_lenS hzs (o_eqI ⟨_, rfl, ?_⟩))))))))))))
    refine if2 (fun hE => ?_) (fun hE => l_nil ?_)
    · refine l_cons (s_ret (e_call (by exact FA) (by exact hr) (by decide) ?_))
      exact a_cons (e_var (a_nil ⟨z, rfl, by omega, ⟨rr, hlin⟩, fun H7 e7 => q H7 (But.of (e06.trans e7)) (p6.up e7)⟩))
    have hne : ap.length < (cs z).length := by omega
    obtain ⟨c, tl, hrr⟩ : ∃ c tl, rr = c :: tl := by
      cases rr with
      | nil => rw [eap, List.append_nil] at hne; omega
      | cons c tl => exact ⟨c, tl, rfl⟩
    refine l_cons (s_set (e_bin (e_bin (e_slL1 sl_str (e_var (e_bin (e_ix (e_var (e_int (ix_t (by exact SqT.of h16) at1 (e_int (o_add ⟨_, rfl, z, rfl, hzs, ?_⟩)))))))))))) 
    rw [show (((ap.length : Nat) : Int) + 1) = ((ap.length + 1 : Nat) : Int) by omega]
    have hcut : cs (cutS z none (some ((ap.length + 1 : Nat) : Int))) = ap ++ [c] := by
      rw [cut_hi, eap, hrr, List.take_append, List.take_of_length_le (by omega)]
      simp
    have lc2 := len_cut z none (some ((ap.length + 1 : Nat) : Int))
    have occ2 : opc (cs (cutS z none (some ((ap.length + 1 : Nat) : Int)))) ≤ opc (cs z) := by rw [cut_hi]; exact (List.take_sublist _ _).countP_le
    generalize cutS z none (some ((ap.length + 1 : Nat) : Int)) = z2 at lc2 occ2 hcut
    refine e_ix (e_lst ?_)
    refine a_cons (e_str (a_cons (e_str (a_cons (e_str (a_cons (e_str (a_nil ⟨by show 4 ≤ sizeLine; decide, fun sl H7 e7 n7 h7 => ?_⟩))))))))
    have nsp : sl ≠ p := fun z => by subst z; obtain ⟨a, b, c, h⟩ := p6; rw [h] at n7; cases n7
    refine e_call (by exact FX) (by exact hr) (by decide) ?_
    refine a_cons (e_var (a_cons (e_int (a_nil ⟨p, 4, rfl, by decide, by decide, p6.up e7, fun d8 H8 d80 d81 b8 p8 => ?_⟩))))
    obtain ⟨zy, hat, lzy, ozy⟩ := four_txt d80 d81
    refine ix_l (by exact SqL.of (b8 _ _ nsp h7)) hat (o_addS (by omega) ?_)
    refine e_call (by exact FG) (by exact hr) (by decide) ?_
    refine a_cons (e_var (a_nil ⟨p, rfl, p8, fun sc H9 b9 p9 => o_addS (by rw [app_len]; show _ + 1 ≤ _; omega) ?_⟩))
    have el : cs (z2 ++ zy ++ sg sc) = ap ++ c :: (cs zy ++ [sc]) := by
      rw [cs_app, cs_app, hcut]
      simp [cs]
    have ll : (z2 ++ zy ++ sg sc).length ≤ 42000 := by rw [app_len, app_len]; show _ + 1 ≤ _; omega
    have herr := hap c tl hrr (cs zy ++ [sc])
    generalize z2 ++ zy ++ sg sc = zl at el ll
    show wL _ _ _ [some (.ref p), some (.str z), some (.ref t), some (.str zw), some (.str zl)] _
    have b09 := ((But.of e06).trans (But.of e7)).trans (b8.trans b9)
    have t9 : H9 t = some (.tup [.bl false, .int ((ap.length : Nat) : Int), .str rz]) := by
      have h17 := e7 _ _ h16
      have h18 := PoolAt.ts (p6.up e7) b8 _ _ h17
      exact PoolAt.ts p8 b9 _ _ h18
    refine l_cons (s_ret (e_and (e_call (by exact FS) (by exact hr) (by decide) ?_)))
    refine a_cons (e_call (by exact FT) (by exact hr) (by decide) ?_)
    refine a_cons (e_var (a_nil ?_))
    refine ⟨zl, rfl, by omega, fun ta Ha xa ya ea ha va => ?_⟩
    have hlin2 : lin (cs zl) = .err (c :: (cs zy ++ [sc])) := by rw [el]; exact herr
    rw [hlin2] at va
    have va := va.ints
    have hlen : (cs zl).length - (c :: (cs zy ++ [sc])).length = ap.length := by rw [el, List.length_append]; omega
    rw [hlen] at va
    injection va with va1 va2
    injection va2 with va2
    subst va1 va2
    refine a_cons (e_tup (a_cons (e_bl (a_cons (e_ix (e_var (e_int (ix_t (by exact SqT.of (ea _ _ t9)) at1 (a_nil ⟨by show 2 ≤ sizeLine; decide, fun tb Hb eb _ hb => ?_⟩)))))))))
    refine a_nil ⟨.ref ta, .ref tb, rfl, eqv_2 72 (eb _ _ ha) hb (eqv_bl _ _) (eqv_int _ _), ⟨true, rfl, iteT (e_one (e_call (by exact FA) (by exact hr) (by decide) ?_))⟩⟩
    exact a_cons (e_var (a_nil ⟨z, rfl, by omega, ⟨rr, hlin⟩, fun Hc ec => q Hc ((b09.trans (But.of ea)).trans ((But.of eb).trans (But.of ec))) (((p9.up ea).up eb).up ec)⟩))
def spLaw (K : PySem.W.Frag) : Sp := fun vs H Q _ => ∃ (a : Addr) (ns : List Int), vs = [.ref a] ∧ SqL K H a (ns.map V.int) ∧ ns.length ≤ 63 ∧ ∀ H', Q (.bl true) H'
theorem ok_law {f : Addr} {fd : FuncData} (F : Fun K "law" "law" s_law f fd) (FPo : Fn P w K mg base 2 "_law_pool" (spPool K)) (FD : Fn P w K mg base 23 "_law_drawn" spDrawn) (FA : Fn P w K mg base 75 "_law_asks" spAsks) : FnOk P w K mg base CX0 76 f fd ["_law_script"] (spLaw K) := by
  refine run_ok (ps := P_law) F sc_law so_law (fun vs H Q E h => by obtain ⟨a, ns, rfl, _⟩ := h; rfl) fun ff cdv A outer s H vs Q E hr h nd => ?_
  obtain ⟨sa, zs0, rfl, hS, hlen, q⟩ := h
  refine l_cons (s_set (e_call (by exact FPo) (by exact hr) (by decide) ?_))
  refine a_cons (e_var (a_cons (e_int (a_nil ⟨sa, zs0, 0, rfl, hS, fun p H1 f1 np p1 => ?_⟩))))
  show wL _ _ _ [some (.ref sa), some (.ref p), none, none] _
  refine l_cons (s_set (e_call (by exact FD) (by exact hr) (by decide) ?_))
  refine a_cons (e_var (a_nil ⟨p, rfl, p1, fun z1 H2 b2 p2 l1 o1 => ?_⟩))
  show wL _ _ _ [some (.ref sa), some (.ref p), some (.str z1), none] _
  refine l_cons (s_set (e_call (by exact FD) (by exact hr) (by decide) ?_))
  refine a_cons (e_var (a_nil ⟨p, rfl, p2, fun z2 H3 b3 p3 l2 o2 => ?_⟩))
  show wL _ _ _ [some (.ref sa), some (.ref p), some (.str z1), some (.str z2)] _
  refine l_cons (s_ret (e_and (e_call (by exact FA) (by exact hr) (by decide) ?_)))
  refine a_cons (e_var (a_cons (e_var (a_nil ⟨p, z1, rfl, p3, l1, o1, fun H4 b4 p4 => ⟨true, rfl, iteT ?_⟩⟩))))
  refine e_and (e_call (by exact FA) (by exact hr) (by decide) ?_)
  refine a_cons (e_var (a_cons (e_var (a_nil ⟨p, z2, rfl, p4, l2, o2, fun H5 b5 p5 => ⟨true, rfl, iteT ?_⟩⟩))))
  refine e_one (e_call (by exact FA) (by exact hr) (by decide) ?_)
  refine a_cons (e_var (a_cons (e_var (a_nil ?_))))
  exact ⟨p, z1, rfl, p5, l1, o1, fun H6 b6 p6 => q H6⟩
end


section
theorem kit_sub {K : PySem.W.Frag} {D C : Addr} (hd : PySem.W.hasDictIn K C = true) (ht : PySem.W.typeIn K (.ref C) = some (.type "type")) (h : PySem.W.subIn K (.ref D) (.ref C) = some true) : PySem.W.kitOne K (.ref D) (.ref C) = some true := by
  obtain ⟨cd, hc, _⟩ := PySem.W.any_some hd
  unfold PySem.W.kitOne
  split
  · rfl
  · show (if ((PySem.W.clsIn K C).isSome && PySem.W.typeIn K (.ref C) == some (.type "type")) = true then PySem.W.subIn K (.ref D) (.ref C) else none) = some true
    rw [hc, ht, h]
    rfl
theorem kit_not {K : PySem.W.Frag} {D C : Addr} (hd : PySem.W.hasDictIn K C = true) (ht : PySem.W.typeIn K (.ref C) = some (.type "type")) (h : PySem.W.subIn K (.ref D) (.ref C) = some false) (hs : PySem.W.subIn K (.ref D) (.ref D) = some true) : PySem.W.kitOne K (.ref D) (.ref C) = some false := by
  obtain ⟨cd, hc, _⟩ := PySem.W.any_some hd
  have ne : D ≠ C := fun z => by
    subst z
    rw [hs] at h
    cases h
  unfold PySem.W.kitOne
  rw [if_neg (fun z => ne (Value.ref.inj (beq_iff_eq.mp z)))]
  show (if ((PySem.W.clsIn K C).isSome && PySem.W.typeIn K (.ref C) == some (.type "type")) = true then PySem.W.subIn K (.ref D) (.ref C) else none) = some false
  rw [hc, ht, h]
  rfl
theorem kit_typ {K : PySem.W.Frag} {D : Addr} (h : PySem.W.subIn K (.ref D) (.type "ValueError") = some true) : PySem.W.kitOne K (.ref D) (.type "ValueError") = some true := by
  unfold PySem.W.kitOne
  rw [if_neg (by simp)]
  show (if PySem.W.kitMeta "ValueError" = true then PySem.W.subIn K (.ref D) (.type "ValueError") else none) = some true
  rw [if_pos (by decide +kernel), h]
theorem all_mk {l : PySem.W.OpenLaw} {w : World} {K : PySem.W.Frag} {h : Heap} {mg : Str → Option Value} {fa : Addr} (X : K.In h) (G : h.Ns mainGlobals mg) (hfa : mg "law" = some (.ref fa))
    {f0 : Addr} {od0 an0 : Option Addr} {sl0 : Array (Option Value)} {oc0 kV0 dc0 pm0 cd0 ct0 : Value}
    {f1 : Addr} {od1 an1 : Option Addr} {sl1 : Array (Option Value)} {oc1 kV1 dc1 pm1 cd1 ct1 : Value}
    {f2 : Addr} {od2 an2 : Option Addr} {sl2 : Array (Option Value)} {oc2 kV2 dc2 pm2 cd2 ct2 : Value}
    {f3 : Addr} {od3 an3 : Option Addr} {sl3 : Array (Option Value)} {oc3 kV3 dc3 pm3 cd3 ct3 : Value}
    {f4 : Addr} {od4 an4 : Option Addr} {sl4 : Array (Option Value)} {oc4 kV4 dc4 pm4 cd4 ct4 : Value}
    {f5 : Addr} {od5 an5 : Option Addr} {sl5 : Array (Option Value)} {oc5 kV5 dc5 pm5 cd5 ct5 : Value}
    {f6 : Addr} {od6 an6 : Option Addr} {sl6 : Array (Option Value)} {oc6 kV6 dc6 pm6 cd6 ct6 : Value}
    {f7 : Addr} {od7 an7 : Option Addr} {sl7 : Array (Option Value)} {oc7 kV7 dc7 pm7 cd7 ct7 : Value}
    {f8 : Addr} {od8 an8 : Option Addr} {sl8 : Array (Option Value)} {oc8 kV8 dc8 pm8 cd8 ct8 : Value}
    {f9 : Addr} {od9 an9 : Option Addr} {sl9 : Array (Option Value)} {oc9 kV9 dc9 pm9 cd9 ct9 : Value}
    {f10 : Addr} {od10 an10 : Option Addr} {sl10 : Array (Option Value)} {oc10 kV10 dc10 pm10 cd10 ct10 : Value}
    {f11 : Addr} {od11 an11 : Option Addr} {sl11 : Array (Option Value)} {oc11 kV11 dc11 pm11 cd11 ct11 : Value}
    {f12 : Addr} {od12 an12 : Option Addr} {sl12 : Array (Option Value)} {oc12 kV12 dc12 pm12 cd12 ct12 : Value}
    {f13 : Addr} {od13 an13 : Option Addr} {sl13 : Array (Option Value)} {oc13 kV13 dc13 pm13 cd13 ct13 : Value}
    {f14 : Addr} {od14 an14 : Option Addr} {sl14 : Array (Option Value)} {oc14 kV14 dc14 pm14 cd14 ct14 : Value}
    {f15 : Addr} {od15 an15 : Option Addr} {sl15 : Array (Option Value)} {oc15 kV15 dc15 pm15 cd15 ct15 : Value}
    {f16 : Addr} {od16 an16 : Option Addr} {sl16 : Array (Option Value)} {oc16 kV16 dc16 pm16 cd16 ct16 : Value}
    {f17 : Addr} {od17 an17 : Option Addr} {sl17 : Array (Option Value)} {oc17 kV17 dc17 pm17 cd17 ct17 : Value}
    {f18 : Addr} {od18 an18 : Option Addr} {sl18 : Array (Option Value)} {oc18 kV18 dc18 pm18 cd18 ct18 : Value}
    {f19 : Addr} {od19 an19 : Option Addr} {sl19 : Array (Option Value)} {oc19 kV19 dc19 pm19 cd19 ct19 : Value}
    {f20 : Addr} {od20 an20 : Option Addr} {sl20 : Array (Option Value)} {oc20 kV20 dc20 pm20 cd20 ct20 : Value}
    {f21 : Addr} {od21 an21 : Option Addr} {sl21 : Array (Option Value)} {oc21 kV21 dc21 pm21 cd21 ct21 : Value}
    {f22 : Addr} {od22 an22 : Option Addr} {sl22 : Array (Option Value)} {oc22 kV22 dc22 pm22 cd22 ct22 : Value}
    {f23 : Addr} {od23 an23 : Option Addr} {sl23 : Array (Option Value)} {oc23 kV23 dc23 pm23 cd23 ct23 : Value}
    {f24 : Addr} {od24 an24 : Option Addr} {sl24 : Array (Option Value)} {oc24 kV24 dc24 pm24 cd24 ct24 : Value}
    {f25 : Addr} {od25 an25 : Option Addr} {sl25 : Array (Option Value)} {oc25 kV25 dc25 pm25 cd25 ct25 : Value}
    {f26 : Addr} {od26 an26 : Option Addr} {sl26 : Array (Option Value)} {oc26 kV26 dc26 pm26 cd26 ct26 : Value}
    {f27 : Addr} {od27 an27 : Option Addr} {sl27 : Array (Option Value)} {oc27 kV27 dc27 pm27 cd27 ct27 : Value}
    {f28 : Addr} {od28 an28 : Option Addr} {sl28 : Array (Option Value)} {oc28 kV28 dc28 pm28 cd28 ct28 : Value}
    {f29 : Addr} {od29 an29 : Option Addr} {sl29 : Array (Option Value)} {oc29 kV29 dc29 pm29 cd29 ct29 : Value}
    {f30 : Addr} {od30 an30 : Option Addr} {sl30 : Array (Option Value)} {oc30 kV30 dc30 pm30 cd30 ct30 : Value}
    {f31 : Addr} {od31 an31 : Option Addr} {sl31 : Array (Option Value)} {oc31 kV31 dc31 pm31 cd31 ct31 : Value}
    {f32 : Addr} {od32 an32 : Option Addr} {sl32 : Array (Option Value)} {oc32 kV32 dc32 pm32 cd32 ct32 : Value}
    {f33 : Addr} {od33 an33 : Option Addr} {sl33 : Array (Option Value)} {oc33 kV33 dc33 pm33 cd33 ct33 : Value}
    {f34 : Addr} {od34 an34 : Option Addr} {sl34 : Array (Option Value)} {oc34 kV34 dc34 pm34 cd34 ct34 : Value}
    {f35 : Addr} {od35 an35 : Option Addr} {sl35 : Array (Option Value)} {oc35 kV35 dc35 pm35 cd35 ct35 : Value}
    {f36 : Addr} {od36 an36 : Option Addr} {sl36 : Array (Option Value)} {oc36 kV36 dc36 pm36 cd36 ct36 : Value}
    {f37 : Addr} {od37 an37 : Option Addr} {sl37 : Array (Option Value)} {oc37 kV37 dc37 pm37 cd37 ct37 : Value}
    {f38 : Addr} {od38 an38 : Option Addr} {sl38 : Array (Option Value)} {oc38 kV38 dc38 pm38 cd38 ct38 : Value}
    {f39 : Addr} {od39 an39 : Option Addr} {sl39 : Array (Option Value)} {oc39 kV39 dc39 pm39 cd39 ct39 : Value}
    {f40 : Addr} {od40 an40 : Option Addr} {sl40 : Array (Option Value)} {oc40 kV40 dc40 pm40 cd40 ct40 : Value}
    {f41 D41 : Addr} {od41 an41 : Option Addr} {sl41 : Array (Option Value)} {oc41 dc41 pm41 cd41 ct41 : Value} {tk41 : Tok}
    {tN tM : Tok}
    {CX CH CB CN CD CM : Addr}
    {nmCX qnCX : Str} {NaCX : Addr} {bsCX : List Value} {snCX : List Str} {subCX : List Value} {abCX : Bool} {colCX : Option Bool} {ddCX : Option Addr} {x0CX x1CX x2CX x3CX x5CX : Option Value}
    {f42 : Addr} {od42 an42 : Option Addr} {sl42 : Array (Option Value)} {oc42 kV42 dc42 pm42 cd42 ct42 : Value}
    {C : Addr}
    {f43 : Addr} {od43 an43 : Option Addr} {sl43 : Array (Option Value)} {oc43 kV43 dc43 pm43 cd43 ct43 : Value}
    {f44 : Addr} {od44 an44 : Option Addr} {sl44 : Array (Option Value)} {oc44 kV44 dc44 pm44 cd44 ct44 : Value}
    {f45 : Addr} {od45 an45 : Option Addr} {sl45 : Array (Option Value)} {oc45 kV45 dc45 pm45 cd45 ct45 : Value}
    {f46 : Addr} {od46 an46 : Option Addr} {sl46 : Array (Option Value)} {oc46 kV46 dc46 pm46 cd46 ct46 : Value}
    (a0 : PySem.W.nsIn K mainGlobals "is_number_from" = some (some (.ref f0)))
    (l0 : K.lookup f0 = some ⟨oc0, od0, .func (PySem.W.fnOf "is_number_from" "is_number_from" (defArgs s_is_number_from) (defBody s_is_number_from) (defScope s_is_number_from) .none kV0 dc0 pm0 an0 cd0 ct0), sl0⟩)
    (c0 : PySem.W.codeIn K cd0 "is_number_from" = true)
    (k0 : PySem.W.keepIn K (.ref f0) = true)
    (a1 : PySem.W.nsIn K mainGlobals "is_kind" = some (some (.ref f1)))
    (l1 : K.lookup f1 = some ⟨oc1, od1, .func (PySem.W.fnOf "is_kind" "is_kind" (defArgs s_is_kind) (defBody s_is_kind) (defScope s_is_kind) .none kV1 dc1 pm1 an1 cd1 ct1), sl1⟩)
    (c1 : PySem.W.codeIn K cd1 "is_kind" = true)
    (k1 : PySem.W.keepIn K (.ref f1) = true)
    (a2 : PySem.W.nsIn K mainGlobals "is_letter" = some (some (.ref f2)))
    (l2 : K.lookup f2 = some ⟨oc2, od2, .func (PySem.W.fnOf "is_letter" "is_letter" (defArgs s_is_letter) (defBody s_is_letter) (defScope s_is_letter) .none kV2 dc2 pm2 an2 cd2 ct2), sl2⟩)
    (c2 : PySem.W.codeIn K cd2 "is_letter" = true)
    (k2 : PySem.W.keepIn K (.ref f2) = true)
    (a3 : PySem.W.nsIn K mainGlobals "is_digit" = some (some (.ref f3)))
    (l3 : K.lookup f3 = some ⟨oc3, od3, .func (PySem.W.fnOf "is_digit" "is_digit" (defArgs s_is_digit) (defBody s_is_digit) (defScope s_is_digit) .none kV3 dc3 pm3 an3 cd3 ct3), sl3⟩)
    (c3 : PySem.W.codeIn K cd3 "is_digit" = true)
    (k3 : PySem.W.keepIn K (.ref f3) = true)
    (a4 : PySem.W.nsIn K mainGlobals "is_name" = some (some (.ref f4)))
    (l4 : K.lookup f4 = some ⟨oc4, od4, .func (PySem.W.fnOf "is_name" "is_name" (defArgs s_is_name) (defBody s_is_name) (defScope s_is_name) .none kV4 dc4 pm4 an4 cd4 ct4), sl4⟩)
    (c4 : PySem.W.codeIn K cd4 "is_name" = true)
    (k4 : PySem.W.keepIn K (.ref f4) = true)
    (a5 : PySem.W.nsIn K mainGlobals "word" = some (some (.ref f5)))
    (l5 : K.lookup f5 = some ⟨oc5, od5, .func (PySem.W.fnOf "word" "word" (defArgs s_word) (defBody s_word) (defScope s_word) .none kV5 dc5 pm5 an5 cd5 ct5), sl5⟩)
    (c5 : PySem.W.codeIn K cd5 "word" = true)
    (k5 : PySem.W.keepIn K (.ref f5) = true)
    (a6 : PySem.W.nsIn K mainGlobals "menu" = some (some (.ref f6)))
    (l6 : K.lookup f6 = some ⟨oc6, od6, .func (PySem.W.fnOf "menu" "menu" (defArgs s_menu) (defBody s_menu) (defScope s_menu) .none kV6 dc6 pm6 an6 cd6 ct6), sl6⟩)
    (c6 : PySem.W.codeIn K cd6 "menu" = true)
    (k6 : PySem.W.keepIn K (.ref f6) = true)
    (a7 : PySem.W.nsIn K mainGlobals "skip_spaces" = some (some (.ref f7)))
    (l7 : K.lookup f7 = some ⟨oc7, od7, .func (PySem.W.fnOf "skip_spaces" "skip_spaces" (defArgs s_skip_spaces) (defBody s_skip_spaces) (defScope s_skip_spaces) .none kV7 dc7 pm7 an7 cd7 ct7), sl7⟩)
    (c7 : PySem.W.codeIn K cd7 "skip_spaces" = true)
    (k7 : PySem.W.keepIn K (.ref f7) = true)
    (a8 : PySem.W.nsIn K mainGlobals "read_sign" = some (some (.ref f8)))
    (l8 : K.lookup f8 = some ⟨oc8, od8, .func (PySem.W.fnOf "read_sign" "read_sign" (defArgs s_read_sign) (defBody s_read_sign) (defScope s_read_sign) .none kV8 dc8 pm8 an8 cd8 ct8), sl8⟩)
    (c8 : PySem.W.codeIn K cd8 "read_sign" = true)
    (k8 : PySem.W.keepIn K (.ref f8) = true)
    (a9 : PySem.W.nsIn K mainGlobals "read_name" = some (some (.ref f9)))
    (l9 : K.lookup f9 = some ⟨oc9, od9, .func (PySem.W.fnOf "read_name" "read_name" (defArgs s_read_name) (defBody s_read_name) (defScope s_read_name) .none kV9 dc9 pm9 an9 cd9 ct9), sl9⟩)
    (c9 : PySem.W.codeIn K cd9 "read_name" = true)
    (k9 : PySem.W.keepIn K (.ref f9) = true)
    (a10 : PySem.W.nsIn K mainGlobals "read_number" = some (some (.ref f10)))
    (l10 : K.lookup f10 = some ⟨oc10, od10, .func (PySem.W.fnOf "read_number" "read_number" (defArgs s_read_number) (defBody s_read_number) (defScope s_read_number) .none kV10 dc10 pm10 an10 cd10 ct10), sl10⟩)
    (c10 : PySem.W.codeIn K cd10 "read_number" = true)
    (k10 : PySem.W.keepIn K (.ref f10) = true)
    (a11 : PySem.W.nsIn K mainGlobals "read_brackets" = some (some (.ref f11)))
    (l11 : K.lookup f11 = some ⟨oc11, od11, .func (PySem.W.fnOf "read_brackets" "read_brackets" (defArgs s_read_brackets) (defBody s_read_brackets) (defScope s_read_brackets) .none kV11 dc11 pm11 an11 cd11 ct11), sl11⟩)
    (c11 : PySem.W.codeIn K cd11 "read_brackets" = true)
    (k11 : PySem.W.keepIn K (.ref f11) = true)
    (a12 : PySem.W.nsIn K mainGlobals "read_sentence" = some (some (.ref f12)))
    (l12 : K.lookup f12 = some ⟨oc12, od12, .func (PySem.W.fnOf "read_sentence" "read_sentence" (defArgs s_read_sentence) (defBody s_read_sentence) (defScope s_read_sentence) .none kV12 dc12 pm12 an12 cd12 ct12), sl12⟩)
    (c12 : PySem.W.codeIn K cd12 "read_sentence" = true)
    (k12 : PySem.W.keepIn K (.ref f12) = true)
    (a13 : PySem.W.nsIn K mainGlobals "read_atom" = some (some (.ref f13)))
    (l13 : K.lookup f13 = some ⟨oc13, od13, .func (PySem.W.fnOf "read_atom" "read_atom" (defArgs s_read_atom) (defBody s_read_atom) (defScope s_read_atom) .none kV13 dc13 pm13 an13 cd13 ct13), sl13⟩)
    (c13 : PySem.W.codeIn K cd13 "read_atom" = true)
    (k13 : PySem.W.keepIn K (.ref f13) = true)
    (a14 : PySem.W.nsIn K mainGlobals "read_payment" = some (some (.ref f14)))
    (l14 : K.lookup f14 = some ⟨oc14, od14, .func (PySem.W.fnOf "read_payment" "read_payment" (defArgs s_read_payment) (defBody s_read_payment) (defScope s_read_payment) .none kV14 dc14 pm14 an14 cd14 ct14), sl14⟩)
    (c14 : PySem.W.codeIn K cd14 "read_payment" = true)
    (k14 : PySem.W.keepIn K (.ref f14) = true)
    (a15 : PySem.W.nsIn K mainGlobals "parse_sentence" = some (some (.ref f15)))
    (l15 : K.lookup f15 = some ⟨oc15, od15, .func (PySem.W.fnOf "parse_sentence" "parse_sentence" (defArgs s_parse_sentence) (defBody s_parse_sentence) (defScope s_parse_sentence) .none kV15 dc15 pm15 an15 cd15 ct15), sl15⟩)
    (c15 : PySem.W.codeIn K cd15 "parse_sentence" = true)
    (k15 : PySem.W.keepIn K (.ref f15) = true)
    (a16 : PySem.W.nsIn K mainGlobals "_law_cell" = some (some (.ref f16)))
    (l16 : K.lookup f16 = some ⟨oc16, od16, .func (PySem.W.fnOf "_law_cell" "_law_cell" (defArgs s_cell) (defBody s_cell) (defScope s_cell) .none kV16 dc16 pm16 an16 cd16 ct16), sl16⟩)
    (c16 : PySem.W.codeIn K cd16 "_law_cell" = true)
    (k16 : PySem.W.keepIn K (.ref f16) = true)
    (a17 : PySem.W.nsIn K mainGlobals "_law_pool" = some (some (.ref f17)))
    (l17 : K.lookup f17 = some ⟨oc17, od17, .func (PySem.W.fnOf "_law_pool" "_law_pool" (defArgs s_pool) (defBody s_pool) (defScope s_pool) .none kV17 dc17 pm17 an17 cd17 ct17), sl17⟩)
    (c17 : PySem.W.codeIn K cd17 "_law_pool" = true)
    (k17 : PySem.W.keepIn K (.ref f17) = true)
    (a18 : PySem.W.nsIn K mainGlobals "_law_next" = some (some (.ref f18)))
    (l18 : K.lookup f18 = some ⟨oc18, od18, .func (PySem.W.fnOf "_law_next" "_law_next" (defArgs s_next) (defBody s_next) (defScope s_next) .none kV18 dc18 pm18 an18 cd18 ct18), sl18⟩)
    (c18 : PySem.W.codeIn K cd18 "_law_next" = true)
    (k18 : PySem.W.keepIn K (.ref f18) = true)
    (a19 : PySem.W.nsIn K mainGlobals "_law_same" = some (some (.ref f19)))
    (l19 : K.lookup f19 = some ⟨oc19, od19, .func (PySem.W.fnOf "_law_same" "_law_same" (defArgs s_same) (defBody s_same) (defScope s_same) .none kV19 dc19 pm19 an19 cd19 ct19), sl19⟩)
    (c19 : PySem.W.codeIn K cd19 "_law_same" = true)
    (k19 : PySem.W.keepIn K (.ref f19) = true)
    (a20 : PySem.W.nsIn K mainGlobals "_law_name" = some (some (.ref f20)))
    (l20 : K.lookup f20 = some ⟨oc20, od20, .func (PySem.W.fnOf "_law_name" "_law_name" (defArgs s_name) (defBody s_name) (defScope s_name) .none kV20 dc20 pm20 an20 cd20 ct20), sl20⟩)
    (c20 : PySem.W.codeIn K cd20 "_law_name" = true)
    (k20 : PySem.W.keepIn K (.ref f20) = true)
    (a21 : PySem.W.nsIn K mainGlobals "_law_mode" = some (some (.ref f21)))
    (l21 : K.lookup f21 = some ⟨oc21, od21, .func (PySem.W.fnOf "_law_mode" "_law_mode" (defArgs s_mode) (defBody s_mode) (defScope s_mode) .none kV21 dc21 pm21 an21 cd21 ct21), sl21⟩)
    (c21 : PySem.W.codeIn K cd21 "_law_mode" = true)
    (k21 : PySem.W.keepIn K (.ref f21) = true)
    (a22 : PySem.W.nsIn K mainGlobals "_law_deep" = some (some (.ref f22)))
    (l22 : K.lookup f22 = some ⟨oc22, od22, .func (PySem.W.fnOf "_law_deep" "_law_deep" (defArgs s_deep) (defBody s_deep) (defScope s_deep) .none kV22 dc22 pm22 an22 cd22 ct22), sl22⟩)
    (c22 : PySem.W.codeIn K cd22 "_law_deep" = true)
    (k22 : PySem.W.keepIn K (.ref f22) = true)
    (a23 : PySem.W.nsIn K mainGlobals "_law_sentence" = some (some (.ref f23)))
    (l23 : K.lookup f23 = some ⟨oc23, od23, .func (PySem.W.fnOf "_law_sentence" "_law_sentence" (defArgs s_sentence) (defBody s_sentence) (defScope s_sentence) .none kV23 dc23 pm23 an23 cd23 ct23), sl23⟩)
    (c23 : PySem.W.codeIn K cd23 "_law_sentence" = true)
    (k23 : PySem.W.keepIn K (.ref f23) = true)
    (a24 : PySem.W.nsIn K mainGlobals "_law_tokens" = some (some (.ref f24)))
    (l24 : K.lookup f24 = some ⟨oc24, od24, .func (PySem.W.fnOf "_law_tokens" "_law_tokens" (defArgs s_tokens) (defBody s_tokens) (defScope s_tokens) .none kV24 dc24 pm24 an24 cd24 ct24), sl24⟩)
    (c24 : PySem.W.codeIn K cd24 "_law_tokens" = true)
    (k24 : PySem.W.keepIn K (.ref f24) = true)
    (a25 : PySem.W.nsIn K mainGlobals "_law_spaced" = some (some (.ref f25)))
    (l25 : K.lookup f25 = some ⟨oc25, od25, .func (PySem.W.fnOf "_law_spaced" "_law_spaced" (defArgs s_spaced) (defBody s_spaced) (defScope s_spaced) .none kV25 dc25 pm25 an25 cd25 ct25), sl25⟩)
    (c25 : PySem.W.codeIn K cd25 "_law_spaced" = true)
    (k25 : PySem.W.keepIn K (.ref f25) = true)
    (a26 : PySem.W.nsIn K mainGlobals "_law_sign" = some (some (.ref f26)))
    (l26 : K.lookup f26 = some ⟨oc26, od26, .func (PySem.W.fnOf "_law_sign" "_law_sign" (defArgs s_sign) (defBody s_sign) (defScope s_sign) .none kV26 dc26 pm26 an26 cd26 ct26), sl26⟩)
    (c26 : PySem.W.codeIn K cd26 "_law_sign" = true)
    (k26 : PySem.W.keepIn K (.ref f26) = true)
    (a27 : PySem.W.nsIn K mainGlobals "_law_spoilt" = some (some (.ref f27)))
    (l27 : K.lookup f27 = some ⟨oc27, od27, .func (PySem.W.fnOf "_law_spoilt" "_law_spoilt" (defArgs s_spoilt) (defBody s_spoilt) (defScope s_spoilt) .none kV27 dc27 pm27 an27 cd27 ct27), sl27⟩)
    (c27 : PySem.W.codeIn K cd27 "_law_spoilt" = true)
    (k27 : PySem.W.keepIn K (.ref f27) = true)
    (a28 : PySem.W.nsIn K mainGlobals "_law_frame" = some (some (.ref f28)))
    (l28 : K.lookup f28 = some ⟨oc28, od28, .func (PySem.W.fnOf "_law_frame" "_law_frame" (defArgs s_frame) (defBody s_frame) (defScope s_frame) .none kV28 dc28 pm28 an28 cd28 ct28), sl28⟩)
    (c28 : PySem.W.codeIn K cd28 "_law_frame" = true)
    (k28 : PySem.W.keepIn K (.ref f28) = true)
    (a29 : PySem.W.nsIn K mainGlobals "_law_join" = some (some (.ref f29)))
    (l29 : K.lookup f29 = some ⟨oc29, od29, .func (PySem.W.fnOf "_law_join" "_law_join" (defArgs s_join) (defBody s_join) (defScope s_join) .none kV29 dc29 pm29 an29 cd29 ct29), sl29⟩)
    (c29 : PySem.W.codeIn K cd29 "_law_join" = true)
    (k29 : PySem.W.keepIn K (.ref f29) = true)
    (a30 : PySem.W.nsIn K mainGlobals "_law_fold" = some (some (.ref f30)))
    (l30 : K.lookup f30 = some ⟨oc30, od30, .func (PySem.W.fnOf "_law_fold" "_law_fold" (defArgs s_fold) (defBody s_fold) (defScope s_fold) .none kV30 dc30 pm30 an30 cd30 ct30), sl30⟩)
    (c30 : PySem.W.codeIn K cd30 "_law_fold" = true)
    (k30 : PySem.W.keepIn K (.ref f30) = true)
    (a31 : PySem.W.nsIn K mainGlobals "_law_bracket" = some (some (.ref f31)))
    (l31 : K.lookup f31 = some ⟨oc31, od31, .func (PySem.W.fnOf "_law_bracket" "_law_bracket" (defArgs s_bracket) (defBody s_bracket) (defScope s_bracket) .none kV31 dc31 pm31 an31 cd31 ct31), sl31⟩)
    (c31 : PySem.W.codeIn K cd31 "_law_bracket" = true)
    (k31 : PySem.W.keepIn K (.ref f31) = true)
    (a32 : PySem.W.nsIn K mainGlobals "_law_after" = some (some (.ref f32)))
    (l32 : K.lookup f32 = some ⟨oc32, od32, .func (PySem.W.fnOf "_law_after" "_law_after" (defArgs s_after) (defBody s_after) (defScope s_after) .none kV32 dc32 pm32 an32 cd32 ct32), sl32⟩)
    (c32 : PySem.W.codeIn K cd32 "_law_after" = true)
    (k32 : PySem.W.keepIn K (.ref f32) = true)
    (a33 : PySem.W.nsIn K mainGlobals "_law_step" = some (some (.ref f33)))
    (l33 : K.lookup f33 = some ⟨oc33, od33, .func (PySem.W.fnOf "_law_step" "_law_step" (defArgs s_step) (defBody s_step) (defScope s_step) .none kV33 dc33 pm33 an33 cd33 ct33), sl33⟩)
    (c33 : PySem.W.codeIn K cd33 "_law_step" = true)
    (k33 : PySem.W.keepIn K (.ref f33) = true)
    (a34 : PySem.W.nsIn K mainGlobals "_law_rest" = some (some (.ref f34)))
    (l34 : K.lookup f34 = some ⟨oc34, od34, .func (PySem.W.fnOf "_law_rest" "_law_rest" (defArgs s_rest) (defBody s_rest) (defScope s_rest) .none kV34 dc34 pm34 an34 cd34 ct34), sl34⟩)
    (c34 : PySem.W.codeIn K cd34 "_law_rest" = true)
    (k34 : PySem.W.keepIn K (.ref f34) = true)
    (a35 : PySem.W.nsIn K mainGlobals "_law_read" = some (some (.ref f35)))
    (l35 : K.lookup f35 = some ⟨oc35, od35, .func (PySem.W.fnOf "_law_read" "_law_read" (defArgs s_read) (defBody s_read) (defScope s_read) .none kV35 dc35 pm35 an35 cd35 ct35), sl35⟩)
    (c35 : PySem.W.codeIn K cd35 "_law_read" = true)
    (k35 : PySem.W.keepIn K (.ref f35) = true)
    (a36 : PySem.W.nsIn K mainGlobals "_law_drawn" = some (some (.ref f36)))
    (l36 : K.lookup f36 = some ⟨oc36, od36, .func (PySem.W.fnOf "_law_drawn" "_law_drawn" (defArgs s_drawn) (defBody s_drawn) (defScope s_drawn) .none kV36 dc36 pm36 an36 cd36 ct36), sl36⟩)
    (c36 : PySem.W.codeIn K cd36 "_law_drawn" = true)
    (k36 : PySem.W.keepIn K (.ref f36) = true)
    (a37 : PySem.W.nsIn K mainGlobals "_law_told" = some (some (.ref f37)))
    (l37 : K.lookup f37 = some ⟨oc37, od37, .func (PySem.W.fnOf "_law_told" "_law_told" (defArgs s_told) (defBody s_told) (defScope s_told) .none kV37 dc37 pm37 an37 cd37 ct37), sl37⟩)
    (c37 : PySem.W.codeIn K cd37 "_law_told" = true)
    (k37 : PySem.W.keepIn K (.ref f37) = true)
    (a38 : PySem.W.nsIn K mainGlobals "_law_refused_at_all" = some (some (.ref f38)))
    (l38 : K.lookup f38 = some ⟨oc38, od38, .func (PySem.W.fnOf "_law_refused_at_all" "_law_refused_at_all" (defArgs s_refused_at_all) (defBody s_refused_at_all) (defScope s_refused_at_all) .none kV38 dc38 pm38 an38 cd38 ct38), sl38⟩)
    (c38 : PySem.W.codeIn K cd38 "_law_refused_at_all" = true)
    (k38 : PySem.W.keepIn K (.ref f38) = true)
    (a39 : PySem.W.nsIn K mainGlobals "_law_asks" = some (some (.ref f39)))
    (l39 : K.lookup f39 = some ⟨oc39, od39, .func (PySem.W.fnOf "_law_asks" "_law_asks" (defArgs s_asks) (defBody s_asks) (defScope s_asks) .none kV39 dc39 pm39 an39 cd39 ct39), sl39⟩)
    (c39 : PySem.W.codeIn K cd39 "_law_asks" = true)
    (k39 : PySem.W.keepIn K (.ref f39) = true)
    (a40 : PySem.W.nsIn K mainGlobals "law" = some (some (.ref f40)))
    (l40 : K.lookup f40 = some ⟨oc40, od40, .func (PySem.W.fnOf "law" "law" (defArgs s_law) (defBody s_law) (defScope s_law) .none kV40 dc40 pm40 an40 cd40 ct40), sl40⟩)
    (c40 : PySem.W.codeIn K cd40 "law" = true)
    (k40 : PySem.W.keepIn K (.ref f40) = true)
    (a41 : PySem.W.nsIn K mainGlobals "trade" = some (some (.ref f41)))
    (l41 : K.lookup f41 = some ⟨oc41, od41, .func (PySem.W.fnOf "trade" "trade" (defArgs s_trade) (defBody s_trade) (defScope s_trade) .none (.ref D41) dc41 pm41 an41 cd41 ct41), sl41⟩)
    (c41 : PySem.W.codeIn K cd41 "trade" = true)
    (k41 : PySem.W.keepIn K (.ref f41) = true)
    (d41 : PySem.W.nsIn K D41 "kind" = some (some (.str "once" tk41)))
    (nL : PySem.W.nsIn K mainGlobals "NAME_LENGTH" = some (some (.int 12 tN)))
    (nM : PySem.W.nsIn K mainGlobals "NUMBER_LENGTH" = some (some (.int 9 tM)))
    (mCX : PySem.W.nsIn K mainGlobals "TextError" = some (some (.ref CX)))
    (mCH : PySem.W.nsIn K mainGlobals "HeldError" = some (some (.ref CH)))
    (mCB : PySem.W.nsIn K mainGlobals "BadKind" = some (some (.ref CB)))
    (mCN : PySem.W.nsIn K mainGlobals "BadName" = some (some (.ref CN)))
    (mCD : PySem.W.nsIn K mainGlobals "DerivationError" = some (some (.ref CD)))
    (mCM : PySem.W.nsIn K mainGlobals "NameTaken" = some (some (.ref CM)))
    (xLCX : K.lookup CX = some (excClassObj nmCX qnCX CX NaCX bsCX [.ref CH, .type "ValueError", .type "Exception", .type "BaseException", .type "object"] true snCX subCX abCX colCX ddCX x0CX x1CX x2CX x3CX x5CX "ValueError.__new__"))
    (a42 : PySem.W.findIn K (.ref CX) "__init__" = some (some (.ref f42)))
    (i42 : PySem.W.isFn K (.ref f42) = true)
    (l42 : K.lookup f42 = some ⟨oc42, od42, .func (PySem.W.fnOf "__init__" "TextError.__init__" (defArgs s_TextError___init) (defBody s_TextError___init) (defScope s_TextError___init) .none kV42 dc42 pm42 an42 cd42 ct42), sl42⟩)
    (c42 : PySem.W.codeIn K cd42 "TextError.__init__" = true)
    (k42 : PySem.W.keepIn K (.ref f42) = true)
    (saCX : PySem.W.findIn K (.ref CX) "__setattr__" = some (some (.builtin "object.__setattr__")))
    (gaCX : PySem.W.findIn K (.ref CX) "__getattribute__" = some (some (.builtin "BaseException.__getattribute__")))
    (ggCX : PySem.W.findIn K (.ref CX) "__getattr__" = some none)
    (nkCX : PySem.W.findIn K (.ref CX) "index" = some none)
    (kCCX : PySem.W.keepIn K (.ref CX) = true)
    (eCCX : PySem.W.subIn K (.ref CX) (.type "BaseException") = some true)
    (tCCX : PySem.W.typeIn K (.ref CX) = some (.type "type"))
    (hCCX : PySem.W.hasDictIn K CX = true)
    (haCX : PySem.W.findIn K (.ref CX) "__class__" = some (some (.builtin "object.__class__")))
    (hmCX : PySem.W.mroIn K CX (.type "object") = some true)
    (sVCX : PySem.W.subIn K (.ref CX) (.type "ValueError") = some true)
    (sICX : PySem.W.subIn K (.ref CX) (.ref CX) = some true)
    (sHCX : PySem.W.subIn K (.ref CX) (.ref CH) = some true)
    (sCXCB : PySem.W.subIn K (.ref CX) (.ref CB) = some false)
    (sCXCN : PySem.W.subIn K (.ref CX) (.ref CN) = some false)
    (sCXCD : PySem.W.subIn K (.ref CX) (.ref CD) = some false)
    (sCXCM : PySem.W.subIn K (.ref CX) (.ref CM) = some false)
    (hn : PySem.W.specialIn K (.builtin "object.__class__") "__get__" = some (some (.builtin "getset_descriptor.__get__")))
    (ht : PySem.W.takesIn K (.builtin "object.__class__") = some true)
    (eH : PySem.W.subIn K (.ref CH) (.type "BaseException") = some true)
    (tCB : PySem.W.typeIn K (.ref CB) = some (.type "type"))
    (dCB : PySem.W.hasDictIn K CB = true)
    (tCN : PySem.W.typeIn K (.ref CN) = some (.type "type"))
    (dCN : PySem.W.hasDictIn K CN = true)
    (tCD : PySem.W.typeIn K (.ref CD) = some (.type "type"))
    (dCD : PySem.W.hasDictIn K CD = true)
    (tCM : PySem.W.typeIn K (.ref CM) = some (.type "type"))
    (dCM : PySem.W.hasDictIn K CM = true)
    (tCH : PySem.W.typeIn K (.ref CH) = some (.type "type"))
    (dCH : PySem.W.hasDictIn K CH = true)
    (aC : PySem.W.nsIn K mainGlobals "Unfinished" = some (some (.ref C)))
    (a43 : PySem.W.findIn K (.ref C) "__init__" = some (some (.ref f43)))
    (i43 : PySem.W.isFn K (.ref f43) = true)
    (l43 : K.lookup f43 = some ⟨oc43, od43, .func (PySem.W.fnOf "__init__" "Unfinished.__init__" (defArgs s_Unfinished___init) (defBody s_Unfinished___init) (defScope s_Unfinished___init) .none kV43 dc43 pm43 an43 cd43 ct43), sl43⟩)
    (c43 : PySem.W.codeIn K cd43 "Unfinished.__init__" = true)
    (k43 : PySem.W.keepIn K (.ref f43) = true)
    (a44 : PySem.W.findIn K (.ref C) "put" = some (some (.ref f44)))
    (i44 : PySem.W.isFn K (.ref f44) = true)
    (l44 : K.lookup f44 = some ⟨oc44, od44, .func (PySem.W.fnOf "put" "Unfinished.put" (defArgs s_Unfinished_put) (defBody s_Unfinished_put) (defScope s_Unfinished_put) .none kV44 dc44 pm44 an44 cd44 ct44), sl44⟩)
    (c44 : PySem.W.codeIn K cd44 "Unfinished.put" = true)
    (k44 : PySem.W.keepIn K (.ref f44) = true)
    (a45 : PySem.W.findIn K (.ref C) "pay" = some (some (.ref f45)))
    (i45 : PySem.W.isFn K (.ref f45) = true)
    (l45 : K.lookup f45 = some ⟨oc45, od45, .func (PySem.W.fnOf "pay" "Unfinished.pay" (defArgs s_Unfinished_pay) (defBody s_Unfinished_pay) (defScope s_Unfinished_pay) .none kV45 dc45 pm45 an45 cd45 ct45), sl45⟩)
    (c45 : PySem.W.codeIn K cd45 "Unfinished.pay" = true)
    (k45 : PySem.W.keepIn K (.ref f45) = true)
    (a46 : PySem.W.findIn K (.ref C) "whole" = some (some (.ref f46)))
    (i46 : PySem.W.isFn K (.ref f46) = true)
    (l46 : K.lookup f46 = some ⟨oc46, od46, .func (PySem.W.fnOf "whole" "Unfinished.whole" (defArgs s_Unfinished_whole) (defBody s_Unfinished_whole) (defScope s_Unfinished_whole) .none kV46 dc46 pm46 an46 cd46 ct46), sl46⟩)
    (c46 : PySem.W.codeIn K cd46 "Unfinished.whole" = true)
    (k46 : PySem.W.keepIn K (.ref f46) = true)
    (pg : PySem.W.plainGet K C Str.empty = true)
    (hd : PySem.W.hasDictIn K C = true)
    (po : PySem.W.plainOver K C = true)
    (sa : PySem.W.findIn K (.ref C) "__setattr__" = some (some (.builtin "object.__setattr__")))
    (mks : PySem.W.makesIn K C = true)
    (kC : PySem.W.keepIn K (.ref C) = true)
    (nP : PySem.W.findIn K (.ref C) "part" = some none)
    (nQ : PySem.W.findIn K (.ref C) "prices" = some none)
    (z_isinstance : PySem.W.nsIn K mainGlobals "isinstance" = some none)
    (z_int : PySem.W.nsIn K mainGlobals "int" = some none)
    (z_bool : PySem.W.nsIn K mainGlobals "bool" = some none)
    (z_str : PySem.W.nsIn K mainGlobals "str" = some none)
    (z_tuple : PySem.W.nsIn K mainGlobals "tuple" = some none)
    (z_list : PySem.W.nsIn K mainGlobals "list" = some none)
    (z_len : PySem.W.nsIn K mainGlobals "len" = some none)
    (z_range : PySem.W.nsIn K mainGlobals "range" = some none)
    (z_abs : PySem.W.nsIn K mainGlobals "abs" = some none)
    (z_max : PySem.W.nsIn K mainGlobals "max" = some none)
    (z_min : PySem.W.nsIn K mainGlobals "min" = some none)
    (z_reversed : PySem.W.nsIn K mainGlobals "reversed" = some none)
    (z_ValueError : PySem.W.nsIn K mainGlobals "ValueError" = some none) :
    ∃ fd : FuncData, (∀ (s : Shared) (v : Value), BindsTo s fd ⟨[v], []⟩ [("_law_script", v)]) ∧ ∀ base : Heap, K.In base → base.Ns mainGlobals mg → FnOk l.prog w K mg base CX0 76 fa fd ["_law_script"] (spLaw K) := by
  have e := hfa.symm.trans (PySem.W.mg_of X G a40)
  cases e
  have B : BOk mg := ⟨(PySem.W.mg_none_of X G z_isinstance), (PySem.W.mg_none_of X G z_int), (PySem.W.mg_none_of X G z_bool), (PySem.W.mg_none_of X G z_str), (PySem.W.mg_none_of X G z_tuple), (PySem.W.mg_none_of X G z_list), (PySem.W.mg_none_of X G z_len), (PySem.W.mg_none_of X G z_range)⟩
  have mAbs := (PySem.W.mg_none_of X G z_abs)
  have mMax := (PySem.W.mg_none_of X G z_max)
  have mRev := (PySem.W.mg_none_of X G z_reversed)
  have mVE := (PySem.W.mg_none_of X G z_ValueError)
  have mNL := PySem.W.mg_of X G nL
  have mNM := PySem.W.mg_of X G nM
  have mCX := PySem.W.mg_of X G mCX
  have FL := fun_mk (st := s_law) l40 c40 k40
  have OX : OexC K CX := ⟨⟨_, _, _, _, _, _, _, _, _, _, _, _, _, _, _, xLCX, by first | rfl | simp [PySem.HandSPX.refsVE]⟩, saCX, eCCX, tCCX, kCCX⟩
  have xTH : PySem.W.exmOne K (.ref CX) (.ref CH) = some true := PySem.W.exm_ref eH dCH tCH sHCX
  have cX : (PySem.W.clsIn K CX).isSome = true := by
    obtain ⟨cd, hc, _⟩ := PySem.W.any_some hCCX
    rw [hc]
    rfl
  have R : Errs K mg CX CH CB CN CD CM := ⟨mVE, mCX, PySem.W.mg_of X G mCH, PySem.W.mg_of X G mCB, PySem.W.mg_of X G mCN, PySem.W.mg_of X G mCD, PySem.W.mg_of X G mCM, ⟨cX, gaCX, ggCX, eCCX, haCX, hn, ht, hmCX⟩, ⟨gaCX, ggCX, eCCX, hCCX⟩, nkCX, PySem.W.exm_ref eCCX hCCX tCCX sICX, xTH, kit_typ sVCX, kit_sub hCCX tCCX sICX, kitAny_cons (kit_not dCB tCB sCXCB sICX) (fun _ => kitAny_cons (kit_not dCN tCN sCXCN sICX) (fun _ => kitAny_cons (kit_not dCD tCD sCXCD sICX) (fun _ => kitAny_cons (kit_not dCM tCM sCXCM sICX) (fun _ => rfl) (fun z => nomatch z)) (fun z => nomatch z)) (fun z => nomatch z)) (fun z => nomatch z)⟩
  have UO : UOk K mg C := ⟨⟨pg, hd, po, sa⟩, nP, nQ, mks, kC, PySem.W.mg_of X G aC⟩
  refine ⟨PySem.W.fnOf "law" "law" (defArgs s_law) (defBody s_law) (defScope s_law) .none kV40 dc40 pm40 an40 cd40 ct40, fun s v => .of_eq rfl, fun base _ _ => ?_⟩
  have Flet : Fn l.prog w K mg base 1 "is_letter" (spLet let1) := ok_letter (top_mk X G a2 l2 c2 k2)
  have Fdig : Fn l.prog w K mg base 1 "is_digit" (spLet dig1) := ok_digit (top_mk X G a3 l3 c3 k3)
  have Fname := ok_isname (top_mk X G a4 l4 c4 k4) B.len mNL Flet Fdig
  have Fcell : Fn l.prog w K mg base 1 "_law_cell" (spCell K) := ok_cell (top_mk X G a16 l16 c16 k16) B.len mAbs
  have Fpool := ok_pool (top_mk X G a17 l17 c17 k17) Fcell B.int
  have Fnext : Fn l.prog w K mg base 1 "_law_next" spNext := ok_next (top_mk X G a18 l18 c18 k18) B.int
  have ERX : Er l.prog w K mg base "TextError" CX "index" := ok_te (topM_mk a42 i42 l42 c42 k42) OX nkCX mCX
  have Fskip : Fn l.prog w K mg base 1 "skip_spaces" spSkip := ok_skip (top_mk X G a7 l7 c7 k7)
  have Fsign := ok_sign (top_mk X G a8 l8 c8 k8) Fskip ERX
  have Frn := ok_rname (top_mk X G a9 l9 c9 k9) mNL Flet Fdig ERX
  have Frnum := ok_rnum (top_mk X G a10 l10 c10 k10) B.int mNM Fdig ERX
  have Frbr := ok_rbr (top_mk X G a11 l11 c11 k11) Fskip Fsign Frnum
  have Frpay := ok_rpay (top_mk X G a14 l14 c14 k14) Frbr Fsign
  have Fwh : Fn l.prog w K mg base 1 "is_number_from" (spWh K) := ok_whole (top_mk X G a0 l0 c0 k0) B
  have Fkind := ok_kind (top_mk X G a1 l1 c1 k1) B Fwh
  have Fword := ok_word (top_mk X G a5 l5 c5 k5) Fname
  have Fmenu : Fn l.prog w K mg base 1 "menu" spMenu := ok_menu (top_mk X G a6 l6 c6 k6)
  have Ftrade := ok_trade (Wk.topK_mk X G a41 l41 c41 k41 d41 ⟨tk41, rfl⟩) Fkind
  have Uinit : Kl l.prog w K mg base 1 "Unfinished" C (spUInit C) := ok_uinit (topM_mk a43 i43 l43 c43 k43) UO
  have Uput := ok_uput (topM_mk a44 i44 l44 c44 k44) UO Fmenu
  have Upay : Mt l.prog w K mg base 1 C "pay" (spUPay C) := ok_upay (topM_mk a45 i45 l45 c45 k45) UO
  have Uwhole := ok_uwhole (topM_mk a46 i46 l46 c46 k46) UO mRev Ftrade
  have Fatom := ok_atom (top_mk X G a13 l13 c13 k13) Fskip Uinit Uput Frn Fword
  have Fsent := ok_sent (top_mk X G a12 l12 c12 k12) B.len Fskip Uinit Uput Upay Uwhole Fatom Frpay ERX
  have Fparse := ok_parse (top_mk X G a15 l15 c15 k15) B.len Fsent ERX
  have Fmode := ok_mode (top_mk X G a21 l21 c21 k21) Fnext
  have Flname := ok_lname (top_mk X G a20 l20 c20 k20) B.len mMax B.range Fnext
  have Fdeep := ok_deep (top_mk X G a22 l22 c22 k22) B.len Fnext Fmode 4
  have Flsent := ok_lsent (top_mk X G a23 l23 c23 k23) B.len B.range Fnext Fmode Fdeep
  have Ftok := ok_tok (top_mk X G a24 l24 c24 k24) B.str B.int Fnext 20
  have Fspaced := ok_spaced (top_mk X G a25 l25 c25 k25) Fnext
  have Flsign := ok_lsign (top_mk X G a26 l26 c26 k26) B.len Fnext
  have Fspoilt := ok_spoilt (top_mk X G a27 l27 c27 k27) B.len Fnext Flsign
  have Fframe : Fn l.prog w K mg base 1 "_law_frame" spFrame := ok_frame (top_mk X G a28 l28 c28 k28)
  have Fjoin : Fn l.prog w K mg base 1 "_law_join" spJoin := ok_join (top_mk X G a29 l29 c29 k29)
  have Ffold : Fn l.prog w K mg base 1 "_law_fold" spFold := ok_fold (top_mk X G a30 l30 c30 k30) mRev
  have Fbrk : Fn l.prog w K mg base 1 "_law_bracket" spBrk := ok_brk (top_mk X G a31 l31 c31 k31) B.len
  have Fafter := ok_after (top_mk X G a32 l32 c32 k32) B.len Ffold Fjoin
  have Fstep := ok_lstep (top_mk X G a33 l33 c33 k33) B.len B.int Fbrk Fafter Fjoin Fframe
  have Frest : Fn l.prog w K mg base 1 "_law_rest" spRest := ok_rest (top_mk X G a34 l34 c34 k34) B.len
  have Fread := ok_read (top_mk X G a35 l35 c35 k35) B.len B.range Ffold Fjoin Fframe Fstep Frest
  have Fsame : Fn l.prog w K mg base 74 "_law_same" (spEqv 73) := ok_eqv (top_mk X G a19 l19 c19 k19) B 73
  have Ftold := ok_told (top_mk X G a37 l37 c37 k37) B.isi R Fparse
  have Frefa := ok_refA (top_mk X G a38 l38 c38 k38) B.isi R Fparse
  have Fdrawn := ok_drawn (top_mk X G a36 l36 c36 k36) B.range B.len Fnext Flsign Flname Flsent Ftok Fspaced Fspoilt
  have Fasks := ok_asks (top_mk X G a39 l39 c39 k39) B.len Fnext Flsign Fread Fsame Ftold Frefa
  exact ok_law FL Fpool Fdrawn Fasks
theorem walk {l : PySem.W.OpenLaw} {q : Program} {loose : List Str} {XP : (Str → Option Value) → Heap → Prop} {YP : World → Heap → Prop} {d : DefRec} {K : Params → PySem.W.Frag} (hn : l.most = some 63) (hdf : d.params.defaults = [])
    (hY : ∀ (w : World) (h : Heap), YP w h → (K w.params).In h)
    (F : ∀ (w : World) (mg : Str → Option Value) (fa : Addr) (h : Heap), (K w.params).In h → h.Ns mainGlobals mg → mg d.name = some (.ref fa) →
      ∃ fd : FuncData, (∀ (s : Shared) (u : Value), BindsTo s fd ⟨[u], []⟩ [("_law_script", u)]) ∧ ∀ base : Heap, (K w.params).In base → base.Ns mainGlobals mg → FnOk l.prog w (K w.params) mg base CX0 76 fa fd ["_law_script"] (spLaw (K w.params))) :
    PySem.W.WalkO q loose XP YP l.row.toRowW d [] (fun f vs => PySem.call f vs) :=
  L2.walk_of (n := 63) (k := 76) (x := "_law_script") (CX := fun _ => CX0) (sp := fun w => spLaw (K w.params)) hn (by decide) hdf ⟨rfl, by decide, by decide⟩ hY F (fun _ _ a ns hl _ hS => ⟨a, ns, rfl, hS, hl, fun _ => rfl⟩) fun _ _ _ _ _ z => z
end
end K26
open PySem PySem.W PyProof.Rows
set_option maxRecDepth 100000 in
set_option maxHeartbeats 0 in
theorem PySem.Challenge.cw_heldproofs_k26_whole_sentence_errors_holds : PySem.Challenge.rw_heldproofs_k26_whole_sentence_errors.Holds := by
  w_on; o_law; k_head; (case hw => w_witness2)
  k_fill
  refine K26.walk (l := PySem.Challenge.rw_heldproofs_k26_whole_sentence_errors) rfl rfl (fun w h Y => PySem.W.kIn_of Y) ?F
  case F =>
    intro w mg fa h KX G hmg
    refine' K26.all_mk KX G hmg ?a0 ?l0 ?c0 ?k0 ?a1 ?l1 ?c1 ?k1 ?a2 ?l2 ?c2 ?k2 ?a3 ?l3 ?c3 ?k3 ?a4 ?l4 ?c4 ?k4 ?a5 ?l5 ?c5 ?k5 ?a6 ?l6 ?c6 ?k6 ?a7 ?l7 ?c7 ?k7 ?a8 ?l8 ?c8 ?k8 ?a9 ?l9 ?c9 ?k9 ?a10 ?l10 ?c10 ?k10 ?a11 ?l11 ?c11 ?k11 ?a12 ?l12 ?c12 ?k12 ?a13 ?l13 ?c13 ?k13 ?a14 ?l14 ?c14 ?k14 ?a15 ?l15 ?c15 ?k15 ?a16 ?l16 ?c16 ?k16 ?a17 ?l17 ?c17 ?k17 ?a18 ?l18 ?c18 ?k18 ?a19 ?l19 ?c19 ?k19 ?a20 ?l20 ?c20 ?k20 ?a21 ?l21 ?c21 ?k21 ?a22 ?l22 ?c22 ?k22 ?a23 ?l23 ?c23 ?k23 ?a24 ?l24 ?c24 ?k24 ?a25 ?l25 ?c25 ?k25 ?a26 ?l26 ?c26 ?k26 ?a27 ?l27 ?c27 ?k27 ?a28 ?l28 ?c28 ?k28 ?a29 ?l29 ?c29 ?k29 ?a30 ?l30 ?c30 ?k30 ?a31 ?l31 ?c31 ?k31 ?a32 ?l32 ?c32 ?k32 ?a33 ?l33 ?c33 ?k33 ?a34 ?l34 ?c34 ?k34 ?a35 ?l35 ?c35 ?k35 ?a36 ?l36 ?c36 ?k36 ?a37 ?l37 ?c37 ?k37 ?a38 ?l38 ?c38 ?k38 ?a39 ?l39 ?c39 ?k39 ?a40 ?l40 ?c40 ?k40 ?a41 ?l41 ?c41 ?k41 ?d41 ?nL ?nM ?mCX ?mCH ?mCB ?mCN ?mCD ?mCM ?xLCX ?a42 ?i42 ?l42 ?c42 ?k42 ?saCX ?gaCX ?ggCX ?nkCX ?kCCX ?eCCX ?tCCX ?hCCX ?haCX ?hmCX ?sVCX ?sICX ?sHCX ?sCXCB ?sCXCN ?sCXCD ?sCXCM ?hn ?ht ?eH ?tCB ?dCB ?tCN ?dCN ?tCD ?dCD ?tCM ?dCM ?tCH ?dCH ?aC ?a43 ?i43 ?l43 ?c43 ?k43 ?a44 ?i44 ?l44 ?c44 ?k44 ?a45 ?i45 ?l45 ?c45 ?k45 ?a46 ?i46 ?l46 ?c46 ?k46 ?pg ?hd ?po ?sa ?mks ?kC ?nP ?nQ ?z_isinstance ?z_int ?z_bool ?z_str ?z_tuple ?z_list ?z_len ?z_range ?z_abs ?z_max ?z_min ?z_reversed ?z_ValueError
    (case a0 => k_is)
    (case l0 => k_is)
    (case c0 => k_is)
    (case k0 => k_is)
    (case a1 => k_is)
    (case l1 => k_is)
    (case c1 => k_is)
    (case k1 => k_is)
    (case a2 => k_is)
    (case l2 => k_is)
    (case c2 => k_is)
    (case k2 => k_is)
    (case a3 => k_is)
    (case l3 => k_is)
    (case c3 => k_is)
    (case k3 => k_is)
    (case a4 => k_is)
    (case l4 => k_is)
    (case c4 => k_is)
    (case k4 => k_is)
    (case a5 => k_is)
    (case l5 => k_is)
    (case c5 => k_is)
    (case k5 => k_is)
    (case a6 => k_is)
    (case l6 => k_is)
    (case c6 => k_is)
    (case k6 => k_is)
    (case a7 => k_is)
    (case l7 => k_is)
    (case c7 => k_is)
    (case k7 => k_is)
    (case a8 => k_is)
    (case l8 => k_is)
    (case c8 => k_is)
    (case k8 => k_is)
    (case a9 => k_is)
    (case l9 => k_is)
    (case c9 => k_is)
    (case k9 => k_is)
    (case a10 => k_is)
    (case l10 => k_is)
    (case c10 => k_is)
    (case k10 => k_is)
    (case a11 => k_is)
    (case l11 => k_is)
    (case c11 => k_is)
    (case k11 => k_is)
    (case a12 => k_is)
    (case l12 => k_is)
    (case c12 => k_is)
    (case k12 => k_is)
    (case a13 => k_is)
    (case l13 => k_is)
    (case c13 => k_is)
    (case k13 => k_is)
    (case a14 => k_is)
    (case l14 => k_is)
    (case c14 => k_is)
    (case k14 => k_is)
    (case a15 => k_is)
    (case l15 => k_is)
    (case c15 => k_is)
    (case k15 => k_is)
    (case a16 => k_is)
    (case l16 => k_is)
    (case c16 => k_is)
    (case k16 => k_is)
    (case a17 => k_is)
    (case l17 => k_is)
    (case c17 => k_is)
    (case k17 => k_is)
    (case a18 => k_is)
    (case l18 => k_is)
    (case c18 => k_is)
    (case k18 => k_is)
    (case a19 => k_is)
    (case l19 => k_is)
    (case c19 => k_is)
    (case k19 => k_is)
    (case a20 => k_is)
    (case l20 => k_is)
    (case c20 => k_is)
    (case k20 => k_is)
    (case a21 => k_is)
    (case l21 => k_is)
    (case c21 => k_is)
    (case k21 => k_is)
    (case a22 => k_is)
    (case l22 => k_is)
    (case c22 => k_is)
    (case k22 => k_is)
    (case a23 => k_is)
    (case l23 => k_is)
    (case c23 => k_is)
    (case k23 => k_is)
    (case a24 => k_is)
    (case l24 => k_is)
    (case c24 => k_is)
    (case k24 => k_is)
    (case a25 => k_is)
    (case l25 => k_is)
    (case c25 => k_is)
    (case k25 => k_is)
    (case a26 => k_is)
    (case l26 => k_is)
    (case c26 => k_is)
    (case k26 => k_is)
    (case a27 => k_is)
    (case l27 => k_is)
    (case c27 => k_is)
    (case k27 => k_is)
    (case a28 => k_is)
    (case l28 => k_is)
    (case c28 => k_is)
    (case k28 => k_is)
    (case a29 => k_is)
    (case l29 => k_is)
    (case c29 => k_is)
    (case k29 => k_is)
    (case a30 => k_is)
    (case l30 => k_is)
    (case c30 => k_is)
    (case k30 => k_is)
    (case a31 => k_is)
    (case l31 => k_is)
    (case c31 => k_is)
    (case k31 => k_is)
    (case a32 => k_is)
    (case l32 => k_is)
    (case c32 => k_is)
    (case k32 => k_is)
    (case a33 => k_is)
    (case l33 => k_is)
    (case c33 => k_is)
    (case k33 => k_is)
    (case a34 => k_is)
    (case l34 => k_is)
    (case c34 => k_is)
    (case k34 => k_is)
    (case a35 => k_is)
    (case l35 => k_is)
    (case c35 => k_is)
    (case k35 => k_is)
    (case a36 => k_is)
    (case l36 => k_is)
    (case c36 => k_is)
    (case k36 => k_is)
    (case a37 => k_is)
    (case l37 => k_is)
    (case c37 => k_is)
    (case k37 => k_is)
    (case a38 => k_is)
    (case l38 => k_is)
    (case c38 => k_is)
    (case k38 => k_is)
    (case a39 => k_is)
    (case l39 => k_is)
    (case c39 => k_is)
    (case k39 => k_is)
    (case a40 => k_is)
    (case l40 => k_is)
    (case c40 => k_is)
    (case k40 => k_is)
    (case a41 => k_is)
    (case l41 => k_is)
    (case c41 => k_is)
    (case k41 => k_is)
    (case d41 => k_is)
    (case nL => k_is)
    (case nM => k_is)
    (case mCX => k_is)
    (case mCH => k_is)
    (case mCB => k_is)
    (case mCN => k_is)
    (case mCD => k_is)
    (case mCM => k_is)
    (case xLCX => k_is)
    (case a42 => k_is)
    (case i42 => k_is)
    (case l42 => k_is)
    (case c42 => k_is)
    (case k42 => k_is)
    (case saCX => k_is)
    (case gaCX => k_is)
    (case ggCX => k_is)
    (case nkCX => k_is)
    (case kCCX => k_is)
    (case eCCX => k_is)
    (case tCCX => k_is)
    (case hCCX => k_is)
    (case haCX => k_is)
    (case hmCX => k_is)
    (case sVCX => k_is)
    (case sICX => k_is)
    (case sHCX => k_is)
    (case sCXCB => k_is)
    (case sCXCN => k_is)
    (case sCXCD => k_is)
    (case sCXCM => k_is)
    (case hn => k_is)
    (case ht => k_is)
    (case eH => k_is)
    (case tCB => k_is)
    (case dCB => k_is)
    (case tCN => k_is)
    (case dCN => k_is)
    (case tCD => k_is)
    (case dCD => k_is)
    (case tCM => k_is)
    (case dCM => k_is)
    (case tCH => k_is)
    (case dCH => k_is)
    (case aC => k_is)
    (case a43 => k_is)
    (case i43 => k_is)
    (case l43 => k_is)
    (case c43 => k_is)
    (case k43 => k_is)
    (case a44 => k_is)
    (case i44 => k_is)
    (case l44 => k_is)
    (case c44 => k_is)
    (case k44 => k_is)
    (case a45 => k_is)
    (case i45 => k_is)
    (case l45 => k_is)
    (case c45 => k_is)
    (case k45 => k_is)
    (case a46 => k_is)
    (case i46 => k_is)
    (case l46 => k_is)
    (case c46 => k_is)
    (case k46 => k_is)
    (case pg => k_is)
    (case hd => k_is)
    (case po => k_is)
    (case sa => k_is)
    (case mks => k_is)
    (case kC => k_is)
    (case nP => k_is)
    (case nQ => k_is)
    (case z_isinstance => k_is)
    (case z_int => k_is)
    (case z_bool => k_is)
    (case z_str => k_is)
    (case z_tuple => k_is)
    (case z_list => k_is)
    (case z_len => k_is)
    (case z_range => k_is)
    (case z_abs => k_is)
    (case z_max => k_is)
    (case z_min => k_is)
    (case z_reversed => k_is)
    (case z_ValueError => k_is)
