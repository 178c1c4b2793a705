import PyProof.Rows.All
import Wide.All
import OpenK.AllK
import Wide.FinOn
import HandS.ForMost
import HandS.IsInst
import HandS.Codes
import HandS.ForExc
import HandS.ExcInit
import HandS.ExcField
import HandS.CallSlots
import HandS.TupLe
import KE.KExcIs
import HandS.Flt
import HandS.ExcCtx
import HandS.HotCalls
import HandS.ExcInitHot
import HandS.Text
import HandS.Iter
import HandS.Wide
import HandS.Defaults
import HandS.More
import HandS.Conv
import HandS.Deep
import HandS.Set
import HandS.SetFor
import HandS.Strs
import HandS.Rev
import HandS.TupSets
import HandS.DictComp
import HandS.Dict
import HandS.Finally
import HandS.Flow
import HandS.Style
import HandS.TupAny
import KE.GoesMore
import KE.GoesEnum
import HandS.Zip
import HandS.RevRange
import HandS.GenBody
import HandS.GenYield
import HandS.GenCall
import HandS.GenList
import KE.KDictZip
import HandS.WordsDict
import HandS.Sort
import KE.DataEq
import HandS.Ends
import PyProof.ReprRoads
import HandS.Small
import HandS.ExcValue
import HandS.FStr
import KE.SortKeyHeap
import HandS.SortKw
import HandS.OwnEq
import HandS.RevTup
import HandS.ExcIs
import PySem.Challenge.RW_heldproofs_k03_claims_made
set_option Elab.async false
set_option linter.all false
set_option maxRecDepth 100000
/-! My own layer over the hand layer: the weakest reading of a piece of syntax, and a rule a construct, chosen where the values are known. -/
namespace Wk
open PySem PySem.Spec PyProof.Rows L2
section
variable (X : Cx)
@[irreducible] def wE (e : Expr) : TE := fun σ H Q => ∀ (pins : List (Addr × Obj)) (s : Shared), Inv X pins σ H s → wpAny (model X.prog X.w) X.A (eval e X.env) (EP X pins σ Q) X.xe s
@[irreducible] def wT (e : Expr) : TT := fun σ H Q => ∀ (pins : List (Addr × Obj)) (s : Shared), Inv X pins σ H s → wpAny (model X.prog X.w) X.A (isTrue e X.env (eval e X.env)) (TP X pins σ Q) X.xe s
@[irreducible] def wW (e : Expr) : TT := fun σ H Q => ∀ (whole : Sem Value) (pins : List (Addr × Obj)) (s : Shared), Inv X pins σ H s → wpAny (model X.prog X.w) X.A (isTrue e X.env whole) (TP X pins σ Q) X.xe s
@[irreducible] def wA (es : List Expr) : TA := fun σ H Q => ∀ (pos : Pos) (pins : List (Addr × Obj)) (s : Shared), Inv X pins σ H s → wpAny (model X.prog X.w) X.A (spliced (backTo pos (starEach es X.env))) (AP X pins σ Q) X.xe s
@[irreducible] def wS (st : Stmt) : TS := fun D σ H => ∀ (pins : List (Addr × Obj)) (s : Shared), Inv X pins σ H s → wpAny (model X.prog X.w) X.A (exec st X.env) (SP X pins D) X.xe s
@[irreducible] def wL (st : List Stmt) : TS := fun D σ H => ∀ (pins : List (Addr × Obj)) (s : Shared), Inv X pins σ H s → wpAny (model X.prog X.w) X.A (execs st X.env) (SP X pins D) X.xe s
@[irreducible] def wO (f : Value → Value → Sem Value) : R2 := fun x y H Q => ∀ (pins : List (Addr × Obj)) (s : Shared) (σ : L2.St) (v u : Value), Inv X pins σ H s → RelV x v → RelV y u → wpAny (model X.prog X.w) X.A (f v u) (EP X pins σ Q) X.xe s
@[irreducible] def wB (op : Operator) : R2 := fun x y H Q => wO X (binaryOp op) x y H Q
@[irreducible] def wK (op : CmpOp) : R2 := fun x y H Q => wO X (compareOp op) x y H Q
@[irreducible] def wIx : R2 := fun x y H Q => ∀ (value slice : Expr) (pins : List (Addr × Obj)) (s : Shared) (σ : L2.St) (v u : Value), Inv X pins σ H s → RelV x v → RelV y u → subscripted slice false v u = operate [v, u] (getItem v u) → wpAny (model X.prog X.w) X.A (subscriptTail value slice v u) (EP X pins σ Q) X.xe s
@[irreducible] def wC (f : Value) : List V → Hp → VK → Prop := fun xs H Q => ∀ (pins : List (Addr × Obj)) (s : Shared) (σ : L2.St) (us : List Value), Inv X pins σ H s → Vals xs us → wpAny (model X.prog X.w) X.A (call f us) (EP X pins σ Q) X.xe s
@[irreducible] def wSet : V → V → V → Hp → (Hp → Prop) → Prop := fun o i v H Q => ∀ (pins : List (Addr × Obj)) (s : Shared) (σ : L2.St) (ov iv u : Value), Inv X pins σ H s → RelV o ov → RelV i iv → RelV v u → wpAny (model X.prog X.w) X.A (setItem ov iv u) (fun _ s' => ∃ H', Inv X pins σ H' s' ∧ Q H') X.xe s
end
section
variable {X : Cx} {e a b c : Expr} {es rest : List Expr} {st : Stmt} {sts : List Stmt} {σ : L2.St} {H : Hp} {Q : VK} {D : Ends} {pos p0 : Pos} {QT : Bool → Hp → Prop}
theorem pe : PE X e (wE X e) := ⟨fun pins s _ _ _ I h => by unfold wE at h; exact h pins s I⟩
theorem pt : PT X e (wT X e) := ⟨fun pins s _ _ _ I h => by unfold wT at h; exact h pins s I⟩
theorem pw : PW X e (wW X e) := ⟨fun wh pins s _ _ _ I h => by unfold wW at h; exact h wh pins s I⟩
theorem pa : PA X es (wA X es) := ⟨fun p pins s _ _ _ I h => by unfold wA at h; exact h p pins s I⟩
theorem ps : PS X st (wS X st) := ⟨fun pins s _ _ _ I h => by unfold wS at h; exact h pins s I⟩
theorem pl : PSs X sts (wL X sts) := ⟨fun pins s _ _ _ I h => by unfold wL at h; exact h pins s I⟩
theorem opr {f : Value → Value → Sem Value} : OpR X f (wO X f) := fun pins s σ _ _ _ v u _ I rx ry h => by unfold wO at h; exact h pins s σ v u I rx ry
theorem opb {op : Operator} : OpR X (binaryOp op) (wB X op) := fun pins s σ _ _ _ v u _ I rx ry h => by unfold wB at h; exact opr pins s σ _ _ _ v u _ I rx ry h
theorem opk {op : CmpOp} : OpR X (compareOp op) (wK X op) := fun pins s σ _ _ _ v u _ I rx ry h => by unfold wK at h; exact opr pins s σ _ _ _ v u _ I rx ry h
theorem ixr : IxR X (wIx X) := fun va sl pins s σ _ _ _ v u _ I rx ry h hs => by unfold wIx at h; exact h va sl pins s σ v u I rx ry hs
theorem cr {f : Value} : CallR X f (wC X f) := fun pins s σ _ _ us _ I r h => by unfold wC at h; exact h pins s σ us I r
theorem pset : PSet X (wSet X) := fun pins s σ _ _ _ _ ov iv u _ I ro ri rv h => by unfold wSet at h; exact h pins s σ ov iv u I ro ri rv
theorem e_of {t : TE} (h : PE X e t) (q : t σ H Q) : wE X e σ H Q := by unfold wE; exact fun pins s I => h.run pins s σ H Q I q
theorem t_of {t : TT} (h : PT X e t) (q : t σ H QT) : wT X e σ H QT := by unfold wT; exact fun pins s I => h.run pins s σ H QT I q
theorem w_of {t : TT} (h : PW X e t) (q : t σ H QT) : wW X e σ H QT := by unfold wW; exact fun wh pins s I => h.run wh pins s σ H QT I q
theorem a_of {t : TA} {QA : List V → Hp → Prop} (h : PA X es t) (q : t σ H QA) : wA X es σ H QA := by unfold wA; exact fun p pins s I => h.run p pins s σ H QA I q
theorem s_of {t : TS} (h : PS X st t) (q : t D σ H) : wS X st D σ H := by unfold wS; exact fun pins s I => h.run pins s σ H D I q
theorem l_of {t : TS} (h : PSs X sts t) (q : t D σ H) : wL X sts D σ H := by unfold wL; exact fun pins s I => h.run pins s σ H D I q
theorem o_of {f : Value → Value → Sem Value} {r : R2} {x y : V} (h : OpR X f r) (q : r x y H Q) : wO X f x y H Q := by unfold wO; exact fun pins s σ v u I rx ry => h pins s σ H x y v u Q I rx ry q
theorem b_of {op : Operator} {r : R2} {x y : V} (h : OpR X (binaryOp op) r) (q : r x y H Q) : wB X op x y H Q := by unfold wB; exact o_of h q
theorem k_of {op : CmpOp} {r : R2} {x y : V} (h : OpR X (compareOp op) r) (q : r x y H Q) : wK X op x y H Q := by unfold wK; exact o_of h q
theorem ix_of {r : R2} {x y : V} (h : IxR X r) (q : r x y H Q) : wIx X x y H Q := by unfold wIx; exact fun va sl pins s σ v u I rx ry hs => h va sl pins s σ H x y v u Q I rx ry q hs
theorem c_of {f : Value} {r : List V → Hp → VK → Prop} {xs : List V} (h : CallR X f r) (q : r xs H Q) : wC X f xs H Q := by unfold wC; exact fun pins s σ us I r => h pins s σ H xs us Q I r q
theorem set_of {t : V → V → V → Hp → (Hp → Prop) → Prop} {o i v : V} {QH : Hp → Prop} (h : PSet X t) (q : t o i v H QH) : wSet X o i v H QH := by unfold wSet; exact fun pins s σ ov iv u I ro ri rv => h pins s σ H o i v ov iv u QH I ro ri rv q

theorem e_mono {Q' : VK} (q : wE X e σ H Q) (h : ∀ v H1, Q v H1 → Q' v H1) : wE X e σ H Q' := by
  unfold wE at q ⊢
  exact fun pins s I => wpAny_mono (q pins s I) (fun _ _ ⟨v, H1, I1, r, z⟩ => ⟨v, H1, I1, r, h v H1 z⟩) fun _ _ z => z
theorem a_mono {QA QA' : List V → Hp → Prop} (q : wA X es σ H QA) (h : ∀ v H1, QA v H1 → QA' v H1) : wA X es σ H QA' := by
  unfold wA at q ⊢
  exact fun pp pins s I => wpAny_mono (q pp pins s I) (fun _ _ ⟨v, H1, I1, r, z⟩ => ⟨v, H1, I1, r, h v H1 z⟩) fun _ _ z => z

end
/-- where a name stands in a list; found by its spelling -/
inductive At {α : Type} : List α → Nat → α → Prop where
  | z {x : α} {l : List α} : At (x :: l) 0 x
  | s {x y : α} {l : List α} {i : Nat} (h : At l i x) : At (y :: l) (i + 1) x
theorem At.get {α : Type} {l : List α} {i : Nat} {x : α} (h : At l i x) : l[i]? = some x := by
  induction h with
  | z => rfl
  | s _ ih => simpa using ih
theorem At.mem {α : Type} {l : List α} {i : Nat} {x : α} (h : At l i x) : x ∈ l := List.mem_of_getElem? h.get
instance locDec {sc : Scope} {x : Str} : Decidable (Loc sc x) := inferInstanceAs (Decidable (_ ∨ _))
/-- a def's names: its own, in their slots, and the global ones -/
structure ScOk (N G : List Str) (sc : Scope) : Prop where
  nd : N.Nodup
  lo : ∀ x ∈ N, Loc sc x ∧ (x == ("__debug__" : Str)) = false ∧ (x == ("__classdict__" : Str)) = false
  gl : ∀ x ∈ G, sc.names.lookup x = some .globalImplicit ∧ (x == ("__debug__" : Str)) = false ∧ x ≠ "__name__"
/-- the body that the proof stands in -/
structure In (X : Cx) (N G : List Str) (sc : Scope) : Prop where
  ok : ScOk N G sc
  n : ∃ C, X.N = N ++ C
  nd : X.N.Nodup
  sc : X.env.scope = sc
  fn : X.fn = fun _ => true
  nev : PassesOwn (model X.prog X.w) X.A X.env X.xe
section
variable {X : Cx} {e a b c : Expr} {es rest : List Expr} {st : Stmt} {sts : List Stmt} {σ : L2.St} {H : Hp} {Q : VK} {D : Ends} {pos p0 : Pos} {QT : Bool → Hp → Prop} {N G : List Str} {sc : Scope}
theorem In.loc (I : In X N G sc) {i : Nat} {x : Str} (h : At N i x) : Loc X.env.scope x := by rw [I.sc]; exact (I.ok.lo x h.mem).1
theorem In.vis (I : In X N G sc) {i : Nat} {x : Str} (h : At N i x) : Vis X.env.scope x := by
  rcases I.loc h with z | z
  · exact .inl z
  · exact .inr (.inl z)
theorem In.hi (I : In X N G sc) {i : Nat} {x : Str} (h : At N i x) : X.N[i]? = some x := by
  obtain ⟨C, e⟩ := I.n
  have hl : i < N.length := by
    have := h.get
    exact (List.getElem?_eq_some_iff.mp this).1
  rw [e, List.getElem?_append_left hl]
  exact h.get
theorem In.f (I : In X N G sc) {x : Str} : X.fn x = true ∨ X.env.scope.names.lookup x = some .local := .inl (by rw [I.fn])
theorem In.g (I : In X N G sc) {i : Nat} {x : Str} (h : At G i x) : Gl X x := by
  show X.env.scope.names.lookup x = _
  rw [I.sc]
  exact (I.ok.gl x h.mem).1
theorem In.gd (I : In X N G sc) {i : Nat} {x : Str} (h : At G i x) : (x == ("__debug__" : Str)) = false := (I.ok.gl x h.mem).2.1
theorem In.gn (I : In X N G sc) {i : Nat} {x : Str} (h : At G i x) : x ≠ "__name__" := (I.ok.gl x h.mem).2.2
theorem In.never (I : In X N G sc) : PassesOwn (model X.prog X.w) X.A X.env X.xe := I.nev

/-! ### statements -/
theorem l_nil {nx : L2.St → Hp → Prop} {rt : VK} {bk ct : L2.St → Hp → Prop} (q : nx σ H) : wL X [] ⟨nx, rt, bk, ct⟩ σ H := l_of pss_nil q
theorem l_cons {nx : L2.St → Hp → Prop} {rt : VK} {bk ct : L2.St → Hp → Prop} (q : wS X st ⟨fun σ' H' => wL X sts ⟨nx, rt, bk, ct⟩ σ' H', rt, bk, ct⟩ σ H) : wL X (st :: sts) ⟨nx, rt, bk, ct⟩ σ H := l_of (pss_cons ps pl) q
theorem s_set {nx : L2.St → Hp → Prop} {rt : VK} {bk ct : L2.St → Hp → Prop} {i : Nat} {x : Str} {pos' : Pos} (q : wE X e σ H fun v H' => nx (σ.set i (some v)) H') (I : In X N G sc := by assumption) (hA : At N i x := by repeat (first | with_reducible apply At.z | with_reducible apply At.s)) (hs : swapsWith e (some (.Name x pos')) pos.line X.env = pure false := by rfl) :
    wS X (.Assign [.Name x pos'] e pos) ⟨nx, rt, bk, ct⟩ σ H := s_of (ps_set I.nd (I.hi hA) (I.loc hA) pe hs I.f) q
theorem s_ret {nx : L2.St → Hp → Prop} {rt : VK} {bk ct : L2.St → Hp → Prop} (q : wE X e σ H rt) : wS X (.Return (some e) pos) ⟨nx, rt, bk, ct⟩ σ H := s_of (ps_ret pe) q
theorem s_retN {nx : L2.St → Hp → Prop} {rt : VK} {bk ct : L2.St → Hp → Prop} (q : rt .non H) : wS X (.Return none pos) ⟨nx, rt, bk, ct⟩ σ H := s_of ps_retN q
theorem s_pass {nx : L2.St → Hp → Prop} {rt : VK} {bk ct : L2.St → Hp → Prop} (q : nx σ H) : wS X (.Pass pos) ⟨nx, rt, bk, ct⟩ σ H := s_of ps_pass q
theorem s_brk {nx : L2.St → Hp → Prop} {rt : VK} {bk ct : L2.St → Hp → Prop} (q : bk σ H) : wS X (.Break pos) ⟨nx, rt, bk, ct⟩ σ H := s_of ps_break q
theorem s_cnt {nx : L2.St → Hp → Prop} {rt : VK} {bk ct : L2.St → Hp → Prop} (q : ct σ H) : wS X (.Continue pos) ⟨nx, rt, bk, ct⟩ σ H := s_of ps_continue q
theorem s_expr {nx : L2.St → Hp → Prop} {rt : VK} {bk ct : L2.St → Hp → Prop} (q : wE X e σ H fun _ H' => nx σ H') (hs : swapsWith e none pos.line X.env = pure false := by rfl) : wS X (.Expr e pos) ⟨nx, rt, bk, ct⟩ σ H := s_of (ps_expr pe hs) q
theorem s_if {nx : L2.St → Hp → Prop} {rt : VK} {bk ct : L2.St → Hp → Prop} {A B : List Stmt} (q : wT X c σ H fun k H1 => if k = true then wL X A ⟨nx, rt, bk, ct⟩ σ H1 else wL X B ⟨nx, rt, bk, ct⟩ σ H1) : wS X (.If c A B pos) ⟨nx, rt, bk, ct⟩ σ H := s_of (ps_if pt pl pl) q
theorem s_fld {nx : L2.St → Hp → Prop} {rt : VK} {bk ct : L2.St → Hp → Prop} {o value : Expr} {f : Str} {pos' : Pos} (q : wE X value σ H fun y H1 => wE X o σ H1 fun x H2 => ∃ a C dx fs, x = .ref a ∧ H2 a = some (.ins C dx fs) ∧ Cls X.K C ∧ NoAttr X.K C f ∧ fs.length < 1000 ∧ nx σ (upd H2 a (.ins C dx (putF f y fs))))
    (hs : swapsWith value (some (.Attribute o f pos')) pos.line X.env = pure false := by rfl) : wS X (.Assign [.Attribute o f pos'] value pos) ⟨nx, rt, bk, ct⟩ σ H := s_of (ps_fld pe pe hs) q
/-- o[i] = v -/
theorem s_sub {nx : L2.St → Hp → Prop} {rt : VK} {bk ct : L2.St → Hp → Prop} {o i value : Expr} {pos' : Pos} (q : wE X value σ H fun v H1 => wE X o σ H1 fun x H2 => wE X i σ H2 fun y H3 => wSet X x y v H3 fun H4 => nx σ H4)
    (hs : swapsWithSole [.Subscript o i pos'] value pos.line X.env = pure false := by rfl) (hw : swappedStores [.Subscript o i pos'] value X.env = pure none := by rfl) (h1 : (assignEach [.Subscript o i pos'] X.env).map (·.2) = [assign (.Subscript o i pos') X.env] := by rfl)
    (ha : ∀ v, assign (.Subscript o i pos') X.env v = (do let ov ← holding [v] (eval o X.env); let iv ← holding [v, ov] (eval i X.env); standAt pos'; holding [v, ov, iv] (setItem ov iv v); release [v, ov, iv] []) := by intro _; rfl) : wS X (.Assign [.Subscript o i pos'] value pos) ⟨nx, rt, bk, ct⟩ σ H := s_of (ps_asg pe (pg_sub pe pe pset ha) hs hw h1) q
/-- two names from a tuple -/
theorem s_tup2 {nx : L2.St → Hp → Prop} {rt : VK} {bk ct : L2.St → Hp → Prop} {i j : Nat} {x y : Str} {k : Nat} {px py pt : Pos} (q : wE X e σ H fun v H1 => ∃ a u w, v = .ref a ∧ SqT X.K H1 a [u, w] ∧ nx ((σ.set i (some u)).set j (some w)) H1)
    (I : In X N G sc := by assumption) (hc : X.calm = true := by rfl) (hA : At N i x := by repeat (first | with_reducible apply At.z | with_reducible apply At.s)) (hB : At N j y := by repeat (first | with_reducible apply At.z | with_reducible apply At.s))
    (hs : swapsWithSole [.Tuple [.Name x px, .Name y py] k pt] e pos.line X.env = pure false := by rfl) (hw : swappedStores [.Tuple [.Name x px, .Name y py] k pt] e X.env = pure none := by rfl) (h1 : (assignEach [.Tuple [.Name x px, .Name y py] k pt] X.env).map (·.2) = [assign (.Tuple [.Name x px, .Name y py] k pt) X.env] := by rfl) :
    wS X (.Assign [.Tuple [.Name x px, .Name y py] k pt] e pos) ⟨nx, rt, bk, ct⟩ σ H := by
  refine s_of (ps_asg pe (pg_tup hc (pgs_cons (pg_name I.nd (I.hi hA) (I.loc hA) I.f) (pgs_cons (pg_name I.nd (I.hi hB) (I.loc hB) I.f) pgs_nil))) hs hw h1) (e_mono q fun v H1 q1 => ?_)
  obtain ⟨ad, u, w, ev, hq, q2⟩ := q1
  exact ⟨ad, [u, w], ev, hq, rfl, u, [w], rfl, w, [], rfl, rfl, q2⟩
/-! ### expressions -/
theorem e_var {i : Nat} {x : Str} {v : V} (q : Q v H) (I : In X N G sc := by assumption) (hA : At N i x := by repeat (first | with_reducible apply At.z | with_reducible apply At.s)) (hσ : σ[i]? = some (some v) := by exact rfl) : wE X (.Name x pos) σ H Q :=
  e_of (pe_var (I.hi hA) (I.vis hA) (I.ok.lo x hA.mem).2.1 (I.ok.lo x hA.mem).2.2) ⟨v, hσ, q⟩
theorem e_int {i : Int} {j} (q : Q (.int i) H) : wE X (.Constant (.int i) j pos) σ H Q := e_of pe_int q
theorem e_bl {k : Bool} {j} (q : Q (.bl k) H) : wE X (.Constant (.bool k) j pos) σ H Q := e_of pe_bl q
theorem e_non {j} (q : Q .non H) : wE X (.Constant .none j pos) σ H Q := e_of pe_non q
theorem e_str {x : Str} {j} (q : Q (.str x) H) : wE X (.Constant (.str x) j pos) σ H Q := e_of pe_str q
theorem e_bin {op : Operator} (q : wE X a σ H fun x H1 => wE X b σ H1 fun y H2 => wB X op x y H2 Q) : wE X (.BinOp a op b pos) σ H Q := e_of (pe_op opb pe pe) q
theorem e_cmp {op : CmpOp} (q : wE X a σ H fun x H1 => wE X b σ H1 fun y H2 => wK X op x y H2 Q) (hm : behindInMarks op b = false := by first | exact nomark _ | rfl) : wE X (.Compare a [op] [b] pos) σ H Q := e_of (pe_cmpR opk pe pe hm) q
theorem t_cmp {op : CmpOp} (q : wE X a σ H fun x H1 => wE X b σ H1 fun y H2 => wK X op x y H2 fun z H3 => ∃ k, z = .bl k ∧ QT k H3) (hm : behindInMarks op b = false := by first | exact nomark _ | rfl) : wT X (.Compare a [op] [b] pos) σ H QT := t_of (pt_cmpR opk pe pe hm) q
theorem t_val (q : wE X e σ H fun z H3 => ∃ k, z = .bl k ∧ QT k H3) (he : ∀ whole, isTrue e X.env whole = (do let v ← whole; standAt e.pos; holding [v] (truthy v)) := by intro _; rfl) : wT X e σ H QT := t_of (pt_val pe he) q
theorem t_not (q : wT X a σ H fun k H1 => QT (!k) H1) : wT X (.UnaryOp .Not a pos) σ H QT := t_of (pt_not pt) q
theorem t_w (q : wW X e σ H QT) : wT X e σ H QT := t_of pw.pt q
theorem w_and1 (q : wT X a σ H QT) : wW X (.BoolOp .And [a] pos) σ H QT := w_of (pw_and1 pt) q
theorem w_or1 (q : wT X a σ H QT) : wW X (.BoolOp .Or [a] pos) σ H QT := w_of (pw_or1 pt) q
theorem w_and (q : wT X a σ H fun k H1 => if k = true then wW X (.BoolOp .And (b :: rest) pos) σ H1 QT else QT false H1) : wW X (.BoolOp .And (a :: b :: rest) pos) σ H QT := w_of (pw_and pt pw) q
theorem w_or (q : wT X a σ H fun k H1 => if k = true then QT true H1 else wW X (.BoolOp .Or (b :: rest) pos) σ H1 QT) : wW X (.BoolOp .Or (a :: b :: rest) pos) σ H QT := w_of (pw_or pt pw) q
theorem e_one {op} (q : wE X a σ H Q) : wE X (.BoolOp op [a] pos) σ H Q := e_of (pe_one pe) q
theorem e_and (q : wE X a σ H fun x H1 => ∃ k, x = .bl k ∧ if k = true then wE X (.BoolOp .And (b :: rest) pos) σ H1 Q else Q (.bl false) H1) : wE X (.BoolOp .And (a :: b :: rest) pos) σ H Q := e_of (pe_and pe pe) q
theorem e_or (q : wE X a σ H fun x H1 => ∃ k, x = .bl k ∧ if k = true then Q (.bl true) H1 else wE X (.BoolOp .Or (b :: rest) pos) σ H1 Q) : wE X (.BoolOp .Or (a :: b :: rest) pos) σ H Q := e_of (pe_or pe pe) q
theorem e_not (q : wE X a σ H fun x H1 => ∃ k, x = .bl k ∧ Q (.bl (!k)) H1) : wE X (.UnaryOp .Not a pos) σ H Q := e_of (pe_not pe) q
theorem e_ifExp (q : wT X c σ H fun k H1 => if k = true then wE X a σ H1 Q else wE X b σ H1 Q) : wE X (.IfExp c a b pos) σ H Q := e_of (pe_ifExp pt pe pe) q
theorem e_ix (q : wE X a σ H fun x H1 => wE X b σ H1 fun y H2 => wIx X x y H2 Q) (hs : PlainIx b := by intro _ _; rfl) : wE X (.Subscript a b pos) σ H Q := e_of (pe_ix ixr pe pe hs) q
theorem e_fld {f : Str} (q : wE X e σ H fun x H1 => ∃ a C dx fs v, x = .ref a ∧ H1 a = some (.ins C dx fs) ∧ Cls X.K C ∧ NoAttr X.K C f ∧ fs.lookup f = some v ∧ Q v H1) (hb : attributeBase e f X.env (eval e X.env) = eval e X.env := by rfl) : wE X (.Attribute e f pos) σ H Q := e_of (pe_fld pe hb) q
theorem a_nil {QA : List V → Hp → Prop} (q : QA [] H) : wA X [] σ H QA := a_of pa_nil q
theorem a_cons {QA : List V → Hp → Prop} (q : wE X e σ H fun x H1 => wA X es σ H1 fun xs H2 => QA (x :: xs) H2) (hs : starEach (e :: es) X.env = (false, eval e X.env) :: starEach es X.env := by rfl) : wA X (e :: es) σ H QA := a_of (pa_cons pe pa hs) q
theorem e_tup {k} (q : wA X es σ H fun xs H1 => xs.length ≤ sizeLine ∧ ∀ p H2, Same H1 H2 → H1 p = none → H2 p = some (.tup xs) → Q (.ref p) H2) : wE X (.Tuple es k pos) σ H Q :=
  e_of (pe_tup pa) (a_mono q fun xs H1 z => ⟨z.1, fun p np => z.2 p _ (fun b o eo => by rw [upd_ne (ne_of_none eo np)]; exact eo) np upd_same⟩)
theorem e_lst (q : wA X es σ H fun xs H1 => xs.length ≤ sizeLine ∧ ∀ p H2, Same H1 H2 → H1 p = none → H2 p = some (.lst xs) → Q (.ref p) H2) : wE X (.List es pos) σ H Q :=
  e_of (pe_lst pa) (a_mono q fun xs H1 z => ⟨z.1, fun p np => z.2 p _ (fun b o eo => by rw [upd_ne (ne_of_none eo np)]; exact eo) np upd_same⟩)
/-! ### calls -/
/-- a def of the module that no exception leaves -/
structure Fn (P : Program) (w : World) (K : PySem.W.Frag) (mg : Str → Option Value) (base : Heap) (k : Nat) (x : Str) (sp : Sp) : Prop where
  ex : ∃ (f : Addr) (fd : FuncData) (ps : List Str), FnOk P w K mg base CX0 k f fd ps sp ∧ mg x = some (.ref f) ∧ PySem.W.keepIn K (.ref f) = true ∧ Binds K fd ps []
theorem e_call {g : Nat} {k n : Nat} {x : Str} {sp : Sp} (F : Fn X.prog X.w X.K X.mg X.base k x sp) (hr : Room n X.A) (hk : k ≤ n) (q : wA X (e :: es) σ H fun vs H1 => sp vs H1 Q E0) (I : In X N G sc := by assumption) (hG : At G g x := by repeat (first | with_reducible apply At.z | with_reducible apply At.s))
    (he : starEach (e :: es) X.env = (false, eval e X.env) :: starEach es X.env := by rfl) (hpl : (backTo pos (starEach es X.env)).any (·.1) = false := by rfl) : wE X (.Call (.Name x p0) (e :: es) [] pos) σ H Q := by
  obtain ⟨f, fd, ps, F0, hm, hkp, hb⟩ := F.ex
  refine e_of (pe_call F0 (hr.mono hk) (I.g hG) hm hkp hb .nil pass0 pa (I.gd hG) he hpl) ?_
  show wA X (e :: es) σ H fun vs H1 => sp (vs ++ []) H1 Q E0
  simp only [List.append_nil]
  exact q
theorem e_call0 {g : Nat} {k n : Nat} {x : Str} {sp : Sp} (F : Fn X.prog X.w X.K X.mg X.base k x sp) (hr : Room n X.A) (hk : k ≤ n) (q : sp [] H Q E0) (I : In X N G sc := by assumption) (hG : At G g x := by repeat (first | with_reducible apply At.z | with_reducible apply At.s)) : wE X (.Call (.Name x p0) [] [] pos) σ H Q := by
  obtain ⟨f, fd, ps, F0, hm, hkp, hb⟩ := F.ex
  exact e_of (pe_call0 F0 (hr.mono hk) (I.g hG) hm hkp hb .nil pass0 (I.gd hG)) q
theorem e_callB {g : Nat} {x : Str} {id : String} (hm : X.mg x = none) (hv : bootBuiltins x = some (.builtin id)) (q : wA X (e :: es) σ H fun vs H1 => wC X (.builtin id) vs H1 Q) (I : In X N G sc := by assumption) (hG : At G g x := by repeat (first | with_reducible apply At.z | with_reducible apply At.s))
    (he : starEach (e :: es) X.env = (false, eval e X.env) :: starEach es X.env := by rfl) (hpl : (backTo pos (starEach es X.env)).any (·.1) = false := by rfl) : wE X (.Call (.Name x p0) (e :: es) [] pos) σ H Q := e_of (pe_callB cr (I.g hG) hm hv pa (I.gn hG) (I.gd hG) he hpl) q
theorem e_callTy {g : Nat} {x : Str} {T : String} (hm : X.mg x = none) (hv : bootBuiltins x = some (.type T)) (q : wA X (e :: es) σ H fun vs H1 => wC X (.type T) vs H1 Q) (I : In X N G sc := by assumption) (hG : At G g x := by repeat (first | with_reducible apply At.z | with_reducible apply At.s))
    (he : starEach (e :: es) X.env = (false, eval e X.env) :: starEach es X.env := by rfl) (hpl : (backTo pos (starEach es X.env)).any (·.1) = false := by rfl) : wE X (.Call (.Name x p0) (e :: es) [] pos) σ H Q := e_of (pe_callTy cr (I.g hG) hm hv pa (I.gn hG) (I.gd hG) he hpl) q
theorem e_glob {g : Nat} {x : Str} {v : V} {u : Value} (hm : X.mg x = some u) (r : RelV v u) (q : Q v H) (I : In X N G sc := by assumption) (hG : At G g x := by repeat (first | with_reducible apply At.z | with_reducible apply At.s)) : wE X (.Name x pos) σ H Q := e_of (pe_glob (I.g hG) hm r (I.gd hG)) q
theorem e_bltn {g : Nat} {x : Str} {v : V} {u : Value} (hm : X.mg x = none) (hv : bootBuiltins x = some u) (r : RelV v u) (q : Q v H) (I : In X N G sc := by assumption) (hG : At G g x := by repeat (first | with_reducible apply At.z | with_reducible apply At.s)) : wE X (.Name x pos) σ H Q := e_of (pe_bltn (I.g hG) hm hv r (I.gn hG) (I.gd hG)) q
/-- a method of a class that no exception leaves -/
structure Mt (P : Program) (w : World) (K : PySem.W.Frag) (mg : Str → Option Value) (base : Heap) (k : Nat) (C : Addr) (m : Str) (sp : Sp) : Prop where
  ex : ∃ (f : Addr) (fd : FuncData) (ps : List Str), FnOk P w K mg base CX0 k f fd ps sp ∧ Meth K C m f ∧ Binds K fd ps [] ∧ Cls K C
theorem e_meth {k n : Nat} {o : Expr} {m : Str} {C : Addr} {apos : Pos} {pl : Sem Bool} {sp : Sp} (F : Mt X.prog X.w X.K X.mg X.base k C m sp) (hr : Room n X.A) (hk : k ≤ n)
    (q : wE X o σ H fun x H1 => ∃ a dx fs, x = .ref a ∧ H1 a = some (.ins C dx fs) ∧ fs.lookup m = none ∧ wA X (e :: es) σ H1 fun vs H2 => sp (x :: vs) H2 Q E0)
    (hst : starEach (e :: es) X.env = (false, eval e X.env) :: starEach es X.env := by rfl) (hpl : (backTo pos (starEach es X.env)).any (·.1) = false := by rfl)
    (ht : eval (.Call (.Attribute o m apos) (e :: es) [] pos) X.env = (do let ov ← eval o X.env; standAt apos.atName; let (f, first) ← holding [ov] (getMethod ov m pl); callWith pos f first (backTo pos (starEach (e :: es) X.env)) (backToKw pos (keywordEach [] X.env))) := by rfl) :
    wE X (.Call (.Attribute o m apos) (e :: es) [] pos) σ H Q := by
  obtain ⟨f, fd, ps, F0, M, hb, c⟩ := F.ex
  refine e_of (pe_meth (pl := pl) pe c M F0 (hr.mono hk) hb .nil pass0 pa hst hpl ht) ?_
  show wE X o σ H fun x H1 => ∃ a dx fs, x = .ref a ∧ H1 a = some (.ins C dx fs) ∧ fs.lookup m = none ∧ wA X (e :: es) σ H1 fun vs H2 => sp (x :: (vs ++ [])) H2 Q E0
  simp only [List.append_nil]
  exact q
theorem e_meth0 {k n : Nat} {o : Expr} {m : Str} {C : Addr} {apos : Pos} {pl : Sem Bool} {sp : Sp} (F : Mt X.prog X.w X.K X.mg X.base k C m sp) (hr : Room n X.A) (hk : k ≤ n)
    (q : wE X o σ H fun x H1 => ∃ a dx fs, x = .ref a ∧ H1 a = some (.ins C dx fs) ∧ fs.lookup m = none ∧ sp [x] H1 Q E0)
    (ht : eval (.Call (.Attribute o m apos) [] [] pos) X.env = (do let ov ← eval o X.env; standAt apos.atName; let (f, first) ← holding [ov] (getMethod ov m pl); callWith pos f first (backTo pos (starEach [] X.env)) (backToKw pos (keywordEach [] X.env))) := by rfl) :
    wE X (.Call (.Attribute o m apos) [] [] pos) σ H Q := by
  obtain ⟨f, fd, ps, F0, M, hb, c⟩ := F.ex
  exact e_of (pe_meth0 (pl := pl) pe c M F0 (hr.mono hk) hb .nil pass0 ht) q
/-- an own class whose __init__ no exception leaves -/
structure Kl (P : Program) (w : World) (K : PySem.W.Frag) (mg : Str → Option Value) (base : Heap) (k : Nat) (x : Str) (C : Addr) (sp : Sp) : Prop where
  ex : ∃ (f : Addr) (fd : FuncData) (ps : List Str), FnOk P w K mg base CX0 k f fd ps sp ∧ mg x = some (.ref C) ∧ Mk K C f ∧ Binds K fd ps []
theorem e_make {g : Nat} {k n : Nat} {x : Str} {C : Addr} {sp : Sp} (F : Kl X.prog X.w X.K X.mg X.base k x C sp) (hr : Room n X.A) (hk : k + 1 ≤ n)
    (q : wA X (e :: es) σ H fun vs H1 => ∀ x dx, H1 x = none → H1 dx = none → dx ≠ x → sp (.ref x :: vs) (upd (upd H1 dx (.own x)) x (.ins C dx [])) (fun v H2 => v = .non ∧ Q (.ref x) H2) E0)
    (I : In X N G sc := by assumption) (hG : At G g x := by repeat (first | with_reducible apply At.z | with_reducible apply At.s)) (he : starEach (e :: es) X.env = (false, eval e X.env) :: starEach es X.env := by rfl) (hpl : (backTo pos (starEach es X.env)).any (·.1) = false := by rfl) : wE X (.Call (.Name x p0) (e :: es) [] pos) σ H Q := by
  obtain ⟨f, fd, ps, F0, hm, M, hb⟩ := F.ex
  refine e_of (pe_make M F0 (hr.mono hk) (I.g hG) hm hb .nil pass0 pa (I.gd hG) he hpl) ?_
  show wA X (e :: es) σ H fun vs H1 => ∀ x dx, H1 x = none → H1 dx = none → dx ≠ x → sp (.ref x :: (vs ++ [])) (upd (upd H1 dx (.own x)) x (.ins C dx [])) (fun v H2 => v = .non ∧ Q (.ref x) H2) E0
  simp only [List.append_nil]
  exact q
end
/-! ### values -/
section
variable {X : Cx} {H : Hp} {Q : VK} {i j : Int} {σ : L2.St} {D : Ends}
theorem o_add (q : Q (.int (i + j)) H) : wB X .Add (.int i) (.int j) H Q := b_of op_add ⟨i, j, rfl, rfl, q⟩
theorem o_sub (q : Q (.int (i - j)) H) : wB X .Sub (.int i) (.int j) H Q := b_of op_sub ⟨i, j, rfl, rfl, q⟩
theorem o_mul (c : CMul i j) (q : Q (.int (i * j)) H) : wB X .Mult (.int i) (.int j) H Q := b_of op_mul ⟨i, j, rfl, rfl, c, q⟩
theorem o_mod (c : 0 < j) (q : Q (.int (i % j)) H) : wB X .Mod (.int i) (.int j) H Q := b_of op_mod ⟨i, j, rfl, rfl, c, q⟩
theorem o_fdiv (c : 0 < j ∧ j < 1073741824) (q : Q (.int (i / j)) H) : wB X .FloorDiv (.int i) (.int j) H Q := b_of op_fdiv ⟨i, j, rfl, rfl, c, q⟩
theorem o_pow (c : CPow i j) (q : Q (.int (i ^ j.toNat)) H) : wB X .Pow (.int i) (.int j) H Q := b_of op_pow ⟨i, j, rfl, rfl, c, q⟩
theorem o_lt (q : Q (.bl (decide (i < j))) H) : wK X .Lt (.int i) (.int j) H Q := k_of op_lt ⟨i, j, rfl, rfl, q⟩
theorem o_le (q : Q (.bl (decide (i ≤ j))) H) : wK X .LtE (.int i) (.int j) H Q := k_of op_le ⟨i, j, rfl, rfl, q⟩
theorem o_gt (q : Q (.bl (decide (j < i))) H) : wK X .Gt (.int i) (.int j) H Q := k_of op_gt ⟨i, j, rfl, rfl, q⟩
theorem o_ge (q : Q (.bl (decide (j ≤ i))) H) : wK X .GtE (.int i) (.int j) H Q := k_of op_ge ⟨i, j, rfl, rfl, q⟩
theorem dint {i j : Int} : decide (V.int i = V.int j) = decide (i = j) := by simp
theorem dbl {i j : Bool} : decide (V.bl i = V.bl j) = decide (i = j) := by simp
theorem dstr {i j : Str} : decide (V.str i = V.str j) = decide (i = j) := by simp
theorem o_eqI (q : Q (.bl (decide (i = j))) H) : wK X .Eq (.int i) (.int j) H Q := k_of op_eq ⟨rfl, dint ▸ q⟩
theorem o_neI (q : Q (.bl (!decide (i = j))) H) : wK X .NotEq (.int i) (.int j) H Q := k_of op_ne ⟨rfl, dint ▸ q⟩
theorem o_eqB {i j : Bool} (q : Q (.bl (decide (i = j))) H) : wK X .Eq (.bl i) (.bl j) H Q := k_of op_eq ⟨rfl, dbl ▸ q⟩
theorem o_neB {i j : Bool} (q : Q (.bl (!decide (i = j))) H) : wK X .NotEq (.bl i) (.bl j) H Q := k_of op_ne ⟨rfl, dbl ▸ q⟩
theorem o_eqS {i j : Str} (q : Q (.bl (decide (i = j))) H) : wK X .Eq (.str i) (.str j) H Q := k_of op_eq ⟨rfl, dstr ▸ q⟩
theorem o_neS {i j : Str} (q : Q (.bl (!decide (i = j))) H) : wK X .NotEq (.str i) (.str j) H Q := k_of op_ne ⟨rfl, dstr ▸ q⟩
/-- a pair of ints beside a text -/
theorem o_eqPS {n : Nat} {a : Addr} {u v : Int} {z : Str} (hr : Room n X.A) (h : H a = some (.tup [.int u, .int v])) (hz : SeqAt.shaped (.str z) = true) (q : Q (.bl false) H) : wK X .Eq (.ref a) (.str z) H Q :=
  k_of (op_eqD hr.units) ⟨.tuple [.int u, .int v], .str z, .tup (SqT.of h) (.cons (.int u) (.cons (.int v) .nil)), .str z, rfl, hz, q⟩
theorem ix_l {a : Addr} {xs : List V} {v : V} (h : SqL X.K H a xs) (e : atI xs i = some v) (q : Q v H) : wIx X (.ref a) (.int i) H Q := ix_of ix_list ⟨a, xs, i, v, rfl, rfl, h, e, q⟩
theorem ix_t {a : Addr} {xs : List V} {v : V} (h : SqT X.K H a xs) (e : atI xs i = some v) (q : Q v H) : wIx X (.ref a) (.int i) H Q := ix_of ix_tup ⟨a, xs, i, v, rfl, rfl, h, e, q⟩
theorem set_l {a : Addr} {xs : List V} {v : V} {k : Nat} {QH : Hp → Prop} (h : H a = some (.lst xs)) (e : ixN xs.length i = some k) (q : QH (upd H a (.lst (xs.set k v)))) : wSet X (.ref a) (.int i) v H QH := set_of set_list ⟨a, xs, i, k, rfl, rfl, h, e, q⟩
theorem c_int (q : Q (.int i) H) : wC X (.type "int") [.int i] H Q := c_of call_int1 (.inl ⟨i, rfl, q⟩)
theorem c_abs (q : Q (.int (if i < 0 then -i else i)) H) : wC X (.builtin "abs") [.int i] H Q := c_of call_abs ⟨i, rfl, q⟩
theorem c_max (hc : X.calm = true) (q : Q (.int (if j > i then j else i)) H) : wC X (.builtin "max") [.int i, .int j] H Q := c_of (call_max2 hc) ⟨i, j, rfl, q⟩
theorem c_min (hc : X.calm = true) (q : Q (.int (if j < i then j else i)) H) : wC X (.builtin "min") [.int i, .int j] H Q := c_of (call_min2 hc) ⟨i, j, rfl, q⟩
theorem c_lenL {a : Addr} {xs : List V} (h : SqL X.K H a xs) (q : Q (.int xs.length) H) : wC X (.builtin "len") [.ref a] H Q := c_of call_len_seq ⟨a, xs, rfl, .inl h, q⟩
theorem c_lenT {a : Addr} {xs : List V} (h : SqT X.K H a xs) (q : Q (.int xs.length) H) : wC X (.builtin "len") [.ref a] H Q := c_of call_len_seq ⟨a, xs, rfl, .inr h, q⟩
theorem c_isi {x c : V} {t u : Value} {b : Bool} (ty : TyX X.K H x t) (k : ClsV c u) (e : PySem.W.kitOne X.K t u = some b) (q : Q (.bl b) H) : wC X (.builtin "isinstance") [x, c] H Q := c_of call_isi ⟨x, c, t, u, b, rfl, k, ty, e, q⟩
theorem c_isiT {x : V} {tp : Addr} {cs : List V} {t : Value} {us : List Value} {b : Bool} (ty : TyX X.K H x t) (h : H tp = some (.tup cs)) (k : Paired ClsV cs us) (e : PySem.W.kitAny X.K t us = some b) (q : Q (.bl b) H) : wC X (.builtin "isinstance") [x, .ref tp] H Q :=
  c_of call_isiT ⟨x, tp, cs, t, us, b, rfl, h, k, ty, e, q⟩
theorem ty_non : TyX X.K H .non (.type "NoneType") := .base .non
theorem ty_bl {b : Bool} : TyX X.K H (.bl b) (.type "bool") := .base (.bl b)
theorem ty_int : TyX X.K H (.int i) (.type "int") := .base (.int i)
theorem ty_str {z : Str} : TyX X.K H (.str z) (.type "str") := .base (.str z)
theorem ty_tup {a : Addr} {xs : List V} (h : H a = some (.tup xs)) : TyX X.K H (.ref a) (.type "tuple") := .base (.tup h)
theorem ty_lst {a : Addr} {xs : List V} (h : H a = some (.lst xs)) : TyX X.K H (.ref a) (.type "list") := .base (.lst h)
theorem two_ty {a b : String} : Paired ClsV [.ty a, .ty b] [.type a, .type b] := .cons (.ty a) (.cons (.ty b) .nil)
theorem kit2 {K : PySem.W.Frag} {t a b : String} {x y : Bool} (h1 : kitB t a = some x) (h2 : kitB t b = some y) : PySem.W.kitAny K (.type t) [.type a, .type b] = some (x || y) := by
  cases x with
  | true => exact kitAny_cons (kit_ty h1) (fun z => nomatch z) fun _ => rfl
  | false =>
    refine kitAny_cons (kit_ty h1) (fun _ => ?_) (fun z => nomatch z)
    cases y with
    | true => exact kitAny_cons (kit_ty h2) (fun z => nomatch z) fun _ => rfl
    | false => exact kitAny_cons (kit_ty h2) (fun _ => rfl) (fun z => nomatch z)
theorem kb_int_tuple : kitB "int" "tuple" = some false := by decide +kernel
theorem kb_int_list : kitB "int" "list" = some false := by decide +kernel
theorem kb_int_int : kitB "int" "int" = some true := by decide +kernel
theorem kb_int_bool : kitB "int" "bool" = some false := by decide +kernel
theorem kb_int_str : kitB "int" "str" = some false := by decide +kernel
theorem kb_tuple_tuple : kitB "tuple" "tuple" = some true := by decide +kernel
theorem kb_tuple_list : kitB "tuple" "list" = some false := by decide +kernel
theorem kb_tuple_str : kitB "tuple" "str" = some false := by decide +kernel
theorem kb_tuple_int : kitB "tuple" "int" = some false := by decide +kernel
theorem kb_tuple_bool : kitB "tuple" "bool" = some false := by decide +kernel
theorem kb_list_tuple : kitB "list" "tuple" = some false := by decide +kernel
theorem kb_list_list : kitB "list" "list" = some true := by decide +kernel
theorem kb_list_str : kitB "list" "str" = some false := by decide +kernel
theorem kb_list_int : kitB "list" "int" = some false := by decide +kernel
theorem kb_list_bool : kitB "list" "bool" = some false := by decide +kernel
theorem kb_bool_bool : kitB "bool" "bool" = some true := by decide +kernel
theorem kb_bool_int : kitB "bool" "int" = some true := by decide +kernel
theorem kb_bool_str : kitB "bool" "str" = some false := by decide +kernel
theorem kb_bool_tuple : kitB "bool" "tuple" = some false := by decide +kernel
theorem kb_bool_list : kitB "bool" "list" = some false := by decide +kernel
theorem kb_str_str : kitB "str" "str" = some true := by decide +kernel
theorem kb_str_bool : kitB "str" "bool" = some false := by decide +kernel
theorem kb_str_int : kitB "str" "int" = some false := by decide +kernel
theorem kb_str_tuple : kitB "str" "tuple" = some false := by decide +kernel
theorem kb_str_list : kitB "str" "list" = some false := by decide +kernel
theorem kb_non_bool : kitB "NoneType" "bool" = some false := by decide +kernel
theorem kb_non_int : kitB "NoneType" "int" = some false := by decide +kernel
theorem kb_non_str : kitB "NoneType" "str" = some false := by decide +kernel
theorem kb_non_tuple : kitB "NoneType" "tuple" = some false := by decide +kernel
theorem kb_non_list : kitB "NoneType" "list" = some false := by decide +kernel
theorem b_int : bootBuiltins "int" = some (.type "int") := by decide +kernel
theorem b_bool : bootBuiltins "bool" = some (.type "bool") := by decide +kernel
theorem b_str : bootBuiltins "str" = some (.type "str") := by decide +kernel
theorem b_tuple : bootBuiltins "tuple" = some (.type "tuple") := by decide +kernel
theorem b_list : bootBuiltins "list" = some (.type "list") := by decide +kernel
theorem b_isi : bootBuiltins "isinstance" = some (.builtin "isinstance") := by decide +kernel
theorem b_len : bootBuiltins "len" = some (.builtin "len") := by decide +kernel
theorem b_abs : bootBuiltins "abs" = some (.builtin "abs") := by decide +kernel
theorem b_max : bootBuiltins "max" = some (.builtin "max") := by decide +kernel
theorem b_min : bootBuiltins "min" = some (.builtin "min") := by decide +kernel
/-! ### loops -/
theorem s_forR {nx : L2.St → Hp → Prop} {rt : VK} {bk ct : L2.St → Hp → Prop} {g : Nat} {N G : List Str} {sc : Scope} {x : Str} {i : Nat} {a : Expr} {body : List Stmt} {px p cp pos : Pos} (hm : X.mg "range" = none)
    (q : wE X a σ H fun v H1 => ∃ n : Nat, v = .int n ∧ n < 2 ^ 62 ∧ ∃ Pv : Nat → L2.St → Hp → Prop, Pv 0 σ H1 ∧ (∀ k σ H, k < n → Pv k σ H → wL X body ⟨Pv (k + 1), rt, nx, Pv (k + 1)⟩ (σ.set i (some (.int (k : Int)))) H) ∧ ∀ σ H, Pv n σ H → nx σ H)
    (I : In X N G sc := by assumption) (hc : X.calm = true := by rfl) (hA : At N i x := by repeat (first | with_reducible apply At.z | with_reducible apply At.s))
    (hG : At G g ("range" : Str) := by repeat (first | with_reducible apply At.z | with_reducible apply At.s)) (hs : starEach [a] X.env = [(false, eval a X.env)] := by rfl) (hs2 : ∀ z, foldedSetIterable (.Call (.Name "range" p) [a] [] cp) X.env z = pure z := by intro _; rfl)
    (hs1 : starEach (a :: []) X.env = (false, eval a X.env) :: starEach [] X.env := by rfl) :
    wS X (.For (.Name x px) (.Call (.Name "range" p) [a] [] cp) body [] pos) ⟨nx, rt, bk, ct⟩ σ H := by
  refine s_of (ps_for I.never hc (pi_range1 (I.g hG) hm (pa_cons pe pa_nil hs1) hs) (pg_name I.nd (I.hi hA) (I.loc hA) I.f) pl hs2) (e_mono q fun v H1 q1 => ?_)
  obtain ⟨n, rfl, hn, Pv, h0, hb, hd⟩ := q1
  refine ⟨(n : Int), rfl, by omega, by omega, ?_⟩
  rw [Int.toNat_natCast]
  refine for_range (n := n) Pv h0 (fun k σ H hk p => ?_) hd
  rw [Int.zero_add]
  exact hb k σ H hk p
theorem s_forL {nx : L2.St → Hp → Prop} {rt : VK} {bk ct : L2.St → Hp → Prop} {N G : List Str} {sc : Scope} {x : Str} {i : Nat} {a : Expr} {body : List Stmt} {px pos : Pos}
    (q : wE X a σ H fun v H1 => ∃ ad xs, v = .ref ad ∧ SqL X.K H1 ad xs ∧ ∃ Pv : Nat → L2.St → Hp → Prop, Pv 0 σ H1 ∧ (∀ k σ H, k ≤ xs.length → Pv k σ H → SqL X.K H ad xs) ∧ (∀ k y σ H, xs[k]? = some y → Pv k σ H → wL X body ⟨Pv (k + 1), rt, nx, Pv (k + 1)⟩ (σ.set i (some y)) H) ∧ ∀ σ H, Pv xs.length σ H → nx σ H)
    (I : In X N G sc := by assumption) (hc : X.calm = true := by rfl) (hA : At N i x := by repeat (first | with_reducible apply At.z | with_reducible apply At.s))
    (hs2 : ∀ z, foldedSetIterable a X.env z = pure z := by intro _; rfl) :
    wS X (.For (.Name x px) a body [] pos) ⟨nx, rt, bk, ct⟩ σ H := by
  refine s_of (ps_for I.never hc (pi_list pe) (pg_name I.nd (I.hi hA) (I.loc hA) I.f) pl hs2) (e_mono q fun v H1 q1 => ?_)
  obtain ⟨ad, xs, rfl, hl, Pv, h0, hk, hb, hd⟩ := q1
  exact ⟨ad, rfl, ⟨xs, hl⟩, for_list Pv h0 hk hb hd⟩
theorem s_forT {nx : L2.St → Hp → Prop} {rt : VK} {bk ct : L2.St → Hp → Prop} {N G : List Str} {sc : Scope} {x : Str} {i : Nat} {a : Expr} {body : List Stmt} {px pos : Pos}
    (q : wE X a σ H fun v H1 => ∃ ad xs, v = .ref ad ∧ SqT X.K H1 ad xs ∧ ∃ Pv : Nat → L2.St → Hp → Prop, Pv 0 σ H1 ∧ (∀ k σ H, k ≤ xs.length → Pv k σ H → SqT X.K H ad xs) ∧ (∀ k y σ H, xs[k]? = some y → Pv k σ H → wL X body ⟨Pv (k + 1), rt, nx, Pv (k + 1)⟩ (σ.set i (some y)) H) ∧ ∀ σ H, Pv xs.length σ H → nx σ H)
    (I : In X N G sc := by assumption) (hc : X.calm = true := by rfl) (hA : At N i x := by repeat (first | with_reducible apply At.z | with_reducible apply At.s))
    (hs2 : ∀ z, foldedSetIterable a X.env z = pure z := by intro _; rfl) :
    wS X (.For (.Name x px) a body [] pos) ⟨nx, rt, bk, ct⟩ σ H := by
  refine s_of (ps_for I.never hc (pi_tup pe) (pg_name I.nd (I.hi hA) (I.loc hA) I.f) pl hs2) (e_mono q fun v H1 q1 => ?_)
  obtain ⟨ad, xs, rfl, hl, Pv, h0, hk, hb, hd⟩ := q1
  exact ⟨ad, rfl, ⟨xs, hl⟩, for_tup Pv h0 hk hb hd⟩
/-! ### an own operator of an own class -/
theorem op_own {op : Operator} {k n : Nat} {C f : Addr} {fd : FuncData} {pn : List Str} {sp : Sp} (F : FnOk X.prog X.w X.K X.mg X.base CX0 k f fd pn sp) (hs : PySem.W.findIn X.K (.ref C) (PySem.dunder op.info.2) = some (some (.ref f))) (hf : PySem.W.isFn X.K (.ref f) = true)
    (hc : PySem.W.selfFirst X.K C = true) (hb : Binds X.K fd pn []) (hr : Room n X.A) (hk : k ≤ n) :
    OpR X (binaryOp op) (fun x y H Q => ∃ a b dx dy fs gs, x = .ref a ∧ y = .ref b ∧ H a = some (.ins C dx fs) ∧ H b = some (.ins C dy gs) ∧ sp [x, y] H (fun v H' => (∃ p, v = .ref p) ∧ Q v H') E0) := by
  intro pins s σ H x y u v Q I rx ry h
  obtain ⟨a, b, dx, dy, fs, gs, rfl, rfl, ha, hb', hsp⟩ := h
  cases rx
  cases ry
  obtain ⟨mA, J, _⟩ := ins_get I.hok ha
  obtain ⟨mB, J', _⟩ := ins_get I.hok hb'
  obtain ⟨od, J, _⟩ := J.look
  obtain ⟨od', J', _⟩ := J'.look
  obtain ⟨m, hF⟩ := I.fr
  refine PySem.W.binop_K hF I.ok.mod.kin J J'.type hc hs hf ?_
  refine wpAny_mono (run_fn (E := E0) F (hr.mono hk) hb .nil pass0 I (show Vals [V.ref a, V.ref b] [Value.ref a, Value.ref b] from .cons rfl (.cons rfl .nil)) (by rw [List.append_nil]; exact hsp)) (fun w s' z => ?_) fun _ _ z => z
  obtain ⟨v', H', I', rz, ⟨p, rfl⟩, q⟩ := z
  cases rz
  exact ⟨.ref p, H', I', rfl, q⟩
structure Op2 (P : Program) (w : World) (K : PySem.W.Frag) (mg : Str → Option Value) (base : Heap) (k : Nat) (C : Addr) (op : Operator) (sp : Sp) : Prop where
  ex : ∃ (f : Addr) (fd : FuncData) (pn : List Str), FnOk P w K mg base CX0 k f fd pn sp ∧ PySem.W.findIn K (.ref C) (PySem.dunder op.info.2) = some (some (.ref f)) ∧ PySem.W.isFn K (.ref f) = true ∧ PySem.W.selfFirst K C = true ∧ Binds K fd pn []
theorem o_own {op : Operator} {k n : Nat} {C a b dx dy : Addr} {fs gs : List (Str × V)} {sp : Sp} (F : Op2 X.prog X.w X.K X.mg X.base k C op sp) (hr : Room n X.A) (hk : k ≤ n) (ha : H a = some (.ins C dx fs)) (hb : H b = some (.ins C dy gs))
    (q : sp [.ref a, .ref b] H (fun v H' => (∃ p, v = .ref p) ∧ Q v H') E0) : wB X op (.ref a) (.ref b) H Q := by
  obtain ⟨f, fd, pn, G, hs, hf, hc, hb'⟩ := F.ex
  exact b_of (op_own G hs hf hc hb' hr hk) ⟨a, b, dx, dy, fs, gs, rfl, rfl, ha, hb, q⟩
end
/-! ### heaps -/
/-- all but a stays -/
def But (a : Addr) (H H' : Hp) : Prop := ∀ b o, b ≠ a → H b = some o → H' b = some o
theorem But.refl {a : Addr} {H : Hp} : But a H H := fun _ _ _ h => h
theorem But.trans {a : Addr} {H H1 H2 : Hp} (x : But a H H1) (y : But a H1 H2) : But a H H2 := fun b o n h => y b o n (x b o n h)
theorem But.of {a : Addr} {H H1 : Hp} (x : Same H H1) : But a H H1 := fun b o _ h => x b o h
theorem But.upd {a : Addr} {H H1 : Hp} {o : HO} (x : But a H H1) : But a H (L2.upd H1 a o) := fun b u n h => by
  rw [upd_ne n]
  exact x b u n h
theorem But.tup {a p : Addr} {H H1 : Hp} {l xs : List V} (x : But a H H1) (ha : H a = some (.lst l)) (hp : H p = some (.tup xs)) : H1 p = some (.tup xs) := x p _ (ne_of hp ha (by intro z; cases z)) hp
theorem But.ins {a p C dx : Addr} {H H1 : Hp} {l : List V} {fs : List (Str × V)} (x : But a H H1) (ha : H a = some (.lst l)) (hp : H p = some (.ins C dx fs)) : H1 p = some (.ins C dx fs) := x p _ (ne_of hp ha (by intro z; cases z)) hp
theorem But.frz {a p : Addr} {H H1 : Hp} {l : List V} {o : Obj} {u : HO} (x : But a H H1) (ha : H a = some (.lst l)) (hp : H p = some (.frz o u)) : H1 p = some (.frz o u) := x p _ (ne_of hp ha (by intro z; cases z)) hp
section
variable {P : Program} {w : World} {K : PySem.W.Frag} {mg : Str → Option Value} {base : Heap}
/-- a def of the module where the top has left it -/
structure Top (K : PySem.W.Frag) (mg : Str → Option Value) (x : Str) (st : Stmt) : Prop where
  ex : ∃ (f : Addr) (fd : FuncData), Fun K x x st f fd ∧ mg x = some (.ref f)
theorem top_mk {h : Heap} {x : Str} {st : Stmt} {f : Addr} {oc : Value} {od an : Option Addr} {osl : Array (Option Value)} {kV doc pm cdv ct : Value} (X : K.In h) (G : h.Ns mainGlobals mg) (a : PySem.W.nsIn K mainGlobals x = some (some (.ref f)))
    (l : K.lookup f = some ⟨oc, od, .func (PySem.W.fnOf x x (defArgs st) (defBody st) (defScope st) .none kV doc pm an cdv ct), osl⟩) (c : PySem.W.codeIn K cdv x = true) (k : PySem.W.keepIn K (.ref f) = true) : Top K mg x st :=
  ⟨f, _, fun_mk l c k, PySem.W.mg_of X G a⟩
theorem fn_ok {x : Str} {st : Stmt} {N G ps : List Str} {k : Nat} {sp : Sp} (T : Top K mg x st) (S : FnScope N ps (defScope st)) (O : ScOk N G (defScope st)) (len : ∀ vs H Q E, sp vs H Q E → vs.length = ps.length)
    (hb : ∀ (kV doc pm : Value) (an : Option Addr) (cdv ct : Value) (us : List Value), us.length = ps.length → bindArgs (PySem.W.fnOf x x (defArgs st) (defBody st) (defScope st) .none kV doc pm an cdv ct) ⟨us, []⟩ = pure (ps.zip us))
    (hbody : ∀ (f : Addr) (cdv : Value) (A : Around) (outer : List Env) (s : Shared) (H : Hp) (vs : List V) (Q : VK) (E : XK), Room k (A.deeper (envOfC x (defScope st) s.heap.objs.size f cdv)) → sp vs H Q E → In (cxOf CX0 P w K mg base N x (defScope st) f cdv A outer s H E).nox N G (defScope st) →
      wL (cxOf CX0 P w K mg base N x (defScope st) f cdv A outer s H E).nox (defBody st) { nx := fun _ H' => Q .non H', rt := Q } (start N vs) H) : Fn P w K mg base (k + 1) x sp := by
  obtain ⟨f, fd, F, hm⟩ := T.ex
  exact ⟨f, fd, ps, F.ok S len (fun cdv A outer s H vs Q E hr h => ⟨_, pl, hbody f cdv A outer s H vs Q E hr h ⟨O, ⟨[], (List.append_nil _).symm⟩, S.nd, rfl, rfl, PassesOwn.never⟩⟩), hm, F.kp, F.binds hb⟩
/-- a method where the top has left it -/
structure TopM (K : PySem.W.Frag) (C : Addr) (x qual : Str) (st : Stmt) : Prop where
  ex : ∃ (f : Addr) (fd : FuncData), Fun K x qual st f fd ∧ PySem.W.findIn K (.ref C) x = some (some (.ref f)) ∧ PySem.W.isFn K (.ref f) = true
theorem topM_mk {x qual : Str} {st : Stmt} {C f : Addr} {oc : Value} {od an : Option Addr} {osl : Array (Option Value)} {kV doc pm cdv ct : Value} (a : PySem.W.findIn K (.ref C) x = some (some (.ref f))) (i : PySem.W.isFn K (.ref f) = true)
    (l : K.lookup f = some ⟨oc, od, .func (PySem.W.fnOf x qual (defArgs st) (defBody st) (defScope st) .none kV doc pm an cdv ct), osl⟩) (c : PySem.W.codeIn K cdv qual = true) (k : PySem.W.keepIn K (.ref f) = true) : TopM K C x qual st :=
  ⟨f, _, fun_mk l c k, a, i⟩
theorem me_ok {x qual : Str} {C : Addr} {st : Stmt} {N G ps : List Str} {k : Nat} {sp : Sp} (T : TopM K C x qual st) (S : FnScope N ps (defScope st)) (O : ScOk N G (defScope st)) (len : ∀ vs H Q E, sp vs H Q E → vs.length = ps.length)
    (hb : ∀ (kV doc pm : Value) (an : Option Addr) (cdv ct : Value) (us : List Value), us.length = ps.length → bindArgs (PySem.W.fnOf x qual (defArgs st) (defBody st) (defScope st) .none kV doc pm an cdv ct) ⟨us, []⟩ = pure (ps.zip us))
    (hbody : ∀ (f : Addr) (cdv : Value) (A : Around) (outer : List Env) (s : Shared) (H : Hp) (vs : List V) (Q : VK) (E : XK), Room k (A.deeper (envOfC qual (defScope st) s.heap.objs.size f cdv)) → sp vs H Q E → In (cxOf CX0 P w K mg base N qual (defScope st) f cdv A outer s H E).nox N G (defScope st) →
      wL (cxOf CX0 P w K mg base N qual (defScope st) f cdv A outer s H E).nox (defBody st) { nx := fun _ H' => Q .non H', rt := Q } (start N vs) H) :
    ∃ (f : Addr) (fd : FuncData), FnOk P w K mg base CX0 (k + 1) f fd ps sp ∧ Binds K fd ps [] ∧ PySem.W.findIn K (.ref C) x = some (some (.ref f)) ∧ PySem.W.isFn K (.ref f) = true ∧ PySem.W.keepIn K (.ref f) = true := by
  obtain ⟨f, fd, F, hf, hi⟩ := T.ex
  exact ⟨f, fd, F.ok S len (fun cdv A outer s H vs Q E hr h => ⟨_, pl, hbody f cdv A outer s H vs Q E hr h ⟨O, ⟨[], (List.append_nil _).symm⟩, S.nd, rfl, rfl, PassesOwn.never⟩⟩), F.binds hb, hf, hi, F.kp⟩
end
/-- a bool test that is decided by a fact -/
theorem ifT {c A B : Prop} [Decidable c] (hc : c) (h : A) : if decide c = true then A else B := by
  rw [decide_eq_true hc]
  exact iteT h
theorem ifF {c A B : Prop} [Decidable c] (hc : ¬ c) (h : B) : if decide c = true then A else B := by
  rw [decide_eq_false hc]
  exact iteF h
theorem if2 {c A B : Prop} [Decidable c] (h1 : c → A) (h2 : ¬ c → B) : if decide c = true then A else B := by
  by_cases h : c
  · exact ifT h (h1 h)
  · exact ifF h (h2 h)
theorem ite_t {c : Bool} {A B : Prop} (hc : c = true) (h : A) : if c = true then A else B := by
  rw [hc]
  exact iteT h
theorem ite_f {c : Bool} {A B : Prop} (hc : c = false) (h : B) : if c = true then A else B := by
  rw [hc]
  exact iteF h
section
variable {P : Program} {w : World} {K : PySem.W.Frag} {mg : Str → Option Value} {base : Heap}
theorem run_ok {x qual : Str} {st : Stmt} {N G ps : List Str} {k : Nat} {sp : Sp} {f : Addr} {fd : FuncData} (F : Fun K x qual st f fd) (S : FnScope N ps (defScope st)) (O : ScOk N G (defScope st)) (len : ∀ vs H Q E, sp vs H Q E → vs.length = ps.length)
    (hbody : ∀ (f : Addr) (cdv : Value) (A : Around) (outer : List Env) (s : Shared) (H : Hp) (vs : List V) (Q : VK) (E : XK), Room k (A.deeper (envOfC qual (defScope st) s.heap.objs.size f cdv)) → sp vs H Q E → In (cxOf CX0 P w K mg base N qual (defScope st) f cdv A outer s H E).nox N G (defScope st) →
      wL (cxOf CX0 P w K mg base N qual (defScope st) f cdv A outer s H E).nox (defBody st) { nx := fun _ H' => Q .non H', rt := Q } (start N vs) H) : FnOk P w K mg base CX0 (k + 1) f fd ps sp :=
  F.ok S len (fun cdv A outer s H vs Q E hr h => ⟨_, pl, hbody f cdv A outer s H vs Q E hr h ⟨O, ⟨[], (List.append_nil _).symm⟩, S.nd, rfl, rfl, PassesOwn.never⟩⟩)
end
end Wk

/-! My own layer, errors: an own class of errors with fields, raised, caught, asked. -/
namespace Wk
open PySem PySem.Spec PyProof.Rows L2
section
variable {X : Cx} {N G : List Str} {sc : Scope} {e o : Expr} {es : List Expr} {σ : L2.St} {H : Hp} {Q : VK} {pos p0 np : Pos}
theorem o_isN {x : V} (q : Q (.bl (decide (x = .non))) H) : wK X .Is x .non H Q := k_of op_isN ⟨rfl, q⟩
theorem o_nisB {a b : Bool} (q : Q (.bl (!decide (a = b))) H) : wK X .IsNot (.bl a) (.bl b) H Q := k_of op_isnot_bl ⟨a, b, rfl, rfl, q⟩
/-- a def of the module that may raise -/
structure FnX (P : Program) (w : World) (K : PySem.W.Frag) (mg : Str → Option Value) (base : Heap) (k : Nat) (x : Str) (sp : Sp) : Prop where
  ex : ∃ (f : Addr) (fd : FuncData) (ps : List Str), FnOk P w K mg base (L2.CX P w) k f fd ps sp ∧ mg x = some (.ref f) ∧ PySem.W.keepIn K (.ref f) = true ∧ Binds K fd ps []
theorem e_callX {g k n : Nat} {x : Str} {sp : Sp} {W : WX} (F : FnX X.prog X.w X.K X.mg X.base k x sp) (tk : Takes X W) (hr : Room n X.A) (hk : k ≤ n) (q : wA X (e :: es) σ H fun vs H1 => sp vs H1 Q (fun cls d H' => W cls d σ H'))
    (I : In X N G sc := by assumption) (hG : At G g x := by repeat (first | with_reducible apply At.z | with_reducible apply At.s)) (he : starEach (e :: es) X.env = (false, eval e X.env) :: starEach es X.env := by rfl) (hpl : (backTo pos (starEach es X.env)).any (·.1) = false := by rfl) :
    wE X (.Call (.Name x p0) (e :: es) [] pos) σ H Q := by
  obtain ⟨f, fd, ps, F0, hm, hkp, hb⟩ := F.ex
  refine e_of (pe_callSD (E := fun σ cls d H' => W cls d σ H') F0 (hr.mono hk) (I.g hG) hm hkp hb .nil (fun σ => passAt tk σ) pa (I.gd hG) he hpl) ?_
  show wA X (e :: es) σ H fun vs H1 => sp (vs ++ []) H1 Q (fun cls d H' => W cls d σ H')
  simp only [List.append_nil]
  exact q
/-- an own class of errors whose __init__ stores its one argument in the field f -/
def sp1 (C : Addr) (f : Str) : Sp := fun vs H Q _ => ∃ (a : Addr) (v : V), vs = [.ref a, v] ∧ H a = some (exo a C none) ∧ ∀ dx, H dx = none → dx ≠ a → Q .non (upd (upd H dx (exd dx [(f, v)])) a (exo a C (some dx)))
structure Er (P : Program) (w : World) (K : PySem.W.Frag) (mg : Str → Option Value) (base : Heap) (x : Str) (C : Addr) (f : Str) : Prop where
  o : OexC K C
  mgC : mg x = some (.ref C)
  ex : ∃ (fI : Addr) (fd : FuncData) (ps : List Str), FnOk P w K mg base CX0 1 fI fd ps (sp1 C f) ∧ PySem.W.findIn K (.ref C) "__init__" = some (some (.ref fI)) ∧ PySem.W.typeIn K (.ref fI) = some (.type "function") ∧ Binds K fd ps []
/-- self.f = e of an error that is being made -/
theorem s_ost {nx : L2.St → Hp → Prop} {rt : VK} {bk ct : L2.St → Hp → Prop} {f : Str} {value : Expr} {pos' : Pos} (q : wE X value σ H fun y H1 => wE X o σ H1 fun x H2 => ∃ a C : Addr, x = .ref a ∧ OexC X.K C ∧ PySem.W.findIn X.K (.ref C) f = some none ∧ H2 a = some (exo a C none) ∧ ∀ dx, H2 dx = none → dx ≠ a → nx σ (upd (upd H2 dx (exd dx [(f, y)])) a (exo a C (some dx))))
    (hs : swapsWith value (some (.Attribute o f pos')) pos.line X.env = pure false := by rfl) : wS X (.Assign [.Attribute o f pos'] value pos) ⟨nx, rt, bk, ct⟩ σ H :=
  s_of (ps_ost pe pe hs) (e_mono q fun y H1 z => e_mono z fun x H2 ⟨a, C, h1, h2, h3, h4, h5⟩ => ⟨a, C, h1, h2, h3, .inl ⟨h4, h5⟩⟩)
/-- raise C(e) -/
theorem s_raise1 {nx : L2.St → Hp → Prop} {rt : VK} {bk ct : L2.St → Hp → Prop} {g n : Nat} {x f : Str} {C : Addr} {W : WX} {pos' : Pos} (R : Er X.prog X.w X.K X.mg X.base x C f) (tk : Takes X W) (hr : Room n X.A) (hn : 2 ≤ n)
    (q : wE X e σ H fun v H1 => ∀ d H', Same H1 H' → H1 d = none → H' d = some (.xd [(f, v)]) → W (.ref C) (some d) σ H')
    (I : In X N G sc := by assumption) (hG : At G g x := by repeat (first | with_reducible apply At.z | with_reducible apply At.s)) (hc : X.calm = true := by rfl)
    (he : starEach (e :: []) X.env = (false, eval e X.env) :: starEach [] X.env := by rfl) (hpl : (backTo pos (starEach [] X.env)).any (·.1) = false := by rfl) :
    wS X (.Raise (some (.Call (.Name x p0) [e] [] pos)) none pos') ⟨nx, rt, bk, ct⟩ σ H := by
  obtain ⟨fI, fd, ps, F0, hi, ht, hb⟩ := R.ex
  refine s_of (ps_raise hc tk (pmk_oex R.o hi ht F0 (hr.mono hn) hb .nil pass0 (I.g hG) R.mgC pa (I.gd hG) he hpl)) ?_
  refine a_cons (e_mono q fun v H1 z => a_nil ⟨by show 1 ≤ 1000; decide, fun a na => ?_⟩) he
  refine ⟨a, v, rfl, upd_same, fun dx nd ne => ⟨rfl, dx, [(f, v)], upd_same, ?_, ?_, ?_⟩⟩
  · rw [upd_ne ne, upd_same]
  · rw [upd_ne ne] at nd
    exact nd
  · refine z dx _ (fun b u hb => ?_) (by rw [upd_ne ne] at nd; exact nd) upd_same
    have h1 : b ≠ a := ne_of_none hb na
    have h2 : b ≠ dx := ne_of_none hb (by rw [upd_ne ne] at nd; exact nd)
    rw [upd_ne h2, del_ne h1, upd_ne h1, upd_ne h2, upd_ne h1]
    exact hb
/-- the suite of an except clause -/
def tsS (X : Cx) (N G : List Str) (sc : Scope) (sts : List Stmt) : Addr → Value → Option Addr → TS := fun a cls d D σ H => ∀ (oe : Obj) (pn : List (Addr × Obj)), Zc cls d oe → (∃ vs, oe.data = .fields vs) → In (X.suite a ((a, oe) :: pn)) N G sc → wL (X.suite a ((a, oe) :: pn)) sts D σ H
theorem In.tr (I : In X N G sc) {pn : List (Addr × Obj)} {xe : Value → Shared → Prop} (h : PassesOwn (model X.prog X.w) X.A X.env xe) : In (X.tr pn xe) N G sc := ⟨I.ok, I.n, I.nd, I.sc, I.fn, h⟩
theorem In.suite (I : In X N G sc) {a : Addr} {pn : List (Addr × Obj)} : In (X.suite a pn) N G sc := ⟨I.ok, I.n, I.nd, I.sc, I.fn, PassesOwn.never⟩
/-- try: body, except x as n: suite -/
theorem s_tryAs {nx : L2.St → Hp → Prop} {rt : VK} {bk ct : L2.St → Hp → Prop} {i g : Nat} {x n : Str} {c : Value} {body suite : List Stmt} {b0 : Stmt} {pos' : Pos} {Wout : WX} (hm : X.mg x = some c) (tk : Takes X Wout)
    (q : ∀ (pn : List (Addr × Obj)) (xe : Value → Shared → Prop), Takes (X.tr pn xe) (wAs X.K c i (tsS X N G sc (b0 :: suite)) Wout ⟨nx, rt, bk, ct⟩) → In (X.tr pn xe) N G sc → wL (X.tr pn xe) body ⟨nx, rt, bk, ct⟩ σ H)
    (I : In X N G sc := by assumption) (hA : At N i n := by repeat (first | with_reducible apply At.z | with_reducible apply At.s)) (hG : At G g x := by repeat (first | with_reducible apply At.z | with_reducible apply At.s))
    (hln : X.env.kindOf n = some .local := by rfl) (hs : X.stack = X.env :: X.outer := by rfl) (hf : X.env.frame = some X.env.locals := by rfl) :
    wS X (.Try body [.ExceptHandler (some (.Name x np)) (some n) (b0 :: suite) pos'] [] [] pos) ⟨nx, rt, bk, ct⟩ σ H :=
  s_of (ps_try_as (tb := fun W D σ H => ∀ (pn : List (Addr × Obj)) (xe : Value → Shared → Prop), Takes (X.tr pn xe) W → In (X.tr pn xe) N G sc → wL (X.tr pn xe) body D σ H) hs hf I.nd (I.hi hA) hln ⟨I.g hG, I.gd hG, .inl hm⟩ tk
    (fun W pn xe tk' po => ⟨fun pins s σ H D Iv h => pl.run pins s σ H D Iv (h pn xe tk' (I.tr po))⟩)
    (fun a oe cls d pn hz hd => ⟨fun pins s σ H D Iv h => pl.run pins s σ H D Iv (h oe pn hz hd I.suite)⟩)) q
/-- what the class D must say, so that isinstance asks its errors rightly -/
structure EcC (K : PySem.W.Frag) (D : Addr) : Prop where
  cl : (PySem.W.clsIn K D).isSome = true
  hg : PySem.W.findIn K (.ref D) "__getattribute__" = some (some (.builtin "BaseException.__getattribute__"))
  hk : PySem.W.findIn K (.ref D) "__getattr__" = some none
  hs : PySem.W.subIn K (.ref D) (.type "BaseException") = some true
  ha : PySem.W.findIn K (.ref D) "__class__" = some (some (.builtin "object.__class__"))
  hn : PySem.W.specialIn K (.builtin "object.__class__") "__get__" = some (some (.builtin "getset_descriptor.__get__"))
  ht : PySem.W.takesIn K (.builtin "object.__class__") = some true
  hm : PySem.W.mroIn K D (.type "object") = some true
/-- the caught error at a stands as an instance -/
theorem inst_of {pins : List (Addr × Obj)} {s : Shared} {a D : Addr} {d : Option Addr} {oe : Obj} {pn : List (Addr × Obj)} {fs : List (Str × V)} (I : Inv (X.suite a ((a, oe) :: pn)) pins σ H s) (hz : Zc (.ref D) d oe) (hf : ∃ vs, oe.data = .fields vs)
    (hd : ∀ dd, d = some dd → H dd = some (.xd fs)) : ∃ od, PySem.W.InstAt s.heap a oe D od := by
  obtain ⟨hget, _⟩ := I.pin (a, oe) (List.mem_append.mpr (.inl List.mem_cons_self))
  obtain ⟨vs, hv⟩ := hf
  have nc : PySem.W.notCls oe := by unfold PySem.W.notCls; rw [hv] <;> trivial
  cases d with
  | none => exact ⟨none, hget, hz.1, nc, by rw [hz.2]; trivial⟩
  | some dd =>
    obtain ⟨mA, hns, _⟩ := (show ObjOk X.prog X.w H s.heap dd (.xd fs) from I.hok dd _ (hd dd rfl))
    obtain ⟨od, ho, _⟩ := lookIn_ns hns
    exact ⟨some od, hget, hz.1, nc, by rw [hz.2]; exact ho⟩
theorem c_isE {a D : Addr} {d : Option Addr} {oe : Obj} {pn : List (Addr × Obj)} {fs : List (Str × V)} {c : V} {cv : Value} {b : Bool} (C : EcC X.K D) (hz : Zc (.ref D) d oe) (hf : ∃ vs, oe.data = .fields vs) (hd : ∀ dd, d = some dd → H dd = some (.xd fs))
    (k : ClsV c cv) (e : PySem.W.kitOne X.K (.ref D) cv = some b) (q : Q (.bl b) H) : wC (X.suite a ((a, oe) :: pn)) (.builtin "isinstance") [.ref a, c] H Q := by
  unfold wC
  intro pins s σ us I r
  obtain ⟨u1, u2, rfl, r1, r2⟩ := vals2 r
  cases (show u1 = Value.ref a from r1)
  have ec := k.eq r2
  subst ec
  obtain ⟨od, J⟩ := inst_of I hz hf hd
  exact PySem.W.kia_one (PySem.W.kitx_exc (od := od) C.cl C.hg C.hk C.hs C.ha C.hn C.ht C.hm) I.kIn J e (fun z => nomatch z) fun tk => ⟨.bl b, H, I.tok tk, rfl, q⟩
theorem c_isET {a D tp : Addr} {d : Option Addr} {oe : Obj} {pn : List (Addr × Obj)} {fs : List (Str × V)} {cs : List V} {us' : List Value} {b : Bool} (C : EcC X.K D) (hz : Zc (.ref D) d oe) (hf : ∃ vs, oe.data = .fields vs) (hd : ∀ dd, d = some dd → H dd = some (.xd fs))
    (hT : H tp = some (.tup cs)) (k : Paired ClsV cs us') (e : PySem.W.kitAny X.K (.ref D) us' = some b) (q : Q (.bl b) H) : wC (X.suite a ((a, oe) :: pn)) (.builtin "isinstance") [.ref a, .ref tp] H Q := by
  unfold wC
  intro pins s σ us I r
  obtain ⟨u1, u2, rfl, r1, r2⟩ := vals2 r
  cases (show u1 = Value.ref a from r1)
  cases (show u2 = Value.ref tp from r2)
  obtain ⟨od, J⟩ := inst_of I hz hf hd
  obtain ⟨_, its, rv, o, h1, h2, n, h3⟩ := (show ObjOk X.prog X.w H s.heap tp (.tup cs) from I.hok tp _ hT)
  have e3 := ClsV.all k rv
  subst e3
  obtain ⟨oc, odd, dt, sl⟩ := o
  simp only at h2 h3
  subst h2 h3
  exact PySem.W.kia_tup (PySem.W.kitx_exc (od := od) C.cl C.hg C.hk C.hs C.ha C.hn C.ht C.hm) I.kIn J h1 e (fun z => nomatch z) fun tk => ⟨.bl b, H, I.tok tk, rfl, q⟩
/-- e.f of the caught error -/
theorem e_xf {a C : Addr} {oe : Obj} {d : Option Addr} {pn : List (Addr × Obj)} {f : Str} (T : XfC X.K C) (hno : PySem.W.findIn X.K (.ref C) f = some none) (hz : Zc (.ref C) d oe) (hf : ∃ vs, oe.data = .fields vs)
    (q : wE (X.suite a ((a, oe) :: pn)) e σ H fun x H1 => x = .ref a ∧ ∃ (dd : Addr) (fs : List (Str × V)) (v : V), d = some dd ∧ H1 dd = some (.xd fs) ∧ fs.lookup f = some v ∧ Q v H1) (hb : attributeBase e f X.env (eval e X.env) = eval e X.env := by rfl) :
    wE (X.suite a ((a, oe) :: pn)) (.Attribute e f pos) σ H Q := e_of (pe_xf T hno hz hf pe hb) (e_mono q fun x H1 z => ⟨z.1, rfl, z.2⟩)
end
section
variable {P : Program} {w : World} {K : PySem.W.Frag} {mg : Str → Option Value} {base : Heap}
theorem fn_okX {x : Str} {st : Stmt} {N G ps : List Str} {k : Nat} {sp : Sp} (T : Top K mg x st) (S : FnScope N ps (defScope st)) (O : ScOk N G (defScope st)) (len : ∀ vs H Q E, sp vs H Q E → vs.length = ps.length)
    (hb : ∀ (kV doc pm : Value) (an : Option Addr) (cdv ct : Value) (us : List Value), us.length = ps.length → bindArgs (PySem.W.fnOf x x (defArgs st) (defBody st) (defScope st) .none kV doc pm an cdv ct) ⟨us, []⟩ = pure (ps.zip us))
    (hbody : ∀ (f : Addr) (cdv : Value) (A : Around) (outer : List Env) (s : Shared) (H : Hp) (vs : List V) (Q : VK) (E : XK), Room k (A.deeper (envOfC x (defScope st) s.heap.objs.size f cdv)) → sp vs H Q E → In (cxOf (L2.CX P w) P w K mg base N x (defScope st) f cdv A outer s H E) N G (defScope st) →
      Takes (cxOf (L2.CX P w) P w K mg base N x (defScope st) f cdv A outer s H E) (fun cls d _ H => E cls d H) →
      wL (cxOf (L2.CX P w) P w K mg base N x (defScope st) f cdv A outer s H E) (defBody st) { nx := fun _ H' => Q .non H', rt := Q } (start N vs) H) : FnX P w K mg base (k + 1) x sp := by
  obtain ⟨f, fd, F, hm⟩ := T.ex
  exact ⟨f, fd, ps, F.okX S len (fun cdv A outer s H vs Q E hr h => ⟨_, pl, hbody f cdv A outer s H vs Q E hr h ⟨O, ⟨[], (List.append_nil _).symm⟩, S.nd, rfl, rfl, passes_of rfl⟩ (takes_of rfl rfl rfl rfl)⟩), hm, F.kp, F.binds hb⟩
end
end Wk

/-! My own layer, errors whose context is None: raised where nothing is handled, so that defs may be called in the suite that catches them. -/
namespace Wk
open PySem PySem.Spec PyProof.Rows L2
section
variable {X : Cx} {N G : List Str} {sc : Scope} {e o : Expr} {es : List Expr} {σ : L2.St} {H : Hp} {Q : VK} {pos p0 np : Pos}
/-- C(e) of a class whose __init__ stores one field: the made error's fields are known -/
theorem pmkN {n : Nat} {x f : Str} {C : Addr} (R : Er X.prog X.w X.K X.mg X.base x C f) (hr : Room n X.A) (hn : 2 ≤ n) (hg : Gl X x) (hdb : (x == ("__debug__" : Str)) = false)
    (he : starEach (e :: []) X.env = (false, eval e X.env) :: starEach [] X.env) (hpl : (backTo pos (starEach [] X.env)).any (·.1) = false) :
    L2N.PMk X (.Call (.Name x p0) [e] [] pos) (fun σ H Q => wE X e σ H fun v H1 => ∀ d H', Same H1 H' → H1 d = none → H' d = some (.xd [(f, v)]) → Q (.ref C) (some d) H') := by
  intro pins s σ H Q I h
  obtain ⟨fI, fd, ps, F0, hi, ht, hb⟩ := R.ex
  obtain ⟨_, _, _, _, bm, _, _, _, _, _, _, _, _, _, _, hC, hbm⟩ := R.o.cls
  refine wpAny_Call_Name_kw (ld_glob I hg R.mgC ?_ hdb)
  refine PySem.W.callWith_K (h₀ := X.base) I.ok.mod.kin R.o.kC (thn ((pa_cons pe pa_nil he).run pos pins s σ H (fun vs H1 => ∃ v, vs = [v] ∧ ∀ d H', Same H1 H' → H1 d = none → H' d = some (.xd [(f, v)]) → Q (.ref C) (some d) H') I (e_mono h fun v H1 z => ⟨v, rfl, z⟩)) fun us s1 ⟨vs, H1, I1, r1, v, ev, q1⟩ => ⟨I1.kIn, ?_⟩) he hpl
  subst ev
  show wpAny _ _ (call (.ref C) us) _ _ _
  obtain ⟨hp, g, dr, tk, os⟩ := s1
  have hget0 : ((hp.push (PySem.W.kdv_tup us)).push (PySem.HandSPX.excO C hp.objs.size)).get? (hp.objs.size + 1) = some (PySem.HandSPX.excO C hp.objs.size) := by heap_get
  let a := hp.objs.size + 1
  have na : H1 a = none := I1.hok.fresh (Nat.le_succ _)
  let hp2 := (hp.push (PySem.W.kdv_tup us)).push (PySem.HandSPX.excO C hp.objs.size)
  have kk : ∀ b o, hp.get? b = some o → hp2.get? b = some o := fun b o z => Heap.get?_push_of_some _ (Heap.get?_push_of_some _ z)
  have hget : hp2.get? a = some (PySem.HandSPX.excO C hp.objs.size) := hget0
  have I2 : Inv X pins σ (upd H1 a (exo a C none)) ⟨hp2, g, dr, tk, os⟩ := I1.laid (t' := tk) (h' := hp2) kk (Nat.le_succ _) (exo_ok hget)
  have r2 : Vals (V.ref a :: [v]) (Value.ref a :: us) := .cons rfl r1
  have lu : us.length = 1 := r1.length.symm
  -- what __init__ is asked for
  have hq : sp1 C f [.ref a, v] (upd H1 a (exo a C none)) (fun w H2 => w = .non ∧ ∃ d, H2 a = some (exo a C (some d)) ∧ H2 d = some (exd d [(f, v)]) ∧ H1 d = none ∧ Q (.ref C) (some d) (upd (del H2 a) d (.xd [(f, v)]))) (fun _ _ _ => False) := by
    refine ⟨a, v, rfl, upd_same, fun dx nd ne => ⟨rfl, dx, upd_same, by rw [upd_ne ne, upd_same], by rw [upd_ne ne] at nd; exact nd, ?_⟩⟩
    rw [upd_ne ne] at nd
    refine q1 dx _ (fun b u hb => ?_) nd upd_same
    have h1 : b ≠ a := ne_of_none hb na
    have h2 : b ≠ dx := ne_of_none hb nd
    rw [upd_ne h2, del_ne h1, upd_ne h1, upd_ne h2, upd_ne h1]
    exact hb
  have lp : (Value.ref a :: us).length = ps.length := by
    have z1 := r2.length
    rw [F0.len _ _ _ _ hq] at z1
    exact z1.symm
  have bind : BindsTo ⟨hp2, g, dr, tk, os⟩ fd ⟨Value.ref a :: us, []⟩ (ps.zip (Value.ref a :: us)) := by
    have z1 := hb ⟨hp2, g, dr, tk, os⟩ (Value.ref a :: us) I2.kIn (by rw [List.append_nil]; exact lp)
    rwa [List.append_nil] at z1
  have room : Room 1 (X.A.under (.builtin "type.__call__" ⟨.ref C :: us, []⟩)) := (hr.mono hn).make C us []
  have go := F0.run _ X.stack _ _ ⟨Value.ref a :: us, []⟩ (Value.ref a :: us) [V.ref a, v] _ (fun _ _ _ => False) room (I2.env0.make C us []) bind r2 hq
  refine wpAny_call (PySem.HandSPX.call_own F.excBase_ValueError (fun Y => PySem.HandSPX.refsVE_contains Y bm hbm) (I1.kIn _ _ hC) (PySem.W.looks_findIn I1.kIn hi) (fun self => PySem.W.bind_fn I1.kIn self ht) (by rw [lu, sizeLine_eq]; decide) (codeAny_mono go fun r s' back => ?_))
  cases r with
  | error er => exact False.elim back
  | ok fl =>
    cases fl with
    | ret u =>
      obtain ⟨w, H2, o2, b2, un2, ok2, rw2, ew, d, ea, ed, nd1, q2⟩ := back
      subst ew
      obtain ⟨h2, g2, d2, t2, os'⟩ := s'
      obtain ⟨t0, Gh, J, kG, ge, hoe, nH⟩ := mk_end0 (d2 := d2) (t2 := t2) I1 (Nat.le_succ _) kk un2 ok2 o2 b2 ea ed nd1
      refine ⟨rw2, a, _, #[.ref t0, .none, .none, .none, .bool false, .none], ⟨Gh, g2, d2, t2, os'⟩, _, .ref C, some d, rfl, J, kG, ge, hoe, ⟨rfl, rfl, ?_⟩, rfl, rfl, nH, rfl, b2, raises_own R.o.exC R.o.tyC, q2⟩
      intro vs z
      cases z
      rfl
    | next => exact False.elim back
    | brk => exact False.elim back
    | cont => exact False.elim back

theorem e_dict (q : ∀ p H2, Same H H2 → H p = none → H2 p = some (.dK []) → Q (.ref p) H2) : wE X (.Dict [] [] pos) σ H Q :=
  e_of pe_dnewK fun p np => q p _ (fun b u eo => by rw [upd_ne (ne_of_none eo np)]; exact eo) np upd_same
theorem e_neg {a : Expr} (q : wE X a σ H fun x H1 => ∃ i, x = .int i ∧ Q (.int (-i)) H1) : wE X (.UnaryOp .USub a pos) σ H Q := e_of (pe_un un_neg pe) q
theorem o_cat {l b : Addr} {xs zs : List V} (h1 : H l = some (.lst xs)) (h2 : H b = some (.lst zs)) (hz : xs.length + zs.length ≤ sizeLine) (q : ∀ p H2, Same H H2 → H2 p = some (.lst (xs ++ zs)) → Q (.ref p) H2) : wB X .Add (.ref l) (.ref b) H Q :=
  b_of op_cat ⟨l, b, xs, zs, rfl, rfl, h1, h2, hz, fun p np => q p _ (fun c u eo => by rw [upd_ne (ne_of_none eo np)]; exact eo) upd_same⟩
theorem c_str {i : Int} (hl : i.natAbs.log2 < 1920) (q : Q (.str (toString i)) H) : wC X (.type "str") [.int i] H Q := c_of call_str_int ⟨i, rfl, hl, q⟩
theorem o_isB {a b : Bool} (q : Q (.bl (decide (a = b))) H) : wK X .Is (.bl a) (.bl b) H Q := k_of op_is_bl ⟨a, b, rfl, rfl, q⟩
/-- raise C(e), where nothing is handled -/
theorem s_raiseN {nx : L2.St → Hp → Prop} {rt : VK} {bk ct : L2.St → Hp → Prop} {g n : Nat} {x f : Str} {C : Addr} {W : WX} {pos' : Pos} (R : Er X.prog X.w X.K X.mg X.base x C f) (tk : L2N.Takes X W) (hr : Room n X.A) (hn : 2 ≤ n)
    (q : wE X e σ H fun v H1 => ∀ d H', Same H1 H' → H1 d = none → H' d = some (.xd [(f, v)]) → W (.ref C) (some d) σ H')
    (I : In X N G sc := by assumption) (hG : At G g x := by repeat (first | with_reducible apply At.z | with_reducible apply At.s)) (hc : X.calm = true := by rfl)
    (he : starEach (e :: []) X.env = (false, eval e X.env) :: starEach [] X.env := by rfl) (hpl : (backTo pos (starEach [] X.env)).any (·.1) = false := by rfl) :
    wS X (.Raise (some (.Call (.Name x p0) [e] [] pos)) none pos') ⟨nx, rt, bk, ct⟩ σ H :=
  s_of (L2N.ps_raise hc tk (pmkN R hr hn (I.g hG) (I.gd hG) he hpl)) q
/-- a def of the module that may raise so -/
structure FnN (P : Program) (w : World) (K : PySem.W.Frag) (mg : Str → Option Value) (base : Heap) (k : Nat) (x : Str) (sp : Sp) : Prop where
  ex : ∃ (f : Addr) (fd : FuncData) (ps : List Str), FnOk P w K mg base (L2N.CX P w) k f fd ps sp ∧ mg x = some (.ref f) ∧ PySem.W.keepIn K (.ref f) = true ∧ Binds K fd ps []
theorem e_callN {g k n : Nat} {x : Str} {sp : Sp} {W : WX} (F : FnN X.prog X.w X.K X.mg X.base k x sp) (tk : L2N.Takes X W) (hr : Room n X.A) (hk : k ≤ n) (q : wA X (e :: es) σ H fun vs H1 => sp vs H1 Q (fun cls d H' => W cls d σ H'))
    (I : In X N G sc := by assumption) (hG : At G g x := by repeat (first | with_reducible apply At.z | with_reducible apply At.s)) (he : starEach (e :: es) X.env = (false, eval e X.env) :: starEach es X.env := by rfl) (hpl : (backTo pos (starEach es X.env)).any (·.1) = false := by rfl) :
    wE X (.Call (.Name x p0) (e :: es) [] pos) σ H Q := by
  obtain ⟨f, fd, ps, F0, hm, hkp, hb⟩ := F.ex
  refine e_of (pe_callSD (E := fun σ cls d H' => W cls d σ H') F0 (hr.mono hk) (I.g hG) hm hkp hb .nil (fun σ => L2N.passAt tk σ) pa (I.gd hG) he hpl) ?_
  show wA X (e :: es) σ H fun vs H1 => sp (vs ++ []) H1 Q (fun cls d H' => W cls d σ H')
  simp only [List.append_nil]
  exact q
/-- the suite of an except clause that catches such an error -/
def tsN (X : Cx) (N G : List Str) (sc : Scope) (sts : List Stmt) : Addr → Value → Option Addr → TS := fun a cls d D σ H => ∀ (oe : Obj) (pn : List (Addr × Obj)), Zc cls d oe → (∃ vs, oe.data = .fields vs) → In (X.suite a ((a, oe) :: pn)) N G sc → L2H.HotC (X.suite a ((a, oe) :: pn)) → wL (X.suite a ((a, oe) :: pn)) sts D σ H
theorem s_tryN {nx : L2.St → Hp → Prop} {rt : VK} {bk ct : L2.St → Hp → Prop} {i g : Nat} {x n : Str} {c : Value} {body suite : List Stmt} {b0 : Stmt} {pos' : Pos} {Wout : WX} (hm : X.mg x = some c) (tk : L2N.Takes X Wout)
    (q : ∀ (pn : List (Addr × Obj)) (xe : Value → Shared → Prop), L2N.Takes (X.tr pn xe) (wAs X.K c i (tsN X N G sc (b0 :: suite)) Wout ⟨nx, rt, bk, ct⟩) → In (X.tr pn xe) N G sc → wL (X.tr pn xe) body ⟨nx, rt, bk, ct⟩ σ H)
    (I : In X N G sc := by assumption) (hA : At N i n := by repeat (first | with_reducible apply At.z | with_reducible apply At.s)) (hG : At G g x := by repeat (first | with_reducible apply At.z | with_reducible apply At.s))
    (hln : X.env.kindOf n = some .local := by rfl) (hs : X.stack = X.env :: X.outer := by rfl) (hf : X.env.frame = some X.env.locals := by rfl) :
    wS X (.Try body [.ExceptHandler (some (.Name x np)) (some n) (b0 :: suite) pos'] [] [] pos) ⟨nx, rt, bk, ct⟩ σ H :=
  s_of (L2N.ps_try_as (tb := fun W D σ H => ∀ (pn : List (Addr × Obj)) (xe : Value → Shared → Prop), L2N.Takes (X.tr pn xe) W → In (X.tr pn xe) N G sc → wL (X.tr pn xe) body D σ H) hs hf I.nd (I.hi hA) hln ⟨I.g hG, I.gd hG, .inl hm⟩ tk
    (fun W pn xe tk' po => ⟨fun pins s σ H D Iv h => pl.run pins s σ H D Iv (h pn xe tk' (I.tr po))⟩)
    (fun a oe cls d pn hz hd => ⟨fun pins s σ H D Iv h => pl.run pins s σ H D Iv (h oe pn hz.zc hd I.suite (by
      obtain ⟨vs, hv⟩ := hd
      exact ⟨(a, oe), ⟨rfl, vs, hv, hz.2.2 vs hv⟩, List.mem_cons_self⟩))⟩)) q
theorem takesN0 : L2N.Takes X (fun _ _ _ _ => False) := fun _ _ x => by
  obtain ⟨_, _, _, _, _, _, _, _, _, _, _, _, _, _, _, _, z⟩ := x
  exact z.elim
/-- a def that is called where an error is handled -/
structure FnHt (P : Program) (w : World) (K : PySem.W.Frag) (mg : Str → Option Value) (base : Heap) (k : Nat) (x : Str) (sp : Sp) : Prop where
  ex : ∃ (f : Addr) (fd : FuncData) (ps : List Str), L2H.FnH P w K mg base CX0 k f fd ps sp ∧ mg x = some (.ref f) ∧ PySem.W.keepIn K (.ref f) = true ∧ Binds K fd ps []
theorem e_callH {g k n : Nat} {x : Str} {sp : Sp} (F : FnHt X.prog X.w X.K X.mg X.base k x sp) (hr : L2H.RoomH n X.A) (hk : k ≤ n) (hh : L2H.HotC X) (q : wA X (e :: es) σ H fun vs H1 => sp vs H1 Q E0)
    (I : In X N G sc := by assumption) (hG : At G g x := by repeat (first | with_reducible apply At.z | with_reducible apply At.s)) (he : starEach (e :: es) X.env = (false, eval e X.env) :: starEach es X.env := by rfl) (hpl : (backTo pos (starEach es X.env)).any (·.1) = false := by rfl) :
    wE X (.Call (.Name x p0) (e :: es) [] pos) σ H Q := by
  obtain ⟨f, fd, ps, F0, hm, hkp, hb⟩ := F.ex
  exact e_of (L2H.pe_callH (E := fun _ => E0) F0 (hr.mono hk) hh (I.g hG) hm hkp hb (fun σ pins H s e s' I z => z.elim) pa (I.gd hG) he hpl) q
end
section
variable {P : Program} {w : World} {K : PySem.W.Frag} {mg : Str → Option Value} {base : Heap}
theorem fn_okN {x : Str} {st : Stmt} {N G ps : List Str} {k : Nat} {sp : Sp} (T : Top K mg x st) (S : FnScope N ps (defScope st)) (O : ScOk N G (defScope st)) (len : ∀ vs H Q E, sp vs H Q E → vs.length = ps.length)
    (hb : ∀ (kV doc pm : Value) (an : Option Addr) (cdv ct : Value) (us : List Value), us.length = ps.length → bindArgs (PySem.W.fnOf x x (defArgs st) (defBody st) (defScope st) .none kV doc pm an cdv ct) ⟨us, []⟩ = pure (ps.zip us))
    (hbody : ∀ (f : Addr) (cdv : Value) (A : Around) (outer : List Env) (s : Shared) (H : Hp) (vs : List V) (Q : VK) (E : XK), Room k (A.deeper (envOfC x (defScope st) s.heap.objs.size f cdv)) → sp vs H Q E → In (cxOf (L2N.CX P w) P w K mg base N x (defScope st) f cdv A outer s H E) N G (defScope st) →
      L2N.Takes (cxOf (L2N.CX P w) P w K mg base N x (defScope st) f cdv A outer s H E) (fun cls d _ H => E cls d H) →
      wL (cxOf (L2N.CX P w) P w K mg base N x (defScope st) f cdv A outer s H E) (defBody st) { nx := fun _ H' => Q .non H', rt := Q } (start N vs) H) : FnN P w K mg base (k + 1) x sp := by
  obtain ⟨f, fd, F, hm⟩ := T.ex
  obtain ⟨oc, od, kV, doc, pm, an, cdv, ct, osl, rfl, lk, hcd⟩ := id F.ex
  exact ⟨f, _, ps, fn_of lk hcd S len (fun A outer s H vs Q E hr h => ⟨_, pl, hbody f cdv A outer s H vs Q E hr h ⟨O, ⟨[], (List.append_nil _).symm⟩, S.nd, rfl, rfl, passes_of rfl⟩ (L2N.takes_of rfl rfl rfl rfl)⟩), hm, F.kp, F.binds hb⟩
theorem fn_okH {x : Str} {st : Stmt} {N G ps : List Str} {k : Nat} {sp : Sp} (T : Top K mg x st) (S : FnScope N ps (defScope st)) (O : ScOk N G (defScope st)) (len : ∀ vs H Q E, sp vs H Q E → vs.length = ps.length)
    (hb : ∀ (kV doc pm : Value) (an : Option Addr) (cdv ct : Value) (us : List Value), us.length = ps.length → bindArgs (PySem.W.fnOf x x (defArgs st) (defBody st) (defScope st) .none kV doc pm an cdv ct) ⟨us, []⟩ = pure (ps.zip us))
    (hbody : ∀ (f : Addr) (cdv : Value) (A : Around) (outer : List Env) (s : Shared) (H : Hp) (vs : List V) (Q : VK) (E : XK) (p : Addr × Obj), L2H.RoomH k (A.deeper (envOfC x (defScope st) s.heap.objs.size f cdv)) → sp vs H Q E → In (L2H.cxH CX0 P w K mg base N x (defScope st) f cdv A outer s H E p).nox N G (defScope st) →
      wL (L2H.cxH CX0 P w K mg base N x (defScope st) f cdv A outer s H E p).nox (defBody st) { nx := fun _ H' => Q .non H', rt := Q } (start N vs) H) : FnHt P w K mg base (k + 1) x sp := by
  obtain ⟨f, fd, F, hm⟩ := T.ex
  obtain ⟨oc, od, kV, doc, pm, an, cdv, ct, osl, rfl, lk, hcd⟩ := id F.ex
  exact ⟨f, _, ps, L2H.fn_ofH lk hcd S len (fun A outer s H vs Q E p hot hr h => ⟨_, PSs.nox pl, hbody f cdv A outer s H vs Q E p hr h ⟨O, ⟨[], (List.append_nil _).symm⟩, S.nd, rfl, rfl, PassesOwn.never⟩⟩), hm, F.kp, F.binds hb⟩
end
end Wk

/-! My own layer, texts: chains of comparisons, order and length of texts, a sign of a text, a loop over a text. -/
namespace Wk
open PySem PySem.Spec PyProof.Rows L2
section
variable {X : Cx} {N G : List Str} {sc : Scope} {a b c e : Expr} {es : List Expr} {σ : L2.St} {H : Hp} {Q : VK} {pos : Pos} {QT : Bool → Hp → Prop}
theorem e_chain {op op' : CmpOp} (q : wE X a σ H fun x H1 => wE X b σ H1 fun y H2 => wK X op x y H2 fun z H3 => ∃ k, z = .bl k ∧ (if k = true then wE X c σ H3 fun w H4 => wK X op' y w H4 Q else Q (.bl false) H3)) (hm : lastMarks [op, op'] [b, c] = false := by with_unfolding_all rfl) :
    wE X (.Compare a [op, op'] [b, c] pos) σ H Q := e_of (pe_chain opk opk pe pe pe hm) q
theorem t_chain {op op' : CmpOp} (q : wE X a σ H fun x H1 => wE X b σ H1 fun y H2 => wK X op x y H2 fun z H3 => ∃ k, z = .bl k ∧ (if k = true then wE X c σ H3 fun w H4 => wK X op' y w H4 fun z H5 => ∃ k, z = .bl k ∧ QT k H5 else ∃ k, V.bl false = .bl k ∧ QT k H3)) (hm : lastMarks [op, op'] [b, c] = false := by with_unfolding_all rfl) :
    wT X (.Compare a [op, op'] [b, c] pos) σ H QT := t_of (pt_chain opk opk pe pe pe hm) q
/-- one sign -/
abbrev sg (c : Nat) : Str := ⟨#[c]⟩
theorem lt1 (c d : Nat) : (([c] : List Nat) < [d]) ↔ c < d := by
  constructor
  · intro h
    cases h with
    | rel h => exact h
    | cons h => cases h
  · exact fun h => .rel h
theorem o_le1 {c d : Nat} (q : Q (.bl (decide (c ≤ d))) H) : wK X .LtE (.str (sg c)) (.str (sg d)) H Q := by
  refine k_of op_le_str ⟨sg c, sg d, rfl, rfl, ?_⟩
  have e1 : (!decide (([d] : List Nat) < [c])) = decide (c ≤ d) := by
    by_cases h : c ≤ d
    · have h2 : ¬ (([d] : List Nat) < [c]) := fun z => absurd ((lt1 d c).mp z) (by omega)
      rw [decide_eq_true h, decide_eq_false h2]
      rfl
    · have h2 : ([d] : List Nat) < [c] := (lt1 d c).mpr (by omega)
      rw [decide_eq_false h, decide_eq_true h2]
      rfl
  show Q (.bl (!decide (([d] : List Nat) < [c]))) H
  rw [e1]
  exact q
theorem c_lenS {z : Str} (h : z.length ≤ sizeLine) (q : Q (.int (z.length : Int)) H) : wC X (.builtin "len") [.str z] H Q := c_of call_len ⟨.str z, z.length, rfl, ⟨h, rfl⟩, q⟩
theorem ix_s {z : Str} {i : Int} {c : Nat} (h : z.length ≤ sizeLine) (e : atI z.cps.toList i = some c) (q : Q (.str (sg c)) H) : wIx X (.str z) (.int i) H Q := ix_of ix_str ⟨z, i, c, rfl, rfl, h, e, q⟩
theorem s_forS {nx : L2.St → Hp → Prop} {rt : VK} {bk ct : L2.St → Hp → Prop} {x : Str} {i : Nat} {body : List Stmt} {px : Pos}
    (q : wE X a σ H fun v H1 => ∃ z : Str, v = .str z ∧ ∃ Pv : Nat → L2.St → Hp → Prop, Pv 0 σ H1 ∧ (∀ k c σ H, z.cps[k]? = some c → Pv k σ H → wL X body ⟨Pv (k + 1), rt, nx, Pv (k + 1)⟩ (σ.set i (some (.str (sg c)))) H) ∧ ∀ σ H, Pv z.cps.size σ H → nx σ H)
    (I : In X N G sc := by assumption) (hc : X.calm = true := by rfl) (hA : At N i x := by repeat (first | with_reducible apply At.z | with_reducible apply At.s)) (hs2 : ∀ z, foldedSetIterable a X.env z = pure z := by intro _; rfl) :
    wS X (.For (.Name x px) a body [] pos) ⟨nx, rt, bk, ct⟩ σ H := by
  refine s_of (ps_for I.never hc (pi_str pe) (pg_name I.nd (I.hi hA) (I.loc hA) I.f) pl hs2) (e_mono q fun v H1 q1 => ?_)
  obtain ⟨z, rfl, Pv, h0, hb, hd⟩ := q1
  refine ⟨z, rfl, fun k m σ H => m = z.cps.size - k ∧ k ≤ z.cps.size ∧ Pv k σ H, ⟨z.cps.size, by simp, Nat.zero_le _, h0⟩, ?_⟩
  rintro k m σ H ⟨rfl, hk, p⟩
  by_cases hlt : k < z.cps.size
  · refine .inr ⟨hlt, Pv (k + 1), fun σ' H' p' => ⟨z.cps.size - (k + 1), by omega, rfl, hlt, p'⟩, fun y H' hy => ?_⟩
    obtain ⟨rfl, c, hc', rfl⟩ := hy
    exact hb k c σ _ hc' p
  · have e : k = z.cps.size := by omega
    subst e
    exact .inl ⟨Nat.le_refl _, hd σ H p⟩
end
end Wk

/-! My own layer, comprehensions with their own names, and ground terms: what only makes new objects, over facts that last. -/
namespace Wk
open PySem PySem.Spec PyProof.Rows L2
section
variable {P : Program} {w : World} {K : PySem.W.Frag} {mg : Str → Option Value} {base : Heap}
/-- a def with further slots C for the names of its comprehensions -/
theorem fn_okC {x : Str} {st : Stmt} {N C G ps : List Str} {k : Nat} {sp : Sp} (T : Top K mg x st) (S : FnScope (N ++ C) ps (defScope st)) (O : ScOk N G (defScope st)) (len : ∀ vs H Q E, sp vs H Q E → vs.length = ps.length)
    (hb : ∀ (kV doc pm : Value) (an : Option Addr) (cdv ct : Value) (us : List Value), us.length = ps.length → bindArgs (PySem.W.fnOf x x (defArgs st) (defBody st) (defScope st) .none kV doc pm an cdv ct) ⟨us, []⟩ = pure (ps.zip us))
    (hbody : ∀ (f : Addr) (cdv : Value) (A : Around) (outer : List Env) (s : Shared) (H : Hp) (vs : List V) (Q : VK) (E : XK), Room k (A.deeper (envOfC x (defScope st) s.heap.objs.size f cdv)) → sp vs H Q E → In (cxOf CX0 P w K mg base (N ++ C) x (defScope st) f cdv A outer s H E).nox N G (defScope st) →
      wL (cxOf CX0 P w K mg base (N ++ C) x (defScope st) f cdv A outer s H E).nox (defBody st) { nx := fun _ H' => Q .non H', rt := Q } (start (N ++ C) vs) H) : Fn P w K mg base (k + 1) x sp := by
  obtain ⟨f, fd, F, hm⟩ := T.ex
  exact ⟨f, fd, ps, F.ok S len (fun cdv A outer s H vs Q E hr h => ⟨_, pl, hbody f cdv A outer s H vs Q E hr h ⟨O, ⟨C, rfl⟩, S.nd, rfl, rfl, PassesOwn.never⟩⟩), hm, F.kp, F.binds hb⟩
end
/-! ### blocks -/
instance visDec {sc : Scope} {x : Str} : Decidable (Vis sc x) := inferInstanceAs (Decidable (_ ∨ _))
/-- the names of a comprehension's block: the seen ones with their slots, the global ones, its own at slot i -/
structure BkOk (N : List Str) (Vn : List (Nat × Str)) (G : List Str) (i : Nat) (x : Str) (sc scope : Scope) : Prop where
  lo : ∀ p ∈ Vn, N[p.1]? = some p.2 ∧ Vis (relS scope sc) p.2 ∧ (p.2 == ("__debug__" : Str)) = false ∧ (p.2 == ("__classdict__" : Str)) = false
  gl : ∀ x ∈ G, (relS scope sc).names.lookup x = some .globalImplicit ∧ (x == ("__debug__" : Str)) = false ∧ x ≠ "__name__"
  own : N[i]? = some x ∧ (relS scope sc).names.lookup x = some .local
  blk : blkC N sc scope [(x, i)] = true
structure InB (X : Cx) (Vn : List (Nat × Str)) (G : List Str) : Prop where
  nd : X.N.Nodup
  lo : ∀ p ∈ Vn, X.N[p.1]? = some p.2 ∧ Vis X.env.scope p.2 ∧ (p.2 == ("__debug__" : Str)) = false ∧ (p.2 == ("__classdict__" : Str)) = false
  gl : ∀ x ∈ G, Gl X x ∧ (x == ("__debug__" : Str)) = false ∧ x ≠ "__name__"
abbrev Bk (X : Cx) (s : Shared) (H : Hp) (scope : Scope) (C : Addr) (cl : List (Str × Addr)) (fp : List Addr) : Cx := X.blk s H scope (compEnvC scope cl C X.env) fp
section
variable {X : Cx} {e a b c elt : Expr} {es rest : List Expr} {σ : L2.St} {H : Hp} {Q : VK} {pos p0 : Pos} {N G G' : List Str} {Vn : List (Nat × Str)} {sc scope : Scope}
theorem rel_eq (h : X.env.scope = sc) (C : Addr) (cl : List (Str × Addr)) : (compEnvC scope cl C X.env).scope = relS scope sc := by
  subst h
  rfl
theorem BkOk.inB {i : Nat} {x : Str} (B : BkOk X.N Vn G' i x sc scope) (I : In X N G sc) (s : Shared) (H : Hp) (C : Addr) (cl : List (Str × Addr)) (fp : List Addr) : InB (Bk X s H scope C cl fp) Vn G' := by
  have e : (compEnvC scope cl C X.env).scope = relS scope sc := rel_eq I.sc C cl
  refine ⟨I.nd, fun p hp => ?_, fun y hy => ?_⟩
  · obtain ⟨h1, h2, h3, h4⟩ := B.lo p hp
    exact ⟨h1, by show Vis (compEnvC scope cl C X.env).scope p.2; rw [e]; exact h2, h3, h4⟩
  · obtain ⟨h1, h2, h3⟩ := B.gl y hy
    exact ⟨by show (compEnvC scope cl C X.env).scope.names.lookup y = _; rw [e]; exact h1, h2, h3⟩
theorem BkOk.pg {i : Nat} {x : Str} {px : Pos} (B : BkOk X.N Vn G' i x sc scope) (I : In X N G sc) (s : Shared) (H : Hp) (C : Addr) (cl : List (Str × Addr)) (fp : List Addr) : PG (Bk X s H scope C cl fp) (.Name x px) (gName i) := by
  have e : (compEnvC scope cl C X.env).scope = relS scope sc := rel_eq I.sc C cl
  have l : (Bk X s H scope C cl fp).env.scope.names.lookup x = some .local := by
    show (compEnvC scope cl C X.env).scope.names.lookup x = _
    rw [e]
    exact B.own.2
  exact pg_name I.nd B.own.1 (.inl l) (.inr l)
theorem BkOk.ok {i : Nat} {x : Str} (B : BkOk X.N Vn G' i x sc scope) (I : In X N G sc) : BlkOk X.N X.env.scope scope [(x, i)] := by
  rw [I.sc]
  exact blkOk_by B.blk
theorem InB.g (I : InB X Vn G) {i : Nat} {x : Str} (h : At G i x) : Gl X x := (I.gl x h.mem).1
theorem InB.gd (I : InB X Vn G) {i : Nat} {x : Str} (h : At G i x) : (x == ("__debug__" : Str)) = false := (I.gl x h.mem).2.1
theorem InB.gn (I : InB X Vn G) {i : Nat} {x : Str} (h : At G i x) : x ≠ "__name__" := (I.gl x h.mem).2.2
theorem b_var {j i : Nat} {x : Str} {v : V} (q : Q v H) (I : InB X Vn G := by assumption) (hA : At Vn j (i, x) := by repeat (first | with_reducible apply At.z | with_reducible apply At.s)) (hσ : σ[i]? = some (some v) := by exact rfl) : wE X (.Name x pos) σ H Q :=
  e_of (pe_var (I.lo _ hA.mem).1 (I.lo _ hA.mem).2.1 (I.lo _ hA.mem).2.2.1 (I.lo _ hA.mem).2.2.2) ⟨v, hσ, q⟩
theorem b_call {g : Nat} {k n : Nat} {x : Str} {sp : Sp} (F : Fn X.prog X.w X.K X.mg X.base k x sp) (hr : Room n X.A) (hk : k ≤ n) (q : wA X (e :: es) σ H fun vs H1 => sp vs H1 Q E0) (I : InB X Vn G := by assumption) (hG : At G g x := by repeat (first | with_reducible apply At.z | with_reducible apply At.s))
    (he : starEach (e :: es) X.env = (false, eval e X.env) :: starEach es X.env := by rfl) (hpl : (backTo pos (starEach es X.env)).any (·.1) = false := by rfl) : wE X (.Call (.Name x p0) (e :: es) [] pos) σ H Q := by
  obtain ⟨f, fd, ps, F0, hm, hkp, hb⟩ := F.ex
  refine e_of (pe_call F0 (hr.mono hk) (I.g hG) hm hkp hb .nil pass0 pa (I.gd hG) he hpl) ?_
  show wA X (e :: es) σ H fun vs H1 => sp (vs ++ []) H1 Q E0
  simp only [List.append_nil]
  exact q
theorem b_callB {g : Nat} {x : Str} {id : String} (hm : X.mg x = none) (hv : bootBuiltins x = some (.builtin id)) (q : wA X (e :: es) σ H fun vs H1 => wC X (.builtin id) vs H1 Q) (I : InB X Vn G := by assumption) (hG : At G g x := by repeat (first | with_reducible apply At.z | with_reducible apply At.s))
    (he : starEach (e :: es) X.env = (false, eval e X.env) :: starEach es X.env := by rfl) (hpl : (backTo pos (starEach es X.env)).any (·.1) = false := by rfl) : wE X (.Call (.Name x p0) (e :: es) [] pos) σ H Q := e_of (pe_callB cr (I.g hG) hm hv pa (I.gn hG) (I.gd hG) he hpl) q
theorem b_glob {g : Nat} {x : Str} {v : V} {u : Value} (hm : X.mg x = some u) (r : RelV v u) (q : Q v H) (I : InB X Vn G := by assumption) (hG : At G g x := by repeat (first | with_reducible apply At.z | with_reducible apply At.s)) : wE X (.Name x pos) σ H Q := e_of (pe_glob (I.g hG) hm r (I.gd hG)) q
theorem wipe1 (σ : L2.St) (i : Nat) : wipe σ [i] = σ.set i none := rfl
theorem wipe_set (σ : L2.St) (i : Nat) (v : L2.V) : wipe ((wipe σ [i]).set i (some v)) [i] = wipe σ [i] := by
  simp [wipe1, List.set_set]
/-- what the turns of a comprehension ask: over range(n) -/
def LcR (X : Cx) (Vn : List (Nat × Str)) (G' : List Str) (elt : Expr) (scope : Scope) (i n : Nat) (D : Addr) (σ : L2.St) (H1 : Hp) (Qd : Hp → Prop) : Prop := ∃ Pv : Nat → Hp → Prop, Pv 0 (upd H1 D (.lst [])) ∧
  (∀ k H2, k < n → Pv k H2 → ∀ s0 H0 C cl fp, InB (Bk X s0 H0 scope C cl fp) Vn G' → wE (Bk X s0 H0 scope C cl fp) elt ((wipe σ [i]).set i (some (.int (k : Int)))) H2 fun y H4 => ∃ acc, H4 D = some (.lst acc) ∧ acc.length < sizeLine ∧ Pv (k + 1) (upd H4 D (.lst (acc ++ [y])))) ∧
  ∀ H2, Pv n H2 → Qd H2
/-- .. over a list that stays -/
def LcL (X : Cx) (Vn : List (Nat × Str)) (G' : List Str) (elt : Expr) (scope : Scope) (i : Nat) (ad : Addr) (xs : List L2.V) (D : Addr) (σ : L2.St) (H1 : Hp) (Qd : Hp → Prop) : Prop := ∃ Pv : Nat → Hp → Prop, Pv 0 (upd H1 D (.lst [])) ∧ (∀ k H2, k ≤ xs.length → Pv k H2 → SqL X.K H2 ad xs) ∧
  (∀ k x H2, xs[k]? = some x → Pv k H2 → ∀ s0 H0 C cl fp, InB (Bk X s0 H0 scope C cl fp) Vn G' → wE (Bk X s0 H0 scope C cl fp) elt ((wipe σ [i]).set i (some x)) H2 fun y H4 => ∃ acc, H4 D = some (.lst acc) ∧ acc.length < sizeLine ∧ Pv (k + 1) (upd H4 D (.lst (acc ++ [y])))) ∧
  ∀ H2, Pv xs.length H2 → Qd H2
/-- the turn's reading, where the block may run anywhere -/
@[irreducible] def wBk (X : Cx) (Vn : List (Nat × Str)) (G' : List Str) (elt : Expr) (scope : Scope) : TE := fun σ H Q => ∀ s0 H0 C cl fp, InB (Bk X s0 H0 scope C cl fp) Vn G' → wE (Bk X s0 H0 scope C cl fp) elt σ H Q
theorem pe_bk {s0 : Shared} {H0 : Hp} {C : Addr} {cl : List (Str × Addr)} {fp : List Addr} (I : InB (Bk X s0 H0 scope C cl fp) Vn G') : PE (Bk X s0 H0 scope C cl fp) elt (wBk X Vn G' elt scope) :=
  ⟨fun pins s σ H Q Iv h => by unfold wBk at h; exact pe.run pins s σ H Q Iv (h s0 H0 C cl fp I)⟩
theorem lcR_of {i n : Nat} {D : Addr} {H1 : Hp} {Qd : Hp → Prop} (q : LcR X Vn G' elt scope i n D σ H1 Qd) : ∃ W : Nat → Nat → Hp → Prop, (∃ m, W 0 m (upd H1 D (.lst []))) ∧ ∀ k m H, W k m H →
    ((Itr 0 n).stop k H ∧ Qd H) ∨ ((Itr 0 n).go k H ∧ ∃ Nx : Hp → Prop, (∀ H', Nx H' → ∃ m', m' < m ∧ W (k + 1) m' H') ∧ ∀ x H', (Itr 0 n).yld k H x H' → gName i x (wipe σ [i]) H' fun σ2 H2 => wipe σ2 [i] = wipe σ [i] ∧ tYes σ2 H2 fun b H3 =>
      if b = true then wBk X Vn G' elt scope σ2 H3 fun y H4 => ∃ acc, H4 D = some (.lst acc) ∧ acc.length < sizeLine ∧ Nx (upd H4 D (.lst (acc ++ [y]))) else Nx H3) := by
  obtain ⟨Pv, h0, hs, hd⟩ := q
  refine lc_range Pv h0 (fun k H hk p => ?_) hd
  refine ⟨wipe_set σ i _, ?_⟩
  unfold tYes
  refine iteT ?_
  unfold wBk
  intro s0 H0 C cl fp I
  rw [Int.zero_add]
  exact hs k H hk p s0 H0 C cl fp I
theorem lcL_of {i : Nat} {ad : Addr} {xs : List L2.V} {D : Addr} {H1 : Hp} {Qd : Hp → Prop} (q : LcL X Vn G' elt scope i ad xs D σ H1 Qd) : ∃ W : Nat → Nat → Hp → Prop, (∃ m, W 0 m (upd H1 D (.lst []))) ∧ ∀ k m H, W k m H →
    ((Itl X.K ad).stop k H ∧ Qd H) ∨ ((Itl X.K ad).go k H ∧ ∃ Nx : Hp → Prop, (∀ H', Nx H' → ∃ m', m' < m ∧ W (k + 1) m' H') ∧ ∀ x H', (Itl X.K ad).yld k H x H' → gName i x (wipe σ [i]) H' fun σ2 H2 => wipe σ2 [i] = wipe σ [i] ∧ tYes σ2 H2 fun b H3 =>
      if b = true then wBk X Vn G' elt scope σ2 H3 fun y H4 => ∃ acc, H4 D = some (.lst acc) ∧ acc.length < sizeLine ∧ Nx (upd H4 D (.lst (acc ++ [y]))) else Nx H3) := by
  obtain ⟨Pv, h0, hl, hs, hd⟩ := q
  refine lc_list Pv h0 hl (fun k x H hk p => ?_) hd
  refine ⟨wipe_set σ i _, ?_⟩
  unfold tYes
  refine iteT ?_
  unfold wBk
  intro s0 H0 C cl fp I
  exact hs k x H hk p s0 H0 C cl fp I
/-- [elt for x in range(a)] -/
theorem e_lcR {i g : Nat} {x : Str} {px p cp : Pos} (B : BkOk X.N Vn G' i x sc scope) (hm : X.mg "range" = none)
    (q : wE X a σ H fun v H1 => ∃ n : Nat, v = .int n ∧ n < 2 ^ 62 ∧ ∀ D, H1 D = none → LcR X Vn G' elt scope i n D σ H1 fun H2 => Q (.ref D) H2)
    (I : In X N G sc := by assumption) (hc : X.calm = true := by rfl) (hG : At G g ("range" : Str) := by repeat (first | with_reducible apply At.z | with_reducible apply At.s)) (hs : starEach [a] X.env = [(false, eval a X.env)] := by rfl) (hs2 : ∀ z, foldedSetIterable (.Call (.Name "range" p) [a] [] cp) X.env z = pure z := by intro _; rfl)
    (hs1 : starEach (a :: []) X.env = (false, eval a X.env) :: starEach [] X.env := by rfl) :
    wE X (.ListComp elt [⟨.Name x px, .Call (.Name "range" p) [a] [] cp, [], 0⟩] scope pos) σ H Q := by
  refine e_of (pe_lc (own := [(x, i)]) (g := gName i) (tt := tYes) (te := wBk X Vn G' elt scope) hc I.nd (pi_range1 (I.g hG) hm (pa_cons pe pa_nil hs1) hs) (B.ok I) (fun s H C cl fp => B.pg I s H C cl fp) (fun _ _ _ _ _ => pts_nil) (fun s H C cl fp => pe_bk (B.inB I s H C cl fp)) hs2) (e_mono q fun v H1 q1 => ?_)
  obtain ⟨n, rfl, hn, q2⟩ := q1
  refine ⟨(n : Int), rfl, by omega, by omega, ?_⟩
  rw [Int.toNat_natCast]
  exact fun D hD => lcR_of (q2 D hD)
/-- [elt for x in a], a list -/
theorem e_lcL {i : Nat} {x : Str} {px : Pos} (B : BkOk X.N Vn G' i x sc scope)
    (q : wE X a σ H fun v H1 => ∃ ad xs, v = .ref ad ∧ SqL X.K H1 ad xs ∧ ∀ D, H1 D = none → LcL X Vn G' elt scope i ad xs D σ H1 fun H2 => Q (.ref D) H2)
    (I : In X N G sc := by assumption) (hc : X.calm = true := by rfl) (hs2 : ∀ z, foldedSetIterable a X.env z = pure z := by intro _; rfl) :
    wE X (.ListComp elt [⟨.Name x px, a, [], 0⟩] scope pos) σ H Q := by
  refine e_of (pe_lc (own := [(x, i)]) (g := gName i) (tt := tYes) (te := wBk X Vn G' elt scope) hc I.nd (pi_list pe) (B.ok I) (fun s H C cl fp => B.pg I s H C cl fp) (fun _ _ _ _ _ => pts_nil) (fun s H C cl fp => pe_bk (B.inB I s H C cl fp)) hs2) (e_mono q fun v H1 q1 => ?_)
  obtain ⟨ad, xs, rfl, hl, q2⟩ := q1
  exact ⟨ad, rfl, ⟨xs, hl⟩, fun D hD => lcL_of (q2 D hD)⟩
theorem s_lcR {nx : L2.St → Hp → Prop} {rt : VK} {bk ct : L2.St → Hp → Prop} {i j g : Nat} {x y : Str} {px py p cp spos : Pos} (B : BkOk X.N Vn G' i x sc scope) (hm : X.mg "range" = none)
    (q : wE X a σ H fun v H1 => ∃ n : Nat, v = .int n ∧ n < 2 ^ 62 ∧ ∀ D, H1 D = none → LcR X Vn G' elt scope i n D σ H1 fun H2 => nx (σ.set j (some (.ref D))) H2)
    (I : In X N G sc := by assumption) (hc : X.calm = true := by rfl) (hA : At N j y := by repeat (first | with_reducible apply At.z | with_reducible apply At.s)) (hG : At G g ("range" : Str) := by repeat (first | with_reducible apply At.z | with_reducible apply At.s))
    (hk : X.env.scope.kind = .function := by rfl) (hy : X.env.scope.names.lookup y = some .local := by rfl) (hl : (py.line == pos.line) = true := by rfl) (ha : (scope.names.any fun (n, k) => n == y && (k == .local || k == .cell)) = false := by decide +kernel)
    (hs : starEach [a] X.env = [(false, eval a X.env)] := by rfl) (hs2 : ∀ z, foldedSetIterable (.Call (.Name "range" p) [a] [] cp) X.env z = pure z := by intro _; rfl) (hs1 : starEach (a :: []) X.env = (false, eval a X.env) :: starEach [] X.env := by rfl) :
    wS X (.Assign [.Name y py] (.ListComp elt [⟨.Name x px, .Call (.Name "range" p) [a] [] cp, [], 0⟩] scope pos) spos) ⟨nx, rt, bk, ct⟩ σ H := by
  refine s_of (ps_setLc (own := [(x, i)]) (g := gName i) (tt := tYes) (te := wBk X Vn G' elt scope) hc I.nd (I.hi hA) hy (sw_true hk hy hl ha) (pi_range1 (I.g hG) hm (pa_cons pe pa_nil hs1) hs) (B.ok I) (fun s H C cl fp => B.pg I s H C cl fp) (fun _ _ _ _ _ => pts_nil) (fun s H C cl fp => pe_bk (B.inB I s H C cl fp)) hs2) (e_mono q fun v H1 q1 => ?_)
  obtain ⟨n, rfl, hn, q2⟩ := q1
  refine ⟨(n : Int), rfl, by omega, by omega, ?_⟩
  rw [Int.toNat_natCast]
  exact fun D hD => lcR_of (q2 D hD)
theorem s_lcL {nx : L2.St → Hp → Prop} {rt : VK} {bk ct : L2.St → Hp → Prop} {i j : Nat} {x y : Str} {px py spos : Pos} (B : BkOk X.N Vn G' i x sc scope)
    (q : wE X a σ H fun v H1 => ∃ ad xs, v = .ref ad ∧ SqL X.K H1 ad xs ∧ ∀ D, H1 D = none → LcL X Vn G' elt scope i ad xs D σ H1 fun H2 => nx (σ.set j (some (.ref D))) H2)
    (I : In X N G sc := by assumption) (hc : X.calm = true := by rfl) (hA : At N j y := by repeat (first | with_reducible apply At.z | with_reducible apply At.s))
    (hk : X.env.scope.kind = .function := by rfl) (hy : X.env.scope.names.lookup y = some .local := by rfl) (hl : (py.line == pos.line) = true := by rfl) (ha : (scope.names.any fun (n, k) => n == y && (k == .local || k == .cell)) = false := by decide +kernel) (hs2 : ∀ z, foldedSetIterable a X.env z = pure z := by intro _; rfl) :
    wS X (.Assign [.Name y py] (.ListComp elt [⟨.Name x px, a, [], 0⟩] scope pos) spos) ⟨nx, rt, bk, ct⟩ σ H := by
  refine s_of (ps_setLc (own := [(x, i)]) (g := gName i) (tt := tYes) (te := wBk X Vn G' elt scope) hc I.nd (I.hi hA) hy (sw_true hk hy hl ha) (pi_list pe) (B.ok I) (fun s H C cl fp => B.pg I s H C cl fp) (fun _ _ _ _ _ => pts_nil) (fun s H C cl fp => pe_bk (B.inB I s H C cl fp)) hs2) (e_mono q fun v H1 q1 => ?_)
  obtain ⟨ad, xs, rfl, hl, q2⟩ := q1
  exact ⟨ad, rfl, ⟨xs, hl⟩, fun D hD => lcL_of (q2 D hD)⟩
end
/-! ### ground terms: they make new objects and change none -/
abbrev Rl := Hp → L2.V → Prop
class Lasts (Γ : Hp → Prop) : Prop where
  up : ∀ H H', Same H H' → Γ H → Γ H'
class LastR (R : Rl) : Prop where
  up : ∀ H H' v, Same H H' → R H v → R H' v
def All2 : List Rl → Hp → List L2.V → Prop
  | [], _, vs => vs = []
  | R :: Rs, H, vs => ∃ v us, vs = v :: us ∧ R H v ∧ All2 Rs H us
@[irreducible] def Ev (X : Cx) (e : Expr) (σ : L2.St) (H : Hp) (R : Rl) : Prop := ∀ Q : VK, (∀ v H', Same H H' → R H' v → Q v H') → wE X e σ H Q
@[irreducible] def EvA (X : Cx) (es : List Expr) (σ : L2.St) (H : Hp) (Rs : List Rl) : Prop := ∀ Q : List L2.V → Hp → Prop, (∀ vs H', Same H H' → All2 Rs H' vs → Q vs H') → wA X es σ H Q
/-- a promise of a def that makes new objects alone -/
def spG {α : Type} (A : α → List Rl) (R : α → Rl) : Sp := fun vs H Q _ => ∃ x, All2 (A x) H vs ∧ ∀ v H', Same H H' → R x H' v → Q v H'
section
variable {X : Cx} {e a b c : Expr} {es : List Expr} {σ : L2.St} {H : Hp} {Q : VK} {pos p0 : Pos} {N G : List Str} {sc : Scope} {R R1 R2 : Rl} {Rs : List Rl}
theorem ev_e (h : Ev X e σ H R) (q : ∀ v H', Same H H' → R H' v → Q v H') : wE X e σ H Q := by unfold Ev at h; exact h Q q
theorem ev_of (h : ∀ Q : VK, (∀ v H', Same H H' → R H' v → Q v H') → wE X e σ H Q) : Ev X e σ H R := by unfold Ev; exact h
theorem ev_a {QA : List L2.V → Hp → Prop} (h : EvA X es σ H Rs) (q : ∀ vs H', Same H H' → All2 Rs H' vs → QA vs H') : wA X es σ H QA := by unfold EvA at h; exact h QA q
theorem ev_up {H0 : Hp} (h : Ev X e σ H R) : Ev X e σ H R := h
theorem g_var {i : Nat} {x : Str} {v : V} (r : R H v) (I : In X N G sc := by assumption) (hA : At N i x := by repeat (first | with_reducible apply At.z | with_reducible apply At.s)) (hσ : σ[i]? = some (some v) := by exact rfl) : Ev X (.Name x pos) σ H R :=
  ev_of fun Q q => e_var (q v H (Same.refl H) r) I hA hσ
theorem g_nil : EvA X [] σ H [] := by unfold EvA; exact fun Q q => a_nil (q [] H (Same.refl H) rfl)
theorem g_cons [LastR R] (h1 : Ev X e σ H R) (h2 : ∀ H', Same H H' → EvA X es σ H' Rs) (hs : starEach (e :: es) X.env = (false, eval e X.env) :: starEach es X.env := by rfl) : EvA X (e :: es) σ H (R :: Rs) := by
  unfold EvA
  exact fun Q q => a_cons (ev_e h1 fun v H1 s1 r1 => ev_a (h2 H1 s1) fun vs H2 s2 r2 => q (v :: vs) H2 (s1.trans s2) ⟨v, vs, rfl, LastR.up H1 H2 v s2 r1, r2⟩) hs
theorem g_call {α : Type} {A : α → List Rl} {R : α → Rl} {g k n : Nat} {x : Str} {z : α} (F : Fn X.prog X.w X.K X.mg X.base k x (spG A R)) (hr : Room n X.A) (hk : k ≤ n) (h : EvA X (e :: es) σ H (A z)) (I : In X N G sc := by assumption) (hG : At G g x := by repeat (first | with_reducible apply At.z | with_reducible apply At.s))
    (he : starEach (e :: es) X.env = (false, eval e X.env) :: starEach es X.env := by rfl) (hpl : (backTo pos (starEach es X.env)).any (·.1) = false := by rfl) : Ev X (.Call (.Name x p0) (e :: es) [] pos) σ H (R z) :=
  ev_of fun Q q => e_call F hr hk (ev_a h fun vs H1 s1 r1 => ⟨z, r1, fun v H2 s2 r2 => q v H2 (s1.trans s2) r2⟩) I hG he hpl
theorem g_test {QT : Bool → Hp → Prop} (h : Ev X e σ H fun _ v => v = .bl true) (q : ∀ H', Same H H' → QT true H') (he : ∀ whole, isTrue e X.env whole = (do let v ← whole; standAt e.pos; holding [v] (truthy v)) := by intro _; rfl) : wT X e σ H QT :=
  t_val (ev_e h fun v H' s r => by
    cases (show v = .bl true from r)
    exact ⟨true, rfl, q H' s⟩) he
/-- if not a or not b: return False -/
theorem s_no2 {nx : L2.St → Hp → Prop} {rt : VK} {bk ct : L2.St → Hp → Prop} {body : List Stmt} {p1 p2 p3 p4 : Pos} (h1 : Ev X a σ H fun _ v => v = .bl true) (h2 : ∀ H', Same H H' → Ev X b σ H' fun _ v => v = .bl true) (q : ∀ H', Same H H' → nx σ H')
    (he : ∀ whole, isTrue a X.env whole = (do let v ← whole; standAt a.pos; holding [v] (truthy v)) := by intro _; rfl) (he2 : ∀ whole, isTrue b X.env whole = (do let v ← whole; standAt b.pos; holding [v] (truthy v)) := by intro _; rfl) :
    wS X (.If (.BoolOp .Or [.UnaryOp .Not a p1, .UnaryOp .Not b p2] p3) body [] p4) ⟨nx, rt, bk, ct⟩ σ H := by
  refine s_if (t_w (w_or (t_not (g_test h1 (fun H1 s1 => ?_) he))))
  refine iteF (w_or1 (t_not (g_test (h2 H1 s1) (fun H2 s2 => ?_) he2)))
  exact iteF (l_nil (q H2 (s1.trans s2)))
theorem s_no1 {nx : L2.St → Hp → Prop} {rt : VK} {bk ct : L2.St → Hp → Prop} {body : List Stmt} {p1 p4 : Pos} (h1 : Ev X a σ H fun _ v => v = .bl true) (q : ∀ H', Same H H' → nx σ H')
    (he : ∀ whole, isTrue a X.env whole = (do let v ← whole; standAt a.pos; holding [v] (truthy v)) := by intro _; rfl) :
    wS X (.If (.UnaryOp .Not a p1) body [] p4) ⟨nx, rt, bk, ct⟩ σ H := by
  refine s_if (t_not (g_test h1 (fun H1 s1 => ?_) he))
  exact iteF (l_nil (q H1 s1))
theorem g_and2 (h1 : Ev X a σ H fun _ v => v = .bl true) (h2 : ∀ H', Same H H' → Ev X b σ H' fun _ v => v = .bl true) : Ev X (.BoolOp .And [a, b] pos) σ H fun _ v => v = .bl true :=
  ev_of fun Q q => e_and (ev_e h1 fun v H1 s1 r1 => by
    cases (show v = .bl true from r1)
    exact ⟨true, rfl, iteT (e_one (ev_e (h2 H1 s1) fun v H2 s2 r2 => q v H2 (s1.trans s2) r2))⟩)
theorem g_and3 (h1 : Ev X a σ H fun _ v => v = .bl true) (h2 : ∀ H', Same H H' → Ev X b σ H' fun _ v => v = .bl true) (h3 : ∀ H', Same H H' → Ev X c σ H' fun _ v => v = .bl true) : Ev X (.BoolOp .And [a, b, c] pos) σ H fun _ v => v = .bl true :=
  ev_of fun Q q => e_and (ev_e h1 fun v H1 s1 r1 => by
    cases (show v = .bl true from r1)
    refine ⟨true, rfl, iteT (e_and (ev_e (h2 H1 s1) fun v H2 s2 r2 => ?_))⟩
    cases (show v = .bl true from r2)
    exact ⟨true, rfl, iteT (e_one (ev_e (h3 H2 (s1.trans s2)) fun v H3 s3 r3 => q v H3 ((s1.trans s2).trans s3) r3))⟩)
end
section
variable {X : Cx} {H : Hp} {Q : VK} {i j : Int}
theorem o_mulW (c : CMulW i j) (q : Q (.int (i * j)) H) : wB X .Mult (.int i) (.int j) H Q := b_of op_mulW ⟨i, j, rfl, rfl, c, q⟩
end
end Wk
namespace Wk
open PySem PySem.Spec
/-- the value of a return or of an assignment, a comprehension's scope -/
def valE : Stmt → Expr
  | .Return (some e) _ => e
  | .Assign _ e _ => e
  | .Expr e _ => e
  | _ => .Name "" ⟨0, 0, 0, 0⟩
def lcSc : Expr → Scope
  | .ListComp _ _ sc _ => sc
  | _ => { kind := .function, names := [], isGenerator := false, isCoroutine := false }
end Wk
namespace Wk
open PySem PySem.Spec PyProof.Rows L2
section
variable {X : Cx} {c e : Expr} {body : List Stmt} {σ : L2.St} {H : Hp} {pos : Pos} {N G : List Str} {sc : Scope} {QT QT' : Bool → Hp → Prop}
theorem t_mono (q : wT X c σ H QT) (h : ∀ b H1, QT b H1 → QT' b H1) : wT X c σ H QT' := by
  unfold wT at q ⊢
  exact fun pins s I => wpAny_mono (q pins s I) (fun _ _ ⟨H1, I1, z⟩ => ⟨H1, I1, h _ _ z⟩) fun _ _ z => z
theorem s_while {nx : L2.St → Hp → Prop} {rt : VK} {bk ct : L2.St → Hp → Prop} (Pv : L2.St → Hp → Prop) (μ : L2.St → Hp → Nat) (h0 : Pv σ H)
    (hs : ∀ σ H, Pv σ H → wT X c σ H fun b H1 => if b = true then wL X body ⟨fun σ' H' => Pv σ' H' ∧ μ σ' H' < μ σ H, rt, nx, fun σ' H' => Pv σ' H' ∧ μ σ' H' < μ σ H⟩ σ H1 else nx σ H1)
    (I : In X N G sc := by assumption) : wS X (.While c body [] pos) ⟨nx, rt, bk, ct⟩ σ H :=
  s_of (ps_while I.never pt pl) (while_by Pv μ h0 hs fun _ _ _ _ h q => t_mono q h)
end
end Wk
namespace Wk
open PySem PySem.Spec PyProof.Rows L2
section
variable {X : Cx} {o e : Expr} {σ : L2.St} {H : Hp} {Q : VK} {pos apos : Pos}
/-- o.append(e) -/
theorem e_app (q : wE X o σ H fun x H1 => ∃ l xs0, x = .ref l ∧ SqL X.K H1 l xs0 ∧ wE X e σ H1 fun y H2 => ∃ xs, H2 l = some (.lst xs) ∧ xs.length < sizeLine ∧ Q .non (upd H2 l (.lst (xs ++ [y]))))
    (hbase : attributeBase o "append" X.env (eval o X.env) = eval o X.env := by rfl)
    (hfew : ((backTo pos (starEach (e :: []) X.env)).all (fun x => !x.1) && (backToKw pos (keywordEach [] X.env)).all (fun x => x.1.isSome)
      && decide ((e :: []).length + ([] : List Keyword).length + (if ([] : List Keyword).isEmpty then 0 else 1) < 30)) = true := by rfl)
    (hline : (apos.endLine == pos.line) = true := by rfl) (hs : starEach (e :: []) X.env = (false, eval e X.env) :: starEach [] X.env := by rfl) (hplain : (backTo pos (starEach [] X.env)).any (·.1) = false := by rfl) :
    wE X (.Call (.Attribute o "append" apos) [e] [] pos) σ H Q := by
  refine e_of (pe_bm PySem.F.plainAttrs_list PySem.F.slot_list_append PySem.F.type_list_append mt_append pe (pa_cons pe pa_nil hs) hbase hfew hline hs hplain) (e_mono q fun x H1 z => ?_)
  obtain ⟨l, xs0, rfl, hl, z⟩ := z
  refine ⟨.inl ⟨rfl, _, hl⟩, e_mono z fun y H2 z2 => ?_⟩
  obtain ⟨xs, h1, h2, h3⟩ := z2
  exact ⟨l, xs, y, rfl, rfl, h1, h2, h3⟩
end
end Wk
namespace Wk
open PySem PySem.Spec PyProof.Rows L2
theorem All2.len {Rs : List Rl} {H : Hp} : ∀ {vs : List L2.V}, All2 Rs H vs → vs.length = Rs.length := by
  induction Rs with
  | nil => intro vs h; cases (show vs = [] from h); rfl
  | cons R Rs ih => intro vs h; obtain ⟨v, us, rfl, _, h⟩ := h; simp [ih h]
end Wk
namespace Wk
open PySem PySem.Spec PyProof.Rows L2
/-- from the heap H on -/
def EvS (X : Cx) (e : Expr) (σ : L2.St) (H : Hp) (R : Rl) : Prop := ∀ H', Same H H' → Ev X e σ H' R
def EvSA (X : Cx) (es : List Expr) (σ : L2.St) (H : Hp) (Rs : List Rl) : Prop := ∀ H', Same H H' → EvA X es σ H' Rs
abbrev IsT : Rl := fun _ v => v = .bl true
section
variable {X : Cx} {e a b c : Expr} {es : List Expr} {σ : L2.St} {H H0 : Hp} {Q : VK} {pos p0 : Pos} {N G : List Str} {sc : Scope} {R R1 R2 : Rl} {Rs : List Rl}
theorem EvS.up {H1 : Hp} (h : EvS X e σ H R) (s : Same H H1) : EvS X e σ H1 R := fun H' t => h H' (s.trans t)
theorem EvS.get (h : EvS X e σ H R) (q : ∀ v H', Same H H' → R H' v → Q v H') : wE X e σ H Q := ev_e (h H (Same.refl H)) q
theorem gs_var [LastR R] {i : Nat} {x : Str} {v : L2.V} (r : R H v) (I : In X N G sc := by assumption) (hA : At N i x := by repeat (first | with_reducible apply At.z | with_reducible apply At.s)) (hσ : σ[i]? = some (some v) := by exact rfl) : EvS X (.Name x pos) σ H R :=
  fun H' s => g_var (LastR.up H H' v s r) I hA hσ
theorem gs_int {i : Int} {j} : EvS X (.Constant (.int i) j pos) σ H (fun _ v => v = .int i) := fun H' _ => ev_of fun Q q => e_int (q _ H' (Same.refl H') rfl)
theorem gs_nil : EvSA X [] σ H [] := fun _ _ => g_nil
theorem gs_cons [LastR R] (h1 : EvS X e σ H R) (h2 : EvSA X es σ H Rs) (hs : starEach (e :: es) X.env = (false, eval e X.env) :: starEach es X.env := by rfl) : EvSA X (e :: es) σ H (R :: Rs) := fun H' s => g_cons (h1 H' s) (fun H2 s2 => h2 H2 (s.trans s2)) hs
theorem gs_call {α : Type} {A : α → List Rl} {R : α → Rl} {g k n : Nat} {x : Str} {z : α} (F : Fn X.prog X.w X.K X.mg X.base k x (spG A R)) (hr : Room n X.A) (hk : k ≤ n) (h : EvSA X (e :: es) σ H (A z)) (I : In X N G sc := by assumption) (hG : At G g x := by repeat (first | with_reducible apply At.z | with_reducible apply At.s))
    (he : starEach (e :: es) X.env = (false, eval e X.env) :: starEach es X.env := by rfl) (hpl : (backTo pos (starEach es X.env)).any (·.1) = false := by rfl) : EvS X (.Call (.Name x p0) (e :: es) [] pos) σ H (R z) := fun H' s => g_call F hr hk (h H' s) I hG he hpl
/-- if not a or not b: return False; both hold -/
theorem s_nn {nx : L2.St → Hp → Prop} {rt : VK} {bk ct : L2.St → Hp → Prop} {body : List Stmt} {p1 p2 p3 p4 : Pos} (s0 : Same H0 H) (h1 : EvS X a σ H0 IsT) (h2 : EvS X b σ H0 IsT) (q : ∀ H', Same H0 H' → nx σ H')
    (he : ∀ whole, isTrue a X.env whole = (do let v ← whole; standAt a.pos; holding [v] (truthy v)) := by intro _; rfl) (he2 : ∀ whole, isTrue b X.env whole = (do let v ← whole; standAt b.pos; holding [v] (truthy v)) := by intro _; rfl) :
    wS X (.If (.BoolOp .Or [.UnaryOp .Not a p1, .UnaryOp .Not b p2] p3) body [] p4) ⟨nx, rt, bk, ct⟩ σ H := s_no2 (h1 H s0) (fun H1 s1 => h2 H1 (s0.trans s1)) (fun H1 s1 => q H1 (s0.trans s1)) he he2
theorem s_n {nx : L2.St → Hp → Prop} {rt : VK} {bk ct : L2.St → Hp → Prop} {body : List Stmt} {p1 p4 : Pos} (s0 : Same H0 H) (h1 : EvS X a σ H0 IsT) (q : ∀ H', Same H0 H' → nx σ H')
    (he : ∀ whole, isTrue a X.env whole = (do let v ← whole; standAt a.pos; holding [v] (truthy v)) := by intro _; rfl) :
    wS X (.If (.UnaryOp .Not a p1) body [] p4) ⟨nx, rt, bk, ct⟩ σ H := s_no1 (h1 H s0) (fun H1 s1 => q H1 (s0.trans s1)) he
theorem gs_and2 (h1 : EvS X a σ H IsT) (h2 : EvS X b σ H IsT) : EvS X (.BoolOp .And [a, b] pos) σ H IsT := fun H' s => g_and2 (h1 H' s) fun H2 s2 => h2 H2 (s.trans s2)
theorem gs_and3 (h1 : EvS X a σ H IsT) (h2 : EvS X b σ H IsT) (h3 : EvS X c σ H IsT) : EvS X (.BoolOp .And [a, b, c] pos) σ H IsT := fun H' s => g_and3 (h1 H' s) (fun H2 s2 => h2 H2 (s.trans s2)) fun H2 s2 => h3 H2 (s.trans s2)
theorem s_let {nx : L2.St → Hp → Prop} {rt : VK} {bk ct : L2.St → Hp → Prop} {i : Nat} {x : Str} {pos' : Pos} (s0 : Same H0 H) (h : EvS X e σ H0 R) (q : ∀ v H', Same H0 H' → R H' v → nx (σ.set i (some v)) H')
    (I : In X N G sc := by assumption) (hA : At N i x := by repeat (first | with_reducible apply At.z | with_reducible apply At.s)) (hs : swapsWith e (some (.Name x pos')) pos.line X.env = pure false := by rfl) :
    wS X (.Assign [.Name x pos'] e pos) ⟨nx, rt, bk, ct⟩ σ H := s_set ((h.up s0).get fun v H' s r => q v H' (s0.trans s) r) I hA hs
theorem s_retS {nx : L2.St → Hp → Prop} {rt : VK} {bk ct : L2.St → Hp → Prop} (s0 : Same H0 H) (h : EvS X e σ H0 R) (q : ∀ v H', Same H0 H' → R H' v → rt v H') : wS X (.Return (some e) pos) ⟨nx, rt, bk, ct⟩ σ H := s_ret ((h.up s0).get fun v H' s r => q v H' (s0.trans s) r)
end
end Wk

/-! My own layer, more: defs with loops where an error is handled, a keyword-only parameter with a default, insert. -/
namespace Wk
open PySem PySem.Spec PyProof.Rows L2
section
variable {P : Program} {w : World} {K : PySem.W.Frag} {mg : Str → Option Value} {base : Heap}
theorem fn_okH2 {x : Str} {st : Stmt} {N G ps : List Str} {k : Nat} {sp : Sp} (T : Top K mg x st) (S : FnScope N ps (defScope st)) (O : ScOk N G (defScope st)) (len : ∀ vs H Q E, sp vs H Q E → vs.length = ps.length)
    (hb : ∀ (kV doc pm : Value) (an : Option Addr) (cdv ct : Value) (us : List Value), us.length = ps.length → bindArgs (PySem.W.fnOf x x (defArgs st) (defBody st) (defScope st) .none kV doc pm an cdv ct) ⟨us, []⟩ = pure (ps.zip us))
    (hbody : ∀ (f : Addr) (cdv : Value) (A : Around) (outer : List Env) (s : Shared) (H : Hp) (vs : List L2.V) (Q : VK) (E : XK) (p : Addr × Obj), L2H.RoomH k (A.deeper (envOfC x (defScope st) s.heap.objs.size f cdv)) → sp vs H Q E → In (L2H.cxH CX0 P w K mg base N x (defScope st) f cdv A outer s H E p).nox N G (defScope st) →
      L2H.HotC (L2H.cxH CX0 P w K mg base N x (defScope st) f cdv A outer s H E p).nox →
      wL (L2H.cxH CX0 P w K mg base N x (defScope st) f cdv A outer s H E p).nox (defBody st) { nx := fun _ H' => Q .non H', rt := Q } (start N vs) H) : FnHt P w K mg base (k + 1) x sp := by
  obtain ⟨f, fd, F, hm⟩ := T.ex
  obtain ⟨oc, od, kV, doc, pm, an, cdv, ct, osl, rfl, lk, hcd⟩ := id F.ex
  exact ⟨f, _, ps, L2H.fn_ofH lk hcd S len (fun A outer s H vs Q E p hot hr h => ⟨_, PSs.nox pl, hbody f cdv A outer s H vs Q E p hr h ⟨O, ⟨[], (List.append_nil _).symm⟩, S.nd, rfl, rfl, PassesOwn.never⟩ ⟨p, ⟨hot.1, hot.2⟩, List.mem_cons_self⟩⟩), hm, F.kp, F.binds hb⟩
end
section
variable {X : Cx} {N G : List Str} {sc : Scope} {a e v o : Expr} {es : List Expr} {σ : L2.St} {H : Hp} {Q : VK} {pos p0 kpos apos : Pos}
theorem s_forRH {nx : L2.St → Hp → Prop} {rt : VK} {bk ct : L2.St → Hp → Prop} {g : Nat} {x : Str} {i : Nat} {body : List Stmt} {px p cp : Pos} (hm : X.mg "range" = none) (hot : L2H.HotC X)
    (q : wE X a σ H fun v H1 => ∃ n : Nat, v = .int n ∧ n < 2 ^ 62 ∧ ∃ Pv : Nat → L2.St → Hp → Prop, Pv 0 σ H1 ∧ (∀ k σ H, k < n → Pv k σ H → wL X body ⟨Pv (k + 1), rt, nx, Pv (k + 1)⟩ (σ.set i (some (.int (k : Int)))) H) ∧ ∀ σ H, Pv n σ H → nx σ H)
    (I : In X N G sc := by assumption) (hA : At N i x := by repeat (first | with_reducible apply At.z | with_reducible apply At.s))
    (hG : At G g ("range" : Str) := by repeat (first | with_reducible apply At.z | with_reducible apply At.s)) (hs : starEach [a] X.env = [(false, eval a X.env)] := by rfl) (hs2 : ∀ z, foldedSetIterable (.Call (.Name "range" p) [a] [] cp) X.env z = pure z := by intro _; rfl)
    (hs1 : starEach (a :: []) X.env = (false, eval a X.env) :: starEach [] X.env := by rfl) :
    wS X (.For (.Name x px) (.Call (.Name "range" p) [a] [] cp) body [] pos) ⟨nx, rt, bk, ct⟩ σ H := by
  refine s_of (L2H.ps_forH I.never hot (L2H.pi_range1H (I.g hG) hm (pa_cons pe pa_nil hs1) hs) (pg_name I.nd (I.hi hA) (I.loc hA) I.f) pl hs2) (e_mono q fun v H1 q1 => ?_)
  obtain ⟨n, rfl, hn, Pv, h0, hb, hd⟩ := q1
  refine ⟨(n : Int), rfl, by omega, by omega, ?_⟩
  rw [Int.toNat_natCast]
  refine for_range (n := n) Pv h0 (fun k σ H hk p => ?_) hd
  rw [Int.zero_add]
  exact hb k σ H hk p
/-- a def with one keyword-only parameter kw and its default d, that may raise -/
structure FnKw (P : Program) (w : World) (K : PySem.W.Frag) (mg : Str → Option Value) (base : Heap) (k : Nat) (x kw : Str) (m : Nat) (d : L2.V) (sp : Sp) : Prop where
  ex : ∃ (f : Addr) (fd : FuncData) (ps : List Str), FnOk P w K mg base (L2N.CX P w) k f fd ps sp ∧ mg x = some (.ref f) ∧ PySem.W.keepIn K (.ref f) = true ∧ (∃ ds, Vals [d] ds ∧ Binds K fd ps ds) ∧ ∃ g, KBn K fd ps m [kw] g (fun vs zs => vs ++ zs)
theorem e_callD {g k n m : Nat} {x kw : Str} {d : L2.V} {sp : Sp} {W : WX} (F : FnKw X.prog X.w X.K X.mg X.base k x kw m d sp) (tk : L2N.Takes X W) (hr : Room n X.A) (hk : k ≤ n) (q : wA X (e :: es) σ H fun vs H1 => sp (vs ++ [d]) H1 Q (fun cls d H' => W cls d σ H'))
    (I : In X N G sc := by assumption) (hG : At G g x := by repeat (first | with_reducible apply At.z | with_reducible apply At.s)) (he : starEach (e :: es) X.env = (false, eval e X.env) :: starEach es X.env := by rfl) (hpl : (backTo pos (starEach es X.env)).any (·.1) = false := by rfl) :
    wE X (.Call (.Name x p0) (e :: es) [] pos) σ H Q := by
  obtain ⟨f, fd, ps, F0, hm, hkp, ⟨ds, hd, hb⟩, _⟩ := F.ex
  exact e_of (pe_callSD (E := fun σ cls d H' => W cls d σ H') F0 (hr.mono hk) (I.g hG) hm hkp hb hd (fun σ => L2N.passAt tk σ) pa (I.gd hG) he hpl) q
theorem e_callK {g k n m : Nat} {x kw : Str} {d : L2.V} {sp : Sp} {W : WX} (F : FnKw X.prog X.w X.K X.mg X.base k x kw m d sp) (tk : L2N.Takes X W) (hr : Room n X.A) (hk : k ≤ n) (q : wA X (e :: es) σ H fun vs H1 => wE X v σ H1 fun z H2 => vs.length = m ∧ sp (vs ++ [z]) H2 Q (fun cls d H' => W cls d σ H'))
    (I : In X N G sc := by assumption) (hG : At G g x := by repeat (first | with_reducible apply At.z | with_reducible apply At.s))
    (hall : (backToKw pos (keywordEach [⟨some kw, v, kpos⟩] X.env)).all (·.1.isSome) = true := by rfl) (hks : (backToKw pos (keywordEach [⟨some kw, v, kpos⟩] X.env)).filterMap (·.1) = [kw] := by rfl)
    (he : starEach (e :: es) X.env = (false, eval e X.env) :: starEach es X.env := by rfl) (hpl : ((backTo pos (starEach (e :: es) X.env)).any (·.1) || (backToKw pos (keywordEach [⟨some kw, v, kpos⟩] X.env)).any (·.1.isNone)) = false := by rfl) :
    wE X (.Call (.Name x p0) (e :: es) [⟨some kw, v, kpos⟩] pos) σ H Q := by
  obtain ⟨f, fd, ps, F0, hm, hkp, _, g0, hb⟩ := F.ex
  unfold wE
  intro pins s I0
  refine wpAny_Call_Name_kw (ld_glob I0 (I.g hG) hm ?_ (I.gd hG))
  refine PySem.W.callWith_KW (h₀ := X.base) I0.ok.mod.kin hkp hall (thn (pa.run pos pins s σ H _ I0 q) fun us s1 ⟨vs, H1, I1, r, q1⟩ => ?_) hpl he
  refine thn ((pk_cons pe pk_nil).run pos pins s1 σ H1 (fun zs H2 => ∃ z, zs = [z] ∧ vs.length = m ∧ sp (vs ++ [z]) H2 Q (fun cls d H' => W cls d σ H')) I1 (e_mono q1 fun z H2 z2 => ⟨z, rfl, z2⟩)) fun ws s2 ⟨zs, H2, I2, rz, z, ez, l1, q2⟩ => ⟨I2.kIn, ?_⟩
  subst ez
  rw [hks]
  have r2 := hb.rel r rz
  have l2 : ws.length = [kw].length := rz.length.symm
  refine wpAny_call (codeAny_mono (F0.run X.A X.stack s2 H2 ⟨us, [kw].zip ws⟩ (g0 us ws) (vs ++ [z]) Q (fun cls d H' => W cls d σ H') (hr.mono hk) I2.env0 (hb.to s2 us ws I2.kIn (r.length.symm.trans l1) l2) r2 q2) fun r s' hq => ?_)
  cases r with
  | error e => exact L2N.passAt tk σ pins H2 s2 e s' I2 hq
  | ok fl =>
    cases fl with
    | ret u => exact I2.after hq
    | next => exact False.elim hq
    | brk => exact False.elim hq
    | cont => exact False.elim hq
/-- o.insert(0, v) and its like -/
theorem e_ins {i : Expr} (q : wE X o σ H fun x H1 => ∃ l xs0, x = .ref l ∧ SqL X.K H1 l xs0 ∧ wE X i σ H1 fun j H2 => wE X e σ H2 fun y H3 => ∃ n : Int, ∃ xs, j = .int n ∧ H3 l = some (.lst xs) ∧ xs.length < sizeLine ∧ 0 ≤ n ∧ n < 2 ^ 63 ∧ Q .non (upd H3 l (.lst (xs.take n.toNat ++ [y] ++ xs.drop n.toNat))))
    (hbase : attributeBase o "insert" X.env (eval o X.env) = eval o X.env := by rfl)
    (hfew : ((backTo pos (starEach (i :: [e]) X.env)).all (fun x => !x.1) && (backToKw pos (keywordEach [] X.env)).all (fun x => x.1.isSome)
      && decide ((i :: [e]).length + ([] : List Keyword).length + (if ([] : List Keyword).isEmpty then 0 else 1) < 30)) = true := by rfl)
    (hline : (apos.endLine == pos.line) = true := by rfl) (hs : starEach (i :: [e]) X.env = (false, eval i X.env) :: starEach [e] X.env := by rfl) (hs2 : starEach (e :: []) X.env = (false, eval e X.env) :: starEach [] X.env := by rfl) (hplain : (backTo pos (starEach [e] X.env)).any (·.1) = false := by rfl) :
    wE X (.Call (.Attribute o "insert" apos) [i, e] [] pos) σ H Q := by
  refine e_of (pe_bm PySem.F.plainAttrs_list PySem.F.slot_list_insert PySem.F.type_list_insert mt_insert pe (pa_cons pe (pa_cons pe pa_nil hs2) hs) hbase hfew hline hs hplain) (e_mono q fun x H1 z => ?_)
  obtain ⟨l, xs0, rfl, hl, z⟩ := z
  refine ⟨.inl ⟨rfl, _, hl⟩, e_mono z fun j H2 z2 => e_mono z2 fun y H3 z3 => ?_⟩
  obtain ⟨n, xs, rfl, h1, h2, h3, h4, h5⟩ := z3
  exact ⟨l, xs, n, y, rfl, rfl, h1, h2, h3, h4, h5⟩
end
end Wk
namespace Wk
open PySem PySem.Spec PyProof.Rows L2
section
variable {X : Cx} {N G : List Str} {sc : Scope} {a b e v o i : Expr} {es : List Expr} {σ : L2.St} {H : Hp} {Q : VK} {QT : Bool → Hp → Prop} {pos p0 p2 apos : Pos}
theorem t_tru (q : wE X a σ H fun x H' => ∃ k, TruV X.K x H' k ∧ QT k H') (he : ∀ whole, isTrue a X.env whole = (do let v ← whole; standAt a.pos; holding [v] (truthy v)) := by intro _; rfl) : wT X a σ H QT := t_of (pt_truth pe he) q
theorem tru_l {K : PySem.W.Frag} {l : Addr} {xs : List L2.V} (h : H l = some (.lst xs)) : TruV K (.ref l) H (!xs.isEmpty) := .inl ⟨xs, SqL.of h, rfl⟩
/-- o.pop() -/
theorem e_pop (q : wE X o σ H fun x H1 => ∃ l xs y, x = .ref l ∧ H1 l = some (.lst (xs ++ [y])) ∧ Q y (upd H1 l (.lst xs)))
    (hbase : attributeBase o "pop" X.env (eval o X.env) = eval o X.env := by rfl) (hline : (apos.endLine == pos.line) = true := by rfl) : wE X (.Call (.Attribute o "pop" apos) [] [] pos) σ H Q := by
  refine e_of (pe_bm0 PySem.F.plainAttrs_list PySem.F.slot_list_pop PySem.F.type_list_pop mt_pop pe hbase hline) (e_mono q fun x H1 z => ?_)
  obtain ⟨l, xs, y, rfl, h1, h2⟩ := z
  refine ⟨.inl ⟨rfl, _, SqL.of h1⟩, l, _, y, rfl, rfl, h1, by simp, ?_⟩
  rw [List.dropLast_concat]
  exact h2
theorem e_slL0 {r : L2.V → Option Int → Option Int → Hp → VK → Prop} (hr : SlR X r) (q : wE X e σ H fun x H1 => wE X a σ H1 fun y H2 => ∃ j, y = .int j ∧ r x (some j) none H2 Q) : wE X (.Subscript e (.Slice (some a) none none p2) pos) σ H Q :=
  e_of (pe_slice hr pe (po_some pe) po_none) (e_mono q fun x H1 z => e_mono z fun y H2 ⟨j, e, z2⟩ => ⟨j, e, z2⟩)
theorem e_slL1 {r : L2.V → Option Int → Option Int → Hp → VK → Prop} (hr : SlR X r) (q : wE X e σ H fun x H1 => wE X b σ H1 fun y H2 => ∃ j, y = .int j ∧ r x none (some j) H2 Q) : wE X (.Subscript e (.Slice none (some b) none p2) pos) σ H Q :=
  e_of (pe_slice hr pe po_none (po_some pe)) (e_mono q fun x H1 z => e_mono z fun y H2 ⟨j, e, z2⟩ => ⟨j, e, z2⟩)
theorem s_dput {nx : L2.St → Hp → Prop} {rt : VK} {bk ct : L2.St → Hp → Prop} {pos' : Pos} (hu : X.A.units + 1 < cLine) (q : wE X v σ H fun v H1 => wE X o σ H1 fun x H2 => wE X i σ H2 fun y H3 => ∃ a H4, x = .ref a ∧ DPut H3 a y v H4 ∧ nx σ H4)
    (hs : swapsWith v (some (.Subscript o i pos')) pos.line X.env = pure false := by rfl) : wS X (.Assign [.Subscript o i pos'] v pos) ⟨nx, rt, bk, ct⟩ σ H := s_of (ps_dput hu pe pe pe hs) q
theorem c_listD {p : Addr} {kvs : List (Key × L2.V)} (hc : X.calm = true) (h : H p = some (.dK kvs)) (q : ∀ l H2, Same H H2 → H2 l = some (.lst (kvs.map fun kv => kV kv.1)) → Q (.ref l) H2) : wC X (.type "list") [.ref p] H Q :=
  c_of (call_list_dK hc) ⟨p, kvs, rfl, h, fun l np => q l _ (fun c u eo => by rw [upd_ne (ne_of_none eo np)]; exact eo) upd_same⟩
theorem c_listL {p : Addr} {xs : List L2.V} (h : H p = some (.lst xs)) (q : ∀ l H2, Same H H2 → H l = none → H2 l = some (.lst xs) → Q (.ref l) H2) : wC X (.type "list") [.ref p] H Q :=
  c_of call_list_of ⟨p, xs, rfl, .inl (SqL.of h), fun l np => q l _ (fun c u eo => by rw [upd_ne (ne_of_none eo np)]; exact eo) np upd_same⟩
end
end Wk
namespace Wk
open PySem PySem.Spec PyProof.Rows L2
section
variable {X : Cx} {c e : Expr} {body : List Stmt} {σ : L2.St} {H : Hp} {pos : Pos} {N G : List Str} {sc : Scope}
theorem s_whileN {nx : L2.St → Hp → Prop} {rt : VK} {bk ct : L2.St → Hp → Prop} (Pv : Nat → L2.St → Hp → Prop) (n0 : Nat) (h0 : Pv n0 σ H)
    (hs : ∀ n σ H, Pv n σ H → wT X c σ H fun b H1 => if b = true then wL X body ⟨fun σ' H' => ∃ m, m < n ∧ Pv m σ' H', rt, nx, fun σ' H' => ∃ m, m < n ∧ Pv m σ' H'⟩ σ H1 else nx σ H1)
    (I : In X N G sc := by assumption) : wS X (.While c body [] pos) ⟨nx, rt, bk, ct⟩ σ H := by
  refine s_of (ps_while I.never pt pl) ⟨Pv, ⟨n0, h0⟩, fun n σ H p => ?_⟩
  refine t_mono (hs n σ H p) fun b H1 q => ?_
  cases b with
  | true => exact ⟨fun σ' H' => ∃ m, m < n ∧ Pv m σ' H', fun σ' H' z => z, q⟩
  | false => exact q
end
end Wk
namespace Wk
open PySem PySem.Spec PyProof.Rows L2
/-- a block with two own names -/
structure BkOk2 (N : List Str) (V : List (Nat × Str)) (G : List Str) (i j : Nat) (x y : Str) (sc scope : Scope) : Prop where
  lo : ∀ p ∈ V, N[p.1]? = some p.2 ∧ Vis (relS scope sc) p.2 ∧ (p.2 == ("__debug__" : Str)) = false ∧ (p.2 == ("__classdict__" : Str)) = false
  gl : ∀ x ∈ G, (relS scope sc).names.lookup x = some .globalImplicit ∧ (x == ("__debug__" : Str)) = false ∧ x ≠ "__name__"
  own : N[i]? = some x ∧ (relS scope sc).names.lookup x = some .local
  own2 : N[j]? = some y ∧ (relS scope sc).names.lookup y = some .local
  ne : i ≠ j
  blk : blkC N sc scope [(x, i), (y, j)] = true
section
variable {X : Cx} {e a b c elt : Expr} {es rest : List Expr} {σ : L2.St} {H : Hp} {Q : VK} {pos p0 : Pos} {N G G' : List Str} {Vn : List (Nat × Str)} {sc scope : Scope}
theorem BkOk2.inB {i j : Nat} {x y : Str} (B : BkOk2 X.N Vn G' i j x y sc scope) (I : In X N G sc) (s : Shared) (H : Hp) (C : Addr) (cl : List (Str × Addr)) (fp : List Addr) : InB (Bk X s H scope C cl fp) Vn G' := by
  have e : (compEnvC scope cl C X.env).scope = relS scope sc := rel_eq I.sc C cl
  refine ⟨I.nd, fun p hp => ?_, fun y hy => ?_⟩
  · obtain ⟨h1, h2, h3, h4⟩ := B.lo p hp
    exact ⟨h1, by show Vis (compEnvC scope cl C X.env).scope p.2; rw [e]; exact h2, h3, h4⟩
  · obtain ⟨h1, h2, h3⟩ := B.gl y hy
    exact ⟨by show (compEnvC scope cl C X.env).scope.names.lookup y = _; rw [e]; exact h1, h2, h3⟩
def gT2 (K : PySem.W.Frag) (i j : Nat) : TG := fun v σ H Q => ∃ a u w, v = .ref a ∧ SqT K H a [u, w] ∧ Q ((σ.set i (some u)).set j (some w)) H
theorem BkOk2.pg {i j : Nat} {x y : Str} {px py pt : Pos} {k : Nat} (B : BkOk2 X.N Vn G' i j x y sc scope) (hc : X.calm = true) (I : In X N G sc) (s : Shared) (H : Hp) (C : Addr) (cl : List (Str × Addr)) (fp : List Addr) : PG (Bk X s H scope C cl fp) (.Tuple [.Name x px, .Name y py] k pt) (gT2 X.K i j) := by
  have e : (compEnvC scope cl C X.env).scope = relS scope sc := rel_eq I.sc C cl
  have l : (Bk X s H scope C cl fp).env.scope.names.lookup x = some .local := by
    show (compEnvC scope cl C X.env).scope.names.lookup x = _
    rw [e]
    exact B.own.2
  have l2 : (Bk X s H scope C cl fp).env.scope.names.lookup y = some .local := by
    show (compEnvC scope cl C X.env).scope.names.lookup y = _
    rw [e]
    exact B.own2.2
  refine ⟨fun pins s σ H v u Q I0 r h => ?_⟩
  obtain ⟨ad, u1, w1, rfl, hq, q⟩ := h
  exact (pg_tup (X := Bk X _ _ scope C cl fp) hc (pgs_cons (pg_name I.nd B.own.1 (.inl l) (.inr l)) (pgs_cons (pg_name I.nd B.own2.1 (.inl l2) (.inr l2)) pgs_nil))).run pins s σ H _ u Q I0 r ⟨ad, [u1, w1], rfl, hq, rfl, u1, [w1], rfl, w1, [], rfl, rfl, q⟩
theorem BkOk2.ok {i j : Nat} {x y : Str} (B : BkOk2 X.N Vn G' i j x y sc scope) (I : In X N G sc) : BlkOk X.N X.env.scope scope [(x, i), (y, j)] := by
  rw [I.sc]
  exact blkOk_by B.blk
theorem wipe2 (σ : L2.St) (i j : Nat) : wipe σ [i, j] = (σ.set j none).set i none := rfl
theorem wipe_set2 (σ : L2.St) {i j : Nat} (h : i ≠ j) (u w : L2.V) : wipe (((wipe σ [i, j]).set i (some u)).set j (some w)) [i, j] = wipe σ [i, j] := by
  rw [wipe2, wipe2]
  apply List.ext_getElem?
  intro k
  by_cases h1 : i = k
  · subst h1
    simp [List.getElem?_set, h.symm]
  · by_cases h2 : j = k
    · subst h2
      simp [List.getElem?_set, h1]
    · simp [List.getElem?_set, h1, h2]
/-- [elt for x, y in a], a list of pairs -/
def LcL2 (X : Cx) (Vn : List (Nat × Str)) (G' : List Str) (elt : Expr) (scope : Scope) (i j : Nat) (ad : Addr) (xs : List L2.V) (D : Addr) (σ : L2.St) (H1 : Hp) (Qd : Hp → Prop) : Prop := ∃ Pv : Nat → Hp → Prop, Pv 0 (upd H1 D (.lst [])) ∧ (∀ k H2, k ≤ xs.length → Pv k H2 → SqL X.K H2 ad xs) ∧
  (∀ k x H2, xs[k]? = some x → Pv k H2 → ∃ t u w, x = .ref t ∧ SqT X.K H2 t [u, w] ∧ ∀ s0 H0 C cl fp, InB (Bk X s0 H0 scope C cl fp) Vn G' → wE (Bk X s0 H0 scope C cl fp) elt (((wipe σ [i, j]).set i (some u)).set j (some w)) H2 fun y H4 => ∃ acc, H4 D = some (.lst acc) ∧ acc.length < sizeLine ∧ Pv (k + 1) (upd H4 D (.lst (acc ++ [y])))) ∧
  ∀ H2, Pv xs.length H2 → Qd H2
theorem pe_bk2 {i j : Nat} {x y : Str} {s0 : Shared} {H0 : Hp} {C : Addr} {cl : List (Str × Addr)} {fp : List Addr} (I : InB (Bk X s0 H0 scope C cl fp) Vn G') : PE (Bk X s0 H0 scope C cl fp) elt (wBk X Vn G' elt scope) := pe_bk I
theorem lcL2_of {i j : Nat} (hij : i ≠ j) {ad : Addr} {xs : List L2.V} {D : Addr} {H1 : Hp} {Qd : Hp → Prop} (q : LcL2 X Vn G' elt scope i j ad xs D σ H1 Qd) : ∃ W : Nat → Nat → Hp → Prop, (∃ m, W 0 m (upd H1 D (.lst []))) ∧ ∀ k m H, W k m H →
    ((Itl X.K ad).stop k H ∧ Qd H) ∨ ((Itl X.K ad).go k H ∧ ∃ Nx : Hp → Prop, (∀ H', Nx H' → ∃ m', m' < m ∧ W (k + 1) m' H') ∧ ∀ x H', (Itl X.K ad).yld k H x H' → gT2 X.K i j x (wipe σ [i, j]) H' fun σ2 H2 => wipe σ2 [i, j] = wipe σ [i, j] ∧ tYes σ2 H2 fun b H3 =>
      if b = true then wBk X Vn G' elt scope σ2 H3 fun y H4 => ∃ acc, H4 D = some (.lst acc) ∧ acc.length < sizeLine ∧ Nx (upd H4 D (.lst (acc ++ [y]))) else Nx H3) := by
  obtain ⟨Pv, h0, hl, hs, hd⟩ := q
  refine lc_list Pv h0 hl (fun k x H hk p => ?_) hd
  obtain ⟨t, u, w, rfl, hq, z⟩ := hs k x H hk p
  refine ⟨t, u, w, rfl, hq, wipe_set2 σ hij u w, ?_⟩
  unfold tYes
  refine iteT ?_
  unfold wBk
  intro s0 H0 C cl fp I
  exact z s0 H0 C cl fp I
theorem e_lcL2 {i j : Nat} {x y : Str} {px py pt : Pos} {kt : Nat} (B : BkOk2 X.N Vn G' i j x y sc scope)
    (q : wE X a σ H fun v H1 => ∃ ad xs, v = .ref ad ∧ SqL X.K H1 ad xs ∧ ∀ D, H1 D = none → LcL2 X Vn G' elt scope i j ad xs D σ H1 fun H2 => Q (.ref D) H2)
    (I : In X N G sc := by assumption) (hc : X.calm = true := by rfl) (hs2 : ∀ z, foldedSetIterable a X.env z = pure z := by intro _; rfl) :
    wE X (.ListComp elt [⟨.Tuple [.Name x px, .Name y py] kt pt, a, [], 0⟩] scope pos) σ H Q := by
  refine e_of (pe_lc (own := [(x, i), (y, j)]) (g := gT2 X.K i j) (tt := tYes) (te := wBk X Vn G' elt scope) hc I.nd (pi_list pe) (B.ok I) (fun s H C cl fp => B.pg hc I s H C cl fp) (fun _ _ _ _ _ => pts_nil) (fun s H C cl fp => pe_bk (B.inB I s H C cl fp)) hs2) (e_mono q fun v H1 q1 => ?_)
  obtain ⟨ad, xs, rfl, hl, q2⟩ := q1
  exact ⟨ad, rfl, ⟨xs, hl⟩, fun D hD => lcL2_of B.ne (q2 D hD)⟩
end
end Wk
namespace Wk
open PySem PySem.Spec PyProof.Rows L2
section
variable {P : Program} {w : World} {K : PySem.W.Frag} {mg : Str → Option Value} {base : Heap}
/-- a def of the module with one keyword-only default -/
structure TopK (K : PySem.W.Frag) (mg : Str → Option Value) (x : Str) (st : Stmt) (kw : Str) (d : L2.V) : Prop where
  ex : ∃ (f : Addr) (fd : FuncData), FunD K x x (defArgs st) (defBody st) (defScope st) [] [(kw, d)] f fd ∧ mg x = some (.ref f)
theorem topK_mk {h : Heap} {x kw : Str} {d : L2.V} {u : Value} {st : Stmt} {f D : Addr} {oc : Value} {od an : Option Addr} {osl : Array (Option Value)} {doc pm cdv ct : Value} (X : K.In h) (G : h.Ns mainGlobals mg) (a : PySem.W.nsIn K mainGlobals x = some (some (.ref f)))
    (l : K.lookup f = some ⟨oc, od, .func (PySem.W.fnOf x x (defArgs st) (defBody st) (defScope st) .none (.ref D) doc pm an cdv ct), osl⟩) (c : PySem.W.codeIn K cdv x = true) (k : PySem.W.keepIn K (.ref f) = true)
    (hd : PySem.W.nsIn K D kw = some (some u)) (r : RelV d u) : TopK K mg x st kw d :=
  ⟨f, _, ⟨⟨oc, od, .none, .ref D, doc, pm, an, cdv, ct, osl, rfl, l, c, .inl ⟨rfl, rfl⟩, .inr ⟨D, rfl, fun q hq => by
    simp only [List.mem_singleton] at hq
    subst hq
    exact ⟨u, hd, r⟩⟩⟩, k⟩, PySem.W.mg_of X G a⟩
theorem fn_okKw {x kw : Str} {d : L2.V} {st : Stmt} {N G : List Str} {p1 p2 : Str} {k : Nat} {sp : Sp} (T : TopK K mg x st kw d) (S : FnScope N [p1, p2, kw] (defScope st)) (O : ScOk N G (defScope st)) (len : ∀ vs H Q E, sp vs H Q E → vs.length = 3)
    (hb : ∀ (D : Addr) (doc pm : Value) (an : Option Addr) (cdv ct : Value) (a b u : Value), KwChain D [(kw, u)] (bindArgs (PySem.W.fnOf x x (defArgs st) (defBody st) (defScope st) .none (.ref D) doc pm an cdv ct) ⟨[a, b], []⟩) [(p1, a), (p2, b), (kw, u)])
    (hb2 : ∀ (kV doc pm : Value) (an : Option Addr) (cdv ct : Value) (a b u : Value), bindArgs (PySem.W.fnOf x x (defArgs st) (defBody st) (defScope st) .none kV doc pm an cdv ct) ⟨[a, b], [(kw, u)]⟩ = pure [(p1, a), (p2, b), (kw, u)])
    (hbody : ∀ (f : Addr) (cdv : Value) (A : Around) (outer : List Env) (s : Shared) (H : Hp) (vs : List L2.V) (Q : VK) (E : XK), Room k (A.deeper (envOfC x (defScope st) s.heap.objs.size f cdv)) → sp vs H Q E → In (cxOf (L2N.CX P w) P w K mg base N x (defScope st) f cdv A outer s H E) N G (defScope st) →
      L2N.Takes (cxOf (L2N.CX P w) P w K mg base N x (defScope st) f cdv A outer s H E) (fun cls d _ H => E cls d H) →
      wL (cxOf (L2N.CX P w) P w K mg base N x (defScope st) f cdv A outer s H E) (defBody st) { nx := fun _ H' => Q .non H', rt := Q } (start N vs) H) : FnKw P w K mg base (k + 1) x kw 2 d sp := by
  obtain ⟨f, fd, F, hm⟩ := T.ex
  have hbd := FunD.binds0 (ps := [p1, p2, kw]) F 2 (by simp) rfl (fun D doc pm an cdv ct us ks l1 l2 => by
    match us, ks, l1, l2 with
    | [a, b], [u], _, _ => exact hb D doc pm an cdv ct a b u)
  obtain ⟨oc, od, dV, kV, doc, pm, an, cdv, ct, osl, rfl, lk, hcd, hD, hK⟩ := id F.ex
  obtain rfl : dV = .none := by
    rcases hD with ⟨_, h⟩ | ⟨h, _⟩
    · exact h
    · exact absurd rfl h
  refine ⟨f, _, [p1, p2, kw], fn_of lk hcd S len (fun A outer s H vs Q E hr h => ⟨_, pl, hbody f cdv A outer s H vs Q E hr h ⟨O, ⟨[], (List.append_nil _).symm⟩, S.nd, rfl, rfl, passes_of rfl⟩ (L2N.takes_of rfl rfl rfl rfl)⟩), hm, F.kp, ?_, fun us ws => us ++ ws, ⟨fun s us ws _ l1 l2 => ?_, fun r1 r2 => r1.append r2⟩⟩
  · obtain ⟨ds, h1, h2⟩ := hbd
    exact ⟨ds, h1, h2⟩
  · match us, ws, l1, l2 with
    | [a, b], [u], _, _ => exact .of_eq (hb2 kV doc pm an cdv ct a b u)
end
end Wk

set_option maxHeartbeats 4000000
/-! My own layer: sorted(set(xs)) of a list of texts. -/
namespace Wk
open PySem PySem.Spec PyProof.Rows L2
/-- one more text, if it is new -/
def addL (l : List Str) (z : Str) : List Str := if z ∈ l then l else l ++ [z]
def txE (e : Int × Value) : Str := strOf e.2
def TxE (w : World) (e : Int × Value) : Prop := ∃ z tk, e.2 = Value.str z tk ∧ e.1 = hashStr w z
/-- the set of the texts L -/
def SetTx (w : World) (h : Heap) (a : Addr) (L : List Str) : Prop :=
  ∃ ob es ep tb, h.get? a = some ob ∧ ob.ExactSet ∧ ob.data = .set es ep tb ∧ (∀ e ∈ es.toList, TxE w e) ∧ (es.toList.map txE).Perm L ∧ L.Nodup ∧
    es.size < scanBound ∧ tb.fits es.size = true ∧ Ris tb.place.toList ∧ (w.params.followText "set-order" = true ∨ tb.led = true)
section
variable {P : Program} {w : World} {h h' : Heap} {a : Addr} {L : List Str}
theorem SetTx.moves (R : SetTx w h a L) (k : ∀ o, h.get? a = some o → h'.get? a = some o) : SetTx w h' a L := by
  obtain ⟨ob, es, ep, tb, g1, rest⟩ := R
  exact ⟨ob, es, ep, tb, k ob g1, rest⟩
theorem tx_elems {l : List (Int × Value)} (g : ∀ e ∈ l, TxE w e) : ElemsOf (PySem.strKind P w) l := fun e m => by
  obtain ⟨z, tk, e1, e2⟩ := g e m
  refine ⟨⟨z, by rw [e1]; exact strKind_is P w z tk, e2⟩, ?_⟩
  rw [e1]
  rfl
theorem tx_is {e : Int × Value} (g : TxE w e) (z : Str) : (PySem.strKind P w).is z e.2 = true ↔ txE e = z := by
  obtain ⟨y, tk, e1, _⟩ := g
  have e2 : txE e = y := by unfold txE; rw [e1]; rfl
  rw [e2, e1]
  constructor
  · intro q
    obtain ⟨u, eu⟩ := Value.isStrOf_shape (x := z) (show Value.isStrOf z (.str y tk) = true from q)
    injection eu
  · rintro rfl
    exact strKind_is P w y tk
theorem tx_mem {l : List (Int × Value)} (g : ∀ e ∈ l, TxE w e) (z : Str) : z ∈ l.map txE ↔ ∃ e ∈ l, (PySem.strKind P w).is z e.2 = true := by
  rw [List.mem_map]
  exact ⟨fun ⟨e, m, q⟩ => ⟨e, m, (tx_is (g e m) z).2 q⟩, fun ⟨e, m, q⟩ => ⟨e, m, (tx_is (g e m) z).1 q⟩⟩
theorem tx_fresh (ho : h.get? a = some { cls := .type "set", dict := none, data := .set #[] 0 (.fresh 0 0 (!w.params.followText "set-order")) }) : SetTx w h a [] := by
  refine ⟨_, #[], 0, _, ho, ⟨rfl, rfl, rfl⟩, rfl, (fun e m => by simp at m), .refl _, List.nodup_nil, by decide, rfl, List.Pairwise.nil, ?_⟩
  show _ ∨ (!w.params.followText "set-order") = true
  cases w.params.followText "set-order" with
  | false => exact .inr rfl
  | true => exact .inl rfl
end
section
variable {P : Program} {w : World} {A : Around} {E : Value → Shared → Prop} {s : Shared} {a : Addr} {L : List Str}
theorem tx_tail {g : Bool → Sem Unit} (hg : ∀ (b : Bool) (s1 : Shared) (Q1 : Unit → Shared → Prop), Q1 () s1 → wpAny (model P w) A (g b) Q1 E s1)
    {ob : Obj} {es : Array (Int × Value)} {ep : Nat} {tb : SetTable} (g0 : s.heap.get? a = some ob) (gx : ob.ExactSet) (gd : ob.data = .set es ep tb)
    {fs : Array (Int × Value)} {t2 : SetTable} {M : List Str} (g1 : ∀ e ∈ fs.toList, TxE w e) (pm1 : (fs.toList.map txE).Perm M) (nd1 : M.Nodup)
    (b1 : fs.size < scanBound) (f1 : t2.fits fs.size = true) (r1 : Ris t2.place.toList) (l1 : w.params.followText "set-order" = true ∨ t2.led = true) {wd : Bool} {R : Option Bool → Shared → Prop}
    (hR : ∀ h1, Heap.SameBut a s.heap h1 → SetTx w h1 a M → R (some true) { s with heap := h1 }) :
    wpAny (model P w) A (do
        storeSet a fs t2
        if (!wd && t2.tooFull) = true then do
            g (relayAll t2 fs (SetTable.grown fs.size)).2.2
            storeSet a (relayAll t2 fs (SetTable.grown fs.size)).1 (relayAll t2 fs (SetTable.grown fs.size)).2.1
            pure (some true)
          else pure (some true)) R E s := by
  refine wpAny_bind (wpAny_storeSet_of g0 gd ?_ (fits_of_scanBound b1))
  have g02 := store_at (es' := fs) (t' := t2) g0 gd
  have sb := Heap.SameBut.update s.heap a (Obj.putSet fs t2)
  split
  · have pm := relayAll_perm t2 fs (SetTable.grown fs.size)
    have f3 := relayAll_fits t2 fs (SetTable.grown fs.size)
    have r3 := relayAll_ris t2 fs (SetTable.grown fs.size)
    have l3 := relayAll_led t2 fs (SetTable.grown fs.size)
    generalize relayAll t2 fs (SetTable.grown fs.size) = Z at pm f3 r3 l3 ⊢
    obtain ⟨gs, t3, gave⟩ := Z
    dsimp only at pm f3 r3 l3 ⊢
    have zs : gs.size = fs.size := by rw [← Array.length_toList, pm.length_eq, Array.length_toList]
    have b2 : gs.size < scanBound := zs ▸ b1
    refine wpAny_bind (hg _ _ _ (wpAny_bind (wpAny_storeSet_of g02 rfl ?_ (fits_of_scanBound b2))))
    have g03 := store_at (es' := gs) (t' := t3) g02 rfl
    refine wpAny_pure (hR _ (sb.trans (Heap.SameBut.update _ a _)) ⟨_, gs, _, t3, g03, gx, rfl, fun e m => g1 e (pm.mem_iff.mp m), (pm.map txE).trans pm1, nd1, b2, f3, r3, ?_⟩)
    rw [l3]
    exact l1
  · exact wpAny_pure (hR _ sb ⟨_, fs, _, t2, g02, gx, rfl, g1, pm1, nd1, b1, f1, r1, l1⟩)
theorem addL_in {z : Str} (m : z ∈ L) : addL L z = L := if_pos m
theorem addL_new {z : Str} (m : z ∉ L) : addL L z = L ++ [z] := if_neg m
theorem tx_add {z : Str} {tk : Tok} {Q : Bool → Shared → Prop} (R : SetTx w s.heap a L) (room : L.length + 1 < scanBound)
    (hQ : ∀ (b : Bool) h1, Heap.SameBut a s.heap h1 → SetTx w h1 a (addL L z) → Q b { s with heap := h1 }) :
    wpAny (model P w) A (setAddHashed a (.str z tk) ((PySem.strKind P w).hash z)) Q E s := by
  obtain ⟨ob, es, ep, tb, g0, gx, gd, g, pm0, nd, bb, ff, rr, ll⟩ := R
  have hkey : (PySem.strKind P w).is z (.str z tk) = true := strKind_is P w z tk
  have hsc : (Value.str z tk).scannable = true := rfl
  have hel : ElemsOf (PySem.strKind P w) es.toList := tx_elems g
  unfold setAddHashed setAddHashedIn
  refine wpAny_holding (wpAny_bind (wpAny_setState_of g0 gd ff ?_))
  dsimp only
  rw [byScan_of hsc bb hel]
  simp only [↓reduceIte]
  unfold setAddByScan
  refine wpAny_bind (wpAny_bind (wpAny_rule (wpAny_bind (wpAny_setScan_of hkey g0 gd ff hel ?_))))
  cases fi : List.findIdx? (fun e => (PySem.strKind P w).is z e.2) es.toList with
  | some j =>
    dsimp only
    obtain ⟨hj, pj, _⟩ := List.findIdx?_eq_some_iff_getElem.mp fi
    have m : z ∈ L := pm0.mem_iff.mp ((tx_mem (P := P) g z).2 ⟨es.toList[j], List.getElem_mem hj, pj⟩)
    refine wpAny_pure (wpAny_pure (hQ _ s.heap (Heap.SameBut.refl a s.heap) ?_))
    rw [addL_in m]
    exact ⟨ob, es, ep, tb, g0, gx, gd, g, pm0, nd, bb, ff, rr, ll⟩
  | none =>
    dsimp only
    have nz : z ∉ L := fun m => by
      obtain ⟨e, me, q⟩ := (tx_mem (P := P) g z).1 (pm0.mem_iff.mpr m)
      have c := List.findIdx?_eq_none_iff.mp fi e me
      rw [q] at c
      cases c
    have hgw : ∀ (b : Bool) {s1 : Shared} {Q1 : Unit → Shared → Prop}, Q1 () s1 → wpAny (model P w) A (match b with | true => rule "set.scan.the-table-gave-way" | false => pure ()) Q1 E s1 :=
      fun b s1 Q1 q => by cases b <;> first | exact wpAny_pure q | exact wpAny_rule q
    have pm := layNew_perm tb es ((PySem.strKind P w).hash z) (.str z tk)
    have f1 := layNew_fits tb es ((PySem.strKind P w).hash z) (.str z tk)
    have r1 := layNew_ris tb es ((PySem.strKind P w).hash z) (.str z tk) rr
    have l1 := layNew_led tb es ((PySem.strKind P w).hash z) (.str z tk)
    generalize layNew tb es ((PySem.strKind P w).hash z) (.str z tk) = Z at pm f1 r1 l1 ⊢
    obtain ⟨fs, t1, wd, gave⟩ := Z
    dsimp only at pm f1 r1 l1 ⊢
    rw [Array.toList_push] at pm
    have pk : (fs.toList.map txE).Perm (addL L z) := by
      rw [addL_new nz]
      refine (pm.map txE).trans ?_
      rw [List.map_append]
      exact pm0.append_right _
    have g1 : ∀ e ∈ fs.toList, TxE w e := fun e m => by
      rcases List.mem_append.mp (pm.mem_iff.mp m) with y | y
      · exact g e y
      · rw [List.mem_singleton.mp y]
        exact ⟨z, tk, rfl, rfl⟩
    have nd1 : (addL L z).Nodup := by
      rw [addL_new nz]
      exact List.nodup_append.mpr ⟨nd, by simp, fun x hx y hy e => by rw [List.mem_singleton] at hy; subst hy; subst e; exact nz hx⟩
    have zs : fs.size = L.length + 1 := by
      have q := pk.length_eq
      rw [addL_new nz, List.length_map, List.length_append, Array.length_toList] at q
      exact q
    have b1 : fs.size < scanBound := by rw [zs]; exact room
    have led : w.params.followText "set-order" = true ∨ t1.led = true := by rw [l1]; exact ll
    refine wpAny_bind (hgw _ ?_)
    split
    · refine wpAny_bind ?_
      rw [hashByValue_scannable 8 hsc]
      refine wpAny_pure (tx_tail ?_ g0 gx gd g1 pk nd1 b1 ?_ ?_ ?_ ?_)
      · intro b s1 Q1 q; cases b <;> first | exact wpAny_pure q | exact wpAny_rule q
      · first | (split <;> first | exact f1 | exact SetTable.fits_plain_off f1) | exact f1
      · first | (split <;> exact r1 rr) | exact r1 rr | (split <;> exact r1) | exact r1
      · first | (split <;> exact led) | exact led
      · intro h1 sb r; dsimp only; exact wpAny_pure (hQ true h1 sb r)
    · refine wpAny_bind (wpAny_pure ?_)
      simp only [↓reduceIte]
      refine tx_tail ?_ g0 gx gd g1 pk nd1 b1 f1 ?_ led ?_
      · intro b s1 Q1 q; cases b <;> first | exact wpAny_pure q | exact wpAny_rule q
      · first | exact r1 | exact r1 rr
      · intro h1 sb r; dsimp only; exact wpAny_pure (hQ true h1 sb r)
end
section
variable {P : Program} {w : World} {A : Around} {E : Value → Shared → Prop} {s : Shared}
def uniqL (zs : List Str) : List Str := zs.foldl addL []
theorem uniqL_snoc (zs : List Str) (z : Str) : uniqL (zs ++ [z]) = addL (uniqL zs) z := by unfold uniqL; rw [List.foldl_append]; rfl
theorem addL_len (l : List Str) (z : Str) : (addL l z).length ≤ l.length + 1 := by unfold addL; split <;> simp
theorem foldL_len : ∀ (zs l : List Str), (zs.foldl addL l).length ≤ l.length + zs.length
  | [], l => by simp
  | z :: zs, l => by
    have h1 := foldL_len zs (addL l z)
    have h2 := addL_len l z
    simp only [List.foldl_cons, List.length_cons]
    omega
theorem uniqL_len (zs : List Str) : (uniqL zs).length ≤ zs.length := by
  have h := foldL_len zs []
  simpa [uniqL] using h
theorem tx_loop {I : Addr} {fp wr : List Addr} {G : Array GenState → Array GenState → Prop} {n : Nat} {Pv : Nat → Value → Prop} {St : Nat → Shared → Prop} {R : Result → Shared → Prop}
    (W : WalksS P w A.in1 I fp wr G n Pv St) (D : Addr) (dfp : D ∉ fp) (zs : List Str) (en : n = zs.length) (hb : zs.length + 1 < scanBound) (hv : ∀ i v, Pv i v → ∃ z t, zs[i]? = some z ∧ v = .str z t) :
    ∀ (k i : Nat) (s : Shared), n - i = k → i ≤ n → St i s → SetTx w s.heap D (uniqL (zs.take i)) →
      (∀ s1, Moved (D :: wr) G s s1 → SetTx w s1.heap D (uniqL zs) → R (.ok (.ret .none)) s1) →
      codeAny (model P w) A (.builtin "set.update.loop" ⟨[.ref D, .ref I], []⟩) R s := by
  have dwr : D ∉ wr := fun m => dfp (W.sub _ m)
  have more : ∀ b ∈ wr, b ∈ D :: wr := fun b m => List.mem_cons_of_mem _ m
  intro k
  induction k with
  | zero =>
    intro i s ek hi st hD hR
    obtain rfl : i = n := by omega
    refine codeAny_builtin PyProof.Rows.F.entry_set_update_loop ?_
    rw [Around.under_plainId PyProof.Rows.F.plain_set_update_loop _]
    show wpAny _ A.in1 (pyNext (.ref I) >>= _) _ _ s
    refine wpAny_bind (W.done s _ _ st fun s1 mv => ?_)
    show wpAny _ A.in1 (ret Value.none) _ _ s1
    rw [List.take_of_length_le (by omega)] at hD
    exact wpAny_pure (hR s1 (mv.mono more) (hD.moves fun o e => mv.heap D o dwr e))
  | succ k ih =>
    intro i s ek hi st hD hR
    have lt : i < n := by omega
    refine codeAny_builtin PyProof.Rows.F.entry_set_update_loop ?_
    rw [Around.under_plainId PyProof.Rows.F.plain_set_update_loop _]
    show wpAny _ A.in1 (pyNext (.ref I) >>= _) _ _ s
    refine wpAny_bind (W.item i s _ _ lt st fun v s1 hp st1 mv => ?_)
    obtain ⟨z, t, hz, rfl⟩ := hv i v hp
    have hD1 : SetTx w s1.heap D (uniqL (zs.take i)) := hD.moves fun o e => mv.heap D o dwr e
    show wpAny _ A.in1 (holding [Value.str z t] (setAdd D (.str z t)) >>= _) _ _ s1
    refine wpAny_bind (wpAny_holding ?_)
    unfold setAdd
    refine wpAny_holding (wpAny_bind ((PySem.strKind P w).pyHash (k := z) (strKind_is _ _ _ _) ?_))
    have hl := uniqL_len (zs.take i)
    rw [List.length_take] at hl
    refine tx_add (s := { s1 with toks := s1.toks + 1 }) hD1 (by omega) fun b h1 sb hD2 => ?_
    rw [← uniqL_snoc, show zs.take i ++ [z] = zs.take (i + 1) by rw [List.take_add_one, hz]; rfl] at hD2
    refine wpAny_pure ⟨plainId_quiet PyProof.Rows.F.plain_set_update_loop _, ih (i + 1) _ (by omega) lt (W.frame _ s1 _ _ st1 (Nat.le_succ _) fun b m o e => ?_) hD2 fun s2 mv2 hD3 => ?_⟩
    · rw [sb.2 b (fun q : b = D => dfp (q ▸ m))]
      exact e
    · refine hR s2 (Moved.trans W.gtrans ((mv.mono more).then_heap (Nat.le_succ _) fun b o m e => ?_) mv2) hD3
      rw [sb.2 b (fun q : b = D => m (by rw [q]; exact List.mem_cons_self))]
      exact e
def freshSet (w : World) : Obj := { cls := .type "set", dict := none, data := .set #[] 0 (.fresh 0 0 (!w.params.followText "set-order")) }
theorem call_setTx {l : Addr} {items : Array Value} (zs : List Str) {Q : Value → Shared → Prop} (hh : A.handled = none) (hl : s.heap.IsList l items) (hit : StrsAre items.toList zs) (hb : zs.length + 1 < scanBound)
    (h : ∀ (h1 : Heap) (tk : Nat), SetTx w h1 s.heap.objs.size (uniqL zs) → (∀ b o, s.heap.get? b = some o → h1.get? b = some o) → Q (.ref s.heap.objs.size) { s with heap := h1, toks := tk }) :
    wpAny (model P w) A (call (.type "set") [.ref l]) Q E s := by
  have hisz : items.size = zs.length := by rw [← StrsAre.len_eq hit, Array.length_toList]
  obtain ⟨c, tl, hmro⟩ := PySem.F.called_set.mro
  have hmade := PySem.F.called_set.made
  have hsub := PySem.F.called_set.sub
  refine wpAny_call (codeAny_of_tree ?_)
  show wpAny _ _ (callAny (.type "set") _) _ _ _
  refine wpAny_pure ⟨Code.quiet_builtin _ (by decide +kernel), codeAny_builtin PySem.F.entry_type_call ?_⟩
  rw [Around.under_plain (weight_type_call_type "set" [.ref l] []) rfl]
  have h1 := PySem.F.called_set.notType
  have h2 := PySem.F.called_set.canCreate
  have hct := PySem.F.typeCall_set_1 (.ref l)
  repeat (any_goals (first | assumption | wp_step))
  refine codeAny_mono (code_set_led1 (.ref l) (E := E) (Q₁ := fun ov s1 => ov = .ref s.heap.objs.size ∧ s1 = { s with heap := s.heap.push (freshSet w) }) ⟨rfl, rfl⟩) fun r s1 hr => ?_
  cases r with
  | error e => exact hr
  | ok fl =>
    cases fl with
    | ret ov =>
      obtain ⟨rfl, rfl⟩ := hr
      have gS : (s.heap.push (freshSet w)).get? s.heap.objs.size = some (freshSet w) := Heap.get?_push_size _ rfl
      have gT : Shared.TypeIs { s with heap := s.heap.push (freshSet w) } (.ref s.heap.objs.size) "set" := ⟨_, gS, rfl⟩
      have hli := PySem.F.called_set.init.lookup
      have hbi := PySem.F.called_set.init.bind (.ref s.heap.objs.size)
      repeat (any_goals (first | assumption | wp_step))
      refine codeAny_mono (codeAny_call_builtin (R := wants (fun r s2 => r = .none ∧ ∃ h1 tk, s2 = { s with heap := h1, toks := tk } ∧ SetTx w h1 s.heap.objs.size (uniqL zs) ∧
          (∀ b o, s.heap.get? b = some o → h1.get? b = some o)) E) PySem.F.called_set.init.plain PySem.F.entry_set_init (check_set_init_1 gT ?_)) fun r2 s2 hr2 => ?_
      · obtain ⟨ol, hol, hcl, nl, hdl⟩ := hl
        obtain ⟨ocls, odict, odata, oslots⟩ := ol
        simp only at hcl hdl
        subst hcl; subst hdl
        have hol1 : (s.heap.push (freshSet w)).get? l = some { cls := .type "list", dict := odict, data := .seq items nl, slots := oslots } := Heap.get?_push_of_some _ hol
        have hsls := PySem.F.sub_list_set
        have hslf := PySem.F.sub_list_frozenset
        have hne : (Value.type "list" == Value.type "dict") = false := by decide
        have hl1 : (s.heap.push (freshSet w)).IsList l items := ⟨_, hol1, rfl, nl, rfl⟩
        unfold Builtin.«set.__init__» noKeywords Builtin.Frozenset.updateFrom
        generalize hPI : pyIter = PI
        wp_walk
        subst hPI
        refine wpAny_pyIter_list hl1 ?_
        refine wpAny_bind (wpAny_runValue ?_)
        have hlS : l < s.heap.objs.size := Heap.lt_size hol
        have hh3 : A.in1.in1.in1.handled = none := by simp [hh]
        have hneI : l ≠ (s.heap.push (freshSet w)).objs.size := by
          rw [Heap.size_push]; exact Nat.ne_of_lt (Nat.lt_succ_of_lt hlS)
        have hSf : s.heap.objs.size ∉ [(s.heap.push (freshSet w)).objs.size, l] := by
          rw [Heap.size_push]; simp only [List.mem_cons, List.mem_singleton, List.not_mem_nil, or_false, not_or]
          exact ⟨Nat.ne_of_lt (Nat.lt_succ_self _), Nat.ne_of_gt hlS⟩
        have hval : ∀ (i : Nat) (v : Value), items[i]? = some v → ∃ z t, zs[i]? = some z ∧ v = .str z t := fun i v hv => by
          have hi : i < zs.length := by rw [← hisz]; exact (Array.getElem?_eq_some_iff.mp hv).1
          obtain ⟨t, e⟩ := SS.strs_at hit i v (by rw [Array.getElem?_toList]; exact hv)
          refine ⟨zs[i], t, List.getElem?_eq_getElem hi, ?_⟩
          rw [e, List.getD_eq_getElem?_getD, List.getElem?_eq_getElem hi] <;> rfl
        refine tx_loop ((Walks.list hh3 _ l hneI items).toS) s.heap.objs.size hSf zs hisz hb hval (items.size - 0) 0 _ (by omega) (Nat.zero_le _)
          ⟨⟨_, Heap.get?_push_size _ rfl, rfl, rfl⟩, (hl1.push _)⟩ (tx_fresh (Heap.get?_push_of_some _ gS)) fun s3 hm hD => ?_
        obtain ⟨h3, g3, d3, tk3, os3⟩ := s3
        obtain rfl : g3 = s.gens := hm.gens
        obtain rfl : d3 = s.drawn := hm.drawn
        obtain rfl : os3 = s.os := hm.os
        show wpAny _ _ _ _ _ _
        refine wpAny_pure ?_
        show wpAny _ _ (ret Value.none) _ _ _
        refine wpAny_pure ⟨rfl, h3, tk3, rfl, hD, fun b o e => ?_⟩
        have hb0 : b < s.heap.objs.size := Heap.lt_size e
        refine hm.heap b o ?_ (Heap.get?_push_of_some _ (Heap.get?_push_of_some _ e))
        simp only [List.mem_cons, List.mem_singleton, List.not_mem_nil, or_false, not_or]
        exact ⟨Nat.ne_of_lt hb0, by rw [Heap.size_push]; exact Nat.ne_of_lt (Nat.lt_succ_of_lt hb0)⟩
      · cases r2 with
        | error e => exact hr2
        | ok fl2 =>
          cases fl2 with
          | ret r =>
            obtain ⟨rfl, h3, tk, rfl, hD, hk⟩ := hr2
            repeat (any_goals (first | assumption | wp_step))
            exact h _ _ hD hk
          | _ => exact hr2.elim
    | _ => exact hr.elim
end
end Wk

set_option maxHeartbeats 4000000
/-! My own layer: sorted of a set of texts, tuple(reversed(t)) of a tuple. -/
namespace Wk
open PySem PySem.Spec PyProof.Rows L2
section
variable {P : Program} {w : World} {A : Around} {E : Value → Shared → Prop} {s : Shared} {a : Addr} {L : List Str}
theorem sorted_setTx {Q : Value → Shared → Prop} (R : SetTx w s.heap a L) (hh : A.handled = none) (h64 : L.length < 64)
    (hQ : ∀ s1 p (out : Array Value) (c : Nat) (ys : List Str), (∀ b o, s.heap.get? b = some o → s1.heap.get? b = some o) → s1.gens = s.gens → s1.os = s.os → s.heap.objs.size ≤ p →
      s1.heap.get? p = some (seqObj "list" out c) → StrsAre out.toList ys → ys.Perm L → sortedS ys = true → Q (.ref p) s1) :
    wpAny (model P w) A (call (.builtin "sorted") [.ref a]) Q E s := by
  obtain ⟨ob, es, ep, tb, g0, gx, gd, g, pm0, nd, bb, ff, rr, ll⟩ := R
  refine Calls.call_function_entry kind_sorted plain_sorted entry_sorted (args_sorted1 _) ?_
  unfold Builtin.«sorted»
  refine wpAny_bind (m := checkCount "sorted" 1 1 _) (wpAny_pure ?_)
  refine wpAny_bind (collect_set (A := A.in1) hh ⟨ob, g0, gx.1, gd⟩ ff bb rr ll fun s1 vs k1 hz g1 o1 pm => ?_)
  have hI : StrsAre vs (vs.map strOf) := strsAre_map vs fun v hv => by
    obtain ⟨e, he, q⟩ := List.mem_map.mp (pm.mem_iff.mp hv)
    obtain ⟨z, tk, e1, _⟩ := g e he
    exact ⟨z, tk, q ▸ e1⟩
  have pk : (vs.map strOf).Perm L := by
    have q := pm.map strOf
    rw [List.map_map] at q
    exact q.trans pm0
  have hvl : vs.length = L.length := by have q := pk.length_eq; rwa [List.length_map] at q
  refine wpAny_bind (wpAny_newList ?_ (by rw [hvl, sizeLine_eq]; omega))
  have hoL : (s1.heap.push (seqObj "list" vs.toArray 0)).get? s1.heap.objs.size = some (seqObj "list" vs.toArray 0) := Heap.get?_push_size _ rfl
  refine wpAny_bind (wpAny_holding (wpAny_call_entry slot_list_sort ⟨_, hoL, rfl⟩ entry_list_sort (list_sort_treeK strKind_oneLt hoL hI.keysOf
    (fun v1 v2 rest e => keyKind_strs (ss := vs.map strOf) (by rw [← e]; exact hI)) (by rw [hvl]; exact h64) fun st hp hs => ⟨_, rfl, ?_⟩) (args_list_sort _)))
  obtain ⟨ys, y1, y2, y3⟩ := sorted_out_str hI hp hs
  obtain ⟨c, hc⟩ := sortedHeap_at (vs := vs) (out := (arrOf st).map (·.2)) hoL
  refine wpAny_pure ⟨_, rfl, hQ _ s1.heap.objs.size _ c ys (fun b u e => ?_) g1 o1 hz hc y1 (y2.trans pk) y3⟩
  have q := k1 b u e
  have lt := Heap.lt_size q
  show (sortedHeap (s1.heap.push (seqObj "list" vs.toArray 0)) s1.heap.objs.size vs ((arrOf st).map (·.2))).get? b = some u
  rw [sortedHeap_old (Nat.ne_of_lt lt) (by rw [size_push']; exact Nat.lt_succ_of_lt lt)]
  exact Heap.get?_push_of_some _ q
end
/-- the set of the texts L at a -/
def SetTO (w : World) (a : Addr) (L : List Str) : HO := .ext fun h => SetTx w h a L
section
variable {X : Cx}
theorem setTO_ok {w : World} {P : Program} {H : Hp} {h : Heap} {a : Addr} {L : List Str} (R : SetTx w h a L) : ObjOk P w H h a (SetTO w a L) := by
  have ⟨o, _, _, _, ho, _⟩ := R
  exact ⟨R, ⟨o, ho⟩, fun _ _ p k => SetTx.moves p k⟩
def rSetOfTx (w : World) (K : PySem.W.Frag) : List V → Hp → VK → Prop := fun xs H Q => ∃ (l : Addr) (zs : List Str), xs = [V.ref l] ∧ SqL K H l (zs.map V.str) ∧ zs.length + 1 < scanBound ∧ ∀ p, H p = none → Q (.ref p) (upd H p (SetTO w p (uniqL zs)))
theorem cr_setOfTx (hc : X.calm = true) : CallR X (.type "set") (rSetOfTx X.w X.K) := by
  intro pins s σ H xs us Q I r h
  obtain ⟨l, zs, rfl, hq, hb, q⟩ := h
  rw [Vals.ref1 r]
  obtain ⟨its, rv, pl, hz⟩ := I.list hq
  refine call_setTx zs (I.ok.hd hc) pl.isList (by simpa using strsAre_of rv) hb fun h1 tk hD k => ?_
  exact ⟨.ref _, upd H s.heap.objs.size (SetTO X.w s.heap.objs.size (uniqL zs)), I.laid (t' := tk) k (Nat.le_refl _) (setTO_ok hD), rfl, q _ (I.hok.fresh (Nat.le_refl _))⟩
def rSortedTx (w : World) : List V → Hp → VK → Prop := fun vs H Q => ∃ (a : Addr) (L : List Str), vs = [V.ref a] ∧ H a = some (SetTO w a L) ∧ L.length < 64 ∧
  ∀ (ys : List Str) (p : Addr), ys.Perm L → sortedS ys = true → H p = none → Q (.ref p) (upd H p (.lst (ys.map V.str)))
theorem cr_sortedTx (hc : X.calm = true) : CallR X (.builtin "sorted") (rSortedTx X.w) := by
  intro pins s σ H vs us Q I r h
  obtain ⟨a, L, rfl, ha, h64, q⟩ := h
  have R : SetTx X.w s.heap a L := (I.hok a _ ha).1
  rw [Vals.ref1 r]
  refine sorted_setTx R (I.ok.hd hc) h64 fun s1 p out c ys k g o hp hg hi pm hs => ?_
  have hlen : (ys.map V.str).length ≤ sizeLine := by rw [List.length_map, pm.length_eq, sizeLine_eq]; omega
  have hn : H p = none := I.hok.fresh hp
  have J : Inv X pins σ (upd H p (.lst (ys.map V.str))) { s with heap := s1.heap, gens := s1.gens, drawn := s1.drawn, toks := s1.toks } :=
    I.call (ch := []) (Un.laid k hp hn) (I.hok.laid k hp ⟨hlen, out.toList, c, vals_of_strs hi, hg⟩) (by rw [g]; exact I.bare) (fun _ z => nomatch z)
  have e : s1 = { s with heap := s1.heap, gens := s1.gens, drawn := s1.drawn, toks := s1.toks } := by
    cases s1
    cases s
    cases o
    rfl
  rw [e]
  exact ⟨.ref p, _, J, rfl, q ys p pm hs hn⟩
end
end Wk

set_option maxHeartbeats 4000000
/-! My own layer: tuple(reversed(t)) of a tuple. -/
namespace Wk
open PySem PySem.Spec PyProof.Rows L2 RT
theorem nolen_rt : typeLookup (.type "reversed") "__len__" = pure none := by rw [typeLookup_type, builtinLookup_eq_fast]; kernel_rfl
theorem hint_rt : typeLookup (.type "reversed") "__length_hint__" = pure (some (.builtin "reversed.__length_hint__")) := by rw [typeLookup_type, builtinLookup_eq_fast]; kernel_rfl
theorem slot_rt_hint : Slot "reversed" "__length_hint__" "reversed.__length_hint__" :=
  .of (owner := "reversed") (n := "__length_hint__") (by rw [typeLookup_type, builtinLookup_eq_fast]; kernel_rfl) (by decide +kernel) (by decide +kernel) (by decide +kernel)
    (by first | exact .inl (by decide +kernel) | exact .inr (by decide +kernel)) (by rw [isSubtype_type]; kernel_rfl)
theorem entry_rt_hint : entryFor table "reversed.__length_hint__" = some Builtin.«reversed.__length_hint__» := entryFor_of_tree (by kernel_rfl)
theorem args_rt_hint (a : Value) : argsOk "reversed.__length_hint__" ⟨[a], []⟩ := by
  unfold argsOk; rw [signature?_of (id := "reversed.__length_hint__") (n := ['_', '_', 't', 'n', 'i', 'h', '_', 'h', 't', 'g', 'n', 'e', 'l', '_', '_']) (o := ['d', 'e', 's', 'r', 'e', 'v', 'e', 'r']) (by kernel_rfl) owner_rt]; kernel_rfl
theorem bind_rt_hint (x : Value) : bindSpecial (.builtin "reversed.__length_hint__") x = pure (.builtin "reversed.__length_hint__", [x]) := by
  unfold bindSpecial
  rw [show typeOf (.builtin "reversed.__length_hint__") = pure (.type "method_descriptor") from by kernel_rfl]
  rfl
section
variable {prog : Program} {w : World} {A : Around} {E : Value → Shared → Prop} {s : Shared}
theorem walks_rt (hh : A.handled = none) (it t : Addr) (ne : t ≠ it) (items : Array Value) (hz : items.size ≤ sizeLine) :
    Walks prog w A it [it, t] [it] items.size (fun i v => items[items.size - 1 - i]? = some v) (fun i h => i ≤ items.size ∧ IsRt h it t ((items.size : Int) - 1 - (i : Int)) ∧ IsTup h t items) where
  sub := fun b m => by simp at m; simp [m]
  frame := fun _ _ _ x k => ⟨x.1, x.2.1.at fun o e => k it (by simp) o e, let ⟨o, e, z⟩ := x.2.2; ⟨o, k t (by simp) o e, z⟩⟩
  item := fun i s Q E hi x hQ => by
    have e1 : (items.size : Int) - 1 - (i : Int) = ((items.size - 1 - i : Nat) : Int) := by omega
    have hit := x.2.1
    rw [e1] at hit
    have hx : items[items.size - 1 - i]? = some (items[items.size - 1 - i]'(by omega)) := Array.getElem?_eq_getElem (by omega)
    refine next_rt_item hit x.2.2 hx hz fun h1 st sb => ?_
    have e2 : ((items.size - 1 - i : Nat) : Int) - 1 = (items.size : Int) - 1 - ((i + 1 : Nat) : Int) := by omega
    rw [e2] at st
    exact hQ _ h1 _ hx ⟨hi, st, let ⟨o, eo, z⟩ := x.2.2; ⟨o, (sb.2 t ne).trans eo, z⟩⟩ fun b o nb eo => sb.extBut b o (fun q => nb (by simp [q])) eo
  done := fun s Q E x hQ => by
    have e1 : (items.size : Int) - 1 - (items.size : Int) = -1 := by omega
    have hit := x.2.1
    rw [e1] at hit
    exact next_rt_end hh hit fun h1 he => hQ h1 s.toks fun b o nb eo => he b o (fun q => nb (by simp [q])) eo
  self := fun _ _ _ _ x hQ => iter_rt x.2.1 hQ
theorem call_rt_hint {it t : Addr} {items : Array Value} {Q : Value → Shared → Prop} (hit : IsRt s.heap it t ((items.size : Int) - 1)) (ht : IsTup s.heap t items) (hz : items.size ≤ sizeLine)
    (hQ : ∀ tk u, Q (.int items.size tk) { s with toks := u }) : wpAny (model prog w) A (call (.builtin "reversed.__length_hint__") [.ref it]) Q E s := by
  obtain ⟨o, ho, hc, hd⟩ := id hit
  have z2 := hz
  rw [sizeLine_eq] at z2
  refine wpAny_call_entry slot_rt_hint hit.typeIs entry_rt_hint ?_ (args_rt_hint _)
  unfold Builtin.«reversed.__length_hint__»
  refine wpAny_bind (wpAny_of_eq (a := Value.ref it) rfl ?_)
  try dsimp only
  refine wpAny_bind (wpAny_field ho hd (x := .ref t) rfl ?_)
  try dsimp only
  have nn : (Value.ref t == Value.none) = false := by
    first | rfl | exact beq_eq_false_iff_ne.mpr (fun z => nomatch z)
  rw [nn]
  simp only [Bool.false_eq_true, ↓reduceIte]
  refine wpAny_bind (len_tuple ht (by omega) ?_)
  refine wpAny_bind (wpAny_of_eq (a := some ((items.size : Nat) : Int)) rfl ?_)
  try dsimp only
  refine wpAny_bind (wpAny_field (s := { s with toks := s.toks + 1 + 1 }) ho hd (x := rawInt ((items.size : Int) - 1)) rfl ?_)
  show wpAny _ _ (if (items.size : Int) < (items.size : Int) - 1 + 1 then _ else _) _ _ _
  rw [if_neg (by omega)]
  have e1 : (items.size : Int) - 1 + 1 = items.size := by omega
  show wpAny _ _ (retInt ((items.size : Int) - 1 + 1)) _ _ _
  rw [e1]
  unfold retInt
  refine wpAny_bind (wpAny_mkInt ?_)
  exact wpAny_pure ⟨_, rfl, hQ _ _⟩
theorem collect_rt {it t : Addr} {items : Array Value} {Q : List Value → Shared → Prop} (hh : A.handled = none) (hit : IsRt s.heap it t ((items.size : Int) - 1)) (ht : IsTup s.heap t items) (ne : t ≠ it) (hz : items.size ≤ sizeLine)
    (hQ : ∀ (h1 : Heap) (tk : Nat) (acc : Array Value), (∀ b o, b ≠ it → s.heap.get? b = some o → h1.get? b = some o) → ItemsOf (fun i v => items[items.size - 1 - i]? = some v) acc items.size → Q acc.toList { s with heap := h1, toks := tk }) :
    wpAny (model prog w) A (collect (.ref it)) Q E s := by
  have W := (walks_rt (prog := prog) (w := w) (A := A.in1) hh it t ne items hz).toS
  obtain ⟨oi, hoi, _⟩ := id hit
  obtain ⟨ot, hot, _⟩ := id ht
  have nSi : s.heap.objs.size ≠ it := Nat.ne_of_gt (Heap.lt_size hoi)
  have nSt : s.heap.objs.size ≠ t := Nat.ne_of_gt (Heap.lt_size hot)
  have nSf : s.heap.objs.size ∉ [it, t] := by simp only [List.mem_cons, List.not_mem_nil, or_false, not_or]; exact ⟨nSi, nSt⟩
  unfold collect
  refine wpAny_bind (wpAny_runValue (codeAny_builtin F.entry_proto_collect ?_))
  rw [Around.under_plainId F.plain_proto_collect _]
  show wpAny _ A.in1 (newList [] >>= fun l' => again (.builtin "list.__iadd__" ⟨[l', .ref it], []⟩)) _ _ s
  refine wpAny_bind (wpAny_newObj_type ?_)
  refine wpAny_pure ⟨plainId_quiet F.plain_list_iadd _, codeAny_builtin F.entry_list_iadd ?_⟩
  rw [Around.under_plainId F.plain_list_iadd _]
  have gS : (s.heap.push { cls := .type "list", data := .seq ([] : List Value).toArray }).get? s.heap.objs.size = some { cls := .type "list", data := .seq ([] : List Value).toArray } := Heap.get?_push_size _ rfl
  have hit1 : IsRt (s.heap.push { cls := .type "list", data := .seq ([] : List Value).toArray }) it t ((items.size : Int) - 1) := hit.at fun o e => Heap.get?_push_of_some _ e
  have ht1 : IsTup (s.heap.push { cls := .type "list", data := .seq ([] : List Value).toArray }) t items := let ⟨o, e, z⟩ := ht; ⟨o, Heap.get?_push_of_some _ e, z⟩
  have hT : ({ s with heap := s.heap.push { cls := .type "list", data := .seq ([] : List Value).toArray } } : Shared).TypeIs (.ref it) "reversed" := IsRt.typeIs (s := { s with heap := s.heap.push { cls := .type "list", data := .seq ([] : List Value).toArray } }) hit1
  have q1 : Builtin.List.listSameRef (.ref s.heap.objs.size) (.ref it) = false := by simp [Builtin.List.listSameRef, nSi]
  show wpAny _ A.in1 (Builtin.List.listExtendWith (.ref s.heap.objs.size) (.ref it) (.ref s.heap.objs.size)) _ _ _
  unfold Builtin.List.listExtendWith
  refine wpAny_bind (wpAny_typeOf hT ?_)
  rw [if_neg (by rw [q1]; decide)]
  refine wpAny_bind (iter_rt (s := { s with heap := s.heap.push { cls := .type "list", data := .seq ([] : List Value).toArray } }) hit1 ?_)
  refine wpAny_bind (wpAny_holding ?_)
  unfold Builtin.List.listLengthHint
  refine wpAny_bind (wpAny_specialOf hT nolen_rt ?_)
  show wpAny _ A.in1 (specialOf (Value.ref it) (Str.ofString "__length_hint__") >>= _) _ _ _
  refine wpAny_bind (wpAny_specialOf hT hint_rt ?_)
  generalize hid : ("reversed.__length_hint__" : String) = id0
  wp_delta
  rw [show splitId id0 = some ("reversed", "__length_hint__") from by subst hid; decide +kernel]
  subst hid
  refine wpAny_bind (wpAny_isInstance (b := true) hT (by rw [isSubtype_type]; kernel_rfl) ?_)
  simp only [Bool.not_true, Bool.false_eq_true, ↓reduceIte]
  rw [if_neg (by decide +kernel)]
  refine wpAny_bind (wpAny_rule ?_)
  refine wpAny_bind (wpAny_of_eq (bind_rt_hint _) ?_)
  dsimp only
  have hh1 : A.in1.handled = none := hh
  refine wpAny_bind (wpAny_attempt (call_rt_hint hit1 ht1 hz fun tk u => ?_))
  have ea : asInt? (Value.int ((items.size : Nat) : Int) tk) = pure (some ((items.size : Nat) : Int)) := rfl
  simp only [ea, pure_bind]
  have z2 := hz
  rw [sizeLine_eq] at z2
  have f1 : Builtin.List.listFitsIndex ((items.size : Nat) : Int) = true := by
    unfold Builtin.List.listFitsIndex
    simp only [Bool.and_eq_true, decide_eq_true_eq]
    omega
  have f2 : ¬ (((items.size : Nat) : Int) < 0) := by omega
  have f3 : Builtin.List.listTooLong ((items.size : Nat) : Int).toNat = false := by
    unfold Builtin.List.listTooLong
    simp only [Int.toNat_natCast, decide_eq_false_iff_not]
    omega
  rw [f1]
  simp only [Bool.not_true, Bool.false_eq_true, ↓reduceIte]
  rw [if_neg f2, f3]
  simp only [Bool.false_eq_true, ↓reduceIte]
  refine wpAny_pure ?_
  have e0 : ((items.size : Nat) : Int) - 1 - ((0 : Nat) : Int) = (items.size : Int) - 1 := by omega
  split
  · refine wpAny_bind (wpAny_rule ?_)
    refine wpAny_bind ?_
    show wpAny _ A.in1 (updateSeq s.heap.objs.size (·.push .none) >>= fun _ => updateSeq s.heap.objs.size (·.pop)) _ _ _
    refine wpAny_bind (wpAny_updateSeq gS rfl ?_ (by rw [sizeLine_eq]; decide) (by rw [sizeLine_eq]; decide))
    have gS3 := Heap.get?_update_self (Obj.mapSeq (·.push Value.none)) gS rfl
    refine wpAny_updateSeq gS3 rfl ?_ (by rw [sizeLine_eq]; decide) (by rw [sizeLine_eq]; decide)
    have gS4 := Heap.get?_update_self (Obj.mapSeq (·.pop)) gS3 rfl
    have oth : ∀ b o, b ≠ s.heap.objs.size → (s.heap.push { cls := .type "list", data := .seq ([] : List Value).toArray }).get? b = some o → (((s.heap.push { cls := .type "list", data := .seq ([] : List Value).toArray }).update s.heap.objs.size (Obj.mapSeq (·.push Value.none))).update s.heap.objs.size (Obj.mapSeq (·.pop))).get? b = some o :=
      fun b o nb e => (Heap.get?_update_other _ _ (Ne.symm nb)).trans ((Heap.get?_update_other _ _ (Ne.symm nb)).trans e)
    refine wpAny_pure ⟨plainId_quiet F.plain_extend_loop _, codeAny_extend_loopS W hz _ nSf _ items.size 0 _ _ _ rfl (Nat.zero_le _) ⟨Nat.zero_le _, ?_, ?_⟩ gS4 (ItemsOf.nil _) fun s1 acc c1 hm hS1 hacc => ?_⟩
    · rw [e0]
      exact hit1.at fun o e => oth it o nSi.symm e
    · exact let ⟨o, e, z⟩ := ht1; ⟨o, oth t o nSt.symm e, z⟩
    · show wpAny _ A (load s.heap.objs.size >>= _) _ _ s1
      refine wpAny_bind (wpAny_load hS1 (wpAny_pure ?_))
      rw [Moved.eq_with hm]
      refine hQ s1.heap s1.toks acc (fun b o nb e => ?_) hacc
      have lt := Heap.lt_size e
      refine hm.heap b o (fun mm => ?_) (oth b o (Nat.ne_of_lt lt) (Heap.get?_push_of_some _ e))
      rcases List.mem_cons.mp mm with e' | mm
      · exact absurd lt (by rw [e']; exact Nat.lt_irrefl _)
      · exact nb (List.mem_singleton.mp mm)
  · have oth : ∀ b o, b ≠ s.heap.objs.size → (s.heap.push { cls := .type "list", data := .seq ([] : List Value).toArray }).get? b = some o → (s.heap.push { cls := .type "list", data := .seq ([] : List Value).toArray }).get? b = some o := fun b o _ e => e
    refine wpAny_pure ⟨plainId_quiet F.plain_extend_loop _, codeAny_extend_loopS W hz _ nSf _ items.size 0 _ _ _ rfl (Nat.zero_le _) ⟨Nat.zero_le _, ?_, ?_⟩ gS (ItemsOf.nil _) fun s1 acc c1 hm hS1 hacc => ?_⟩
    · rw [e0]
      exact hit1.at fun o e => oth it o nSi.symm e
    · exact let ⟨o, e, z⟩ := ht1; ⟨o, oth t o nSt.symm e, z⟩
    · show wpAny _ A (load s.heap.objs.size >>= _) _ _ s1
      refine wpAny_bind (wpAny_load hS1 (wpAny_pure ?_))
      rw [Moved.eq_with hm]
      refine hQ s1.heap s1.toks acc (fun b o nb e => ?_) hacc
      have lt := Heap.lt_size e
      refine hm.heap b o (fun mm => ?_) (oth b o (Nat.ne_of_lt lt) (Heap.get?_push_of_some _ e))
      rcases List.mem_cons.mp mm with e' | mm
      · exact absurd lt (by rw [e']; exact Nat.lt_irrefl _)
      · exact nb (List.mem_singleton.mp mm)
theorem code_tuple_rt {it t : Addr} {items : Array Value} {Q1 : Value → Shared → Prop} (hh : A.handled = none) (hit : IsRt s.heap it t ((items.size : Int) - 1)) (ht : IsTup s.heap t items) (ne : t ≠ it) (hz : items.size ≤ sizeLine)
    (hq : ∀ (h1 : Heap) (tk : Nat) (acc : Array Value), (∀ b o, b ≠ it → s.heap.get? b = some o → h1.get? b = some o) → ItemsOf (fun i v => items[items.size - 1 - i]? = some v) acc items.size →
      Q1 (.ref h1.objs.size) { s with heap := h1.push { cls := .type "tuple", data := .seq acc }, toks := tk }) :
    codeAny (model prog w) A (.call (.builtin "tuple.__new__") ⟨[.type "tuple", .ref it], []⟩) (wants Q1 E) s := by
  refine codeAny_of_tree ?_
  show wpAny _ A.in1 (do checkBuiltinCall "tuple.__new__" ⟨[.type "tuple", .ref it], []⟩; again (.builtin "tuple.__new__" ⟨[.type "tuple", .ref it], []⟩)) _ _ s
  refine wpAny_bind (wpAny_of_eq (F.newCall_tuple_1 _) (wpAny_pure ⟨plainId_quiet F.plain_tuple_new _, codeAny_builtin F.entry_tuple_new ?_⟩))
  rw [Around.under_plainId F.plain_tuple_new _]
  have hsub := sub_tuple_self
  have hinit := init_tuple_lookup
  have hmh := madeHere_tuple
  have hTI : s.TypeIs (.ref it) "reversed" := hit.typeIs
  have hh1 : A.in1.handled = none := hh
  wp_walk using wpAny_typeOf hTI, collect_rt (A := A.in1) hh1 hit ht ne hz
  intro h1 tk acc k hacc
  show wpAny _ _ (Builtin.Tuple.tupleExact acc.toList.toArray >>= fun v => ret v) _ _ _
  unfold Builtin.Tuple.tupleExact
  refine wpAny_bind (wpAny_newObj_type ?_ (by show acc.toList.toArray.size ≤ sizeLine; simp only [Array.toArray_toList]; rw [hacc.1]; exact hz))
  refine wpAny_pure ?_
  have e : acc.toList.toArray = acc := by simp
  rw [e]
  exact hq h1 tk acc k hacc
theorem call_tuple_rt {it t : Addr} {items : Array Value} {Q : Value → Shared → Prop} (hh : A.handled = none) (hit : IsRt s.heap it t ((items.size : Int) - 1)) (ht : IsTup s.heap t items) (ne : t ≠ it) (hz : items.size ≤ sizeLine)
    (hQ : ∀ (h1 : Heap) (tk : Nat) (acc : Array Value), (∀ b o, b ≠ it → s.heap.get? b = some o → h1.get? b = some o) → ItemsOf (fun i v => items[items.size - 1 - i]? = some v) acc items.size →
      Q (.ref h1.objs.size) { s with heap := h1.push { cls := .type "tuple", data := .seq acc }, toks := tk }) :
    wpAny (model prog w) A (call (.type "tuple") [.ref it]) Q E s := by
  refine callType_codes (Q₁ := fun ov s1 => s1.TypeIs ov "tuple" ∧ Q ov s1) F.called_tuple (F.typeCall_tuple_1 _) F.entry_object_init
    (code_tuple_rt (A := A.in1) hh hit ht ne hz fun h1 tk acc k hacc => ⟨⟨_, Heap.get?_push_size _ rfl, rfl⟩, hQ h1 tk acc k hacc⟩) fun ov s1 z => ?_
  exact ⟨z.1, F.args_object_init_2 ov _, object_init_meets F.called_tuple.init.lookup F.called_tuple.made (by decide) prog w A.in1 _ s1 ⟨z.1, rfl, z.2⟩⟩
end
section
variable {X : Cx}
/-- tuple(reversed(x)), x a tuple -/
def tTupRt (K : PySem.W.Frag) (te : TE) : TE := fun σ H Q => te σ H fun v H1 => ∃ (a : Addr) (xs : List V), v = .ref a ∧ SqT K H1 a xs ∧ ∀ q, H1 q = none → Q (.ref q) (upd H1 q (.tup xs.reverse))
theorem pe_tupRt {e : Expr} {te : TE} {p p2 pos pos2 : Pos} (hc : X.calm = true) (hg : Gl X "tuple") (hm : X.mg "tuple" = none) (hg2 : Gl X "reversed") (hm2 : X.mg "reversed" = none) (he : PE X e te)
    (hs : starEach [e] X.env = (false, eval e X.env) :: starEach [] X.env := by rfl)
    (hs2 : starEach [.Call (.Name "reversed" p2) [e] [] pos2] X.env = (false, eval (.Call (.Name "reversed" p2) [e] [] pos2) X.env) :: starEach [] X.env := by rfl) :
    PE X (.Call (.Name "tuple" p) [.Call (.Name "reversed" p2) [e] [] pos2] [] pos) (tTupRt X.K te) := by
  refine ⟨fun pins s σ H Q I h => ?_⟩
  refine Call_ (ld_blt I hg hm boot_tuple (PyProof.Rows.callWith_type1 (args_cons (Call_ (ld_blt I hg2 hm2 PyProof.Rows.boot_reversed (PyProof.Rows.callWith_type1 (args_cons (thn (he.run pins s σ H _ I h) fun u s1 ⟨v, H1, I1, r1, q1⟩ => args_nil ?_) hs) hs rfl))) hs2) hs2 rfl))
  obtain ⟨a, xs, ev, hq, q⟩ := q1
  subst ev
  obtain rfl : u = Value.ref a := r1
  obtain ⟨its, rv, p1, hz⟩ := I1.tuple hq
  have hn : its.toArray.size ≤ sizeLine := by rw [List.size_toArray, ← rv.length]; exact hz
  have hn2 := hn
  rw [sizeLine_eq] at hn2
  refine call_reversed_tup p1 (fun A E Q k => len_tuple p1 (by omega) k) (args_nil ?_)
  have I1' : Inv X pins σ H1 { s1 with toks := s1.toks + 1 + 1 } := I1.tok _
  have k0 : ∀ b o, s1.heap.get? b = some o → (s1.heap.push (rtObj a ((its.toArray.size : Int) - 1))).get? b = some o := fun b o e => Heap.get?_push_of_some _ e
  have I2 : Inv X pins σ H1 { s1 with heap := s1.heap.push (rtObj a ((its.toArray.size : Int) - 1)), toks := s1.toks + 1 + 1 } := I1.kept (t' := s1.toks + 1 + 1) k0
  obtain ⟨f0, f1, f2, f3, f4, f5⟩ := I1.fpOk (H' := H1) (b := s1.heap.objs.size) (Nat.le_refl _) (I1.hok.fresh (Nat.le_refl _))
  obtain ⟨ol, hol, hol2⟩ := id p1
  have ne : a ≠ s1.heap.objs.size := Nat.ne_of_lt (Heap.lt_size hol)
  refine call_tuple_rt (s := { s1 with heap := s1.heap.push (rtObj a ((its.toArray.size : Int) - 1)), toks := s1.toks + 1 + 1 }) (I1.ok.hd hc) ⟨_, Heap.get?_push_size _ rfl, rfl, rfl⟩ ⟨ol, k0 _ _ hol, hol2⟩ ne hn fun h1 tk acc hk hi => ?_
  have I3 : Inv X pins σ H1 { s1 with heap := h1, toks := tk } := I2.turned (t' := tk) (fun b o nb e => hk b o nb e) f0 f1 f3 f4 f5
  refine ⟨.ref h1.objs.size, upd H1 h1.objs.size (.tup xs.reverse), I3.laid (t' := tk) (fun c o e => Heap.get?_push_of_some _ e) (Nat.le_refl _) (show ObjOk X.prog X.w _ _ _ (.tup xs.reverse) from ⟨by rw [List.length_reverse]; exact hz, acc.toList, vals_rev rv hi, ?_⟩), rfl, q _ (I3.hok.fresh (Nat.le_refl _))⟩
  rw [Array.toArray_toList]
  exact IsTup.new _ _
end
end Wk

set_option maxHeartbeats 4000000
/-! My own layer: comprehensions with a test, over a list and over a dict; dict comprehensions; dicts; loops over tuples of three. -/
namespace Wk
open PySem PySem.Spec PyProof.Rows L2
section
variable {X : Cx} {e a b c elt kx vx : Expr} {es rest : List Expr} {σ : L2.St} {H : Hp} {Q : VK} {pos p0 : Pos} {N G G' : List Str} {Vn : List (Nat × Str)} {sc scope : Scope}
@[irreducible] def wBkT (X : Cx) (Vn : List (Nat × Str)) (G' : List Str) (c : Expr) (scope : Scope) : TT := fun σ H Q => ∀ s0 H0 C cl fp, InB (Bk X s0 H0 scope C cl fp) Vn G' → wT (Bk X s0 H0 scope C cl fp) c σ H Q
theorem pts_bk {s0 : Shared} {H0 : Hp} {C : Addr} {cl : List (Str × Addr)} {fp : List Addr} (I : InB (Bk X s0 H0 scope C cl fp) Vn G') : PTs (Bk X s0 H0 scope C cl fp) [c] (wBkT X Vn G' c scope) :=
  pts_one ⟨fun pins s σ H Q Iv h => by unfold wBkT at h; exact pt.run pins s σ H Q Iv (h s0 H0 C cl fp I)⟩
/-- what the turns ask where there is a test -/
def Turn1 (X : Cx) (Vn : List (Nat × Str)) (G' : List Str) (elt c : Expr) (scope : Scope) (i : Nat) (D : Addr) (σ : L2.St) (x : L2.V) (H2 : Hp) (Nx : Hp → Prop) : Prop :=
  ∀ s0 H0 C cl fp, InB (Bk X s0 H0 scope C cl fp) Vn G' → wT (Bk X s0 H0 scope C cl fp) c ((wipe σ [i]).set i (some x)) H2 fun b H3 =>
    if b = true then ∀ s0 H0 C cl fp, InB (Bk X s0 H0 scope C cl fp) Vn G' → wE (Bk X s0 H0 scope C cl fp) elt ((wipe σ [i]).set i (some x)) H3 fun y H4 => ∃ acc, H4 D = some (.lst acc) ∧ acc.length < sizeLine ∧ Nx (upd H4 D (.lst (acc ++ [y]))) else Nx H3
theorem turn1_of {i : Nat} {D : Addr} {x : L2.V} {H2 : Hp} {Nx : Hp → Prop} (q : Turn1 X Vn G' elt c scope i D σ x H2 Nx) : gName i x (wipe σ [i]) H2 fun σ2 H3 => wipe σ2 [i] = wipe σ [i] ∧ wBkT X Vn G' c scope σ2 H3 fun b H4 =>
    if b = true then wBk X Vn G' elt scope σ2 H4 fun y H5 => ∃ acc, H5 D = some (.lst acc) ∧ acc.length < sizeLine ∧ Nx (upd H5 D (.lst (acc ++ [y]))) else Nx H4 := by
  refine ⟨wipe_set σ i _, ?_⟩
  unfold wBkT
  intro s0 H0 C cl fp I
  refine t_mono (q s0 H0 C cl fp I) fun b H4 z => ?_
  cases b with
  | true =>
    unfold wBk
    exact iteT z
  | false => exact iteF z
def LcLf (X : Cx) (Vn : List (Nat × Str)) (G' : List Str) (elt c : Expr) (scope : Scope) (i : Nat) (ad : Addr) (xs : List L2.V) (D : Addr) (σ : L2.St) (H1 : Hp) (Qd : Hp → Prop) : Prop := ∃ Pv : Nat → Hp → Prop, Pv 0 (upd H1 D (.lst [])) ∧ (∀ k H2, k ≤ xs.length → Pv k H2 → SqL X.K H2 ad xs) ∧
  (∀ k x H2, xs[k]? = some x → Pv k H2 → Turn1 X Vn G' elt c scope i D σ x H2 (Pv (k + 1))) ∧ ∀ H2, Pv xs.length H2 → Qd H2
def LcDf (X : Cx) (Vn : List (Nat × Str)) (G' : List Str) (elt c : Expr) (scope : Scope) (i : Nat) (d : Addr) (o : Obj) (kvs : List (Key × L2.V)) (D : Addr) (σ : L2.St) (H1 : Hp) (Qd : Hp → Prop) : Prop := ∃ Pv : Nat → Hp → Prop, Pv 0 (upd H1 D (.lst [])) ∧ (∀ k H2, k ≤ kvs.length → Pv k H2 → H2 d = some (.frz o (.dK kvs))) ∧
  (∀ k y v H2, kvs[k]? = some (y, v) → Pv k H2 → Turn1 X Vn G' elt c scope i D σ (kV y) H2 (Pv (k + 1))) ∧ ∀ H2, Pv kvs.length H2 → Qd H2
theorem lcLf_of {i : Nat} {ad : Addr} {xs : List L2.V} {D : Addr} {H1 : Hp} {Qd : Hp → Prop} (q : LcLf X Vn G' elt c scope i ad xs D σ H1 Qd) : ∃ W : Nat → Nat → Hp → Prop, (∃ m, W 0 m (upd H1 D (.lst []))) ∧ ∀ k m H, W k m H →
    ((Itl X.K ad).stop k H ∧ Qd H) ∨ ((Itl X.K ad).go k H ∧ ∃ Nx : Hp → Prop, (∀ H', Nx H' → ∃ m', m' < m ∧ W (k + 1) m' H') ∧ ∀ x H', (Itl X.K ad).yld k H x H' → gName i x (wipe σ [i]) H' fun σ2 H2 => wipe σ2 [i] = wipe σ [i] ∧ wBkT X Vn G' c scope σ2 H2 fun b H3 =>
      if b = true then wBk X Vn G' elt scope σ2 H3 fun y H4 => ∃ acc, H4 D = some (.lst acc) ∧ acc.length < sizeLine ∧ Nx (upd H4 D (.lst (acc ++ [y]))) else Nx H3) := by
  obtain ⟨Pv, h0, hl, hs, hd⟩ := q
  exact lc_list Pv h0 hl (fun k x H hk p => turn1_of (hs k x H hk p)) hd
theorem lcDf_of {i : Nat} {d : Addr} {o : Obj} {kvs : List (Key × L2.V)} {D : Addr} {H1 : Hp} {Qd : Hp → Prop} (q : LcDf X Vn G' elt c scope i d o kvs D σ H1 Qd) : ∃ W : Nat → Nat → Hp → Prop, (∃ m, W 0 m (upd H1 D (.lst []))) ∧ ∀ k m H, W k m H →
    ((Itk d o kvs).stop k H ∧ Qd H) ∨ ((Itk d o kvs).go k H ∧ ∃ Nx : Hp → Prop, (∀ H', Nx H' → ∃ m', m' < m ∧ W (k + 1) m' H') ∧ ∀ x H', (Itk d o kvs).yld k H x H' → gName i x (wipe σ [i]) H' fun σ2 H2 => wipe σ2 [i] = wipe σ [i] ∧ wBkT X Vn G' c scope σ2 H2 fun b H3 =>
      if b = true then wBk X Vn G' elt scope σ2 H3 fun y H4 => ∃ acc, H4 D = some (.lst acc) ∧ acc.length < sizeLine ∧ Nx (upd H4 D (.lst (acc ++ [y]))) else Nx H3) := by
  obtain ⟨Pv, h0, hl, hs, hd⟩ := q
  refine ⟨fun k m H => m = kvs.length - k ∧ k ≤ kvs.length ∧ Pv k H, ⟨kvs.length, rfl, Nat.zero_le _, h0⟩, ?_⟩
  rintro k m H ⟨rfl, hk, p⟩
  have fz := hl k H hk p
  by_cases lt : k < kvs.length
  · refine .inr ⟨⟨fz, lt⟩, Pv (k + 1), fun H' p' => ⟨kvs.length - (k + 1), by omega, rfl, lt, p'⟩, fun x H' y => ?_⟩
    obtain ⟨rfl, ky, v, hkv, rfl⟩ := y
    exact turn1_of (hs k ky v _ hkv p)
  · have ek : k = kvs.length := by omega
    subst ek
    exact .inl ⟨⟨fz, Nat.le_refl _⟩, hd H p⟩
theorem e_lcLf {i : Nat} {x : Str} {px : Pos} (B : BkOk X.N Vn G' i x sc scope)
    (q : wE X a σ H fun v H1 => ∃ ad xs, v = .ref ad ∧ SqL X.K H1 ad xs ∧ ∀ D, H1 D = none → LcLf X Vn G' elt c scope i ad xs D σ H1 fun H2 => Q (.ref D) H2)
    (I : In X N G sc := by assumption) (hc : X.calm = true := by rfl) (hs2 : ∀ z, foldedSetIterable a X.env z = pure z := by intro _; rfl) :
    wE X (.ListComp elt [⟨.Name x px, a, [c], 0⟩] scope pos) σ H Q := by
  refine e_of (pe_lc (own := [(x, i)]) (g := gName i) (tt := wBkT X Vn G' c scope) (te := wBk X Vn G' elt scope) hc I.nd (pi_list pe) (B.ok I) (fun s H C cl fp => B.pg I s H C cl fp) (fun s H C cl fp => pts_bk (B.inB I s H C cl fp)) (fun s H C cl fp => pe_bk (B.inB I s H C cl fp)) hs2) (e_mono q fun v H1 q1 => ?_)
  obtain ⟨ad, xs, rfl, hl, q2⟩ := q1
  exact ⟨ad, rfl, ⟨xs, hl⟩, fun D hD => lcLf_of (q2 D hD)⟩
theorem s_lcLf {nx : L2.St → Hp → Prop} {rt : VK} {bk ct : L2.St → Hp → Prop} {i j : Nat} {x y : Str} {px py spos : Pos} (B : BkOk X.N Vn G' i x sc scope)
    (q : wE X a σ H fun v H1 => ∃ ad xs, v = .ref ad ∧ SqL X.K H1 ad xs ∧ ∀ D, H1 D = none → LcLf X Vn G' elt c scope i ad xs D σ H1 fun H2 => nx (σ.set j (some (.ref D))) H2)
    (I : In X N G sc := by assumption) (hc : X.calm = true := by rfl) (hA : At N j y := by repeat (first | with_reducible apply At.z | with_reducible apply At.s))
    (hk : X.env.scope.kind = .function := by rfl) (hy : X.env.scope.names.lookup y = some .local := by rfl) (hl : (py.line == pos.line) = true := by rfl) (ha : (scope.names.any fun (n, k) => n == y && (k == .local || k == .cell)) = false := by decide +kernel) (hs2 : ∀ z, foldedSetIterable a X.env z = pure z := by intro _; rfl) :
    wS X (.Assign [.Name y py] (.ListComp elt [⟨.Name x px, a, [c], 0⟩] scope pos) spos) ⟨nx, rt, bk, ct⟩ σ H := by
  refine s_of (ps_setLc (own := [(x, i)]) (g := gName i) (tt := wBkT X Vn G' c scope) (te := wBk X Vn G' elt scope) hc I.nd (I.hi hA) hy (sw_true hk hy hl ha) (pi_list pe) (B.ok I) (fun s H C cl fp => B.pg I s H C cl fp) (fun s H C cl fp => pts_bk (B.inB I s H C cl fp)) (fun s H C cl fp => pe_bk (B.inB I s H C cl fp)) hs2) (e_mono q fun v H1 q1 => ?_)
  obtain ⟨ad, xs, rfl, hl, q2⟩ := q1
  exact ⟨ad, rfl, ⟨xs, hl⟩, fun D hD => lcLf_of (q2 D hD)⟩
/-- [elt for x in d if c], d a dict that stands at ad -/
theorem e_lcDf {i : Nat} {x : Str} {px : Pos} {ad : Addr} {kvs : List (Key × L2.V)} (B : BkOk X.N Vn G' i x sc scope) (hd : H ad = some (.dK kvs))
    (q : ∀ o, wE X a σ (upd H ad (.frz o (.dK kvs))) fun v H1 => v = .ref ad ∧ H1 ad = some (.frz o (.dK kvs)) ∧ ∀ D, H1 D = none → LcDf X Vn G' elt c scope i ad o kvs D σ H1 fun H2 => H2 ad = some (.frz o (.dK kvs)) ∧ Q (.ref D) (upd H2 ad (.dK kvs)))
    (I : In X N G sc := by assumption) (hc : X.calm = true := by rfl) (hs2 : ∀ z, foldedSetIterable a X.env z = pure z := by intro _; rfl) :
    wE X (.ListComp elt [⟨.Name x px, a, [c], 0⟩] scope pos) σ H Q := by
  refine e_of (pe_lock (pe_lc (own := [(x, i)]) (g := gName i) (tt := wBkT X Vn G' c scope) (te := wBk X Vn G' elt scope) hc I.nd (pi_keys pe) (B.ok I) (fun s H C cl fp => B.pg I s H C cl fp) (fun s H C cl fp => pts_bk (B.inB I s H C cl fp)) (fun s H C cl fp => pe_bk (B.inB I s H C cl fp)) hs2)) ?_
  refine ⟨ad, .dK kvs, hd, trivial, fun o => e_mono (q o) fun v H1 q1 => ?_⟩
  obtain ⟨rfl, h1, q2⟩ := q1
  exact ⟨ad, o, rfl, .inl ⟨kvs, h1, fun D hD => lcDf_of (q2 D hD)⟩⟩
end
end Wk
namespace Wk
open PySem PySem.Spec PyProof.Rows L2
section
variable {X : Cx} {e a b c elt kx vx o : Expr} {es rest : List Expr} {σ : L2.St} {H : Hp} {Q : VK} {pos p0 apos : Pos} {N G G' : List Str} {Vn : List (Nat × Str)} {sc scope : Scope}
theorem sw_trueD {gs : List Comprehension} {py : Pos} {y : Str} {l : Nat} {env : Env} (hk : env.scope.kind = .function) (hy : env.scope.names.lookup y = some .local) (hl : (py.line == pos.line) = true)
    (ha : (scope.names.any fun (n, k) => n == y && (k == .local || k == .cell)) = false) : swapsWith (.DictComp kx vx gs scope pos) (some (.Name y py)) l env = pure true := by
  have ky : env.kindOf y = some .local := hy
  have hb : env.blockKind = .function := by unfold Env.blockKind; rw [hk]; rfl
  unfold swapsWith
  simp only [hb, ky, ha, Expr.pos, hl]
  rfl
theorem ps_setDc {i : Nat} {y : Str} {py : Pos} {tg iter : Expr} {ifs : List Expr} {own : List (Str × Nat)} {spos : Pos} {wi : TI} {g : TG} {tt : TT} {tk tv : TE} (hc : X.calm = true) (hN : X.N.Nodup) (hy : X.N[i]? = some y) (hyl : X.env.scope.names.lookup y = some .local)
    (hsw : swapsWith (.DictComp kx vx [⟨tg, iter, ifs, 0⟩] scope pos) (some (.Name y py)) spos.line X.env = pure true) (hi : PI X tg iter wi) (ok : BlkOk X.N X.env.scope scope own)
    (hg : ∀ (s : Shared) (H : Hp) (C : Addr) (cl : List (Str × Addr)) (fp : List Addr), PG (X.blk s H scope (compEnvC scope cl C X.env) fp) tg g) (ht : ∀ (s : Shared) (H : Hp) (C : Addr) (cl : List (Str × Addr)) (fp : List Addr), PTs (X.blk s H scope (compEnvC scope cl C X.env) fp) ifs tt)
    (hkx : ∀ (s : Shared) (H : Hp) (C : Addr) (cl : List (Str × Addr)) (fp : List Addr), PE (X.blk s H scope (compEnvC scope cl C X.env) fp) kx tk)
    (hvx : ∀ (s : Shared) (H : Hp) (C : Addr) (cl : List (Str × Addr)) (fp : List Addr), PE (X.blk s H scope (compEnvC scope cl C X.env) fp) vx tv) (hs : ∀ x, foldedSetIterable iter X.env x = pure x) :
    PS X (.Assign [.Name y py] (.DictComp kx vx [⟨tg, iter, ifs, 0⟩] scope pos) spos) (tAsg (tDc wi g tt tk tv (own.map (·.2))) (gName i)) := by
  refine ⟨fun pins s σ H D I h => ?_⟩
  rw [exec_Assign_Name_used _ _ _ _ hsw]
  refine wpAny_bind (wpAny_standAt (wpAny_bind ?_))
  show wpAny _ X.A (do let _ ← comprehension (.DictComp kx vx [⟨tg, iter, ifs, 0⟩] scope pos) scope X.env (firstIterPos [⟨tg, iter, ifs, 0⟩] pos) newDict false (eval iter X.env) (some (assign (.Name y py) X.env))) _ _ s
  have h : tDc wi g tt tk tv (own.map (·.2)) σ H (fun x H1 => gName i x σ H1 D.nx) := h
  refine wpAny_bind (thn (dc_core (Qf := fun _ s' => SP X pins D .next s') hc hN I hi ok hg ht hkx hvx hs h fun L C s' m H' I' q hn f => ?_) fun _ s' hq => wpAny_pure (wpAny_pure hq))
  show wpAny _ _ (assign (.Name y py) X.env (.ref L)) _ _ _
  refine wpAny_assign_Name (store_ok2 (v := V.ref L) I' hN hy (.inl hyl) rfl (fun s2 I2 ⟨ad, sb, had⟩ => ?_) (.inr hyl))
  obtain ⟨f0, f1, f2, f3, f4, f5⟩ := f
  have nC : C ≠ ad := by
    rcases had with z | z
    · rw [z]; exact f1
    · exact fun e => f4 y ad z e.symm
  exact ⟨m, hn.sameBut sb nC, fun h3 sb3 => ⟨_, H', I2.turned (t' := s2.toks) (fun b o hb e => (sb3.2 b hb).trans e) f0 f1 f3 f4 f5, q⟩⟩
/-- d = {k: v for x in a}, a a list that stays -/
def DcL (X : Cx) (Vn : List (Nat × Str)) (G' : List Str) (kx vx : Expr) (scope : Scope) (i : Nat) (ad : Addr) (xs : List L2.V) (D : Addr) (σ : L2.St) (H1 : Hp) (Qd : Hp → Prop) : Prop := ∃ Pv : Nat → Hp → Prop, Pv 0 (upd H1 D (.dK [])) ∧ (∀ k H2, k ≤ xs.length → Pv k H2 → SqL X.K H2 ad xs) ∧
  (∀ k x H2, xs[k]? = some x → Pv k H2 → ∀ s0 H0 C cl fp, InB (Bk X s0 H0 scope C cl fp) Vn G' → wE (Bk X s0 H0 scope C cl fp) kx ((wipe σ [i]).set i (some x)) H2 fun y H3 => ∀ s0 H0 C cl fp, InB (Bk X s0 H0 scope C cl fp) Vn G' →
    wE (Bk X s0 H0 scope C cl fp) vx ((wipe σ [i]).set i (some x)) H3 fun z H4 => ∃ kvs ky, y = kV ky ∧ H4 D = some (.dK kvs) ∧ kvs.length < sizeLine ∧ Pv (k + 1) (upd H4 D (.dK (putK kvs ky z)))) ∧
  ∀ H2, Pv xs.length H2 → Qd H2
theorem dcL_of {i : Nat} {ad : Addr} {xs : List L2.V} {D : Addr} {H1 : Hp} {Qd : Hp → Prop} (q : DcL X Vn G' kx vx scope i ad xs D σ H1 Qd) : ∃ W : Nat → Nat → Hp → Prop, (∃ m, W 0 m (upd H1 D (.dK []))) ∧ ∀ k m H, W k m H →
    ((Itl X.K ad).stop k H ∧ Qd H) ∨ ((Itl X.K ad).go k H ∧ ∃ Nx : Hp → Prop, (∀ H', Nx H' → ∃ m', m' < m ∧ W (k + 1) m' H') ∧ ∀ x H', (Itl X.K ad).yld k H x H' → gName i x (wipe σ [i]) H' fun σ2 H2 => wipe σ2 [i] = wipe σ [i] ∧ tYes σ2 H2 fun b H3 =>
      if b = true then wBk X Vn G' kx scope σ2 H3 fun y H4 => wBk X Vn G' vx scope σ2 H4 fun z H5 => ∃ kvs k, y = kV k ∧ H5 D = some (.dK kvs) ∧ kvs.length < sizeLine ∧ Nx (upd H5 D (.dK (putK kvs k z))) else Nx H3) := by
  obtain ⟨Pv, h0, hl, hs, hd⟩ := q
  refine ⟨fun k m H => m = xs.length - k ∧ k ≤ xs.length ∧ Pv k H, ⟨xs.length, rfl, Nat.zero_le _, h0⟩, ?_⟩
  rintro k m H ⟨rfl, hk, p⟩
  have sq := hl k H hk p
  by_cases lt : k < xs.length
  · refine .inr ⟨⟨xs, xs[k], sq, by simp [lt]⟩, Pv (k + 1), fun H' p' => ⟨xs.length - (k + 1), by omega, rfl, lt, p'⟩, fun x H' y => ?_⟩
    obtain ⟨rfl, y⟩ := y
    refine ⟨wipe_set σ i _, ?_⟩
    unfold tYes
    refine iteT ?_
    unfold wBk
    intro s0 H0 C cl fp I
    exact hs k x _ (y xs sq) p s0 H0 C cl fp I
  · have ek : k = xs.length := by omega
    subst ek
    exact .inl ⟨⟨xs, sq, Nat.le_refl _⟩, hd H p⟩
theorem s_dcL {nx : L2.St → Hp → Prop} {rt : VK} {bk ct : L2.St → Hp → Prop} {i j : Nat} {x y : Str} {px py spos : Pos} (B : BkOk X.N Vn G' i x sc scope)
    (q : wE X a σ H fun v H1 => ∃ ad xs, v = .ref ad ∧ SqL X.K H1 ad xs ∧ ∀ D, H1 D = none → DcL X Vn G' kx vx scope i ad xs D σ H1 fun H2 => nx (σ.set j (some (.ref D))) H2)
    (I : In X N G sc := by assumption) (hc : X.calm = true := by rfl) (hA : At N j y := by repeat (first | with_reducible apply At.z | with_reducible apply At.s))
    (hk : X.env.scope.kind = .function := by rfl) (hy : X.env.scope.names.lookup y = some .local := by rfl) (hl : (py.line == pos.line) = true := by rfl) (ha : (scope.names.any fun (n, k) => n == y && (k == .local || k == .cell)) = false := by decide +kernel) (hs2 : ∀ z, foldedSetIterable a X.env z = pure z := by intro _; rfl) :
    wS X (.Assign [.Name y py] (.DictComp kx vx [⟨.Name x px, a, [], 0⟩] scope pos) spos) ⟨nx, rt, bk, ct⟩ σ H := by
  refine s_of (ps_setDc (own := [(x, i)]) (g := gName i) (tt := tYes) (tk := wBk X Vn G' kx scope) (tv := wBk X Vn G' vx scope) hc I.nd (I.hi hA) hy (sw_trueD hk hy hl ha) (pi_list pe) (B.ok I) (fun s H C cl fp => B.pg I s H C cl fp) (fun _ _ _ _ _ => pts_nil) (fun s H C cl fp => pe_bk (B.inB I s H C cl fp)) (fun s H C cl fp => pe_bk (B.inB I s H C cl fp)) hs2) (e_mono q fun v H1 q1 => ?_)
  obtain ⟨ad, xs, rfl, hl, q2⟩ := q1
  exact ⟨ad, rfl, ⟨xs, hl⟩, fun D hD => dcL_of (q2 D hD)⟩
theorem e_dcL {i : Nat} {x : Str} {px : Pos} (B : BkOk X.N Vn G' i x sc scope)
    (q : wE X a σ H fun v H1 => ∃ ad xs, v = .ref ad ∧ SqL X.K H1 ad xs ∧ ∀ D, H1 D = none → DcL X Vn G' kx vx scope i ad xs D σ H1 fun H2 => Q (.ref D) H2)
    (I : In X N G sc := by assumption) (hc : X.calm = true := by rfl) (hs2 : ∀ z, foldedSetIterable a X.env z = pure z := by intro _; rfl) :
    wE X (.DictComp kx vx [⟨.Name x px, a, [], 0⟩] scope pos) σ H Q := by
  refine e_of (pe_dc (own := [(x, i)]) (g := gName i) (tt := tYes) (tk := wBk X Vn G' kx scope) (tv := wBk X Vn G' vx scope) hc I.nd (pi_list pe) (B.ok I) (fun s H C cl fp => B.pg I s H C cl fp) (fun _ _ _ _ _ => pts_nil) (fun s H C cl fp => pe_bk (B.inB I s H C cl fp)) (fun s H C cl fp => pe_bk (B.inB I s H C cl fp)) hs2) (e_mono q fun v H1 q1 => ?_)
  obtain ⟨ad, xs, rfl, hl, q2⟩ := q1
  exact ⟨ad, rfl, ⟨xs, hl⟩, fun D hD => dcL_of (q2 D hD)⟩
/-- for x, y, z in t, a tuple of triples -/
theorem s_forT3 {nx : L2.St → Hp → Prop} {rt : VK} {bk ct : L2.St → Hp → Prop} {x y z : Str} {i j k : Nat} {body : List Stmt} {px py pz pt : Pos} {kk : Nat}
    (q : wE X a σ H fun v H1 => ∃ ad xs, v = .ref ad ∧ SqT X.K H1 ad xs ∧ ∃ Pv : Nat → L2.St → Hp → Prop, Pv 0 σ H1 ∧ (∀ n σ H, n ≤ xs.length → Pv n σ H → SqT X.K H ad xs) ∧
      (∀ n u σ H, xs[n]? = some u → Pv n σ H → ∃ t u1 u2 u3, u = .ref t ∧ SqT X.K H t [u1, u2, u3] ∧ wL X body ⟨Pv (n + 1), rt, nx, Pv (n + 1)⟩ (((σ.set i (some u1)).set j (some u2)).set k (some u3)) H) ∧ ∀ σ H, Pv xs.length σ H → nx σ H)
    (I : In X N G sc := by assumption) (hc : X.calm = true := by rfl) (hA : At N i x := by repeat (first | with_reducible apply At.z | with_reducible apply At.s)) (hB : At N j y := by repeat (first | with_reducible apply At.z | with_reducible apply At.s)) (hC : At N k z := by repeat (first | with_reducible apply At.z | with_reducible apply At.s))
    (hs2 : ∀ z, foldedSetIterable a X.env z = pure z := by intro _; rfl) :
    wS X (.For (.Tuple [.Name x px, .Name y py, .Name z pz] kk pt) a body [] pos) ⟨nx, rt, bk, ct⟩ σ H := by
  refine s_of (ps_for I.never hc (pi_tup pe) (pg_tup hc (pgs_cons (pg_name I.nd (I.hi hA) (I.loc hA) I.f) (pgs_cons (pg_name I.nd (I.hi hB) (I.loc hB) I.f) (pgs_cons (pg_name I.nd (I.hi hC) (I.loc hC) I.f) pgs_nil)))) pl hs2) (e_mono q fun v H1 q1 => ?_)
  obtain ⟨ad, xs, rfl, hl, Pv, h0, hk, hb, hd⟩ := q1
  refine ⟨ad, rfl, ⟨xs, hl⟩, for_tup Pv h0 hk (fun n u σ H hu p => ?_) hd⟩
  obtain ⟨t, u1, u2, u3, rfl, hq, z⟩ := hb n u σ H hu p
  exact ⟨t, [u1, u2, u3], rfl, hq, rfl, u1, [u2, u3], rfl, u2, [u3], rfl, u3, [], rfl, rfl, z⟩
end
end Wk

set_option maxHeartbeats 4000000
/-! My own layer: dicts, membership, least and greatest of a list, and the like. -/
namespace Wk
open PySem PySem.Spec PyProof.Rows L2
section
variable {X : Cx} {e a b c f o i : Expr} {es rest : List Expr} {σ : L2.St} {H : Hp} {Q : VK} {pos p0 apos : Pos} {N G G' : List Str} {Vn : List (Nat × Str)} {sc scope : Scope} {n : Nat}
theorem e_dg (hr : Room n X.A) (q : wE X o σ H fun x H1 => wE X i σ H1 fun y H2 => ∃ a v, x = .ref a ∧ DGet H2 a y (some v) ∧ Q v H2) (hs : NoSl i := by intro _ _; rfl) : wE X (.Subscript o i pos) σ H Q := e_of (pe_dget (hu_of hr) pe pe hs) q
theorem dg_k {ad : Addr} {kvs : List (Key × L2.V)} {z : Str} {v : L2.V} (h : H ad = some (.dK kvs)) (e : valV kvs (Sum.inr z) = some v) : DGet H ad (.str z) (some v) := by
  have g := DGet.k (k := (Sum.inr z : Key)) h
  rw [e] at g
  exact g
theorem dg_f {ad : Addr} {ob : Obj} {kvs : List (Key × L2.V)} {z : Str} {v : L2.V} (h : H ad = some (.frz ob (.dK kvs))) (e : valV kvs (Sum.inr z) = some v) : DGet H ad (.str z) (some v) :=
  .inl ⟨kvs, Sum.inr z, .inr ⟨ob, h⟩, rfl, e.symm⟩
theorem e_dget2 (hr : Room n X.A) (q : wE X o σ H fun x H1 => ∃ a, x = .ref a ∧ IsD H1 a ∧ wE X e σ H1 fun y H2 => wE X f σ H2 fun z H3 => ∃ o, DGet H3 a y o ∧ Q (o.getD z) H3)
    (m : M2 X o "get" apos e f pos := by exact ⟨rfl, rfl, rfl, rfl⟩) : wE X (.Call (.Attribute o "get" apos) [e, f] [] pos) σ H Q := e_of (pe_dget2 (hu_of hr) pe pe pe m) q
theorem e_dnew (q : ∀ p, H p = none → Q (.ref p) (upd H p (.dK []))) : wE X (.Dict [] [] pos) σ H Q := e_of pe_dnewK q
theorem o_in {x : L2.V} {p : Addr} {xs : List L2.V} (h : SqL X.K H p xs) (hx : flatV x = true) (hs : xs.all flatV = true) (q : Q (.bl (inV x xs)) H) : wK X .In x (.ref p) H Q := k_of op_in_seq ⟨p, xs, rfl, .inl h, hx, hs, q⟩
theorem o_nin {x : L2.V} {p : Addr} {xs : List L2.V} (h : SqL X.K H p xs) (hx : flatV x = true) (hs : xs.all flatV = true) (q : Q (.bl (!inV x xs)) H) : wK X .NotIn x (.ref p) H Q := k_of op_notIn_seq ⟨p, xs, rfl, .inl h, hx, hs, q⟩
theorem o_inS {c : Nat} {z : Str} (q : Q (.bl (decide (c ∈ z.cps.toList))) H) : wK X .In (.str ⟨#[c]⟩) (.str z) H Q := k_of op_in_sign ⟨c, z, rfl, rfl, q⟩
theorem c_minL {p : Addr} {ns : List Int} (hc : X.calm = true) (h : SqL X.K H p (ns.map V.int)) (h0 : 0 < ns.length) {m0 : Int} (h1 : m0 ∈ ns) (h2 : ∀ y ∈ ns, m0 ≤ y) (q : Q (.int m0) H) : wC X (.builtin "min") [.ref p] H Q :=
  c_of (cr_min hc) ⟨p, ns, rfl, h, h0, fun m hm hle => by
    have e : m = m0 := Int.le_antisymm (hle m0 h1) (h2 m hm)
    rw [e]
    exact q⟩
theorem c_maxL {p : Addr} {ns : List Int} (hc : X.calm = true) (h : SqL X.K H p (ns.map V.int)) (h0 : 0 < ns.length) {m0 : Int} (h1 : m0 ∈ ns) (h2 : ∀ y ∈ ns, y ≤ m0) (q : Q (.int m0) H) : wC X (.builtin "max") [.ref p] H Q :=
  c_of (cr_max hc) ⟨p, ns, rfl, h, h0, fun m hm hle => by
    have e : m = m0 := Int.le_antisymm (h2 m hm) (hle m0 h1)
    rw [e]
    exact q⟩
theorem c_setTx {l : Addr} {zs : List Str} (hc : X.calm = true) (h : SqL X.K H l (zs.map V.str)) (hb : zs.length + 1 < scanBound) (q : ∀ p, H p = none → Q (.ref p) (upd H p (SetTO X.w p (uniqL zs)))) : wC X (.type "set") [.ref l] H Q := c_of (cr_setOfTx hc) ⟨l, zs, rfl, h, hb, q⟩
theorem c_sortedTx {p : Addr} {L : List Str} (hc : X.calm = true) (h : H p = some (SetTO X.w p L)) (h64 : L.length < 64) (q : ∀ (ys : List Str) (l : Addr) H2, ys.Perm L → sortedS ys = true → Same H H2 → H l = none → H2 l = some (.lst (ys.map V.str)) → Q (.ref l) H2) : wC X (.builtin "sorted") [.ref p] H Q :=
  c_of (cr_sortedTx hc) ⟨p, L, rfl, h, h64, fun ys l pm hs np => q ys l _ pm hs (fun b o eo => by rw [upd_ne (ne_of_none eo np)]; exact eo) np upd_same⟩
theorem c_sortedL {p : Addr} {zs : List Str} (h : SqL X.K H p (zs.map V.str)) (h64 : zs.length < 64) (q : ∀ (ys : List Str) (l : Addr) H2, ys.Perm zs → sortedS ys = true → Same H H2 → H l = none → H2 l = some (.lst (ys.map V.str)) → Q (.ref l) H2) : wC X (.builtin "sorted") [.ref p] H Q :=
  c_of cr_sortedS ⟨p, zs, rfl, h, h64, fun ys l pm hs np => q ys l _ pm hs (fun b o eo => by rw [upd_ne (ne_of_none eo np)]; exact eo) np upd_same⟩
theorem c_tupL {p : Addr} {xs : List L2.V} (h : SqL X.K H p xs) (q : ∀ l H2, Same H H2 → H l = none → H2 l = some (.tup xs) → Q (.ref l) H2) : wC X (.type "tuple") [.ref p] H Q :=
  c_of call_tuple_of ⟨p, xs, rfl, .inl ⟨h, fun l np => q l _ (fun b o eo => by rw [upd_ne (ne_of_none eo np)]; exact eo) np upd_same⟩⟩
theorem c_strI {k : Int} (h : k.natAbs.log2 < 1920) (q : Q (.str (toString k)) H) : wC X (.type "str") [.int k] H Q := c_of call_str_int ⟨k, rfl, h, q⟩
theorem c_intB {k : Bool} (q : Q (.int (if k then 1 else 0)) H) : wC X (.type "int") [.bl k] H Q := c_of call_int1 (.inr ⟨k, rfl, q⟩)
theorem e_tupRev {g1 g2 : Nat} {p p2 pos2 : Pos} (hm : X.mg "tuple" = none) (hm2 : X.mg "reversed" = none) (q : wE X e σ H fun v H1 => ∃ (a : Addr) (xs : List L2.V), v = .ref a ∧ SqT X.K H1 a xs ∧ ∀ q H2, Same H1 H2 → H1 q = none → H2 q = some (.tup xs.reverse) → Q (.ref q) H2)
    (I : In X N G sc := by assumption) (hc : X.calm = true := by rfl) (hG : At G g1 ("tuple" : Str) := by repeat (first | with_reducible apply At.z | with_reducible apply At.s)) (hG2 : At G g2 ("reversed" : Str) := by repeat (first | with_reducible apply At.z | with_reducible apply At.s))
    (hs : starEach [e] X.env = (false, eval e X.env) :: starEach [] X.env := by rfl) (hs2 : starEach [.Call (.Name "reversed" p2) [e] [] pos2] X.env = (false, eval (.Call (.Name "reversed" p2) [e] [] pos2) X.env) :: starEach [] X.env := by rfl) :
    wE X (.Call (.Name "tuple" p) [.Call (.Name "reversed" p2) [e] [] pos2] [] pos) σ H Q :=
  e_of (pe_tupRt hc (I.g hG) hm (I.g hG2) hm2 pe hs hs2) (e_mono q fun v H1 ⟨a, xs, ev, hq, z⟩ => ⟨a, xs, ev, hq, fun l np => z l _ (fun b o eo => by rw [upd_ne (ne_of_none eo np)]; exact eo) np upd_same⟩)
theorem e_clear (q : wE X o σ H fun x H1 => ∃ l xs, x = .ref l ∧ H1 l = some (.lst xs) ∧ Q .non (upd H1 l (.lst [])))
    (hbase : attributeBase o "clear" X.env (eval o X.env) = eval o X.env := by rfl) (hline : (apos.endLine == pos.line) = true := by rfl) : wE X (.Call (.Attribute o "clear" apos) [] [] pos) σ H Q := by
  refine e_of (pe_bm0 PySem.F.plainAttrs_list PySem.F.slot_list_clear PySem.F.type_list_clear mt_clear pe hbase hline) (e_mono q fun x H1 z => ?_)
  obtain ⟨l, xs, rfl, h1, h2⟩ := z
  exact ⟨.inl ⟨rfl, _, SqL.of h1⟩, l, xs, rfl, rfl, h1, h2⟩
theorem b_callTy {g : Nat} {x : Str} {T : String} (hm : X.mg x = none) (hv : bootBuiltins x = some (.type T)) (q : wA X (e :: es) σ H fun vs H1 => wC X (.type T) vs H1 Q) (I : InB X Vn G := by assumption) (hG : At G g x := by repeat (first | with_reducible apply At.z | with_reducible apply At.s))
    (he : starEach (e :: es) X.env = (false, eval e X.env) :: starEach es X.env := by rfl) (hpl : (backTo pos (starEach es X.env)).any (·.1) = false := by rfl) : wE X (.Call (.Name x p0) (e :: es) [] pos) σ H Q := e_of (pe_callTy cr (I.g hG) hm hv pa (I.gn hG) (I.gd hG) he hpl) q
theorem b_bltn {g : Nat} {x : Str} {v : L2.V} {u : Value} (hm : X.mg x = none) (hv : bootBuiltins x = some u) (r : RelV v u) (q : Q v H) (I : InB X Vn G := by assumption) (hG : At G g x := by repeat (first | with_reducible apply At.z | with_reducible apply At.s)) : wE X (.Name x pos) σ H Q := e_of (pe_bltn (I.g hG) hm hv r (I.gn hG) (I.gd hG)) q
theorem o_eqD {x y : L2.V} {d e : PyData} (hr : Room n X.A) (h1 : Dp X.K H x d) (h2 : Dp X.K H y e) (s1 : SeqAt.shaped d = true) (s2 : SeqAt.shaped e = true) (q : Q (.bl (PyData.eqv d e)) H) : wK X .Eq x y H Q := k_of (op_eqD hr.units) ⟨d, e, h1, h2, s1, s2, q⟩
theorem o_neD {x y : L2.V} {d e : PyData} (hr : Room n X.A) (h1 : Dp X.K H x d) (h2 : Dp X.K H y e) (s1 : SeqAt.shaped d = true) (s2 : SeqAt.shaped e = true) (q : Q (.bl (!PyData.eqv d e)) H) : wK X .NotEq x y H Q := k_of (op_neD hr.units) ⟨d, e, h1, h2, s1, s2, q⟩
theorem b_set : bootBuiltins "set" = some (.type "set") := by decide +kernel
theorem b_sorted : bootBuiltins "sorted" = some (.builtin "sorted") := by decide +kernel
theorem ixr_d (hu : X.A.units + 1 < cLine) : IxR X (fun x y H Q => ∃ a v, x = .ref a ∧ DGet H a y (some v) ∧ Q v H) := by
  intro value slice pins s σ H x y v u Q I rx ry h hs
  obtain ⟨ad, z, rfl, g, q⟩ := h
  cases rx
  have hT := dict_typeIs I g
  unfold subscriptTail
  refine wpAny_bind ?_
  rw [getitemInPython_of_ne hT.not_modules]
  refine wpAny_bind (wpAny_specialOf hT PySem.F.slot_dict_getitem.lookup ?_)
  have fin : wpAny (model X.prog X.w) X.A (subscripted slice false (.ref ad) u) (fun r s3 => wpAny (model X.prog X.w) X.A (letTemporaryGo value (.ref ad) r >>= fun _ => pure r) (EP X pins σ Q) X.xe s3) X.xe s := by
    rw [hs]
    refine wpAny_operating (d_getItem hu I g ry fun w2 s2 I2 r2 => wpAny_bind (wpAny_letTemporaryGo (wpAny_pure ?_)))
    exact ⟨z, H, I2, r2, q⟩
  first
    | exact wpAny_pure (wpAny_bind fin)
    | exact wpAny_bind fin
    | exact wpAny_pure fin
theorem ix_d {x y : L2.V} (hr : Room n X.A) (q : ∃ a v, x = .ref a ∧ DGet H a y (some v) ∧ Q v H) : wIx X x y H Q := ix_of (ixr_d (hu_of hr)) q
end
end Wk

set_option maxHeartbeats 4000000
/-! My own layer: dicts of the module's top, comprehensions over a tuple with a test, slices of tuples, xs[::-1], extend, reversed, displayed dicts, copies and == of dicts, walks over a dict. -/
namespace Wk
open PySem PySem.Spec PyProof.Rows L2
/-- a dict of the module's top, its keys ints and texts -/
def KDict (w : World) (K : PySem.W.Frag) (D : Addr) (kvs : List (Key × L2.V)) : Prop := ∃ (o : Obj) (vs : List (Key × Value)), K.lookup D = some o ∧ KV kvs vs ∧ ∀ P, PySem.Obj.IsDictOf (mixKind P w) o vs
theorem pairs_mk {P : Program} {w : World} : ∀ (ts : List (Str × Tok × Value)), Pairs (mixKind P w) (ts.map fun x => (⟨hashStr w x.1, .str x.1 x.2.1, x.2.2⟩ : DictEntry)) (ts.map fun x => ((Sum.inr x.1 : Key), x.2.2))
  | [] => .nil
  | t :: ts => .cons (mixKind_str P w _ _) rfl (pairs_mk ts)
theorem kdict_mk {w : World} {K : PySem.W.Frag} {D : Addr} {o : Obj} {n : Nat} {kvs : List (Key × L2.V)} (ts : List (Str × Tok × Value)) (l : K.lookup D = some o) (hx : o.ExactDict) (hd : o.data = .dict (ts.map fun x => (⟨hashStr w x.1, .str x.1 x.2.1, x.2.2⟩ : DictEntry)).toArray n)
    (hk : KV kvs (ts.map fun x => ((Sum.inr x.1 : Key), x.2.2))) (nd : (ts.map (·.1)).Nodup) : KDict w K D kvs := by
  refine ⟨o, _, l, hk, fun P => ⟨_, n, hx, hd, ?_, ?_, ?_⟩⟩
  · intro e he
    obtain ⟨t, ht, rfl⟩ := List.mem_map.mp (List.mem_toArray.mp he)
    exact ⟨Sum.inr t.1, mixKind_str P w _ _, rfl⟩
  · rw [List.toList_toArray]
    exact pairs_mk ts
  · rw [List.map_map]
    have e : (ts.map ((fun x : Key × Value => x.1) ∘ fun x : Str × Tok × Value => ((Sum.inr x.1 : Key), x.2.2))) = (ts.map (·.1)).map Sum.inr := by rw [List.map_map]; rfl
    rw [e]
    exact List.pairwise_map.mpr (List.Pairwise.imp (fun h e => h (Sum.inr.inj e)) nd)
section
variable {X : Cx} {e a b c elt : Expr} {es rest : List Expr} {σ : L2.St} {H : Hp} {Q : VK} {pos p0 : Pos} {N G G' : List Str} {Vn : List (Nat × Str)} {sc scope : Scope}
theorem ixr_kd : IxR X (fun x y H Q => ∃ a kvs z v, x = .ref a ∧ y = .str z ∧ KDict X.w X.K a kvs ∧ valV kvs (Sum.inr z) = some v ∧ Q v H) := by
  intro value slice pins s σ H x y v u Q I rx ry h hs
  obtain ⟨ad, kvs, z, v0, rfl, rfl, ⟨o, vs, hl, hkv, hd⟩, hv, q⟩ := h
  cases rx
  have dd : s.heap.DictOf (mixKind X.prog X.w) ad vs := Heap.dictOf_iff.mpr ⟨o, I.kIn ad o hl, hd X.prog⟩
  have hT := dd.typeIs
  unfold subscriptTail
  refine wpAny_bind ?_
  rw [getitemInPython_of_ne hT.not_modules]
  refine wpAny_bind (wpAny_specialOf hT PySem.F.slot_dict_getitem.lookup ?_)
  obtain ⟨w', hw, rw'⟩ := RelO.some_of (v := v0) (o := valueAt vs (Sum.inr z)) (by rw [← hv]; exact hkv.val (Sum.inr z))
  have fin : wpAny (model X.prog X.w) X.A (subscripted slice false (.ref ad) u) (fun r s3 => wpAny (model X.prog X.w) X.A (letTemporaryGo value (.ref ad) r >>= fun _ => pure r) (EP X pins σ Q) X.xe s3) X.xe s := by
    rw [hs]
    refine wpAny_operating (wpAny_getItem_of (knd := mixKind X.prog X.w) (k := (Sum.inr z : Key)) (kV_is (k := Sum.inr z) ry) dd.mapOf hw ?_)
    refine wpAny_bind (wpAny_letTemporaryGo (wpAny_pure ?_))
    exact ⟨v0, H, I.tok _, rw', q⟩
  first
    | exact wpAny_pure (wpAny_bind fin)
    | exact wpAny_bind fin
    | exact wpAny_pure fin
theorem ix_kd {D : Addr} {kvs : List (Key × L2.V)} {z : Str} {v : L2.V} (h : KDict X.w X.K D kvs) (e : valV kvs (Sum.inr z) = some v) (q : Q v H) : wIx X (.ref D) (.str z) H Q := ix_of ixr_kd ⟨D, kvs, z, v, rfl, rfl, h, e, q⟩
theorem o_inT {x : L2.V} {p : Addr} {xs : List L2.V} (h : SqT X.K H p xs) (hx : flatV x = true) (hs : xs.all flatV = true) (q : Q (.bl (inV x xs)) H) : wK X .In x (.ref p) H Q := k_of op_in_seq ⟨p, xs, rfl, .inr h, hx, hs, q⟩
theorem o_catA {p r : Addr} {xs ys : List L2.V} (h1 : H p = some (.tup xs)) (h2 : H r = some (.tup ys)) (hz : xs.length + ys.length ≤ 200000) (q : ∀ t H2, Same H H2 → H2 t = some (.tup (xs ++ ys)) → Q (.ref t) H2) : wB X .Add (.ref p) (.ref r) H Q := by
  refine b_of op_catA ⟨p, r, xs, ys, rfl, rfl, SqT.of h1, SqT.of h2, by show _ ≤ 2 ^ 24; omega, fun e => ?_, fun _ e => ?_, fun _ _ t ht => ?_⟩
  · subst e
    exact q r H (Same.refl H) h2
  · subst e
    refine q p H (Same.refl H) ?_
    rw [List.append_nil]
    exact h1
  · exact q t _ (fun c u eo => by rw [upd_ne (ne_of_none eo ht)]; exact eo) upd_same
theorem cut_hi {xs ys : List L2.V} : cutV (xs ++ ys) none (some (xs.length : Int)) = xs := by
  unfold cutV
  rw [HT.sIx_none, HT.sIx_nat, List.length_append, Nat.min_eq_left (by omega), List.drop_zero, Nat.sub_zero, List.take_left]
theorem cut_lo {xs ys : List L2.V} : cutV (xs ++ ys) (some (xs.length : Int)) none = ys := by
  unfold cutV
  rw [HT.sIx_none, HT.sIx_nat, List.length_append, Nat.min_eq_left (by omega), List.drop_left, Nat.add_sub_cancel_left, List.take_length]
/-- t[:k] of t = xs ++ ys, k the length of xs -/
theorem e_tHi (q : wE X e σ H fun x H1 => wE X b σ H1 fun y H2 => ∃ p xs ys, x = .ref p ∧ y = .int (xs.length : Int) ∧ H2 p = some (.tup (xs ++ ys)) ∧ ∀ t H3, Same H2 H3 → H3 t = some (.tup xs) → Q (.ref t) H3) {p2 : Pos} : wE X (.Subscript e (.Slice none (some b) none p2) pos) σ H Q := by
  refine e_slL1 sl_tupA (e_mono q fun x H1 z => e_mono z fun y H2 ⟨p, xs, ys, ex, ey, ht, q⟩ => ⟨_, ey, p, xs ++ ys, ex, SqT.of ht, fun hw => ?_, fun _ t nt => ?_⟩)
  · refine q p H2 (Same.refl H2) ?_
    have e : xs ++ ys = xs := by
      have h2 := hw.2
      rw [HT.sIx_nat, List.length_append] at h2
      have : ys = [] := by
        cases ys with
        | nil => rfl
        | cons y ys => simp only [List.length_cons] at h2; omega
      rw [this, List.append_nil]
    rw [e] at ht
    exact ht
  · refine q t _ (fun c u eo => by rw [upd_ne (ne_of_none eo nt)]; exact eo) ?_
    rw [cut_hi]
    exact upd_same
theorem e_tLo (q : wE X e σ H fun x H1 => wE X a σ H1 fun y H2 => ∃ p xs ys, x = .ref p ∧ y = .int (xs.length : Int) ∧ H2 p = some (.tup (xs ++ ys)) ∧ ∀ t H3, Same H2 H3 → H3 t = some (.tup ys) → Q (.ref t) H3) {p2 : Pos} : wE X (.Subscript e (.Slice (some a) none none p2) pos) σ H Q := by
  refine e_slL0 sl_tupA (e_mono q fun x H1 z => e_mono z fun y H2 ⟨p, xs, ys, ex, ey, ht, q⟩ => ⟨_, ey, p, xs ++ ys, ex, SqT.of ht, fun hw => ?_, fun _ t nt => ?_⟩)
  · refine q p H2 (Same.refl H2) ?_
    have e : xs ++ ys = ys := by
      have h2 := hw.1
      rw [HT.sIx_nat, List.length_append] at h2
      have : xs = [] := by
        cases xs with
        | nil => rfl
        | cons y xs => simp only [List.length_cons] at h2; omega
      rw [this, List.nil_append]
    rw [e] at ht
    exact ht
  · refine q t _ (fun c u eo => by rw [upd_ne (ne_of_none eo nt)]; exact eo) ?_
    rw [cut_lo]
    exact upd_same
theorem e_rev {k : Nat} {p1 p2 p3 : Pos} (q : wE X e σ H fun x H1 => ∃ p xs, x = .ref p ∧ SqL X.K H1 p xs ∧ ∀ t H2, Same H1 H2 → H1 t = none → H2 t = some (.lst xs.reverse) → Q (.ref t) H2) : wE X (.Subscript e (.Slice none none (some (.UnaryOp .USub (.Constant (.int 1) k p1) p2)) p3) pos) σ H Q :=
  e_of (pe_revL pe) (e_mono q fun x H1 ⟨p, xs, ex, h, q⟩ => ⟨p, xs, ex, h, fun t nt => q t _ (fun c u eo => by rw [upd_ne (ne_of_none eo nt)]; exact eo) nt upd_same⟩)
theorem e_ext {o : Expr} {apos : Pos} (q : wE X o σ H fun x H1 => ∃ l xs0, x = .ref l ∧ SqL X.K H1 l xs0 ∧ wE X e σ H1 fun y H2 => ∃ r xs zs, y = .ref r ∧ H2 l = some (.lst xs) ∧ H2 r = some (.lst zs) ∧ xs.length + zs.length ≤ 200000 ∧ Q .non (upd H2 l (.lst (xs ++ zs))))
    (hbase : attributeBase o "extend" X.env (eval o X.env) = eval o X.env := by rfl)
    (hfew : ((backTo pos (starEach (e :: []) X.env)).all (fun x => !x.1) && (backToKw pos (keywordEach [] X.env)).all (fun x => x.1.isSome)
      && decide ((e :: []).length + ([] : List Keyword).length + (if ([] : List Keyword).isEmpty then 0 else 1) < 30)) = true := by rfl)
    (hline : (apos.endLine == pos.line) = true := by rfl) (hs : starEach (e :: []) X.env = (false, eval e X.env) :: starEach [] X.env := by rfl) (hplain : (backTo pos (starEach [] X.env)).any (·.1) = false := by rfl) :
    wE X (.Call (.Attribute o "extend" apos) [e] [] pos) σ H Q := by
  refine e_of (pe_bm PySem.F.plainAttrs_list PySem.F.slot_list_extend PySem.F.type_list_extend mt_extend pe (pa_cons pe pa_nil hs) hbase hfew hline hs hplain) (e_mono q fun x H1 z => ?_)
  obtain ⟨l, xs0, rfl, hl, z⟩ := z
  refine ⟨.inl ⟨rfl, _, hl⟩, e_mono z fun y H2 z2 => ?_⟩
  obtain ⟨r, xs, zs, rfl, h1, h2, h3, h4⟩ := z2
  exact ⟨l, r, xs, zs, rfl, rfl, h1, h2, by show _ ≤ 2 ^ 24; omega, h4⟩
theorem c_dict {p : Addr} {kvs : List (Key × L2.V)} (h : H p = some (.dK kvs)) (q : ∀ t H2, Same H H2 → H t = none → H2 t = some (.dK kvs) → Q (.ref t) H2) : wC X (.type "dict") [.ref p] H Q :=
  c_of call_dictD ⟨p, kvs, rfl, .inl h, fun t nt => q t _ (fun c u eo => by rw [upd_ne (ne_of_none eo nt)]; exact eo) nt upd_same⟩
theorem c_listT {p : Addr} {xs : List L2.V} (h : H p = some (.tup xs)) (q : ∀ l H2, Same H H2 → H l = none → H2 l = some (.lst xs) → Q (.ref l) H2) : wC X (.type "list") [.ref p] H Q :=
  c_of call_list_of ⟨p, xs, rfl, .inr (SqT.of h), fun l np => q l _ (fun c u eo => by rw [upd_ne (ne_of_none eo np)]; exact eo) np upd_same⟩
theorem c_listDn {p : Addr} {kvs : List (Key × L2.V)} (hc : X.calm = true) (h : H p = some (.dK kvs)) (q : ∀ l H2, Same H H2 → H l = none → H2 l = some (.lst (kvs.map fun kv => kV kv.1)) → Q (.ref l) H2) : wC X (.type "list") [.ref p] H Q :=
  c_of (call_list_dK hc) ⟨p, kvs, rfl, h, fun l np => q l _ (fun c u eo => by rw [upd_ne (ne_of_none eo np)]; exact eo) np upd_same⟩
theorem o_eqDt {n : Nat} {p r : Addr} {ks ls : List (Key × L2.V)} (hr : Room n X.A) (h1 : H p = some (.dK ks)) (h2 : H r = some (.dK ls)) (hl : ks.length = ls.length) (hv : ∀ p ∈ ks, valV ls p.1 = some p.2 ∧ flatB p.2 = true) (q : Q (.bl true) H) : wK X .Eq (.ref p) (.ref r) H Q :=
  k_of (op_eq_dictA (by have := hr.units; omega)) ⟨p, r, ks, ls, rfl, rfl, h1, h2, hl, hv, q⟩
/-- {k: v} and {k: v, k2: v2} -/
theorem e_d1 {k v : Expr} (q : ∀ p, H p = none → wE X k σ (upd H p (.dK [])) fun x H1 => wE X v σ H1 fun y H2 => H2 p = some (.dK []) ∧ ∃ z, x = .str z ∧ Q (.ref p) (upd H2 p (.dK [(Sum.inr z, y)]))) : wE X (.Dict [some k] [v] pos) σ H Q := by
  refine e_of (pe_disp (pps_cons pe pe pps_nil) rfl rfl (by simp) (by simp)) fun p np => e_mono (q p np) fun x H1 q1 => e_mono q1 fun y H2 q2 => ?_
  obtain ⟨h, z, rfl, q3⟩ := q2
  exact ⟨h, [(Sum.inr z, y)], rfl, by simp, q3⟩
theorem e_d2 {k v k2 v2 : Expr} (q : ∀ p, H p = none → wE X k σ (upd H p (.dK [])) fun x H1 => wE X v σ H1 fun y H2 => wE X k2 σ H2 fun x2 H3 => wE X v2 σ H3 fun y2 H4 => H4 p = some (.dK []) ∧ ∃ z z2, x = .str z ∧ x2 = .str z2 ∧ z ≠ z2 ∧ Q (.ref p) (upd H4 p (.dK [(Sum.inr z, y), (Sum.inr z2, y2)]))) :
    wE X (.Dict [some k, some k2] [v, v2] pos) σ H Q := by
  refine e_of (pe_disp (pps_cons pe pe (pps_cons pe pe pps_nil)) rfl rfl (by simp) (by simp)) fun p np => e_mono (q p np) fun x H1 q1 => e_mono q1 fun y H2 q2 => e_mono q2 fun x2 H3 q3 => e_mono q3 fun y2 H4 q4 => ?_
  obtain ⟨h, z, z2, rfl, rfl, ne, q5⟩ := q4
  refine ⟨h, [(Sum.inr z, y), (Sum.inr z2, y2)], rfl, by simp, ?_⟩
  have e : mergeK [] [((Sum.inr z : Key), y), (Sum.inr z2, y2)] = [(Sum.inr z, y), (Sum.inr z2, y2)] := by
    show putK (putK [] (Sum.inr z) y) (Sum.inr z2) y2 = _
    unfold putK
    simp [ne]
  rw [e]
  exact q5
/-- for x in reversed(xs), xs a list -/
theorem s_forRv {nx : L2.St → Hp → Prop} {rt : VK} {bk ct : L2.St → Hp → Prop} {g : Nat} {x : Str} {i : Nat} {body : List Stmt} {px p cp pos : Pos} (hm : X.mg "reversed" = none)
    (q : wE X a σ H fun v H1 => ∃ ad xs, v = .ref ad ∧ SqL X.K H1 ad xs ∧ ∃ Pv : Nat → L2.St → Hp → Prop, Pv 0 σ H1 ∧ (∀ k σ H, k ≤ xs.length → Pv k σ H → SqL X.K H ad xs) ∧ (∀ k y σ H, xs.reverse[k]? = some y → Pv k σ H → wL X body ⟨Pv (k + 1), rt, nx, Pv (k + 1)⟩ (σ.set i (some y)) H) ∧ ∀ σ H, Pv xs.length σ H → nx σ H)
    (I : In X N G sc := by assumption) (hc : X.calm = true := by rfl) (hA : At N i x := by repeat (first | with_reducible apply At.z | with_reducible apply At.s)) (hG : At G g ("reversed" : Str) := by repeat (first | with_reducible apply At.z | with_reducible apply At.s))
    (hs : starEach [a] X.env = (false, eval a X.env) :: starEach [] X.env := by rfl) (hs2 : ∀ z, foldedSetIterable (.Call (.Name "reversed" p) [a] [] cp) X.env z = pure z := by intro _; rfl) :
    wS X (.For (.Name x px) (.Call (.Name "reversed" p) [a] [] cp) body [] pos) ⟨nx, rt, bk, ct⟩ σ H := by
  refine s_of (ps_for I.never hc (RT.pi_revA (I.g hG) hm pe hs) (pg_name I.nd (I.hi hA) (I.loc hA) I.f) pl hs2) (e_mono q fun v H1 q1 => ?_)
  obtain ⟨ad, xs, rfl, hl, Pv, h0, hk, hb, hd⟩ := q1
  refine ⟨ad, xs, rfl, .inl ⟨hl, fun k m σ H => m = xs.length - k ∧ k ≤ xs.length ∧ Pv k σ H, ⟨xs.length, by simp, Nat.zero_le _, h0⟩, ?_⟩⟩
  rintro k m σ H ⟨rfl, hi, p⟩
  have q := hk k σ H hi p
  by_cases hlt : k < xs.length
  · refine .inr ⟨⟨hlt, xs, xs[xs.length - 1 - k]'(by omega), q, by simp⟩, Pv (k + 1), fun σ' H' p' => ⟨xs.length - (k + 1), by omega, rfl, hlt, p'⟩, fun x H' y => ?_⟩
    obtain ⟨e, y⟩ := y
    subst e
    refine hb k x σ _ ?_ p
    rw [List.getElem?_reverse hlt]
    exact y xs q
  · have e : k = xs.length := by omega
    subst e
    exact .inl ⟨Nat.le_refl _, hd σ H p⟩
/-- for x in d, d a dict that stands at ad -/
theorem s_forD {nx : L2.St → Hp → Prop} {rt : VK} {bk ct : L2.St → Hp → Prop} {x : Str} {i : Nat} {body : List Stmt} {px pos : Pos} {ad : Addr} {kvs : List (Key × L2.V)} (h : H ad = some (.dK kvs))
    (q : ∀ o, wE X a σ (upd H ad (.frz o (.dK kvs))) fun v H1 => v = .ref ad ∧ H1 ad = some (.frz o (.dK kvs)) ∧ ∃ Pv : Nat → L2.St → Hp → Prop, Pv 0 σ H1 ∧ (∀ k σ H, k ≤ kvs.length → Pv k σ H → H ad = some (.frz o (.dK kvs))) ∧
      (∀ k y v σ H, kvs[k]? = some (y, v) → Pv k σ H → wL X body ⟨Pv (k + 1), fun v H' => H' ad = some (.frz o (.dK kvs)) ∧ rt v (upd H' ad (.dK kvs)), fun σ' H' => H' ad = some (.frz o (.dK kvs)) ∧ nx σ' (upd H' ad (.dK kvs)), Pv (k + 1)⟩ (σ.set i (some (kV y))) H) ∧ ∀ σ H, Pv kvs.length σ H → nx σ (upd H ad (.dK kvs)))
    (I : In X N G sc := by assumption) (hc : X.calm = true := by rfl) (hA : At N i x := by repeat (first | with_reducible apply At.z | with_reducible apply At.s)) (hs2 : ∀ z, foldedSetIterable a X.env z = pure z := by intro _; rfl) :
    wS X (.For (.Name x px) a body [] pos) ⟨nx, rt, bk, ct⟩ σ H := by
  refine s_of (ps_lock (ps_for I.never hc (pi_keys pe) (pg_name I.nd (I.hi hA) (I.loc hA) I.f) pl hs2)) ?_
  refine ⟨ad, .dK kvs, h, trivial, fun o => e_mono (q o) fun v H1 q1 => ?_⟩
  obtain ⟨rfl, h1, Pv, h0, hk, hb, hd⟩ := q1
  refine ⟨ad, o, rfl, .inl ⟨kvs, h1, fun k m σ H => m = kvs.length - k ∧ k ≤ kvs.length ∧ Pv k σ H, ⟨kvs.length, by simp, Nat.zero_le _, h0⟩, ?_⟩⟩
  rintro k m σ H ⟨rfl, hi, p⟩
  have q := hk k σ H hi p
  by_cases hlt : k < kvs.length
  · refine .inr ⟨⟨q, hlt⟩, Pv (k + 1), fun σ' H' p' => ⟨kvs.length - (k + 1), by omega, rfl, hlt, p'⟩, fun x H' y => ?_⟩
    obtain ⟨rfl, ky, v, hkv, rfl⟩ := y
    exact hb k ky v σ _ hkv p
  · have e : k = kvs.length := by omega
    subst e
    exact .inl ⟨⟨q, Nat.le_refl _⟩, q, hd σ H p⟩
/-- [elt for x in t if c], t a tuple -/
def LcTf (X : Cx) (Vn : List (Nat × Str)) (G' : List Str) (elt c : Expr) (scope : Scope) (i : Nat) (ad : Addr) (xs : List L2.V) (D : Addr) (σ : L2.St) (H1 : Hp) (Qd : Hp → Prop) : Prop := ∃ Pv : Nat → Hp → Prop, Pv 0 (upd H1 D (.lst [])) ∧ (∀ k H2, k ≤ xs.length → Pv k H2 → SqT X.K H2 ad xs) ∧
  (∀ k x H2, xs[k]? = some x → Pv k H2 → Turn1 X Vn G' elt c scope i D σ x H2 (Pv (k + 1))) ∧ ∀ H2, Pv xs.length H2 → Qd H2
theorem e_lcTf {i : Nat} {x : Str} {px : Pos} (B : BkOk X.N Vn G' i x sc scope)
    (q : wE X a σ H fun v H1 => ∃ ad xs, v = .ref ad ∧ SqT X.K H1 ad xs ∧ ∀ D, H1 D = none → LcTf X Vn G' elt c scope i ad xs D σ H1 fun H2 => Q (.ref D) H2)
    (I : In X N G sc := by assumption) (hc : X.calm = true := by rfl) (hs2 : ∀ z, foldedSetIterable a X.env z = pure z := by intro _; rfl) :
    wE X (.ListComp elt [⟨.Name x px, a, [c], 0⟩] scope pos) σ H Q := by
  refine e_of (pe_lc (own := [(x, i)]) (g := gName i) (tt := wBkT X Vn G' c scope) (te := wBk X Vn G' elt scope) hc I.nd (pi_tup pe) (B.ok I) (fun s H C cl fp => B.pg I s H C cl fp) (fun s H C cl fp => pts_bk (B.inB I s H C cl fp)) (fun s H C cl fp => pe_bk (B.inB I s H C cl fp)) hs2) (e_mono q fun v H1 q1 => ?_)
  obtain ⟨ad, xs, rfl, hl, q2⟩ := q1
  refine ⟨ad, rfl, ⟨xs, hl⟩, fun D hD => ?_⟩
  obtain ⟨Pv, h0, hk, hs, hd⟩ := q2 D hD
  exact lc_tup Pv h0 hk (fun k x H hx p => turn1_of (hs k x H hx p)) hd
/-- y = [elt for x in range(a) if c] -/
def LcRf (X : Cx) (Vn : List (Nat × Str)) (G' : List Str) (elt c : Expr) (scope : Scope) (i n : Nat) (D : Addr) (σ : L2.St) (H1 : Hp) (Qd : Hp → Prop) : Prop := ∃ Pv : Nat → Hp → Prop, Pv 0 (upd H1 D (.lst [])) ∧
  (∀ k H2, k < n → Pv k H2 → Turn1 X Vn G' elt c scope i D σ (.int (k : Int)) H2 (Pv (k + 1))) ∧ ∀ H2, Pv n H2 → Qd H2
theorem lcRf_of {i n : Nat} {D : Addr} {H1 : Hp} {Qd : Hp → Prop} (q : LcRf X Vn G' elt c scope i n D σ H1 Qd) : ∃ W : Nat → Nat → Hp → Prop, (∃ m, W 0 m (upd H1 D (.lst []))) ∧ ∀ k m H, W k m H →
    ((Itr 0 n).stop k H ∧ Qd H) ∨ ((Itr 0 n).go k H ∧ ∃ Nx : Hp → Prop, (∀ H', Nx H' → ∃ m', m' < m ∧ W (k + 1) m' H') ∧ ∀ x H', (Itr 0 n).yld k H x H' → gName i x (wipe σ [i]) H' fun σ2 H2 => wipe σ2 [i] = wipe σ [i] ∧ wBkT X Vn G' c scope σ2 H2 fun b H3 =>
      if b = true then wBk X Vn G' elt scope σ2 H3 fun y H4 => ∃ acc, H4 D = some (.lst acc) ∧ acc.length < sizeLine ∧ Nx (upd H4 D (.lst (acc ++ [y]))) else Nx H3) := by
  obtain ⟨Pv, h0, hs, hd⟩ := q
  refine lc_range Pv h0 (fun k H hk p => ?_) hd
  rw [Int.zero_add]
  exact turn1_of (hs k H hk p)
theorem s_lcRf {nx : L2.St → Hp → Prop} {rt : VK} {bk ct : L2.St → Hp → Prop} {i j g : Nat} {x y : Str} {px py p cp spos : Pos} (B : BkOk X.N Vn G' i x sc scope) (hm : X.mg "range" = none)
    (q : wE X a σ H fun v H1 => ∃ n : Nat, v = .int n ∧ n < 2 ^ 62 ∧ ∀ D, H1 D = none → LcRf X Vn G' elt c scope i n D σ H1 fun H2 => nx (σ.set j (some (.ref D))) H2)
    (I : In X N G sc := by assumption) (hc : X.calm = true := by rfl) (hA : At N j y := by repeat (first | with_reducible apply At.z | with_reducible apply At.s)) (hG : At G g ("range" : Str) := by repeat (first | with_reducible apply At.z | with_reducible apply At.s))
    (hk : X.env.scope.kind = .function := by rfl) (hy : X.env.scope.names.lookup y = some .local := by rfl) (hl : (py.line == pos.line) = true := by rfl) (ha : (scope.names.any fun (n, k) => n == y && (k == .local || k == .cell)) = false := by decide +kernel)
    (hs : starEach [a] X.env = [(false, eval a X.env)] := by rfl) (hs2 : ∀ z, foldedSetIterable (.Call (.Name "range" p) [a] [] cp) X.env z = pure z := by intro _; rfl) (hs1 : starEach (a :: []) X.env = (false, eval a X.env) :: starEach [] X.env := by rfl) :
    wS X (.Assign [.Name y py] (.ListComp elt [⟨.Name x px, .Call (.Name "range" p) [a] [] cp, [c], 0⟩] scope pos) spos) ⟨nx, rt, bk, ct⟩ σ H := by
  refine s_of (ps_setLc (own := [(x, i)]) (g := gName i) (tt := wBkT X Vn G' c scope) (te := wBk X Vn G' elt scope) hc I.nd (I.hi hA) hy (sw_true hk hy hl ha) (pi_range1 (I.g hG) hm (pa_cons pe pa_nil hs1) hs) (B.ok I) (fun s H C cl fp => B.pg I s H C cl fp) (fun s H C cl fp => pts_bk (B.inB I s H C cl fp)) (fun s H C cl fp => pe_bk (B.inB I s H C cl fp)) hs2) (e_mono q fun v H1 q1 => ?_)
  obtain ⟨n, rfl, hn, q2⟩ := q1
  refine ⟨(n : Int), rfl, by omega, by omega, ?_⟩
  rw [Int.toNat_natCast]
  exact fun D hD => lcRf_of (q2 D hD)
end
end Wk

set_option maxHeartbeats 4000000
/-! My own layer: a walk over zip(a, b), each of the two a list or a tuple. -/
namespace Wk
open PySem PySem.Spec PyProof.Rows L2
/-- what stands on one side of a zip -/
inductive Side where
  | l | t
def Side.con : Side → Heap → Addr → Array Value → Prop
  | .l => fun h a xs => h.IsList a xs
  | .t => fun h a xs => h.IsTuple a xs
def Side.itr : Side → Heap → Addr → Addr → Nat → Prop
  | .l => fun h it a i => h.IsListIter it a i
  | .t => fun h it a i => h.IsTupleIter it a i
def Side.ob : Side → Addr → Obj
  | .l => fun a => { cls := .type "list_iterator", data := .fields #[.ref a, .int 0 0] }
  | .t => fun a => { cls := .type "tuple_iterator", data := .fields #[.ref a, .int 0 0] }
def Side.sq (K : PySem.W.Frag) : Side → Hp → Addr → List V → Prop
  | .l => SqL K
  | .t => SqT K
theorem Side.begins (c : Side) (a : Addr) (xs : Array Value) : Begins (.ref a) (c.ob a) fun h => c.con h a xs := by
  cases c with
  | l => exact begins_list a xs
  | t => exact begins_tuple a xs
theorem Side.draws {P : Program} {w : World} {A : Around} (c : Side) (hh : A.handled = none) (it a : Addr) (ne : a ≠ it) (xs : Array Value) : Draws P w A it [it, a] xs.size (fun i v => xs[i]? = some v) (fun i h => c.itr h it a i ∧ c.con h a xs) := by
  cases c with
  | l => exact Draws.list hh it a ne xs
  | t => exact Draws.tuple hh it a ne xs
theorem Side.own {X : Cx} {pins : List (Addr × Obj)} {σ : L2.St} {H : Hp} {s : Shared} {a : Addr} {xs : List V} (I : Inv X pins σ H s) (c : Side) (h : c.sq X.K H a xs) : ∃ its : List Value, Vals xs its ∧ c.con s.heap a its.toArray := by
  cases c with
  | l => obtain ⟨its, r, p, _⟩ := I.list h; exact ⟨its, r, p.isList⟩
  | t => obtain ⟨its, r, p, _⟩ := I.tuple h; exact ⟨its, r, p⟩
theorem Side.inj {X : Cx} {pins : List (Addr × Obj)} {σ : L2.St} {H : Hp} {s : Shared} {a : Addr} {xs ys : List V} (I : Inv X pins σ H s) (c : Side) (h : c.sq X.K H a xs) (h' : c.sq X.K H a ys) : xs = ys := by
  cases c with
  | l => exact I.list_inj h h'
  | t => exact I.tuple_inj h h'
theorem Side.up {h h' : Heap} {it a : Addr} {i : Nat} (c : Side) (x : c.itr h it a i) (k : ∀ o, h.get? it = some o → h'.get? it = some o) : c.itr h' it a i := by
  cases c with
  | l => exact x.at k
  | t => exact x.at k
theorem Side.nocell {h : Heap} {it a : Addr} {i : Nat} (c : Side) (x : c.itr h it a i) : ∃ o, h.get? it = some o ∧ ∀ v, o.data ≠ .cell v := by
  cases c with
  | l => obtain ⟨o, e, _, d⟩ := x; exact ⟨o, e, fun v q => by rw [d] at q; cases q⟩
  | t => obtain ⟨o, e, _, d⟩ := x; exact ⟨o, e, fun v q => by rw [d] at q; cases q⟩
theorem Side.start {h : Heap} {it a : Addr} (c : Side) (e : h.get? it = some (c.ob a)) : c.itr h it a 0 := by
  cases c with
  | l => exact ⟨_, e, rfl, rfl⟩
  | t => exact ⟨_, e, rfl, rfl⟩
theorem Side.lt {h : Heap} {a : Addr} {xs : Array Value} (c : Side) (x : c.con h a xs) : a < h.objs.size := by
  cases c with
  | l => obtain ⟨o, e, _⟩ := x; exact Heap.lt_size e
  | t => obtain ⟨o, e, _⟩ := x; exact Heap.lt_size e
/-- pairs out of the two sides, as they stand at each turn -/
def ItM (K : PySem.W.Frag) (c d : Side) (a b : Addr) : It :=
  ⟨fun i H => ∃ (xs ys : List V) (x y : V), c.sq K H a xs ∧ d.sq K H b ys ∧ xs[i]? = some x ∧ ys[i]? = some y,
    fun i H v H' => ∃ T x y, v = .ref T ∧ H T = none ∧ H' = upd H T (.tup [x, y]) ∧ (∀ xs, c.sq K H a xs → xs[i]? = some x) ∧ ∀ ys, d.sq K H b ys → ys[i]? = some y,
    fun i H => ∃ xs ys : List V, c.sq K H a xs ∧ d.sq K H b ys ∧ i ≤ xs.length ∧ i ≤ ys.length ∧ (i = xs.length ∨ i = ys.length)⟩
theorem turn_zipM {P : Program} {w : World} {K : PySem.W.Frag} {es : List Expr} {kk : Nat} {tp : Pos} {c d : Side} {a b z TI TO i1 i2 : Addr} (S : ZipSep2 z TI TO i1 i2 [i1, a] [i2, b]) (na : a ≠ i1) (nb : b ≠ i2) :
    Turn P w K (.Tuple es kk tp) (ItM K c d a b) [z, TI, TO, i1, i2] z (fun i h => IsZip h z TI TO .none ∧ IsTupOf2 h TI (.ref i1) (.ref i2) ∧ (∃ u v, IsTupOf2 h TO u v) ∧ c.itr h i1 a i ∧ d.itr h i2 b i) where
  mem := List.mem_cons_self ..
  obj := fun i h ⟨q1, q2, ⟨u, v, q3⟩, q4, q5⟩ e he => by
    simp only [List.mem_cons, List.not_mem_nil, or_false] at he
    rcases he with rfl | rfl | rfl | rfl | rfl
    · exact ⟨_, q1, fun _ r => nomatch r⟩
    · exact ⟨_, q2, fun _ r => nomatch r⟩
    · exact ⟨_, q3, fun _ r => nomatch r⟩
    · exact c.nocell q4
    · exact d.nocell q5
  keep := fun i h h' ⟨q1, q2, ⟨u, v, q3⟩, q4, q5⟩ kp => ⟨kp z (by simp) _ q1, kp TI (by simp) _ q2, ⟨u, v, kp TO (by simp) _ q3⟩, c.up q4 (kp i1 (by simp)), d.up q5 (kp i2 (by simp))⟩
  item := by
    intro X hP hw hK hc i pins s σ H E I fpk ⟨q1, q2, ⟨u, v, q3⟩, q4, q5⟩ ⟨xs, ys, x, y, sx, sy, ex, ey⟩
    subst hP hw hK
    obtain ⟨us, rus, cx⟩ := c.own I sx
    obtain ⟨vs, rvs, cy⟩ := d.own I sy
    obtain ⟨g, eg, rg⟩ := rus.get ex
    obtain ⟨g2, eg2, rg2⟩ := rvs.get ey
    have hh : X.A.in1.handled = none := I.ok.hd hc
    refine wpAny_pyNext_zipD2_item S (c.draws hh i1 a na us.toArray) (d.draws hh i2 b nb vs.toArray) q1 q2 q3 ⟨q4, cx⟩ ⟨q5, cy⟩ ?_ ?_ fun x1 x2 h1 tk p1 p2 n1 n2 n3 n4 n5 _ n7 => ?_
    · rw [List.size_toArray]; exact (List.getElem?_eq_some_iff.mp eg).1
    · rw [List.size_toArray]; exact (List.getElem?_eq_some_iff.mp eg2).1
    rw [List.getElem?_toArray, eg] at p1
    rw [List.getElem?_toArray, eg2] at p2
    cases p1
    cases p2
    have zl : z < s.heap.objs.size := Heap.lt_size q1
    refine ⟨_, rfl, wpAny_letOwnedTupleGo_zip (s := { s with heap := h1, toks := tk }) n1 fun h2 m1 sb => ?_⟩
    have tup2 : h2.get? s.heap.objs.size = some { cls := .type "tuple", data := .seq #[g, g2] } := (sb.2 _ (Nat.ne_of_gt zl)).trans n5
    have I1 : Inv X pins σ (upd H s.heap.objs.size (.tup [x, y])) { s with heap := h2, toks := tk } := by
      refine I.turnedNew (t' := tk) (ch := [z, TI, TO, i1, i2]) (fun e o hb q => ?_) fpk (Nat.le_refl _) ⟨by show 2 ≤ 2 ^ 24; decide, [g, g2], .cons rg (.cons rg2 .nil), ⟨_, tup2, rfl, _, rfl⟩⟩
      simp only [List.mem_cons, List.not_mem_nil, or_false, not_or] at hb
      exact (sb.2 e hb.1).trans (n7 e o hb.1 hb.2.2.1 hb.2.2.2.1 hb.2.2.2.2 q)
    have up : ∀ {e : Addr} {o : Obj}, e ≠ z → h1.get? e = some o → h2.get? e = some o := fun ne q => (sb.2 _ ne).trans q
    refine ⟨.ref s.heap.objs.size, _, I1, rfl, ⟨_, x, y, rfl, I.hok.fresh (Nat.le_refl _), rfl, fun l hl => by rw [c.inj I hl sx]; exact ex, fun l hl => by rw [d.inj I hl sy]; exact ey⟩,
      ⟨m1, up S.TIz (n7 TI _ S.TIz S.TITO S.TIi1 S.TIi2 q2), ⟨g, g2, up S.TOz n2⟩, c.up n3.1 fun o q => up (Ne.symm S.zi1) q, d.up n4.1 fun o q => up (Ne.symm S.zi2) q⟩, fun e he => ?_⟩
    rw [upd_ne]
    · exact (fpk e he).1
    · have : e < s.heap.objs.size := by
        simp only [List.mem_cons, List.not_mem_nil, or_false] at he
        rcases he with rfl | rfl | rfl | rfl | rfl
        · exact zl
        · exact Heap.lt_size q2
        · exact Heap.lt_size q3
        · obtain ⟨o, eo, _⟩ := c.nocell q4; exact Heap.lt_size eo
        · obtain ⟨o, eo, _⟩ := d.nocell q5; exact Heap.lt_size eo
      exact Nat.ne_of_lt this
  done := by
    intro X hP hw hK hc i pins s σ H E I fpk ⟨q1, q2, ⟨u, v, q3⟩, q4, q5⟩ ⟨xs, ys, sx, sy, l1, l2, le⟩
    subst hP hw hK
    obtain ⟨us, rus, cx⟩ := c.own I sx
    obtain ⟨vs, rvs, cy⟩ := d.own I sy
    have g1 := rus.length
    have g2 := rvs.length
    have hh : X.A.in1.handled = none := I.ok.hd hc
    refine wpAny_pyNext_zipD2_end S (c.draws hh i1 a na us.toArray) (d.draws hh i2 b nb vs.toArray) q1 q2 q3 ⟨q4, cx⟩ ⟨q5, cy⟩ (by rw [List.size_toArray]; omega) (by rw [List.size_toArray]; omega) (by rw [List.size_toArray, List.size_toArray]; omega) fun h1 tk kp => ⟨rfl, ?_⟩
    refine I.turnedL (t' := tk) (ch := [z, TI, TO, i1, i2]) (fun e o hb q => ?_) fpk
    simp only [List.mem_cons, List.not_mem_nil, or_false, not_or] at hb
    exact kp e o hb.1 hb.2.2.1 hb.2.2.2.1 hb.2.2.2.2 q
  self := fun A i s Q E st h => wpAny_pyIter_zip st.1 h
/-- zip(e, e2) -/
def iZipM (K : PySem.W.Frag) (c d : Side) (ta : TA) : TI := fun σ H R => ta σ H fun vs H1 => ∃ a b xs ys, vs = [.ref a, .ref b] ∧ c.sq K H1 a xs ∧ d.sq K H1 b ys ∧ R (ItM K c d a b) H1
theorem pi_zipM {X : Cx} {e e2 : Expr} {ta : TA} {p pos tp : Pos} {es : List Expr} {kk : Nat} {c d : Side} (hg : Gl X "zip") (hm : X.mg "zip" = none) (ha : PA X [e, e2] ta)
    (hs : starEach [e, e2] X.env = (false, eval e X.env) :: starEach [e2] X.env := by rfl) (hpl : (backTo pos (starEach [e2] X.env)).any (·.1) = false := by rfl) :
    PI X (.Tuple es kk tp) (.Call (.Name "zip" p) [e, e2] [] pos) (iZipM X.K c d ta) := by
  refine ⟨fun pins s σ H R I h => Call_ (ld_blt I hg hm PyProof.Rows.boot_zip (PyProof.Rows.callWith_type1 (thn (ha.run pos pins s σ H _ I h) fun us s1 ⟨vs, H1, I1, r1, a, b, xs, ys, ev, sx, sy, q⟩ => ?_) hs hpl))⟩
  subst ev
  obtain ⟨u, v, rfl, ru, rv⟩ : ∃ u v, us = [u, v] ∧ RelV (.ref a) u ∧ RelV (.ref b) v := by
    cases r1 with
    | cons r t => cases t with
      | cons r' t => cases t; exact ⟨_, _, rfl, r, r'⟩
  cases ru
  cases rv
  obtain ⟨ws, rw1, cx⟩ := c.own I1 sx
  obtain ⟨zs, rw2, cy⟩ := d.own I1 sy
  have la := c.lt cx
  have lb := d.lt cy
  generalize hN : s1.heap.objs.size = N at la lb
  have nw : ∀ e ∈ [N + 4, N + 2, N + 3, N, N + 1], FpOk X pins H1 e := fun e he => by
    have hle : s1.heap.objs.size ≤ e := by
      rw [hN]
      simp only [List.mem_cons, List.not_mem_nil, or_false] at he
      rcases he with z | z | z | z | z <;> (rw [z]; first | exact Nat.le_refl _ | exact Nat.le_add_right _ _)
    exact I1.fpOk hle (I1.hok.fresh hle)
  refine zip_begins2 (c.begins a ws.toArray) (d.begins b zs.toArray) cx cy fun h1 g1 g2 g3 g4 g5 _ kp => wpAny_pyIter_zip g1 ?_
  rw [hN] at g1 g2 g3 g4 g5 ⊢
  have S : ZipSep2 (N + 4) (N + 2) (N + 3) N (N + 1) [N, a] [N + 1, b] := zip_sep2 (fun e he => by rw [List.mem_singleton.mp he]; exact la) (fun e he => by rw [List.mem_singleton.mp he]; exact lb)
  exact ⟨N + 4, [N + 4, N + 2, N + 3, N, N + 1], _, ItM X.K c d a b, H1, rfl, I1.kept (t' := s1.toks) kp, turn_zipM S (Nat.ne_of_lt la) (Nat.ne_of_lt (Nat.lt_succ_of_lt lb)), ⟨g1, g2, ⟨_, _, g3⟩, c.start g4, d.start g5⟩, nw, q⟩
section
variable {X : Cx} {e a b : Expr} {σ : L2.St} {H : Hp} {N G : List Str} {sc : Scope}
/-- for x, y in zip(a, b): both sides stay while the loop goes -/
theorem s_forZ {nx : L2.St → Hp → Prop} {rt : VK} {bk ct : L2.St → Hp → Prop} (c d : Side) {g : Nat} {x y : Str} {i j : Nat} {body : List Stmt} {px py pt p cp pos : Pos} {kk : Nat} (hm : X.mg "zip" = none)
    (q : wE X a σ H fun v H1 => wE X b σ H1 fun u H2 => ∃ va vb xs ys, v = .ref va ∧ u = .ref vb ∧ c.sq X.K H2 va xs ∧ d.sq X.K H2 vb ys ∧ ∃ Pv : Nat → L2.St → Hp → Prop, Pv 0 σ H2 ∧ (∀ k σ H, k ≤ min xs.length ys.length → Pv k σ H → c.sq X.K H va xs ∧ d.sq X.K H vb ys) ∧
      (∀ k u1 u2 T σ H, xs[k]? = some u1 → ys[k]? = some u2 → Pv k σ H → H T = none → wL X body ⟨Pv (k + 1), rt, nx, Pv (k + 1)⟩ ((σ.set i (some u1)).set j (some u2)) (upd H T (.tup [u1, u2]))) ∧ ∀ σ H, Pv (min xs.length ys.length) σ H → nx σ H)
    (I : In X N G sc := by assumption) (hc : X.calm = true := by rfl) (hA : At N i x := by repeat (first | with_reducible apply At.z | with_reducible apply At.s)) (hB : At N j y := by repeat (first | with_reducible apply At.z | with_reducible apply At.s))
    (hG : At G g ("zip" : Str) := by repeat (first | with_reducible apply At.z | with_reducible apply At.s)) (hs : starEach [a, b] X.env = (false, eval a X.env) :: starEach [b] X.env := by rfl) (hpl : (backTo cp (starEach [b] X.env)).any (·.1) = false := by rfl)
    (hs1 : starEach (b :: []) X.env = (false, eval b X.env) :: starEach [] X.env := by rfl) (hs2 : ∀ z, foldedSetIterable (.Call (.Name "zip" p) [a, b] [] cp) X.env z = pure z := by intro _; rfl) :
    wS X (.For (.Tuple [.Name x px, .Name y py] kk pt) (.Call (.Name "zip" p) [a, b] [] cp) body [] pos) ⟨nx, rt, bk, ct⟩ σ H := by
  refine s_of (ps_for I.never hc (pi_zipM (c := c) (d := d) (I.g hG) hm (pa_cons pe (pa_cons pe pa_nil hs1) hs) hs hpl) (pg_tup hc (pgs_cons (pg_name I.nd (I.hi hA) (I.loc hA) I.f) (pgs_cons (pg_name I.nd (I.hi hB) (I.loc hB) I.f) pgs_nil))) pl hs2) (e_mono q fun v H1 q1 => e_mono q1 fun u H2 q2 => ?_)
  obtain ⟨va, vb, xs, ys, rfl, rfl, sx, sy, Pv, h0, hk, hb, hd⟩ := q2
  refine ⟨va, vb, xs, ys, rfl, sx, sy, fun k m σ H => m = min xs.length ys.length - k ∧ k ≤ min xs.length ys.length ∧ Pv k σ H, ⟨_, rfl, Nat.zero_le _, h0⟩, ?_⟩
  rintro k m σ H ⟨rfl, hle, pv⟩
  obtain ⟨tx, ty⟩ := hk k σ H hle pv
  by_cases lt : k < min xs.length ys.length
  · have l1 : k < xs.length := by omega
    have l2 : k < ys.length := by omega
    refine .inr ⟨⟨xs, ys, xs[k], ys[k], tx, ty, List.getElem?_eq_getElem l1, List.getElem?_eq_getElem l2⟩, Pv (k + 1), fun σ' H' p' => ⟨_, by omega, rfl, lt, p'⟩, fun w H' yl => ?_⟩
    obtain ⟨T, u1, u2, rfl, nT, rfl, y1, y2⟩ := yl
    exact ⟨T, [u1, u2], rfl, SqT.of upd_same, rfl, u1, [u2], rfl, u2, [], rfl, rfl, hb k u1 u2 T σ H (y1 xs tx) (y2 ys ty) pv nT⟩
  · have ek : k = min xs.length ys.length := by omega
    subst ek
    refine .inl ⟨⟨xs, ys, tx, ty, by omega, by omega, by omega⟩, hd σ H pv⟩
/-- [elt for x in range(a) if c], as a value -/
theorem e_lcRf {X : Cx} {elt c a : Expr} {σ : L2.St} {H : Hp} {Q : VK} {pos : Pos} {N G G' : List Str} {Vn : List (Nat × Str)} {sc scope : Scope} {i g : Nat} {x : Str} {px p cp : Pos} (B : BkOk X.N Vn G' i x sc scope) (hm : X.mg "range" = none)
    (q : wE X a σ H fun v H1 => ∃ n : Nat, v = .int n ∧ n < 2 ^ 62 ∧ ∀ D, H1 D = none → LcRf X Vn G' elt c scope i n D σ H1 fun H2 => Q (.ref D) H2)
    (I : In X N G sc := by assumption) (hc : X.calm = true := by rfl) (hG : At G g ("range" : Str) := by repeat (first | with_reducible apply At.z | with_reducible apply At.s))
    (hs : starEach [a] X.env = [(false, eval a X.env)] := by rfl) (hs2 : ∀ z, foldedSetIterable (.Call (.Name "range" p) [a] [] cp) X.env z = pure z := by intro _; rfl) (hs1 : starEach (a :: []) X.env = (false, eval a X.env) :: starEach [] X.env := by rfl) :
    wE X (.ListComp elt [⟨.Name x px, .Call (.Name "range" p) [a] [] cp, [c], 0⟩] scope pos) σ H Q := by
  refine e_of (pe_lc (own := [(x, i)]) (g := gName i) (tt := wBkT X Vn G' c scope) (te := wBk X Vn G' elt scope) hc I.nd (pi_range1 (I.g hG) hm (pa_cons pe pa_nil hs1) hs) (B.ok I) (fun s H C cl fp => B.pg I s H C cl fp) (fun s H C cl fp => pts_bk (B.inB I s H C cl fp)) (fun s H C cl fp => pe_bk (B.inB I s H C cl fp)) hs2) (e_mono q fun v H1 q1 => ?_)
  obtain ⟨n, rfl, hn, q2⟩ := q1
  refine ⟨(n : Int), rfl, by omega, by omega, ?_⟩
  rw [Int.toNat_natCast]
  exact fun D hD => lcRf_of (q2 D hD)
/-- for x in reversed(range(a)) -/
theorem s_forRR {X : Cx} {a : Expr} {σ : L2.St} {H : Hp} {N G : List Str} {sc : Scope} {nx : L2.St → Hp → Prop} {rt : VK} {bk ct : L2.St → Hp → Prop} {g g2 : Nat} {x : Str} {i : Nat} {body : List Stmt} {px p p2 cp cp2 pos : Pos} (hm : X.mg "reversed" = none) (hm2 : X.mg "range" = none)
    (q : wE X a σ H fun v H1 => ∃ n : Nat, v = .int n ∧ n < 2 ^ 62 ∧ ∃ Pv : Nat → L2.St → Hp → Prop, Pv 0 σ H1 ∧ (∀ k σ H, k < n → Pv k σ H → wL X body ⟨Pv (k + 1), rt, nx, Pv (k + 1)⟩ (σ.set i (some (.int ((n - 1 - k : Nat) : Int)))) H) ∧ ∀ σ H, Pv n σ H → nx σ H)
    (I : In X N G sc := by assumption) (hc : X.calm = true := by rfl) (hA : At N i x := by repeat (first | with_reducible apply At.z | with_reducible apply At.s))
    (hG : At G g ("reversed" : Str) := by repeat (first | with_reducible apply At.z | with_reducible apply At.s)) (hG2 : At G g2 ("range" : Str) := by repeat (first | with_reducible apply At.z | with_reducible apply At.s))
    (hs : starEach [.Call (.Name "range" p2) [a] [] cp2] X.env = (false, eval (.Call (.Name "range" p2) [a] [] cp2) X.env) :: starEach [] X.env := by rfl) (hs1 : starEach [a] X.env = (false, eval a X.env) :: starEach [] X.env := by rfl)
    (hs2 : ∀ z, foldedSetIterable (.Call (.Name "reversed" p) [.Call (.Name "range" p2) [a] [] cp2] [] cp) X.env z = pure z := by intro _; rfl) :
    wS X (.For (.Name x px) (.Call (.Name "reversed" p) [.Call (.Name "range" p2) [a] [] cp2] [] cp) body [] pos) ⟨nx, rt, bk, ct⟩ σ H := by
  refine s_of (ps_for I.never hc (pi_revR (I.g hG) hm (prg_1 (I.g hG2) hm2 pe hs1) hs) (pg_name I.nd (I.hi hA) (I.loc hA) I.f) pl hs2) (e_mono q fun v H1 q1 => ?_)
  obtain ⟨n, rfl, hn, Pv, h0, hb, hd⟩ := q1
  refine ⟨(n : Int), rfl, by omega, by omega, by omega, by omega, ?_⟩
  rw [show ((n : Int) - 0).toNat = n by omega]
  refine for_rangeC (n := n) Pv h0 (fun k σ H hk pv => ?_) hd
  rw [show (0 : Int) + ((n : Nat) : Int) - 1 + ((k : Nat) : Int) * (-1) = ((n - 1 - k : Nat) : Int) by omega]
  exact hb k σ H hk pv
end
end Wk

set_option maxHeartbeats 4000000
/-! My own layer: list(zip(a, b)), whose pairs the list holds. -/
namespace Wk
open PySem PySem.Spec PyProof.Rows L2
section
variable {prog : Program} {w : World} {A : Around} {E : Value → Shared → Prop} {s : Shared} {z TI TO T i1 i2 : Addr} {fa fb : List Addr} {n1 n2 i : Nat} {Pa Pb : Nat → Value → Prop} {Sa Sb : Nat → Heap → Prop} {fl : Bool} {oT : Obj}
/-- a turn of a zip whose last tuple is still held -/
theorem zh_item {Q : Value → Shared → Prop} (Z : ZipSep2 z TI TO i1 i2 fa fb) (Da : Draws prog w A i1 fa n1 Pa Sa) (Db : Draws prog w A i2 fb n2 Pb Sb)
    (hz : IsZipHeld s.heap z TI TO T fl) (hT : s.heap.get? T = some oT) (hI : IsTupOf2 s.heap TI (.ref i1) (.ref i2)) (ta : Sa i s.heap) (tb : Sb i s.heap) (la : i < n1) (lb : i < n2)
    (k : ∀ x y g tk, Pa i x → Pb i y → IsZipHeld g z TI TO T true → Sa (i + 1) g → Sb (i + 1) g → IsTupOf2 g s.heap.objs.size x y → g.objs.size = s.heap.objs.size + 1 →
      (∀ e o, e ≠ z → e ≠ i1 → e ≠ i2 → s.heap.get? e = some o → g.get? e = some o) → Q (.ref s.heap.objs.size) { s with heap := g, toks := tk }) :
    wpAny (model prog w) A (Builtin.«zip.__next__» ⟨[.ref z], []⟩) (fun r s' => ∃ v, r = .done (.ret v) ∧ Q v s') E s := by
  obtain ⟨h0, gn, dr, t0, os⟩ := s
  show wpAny _ A (field (.ref z) 2 >>= _) _ E _
  refine wpAny_bind (wpAny_field hz rfl (x := Value.bool false) rfl ?_)
  show wpAny _ A (field (.ref z) 3 >>= _) _ E _
  refine wpAny_bind (wpAny_field hz rfl (x := Value.ref TI) rfl ?_)
  refine wpAny_bind (wpAny_seqItems (s := ⟨h0, gn, dr, t0, os⟩) hI rfl ?_)
  show wpAny _ A (Builtin.SmallTypes.ownedTupleIsFree (.ref z) >>= _) _ E _
  refine wpAny_bind (wpAny_tupleHeld_zip (s := ⟨h0, gn, dr, t0, os⟩) hz hT fun h1 z1 b1 => ?_)
  replace b1 : Heap.SameBut z h0 h1 := b1
  simp only [Bool.false_eq_true, if_false]
  refine wpAny_bind ?_
  rw [← Array.forIn_toList]
  simp only [List.forIn_cons, List.forIn_nil]
  refine wpAny_bind (wpAny_bind (wpAny_holding ?_))
  show wpAny _ A (Builtin.SmallTypes.nextOf (.ref i1) >>= _) _ E ⟨h1, gn, dr, t0, os⟩
  refine wpAny_bind (Da.item i _ _ _ la (Da.over ta b1 Z.zf1) fun x h2 t2 px sx b2 => wpAny_pure ?_)
  replace b2 : Heap.SameBut i1 h1 h2 := b2
  refine wpAny_pure ?_
  refine wpAny_bind (wpAny_bind (wpAny_holding ?_))
  show wpAny _ A (Builtin.SmallTypes.nextOf (.ref i2) >>= _) _ E ⟨h2, gn, dr, t2, os⟩
  refine wpAny_bind (Db.item i _ _ _ lb (Db.over (Db.over tb b1 Z.zf2) b2 Z.sep1_2) fun y h3 t3 py sy b3 => wpAny_pure ?_)
  replace b3 : Heap.SameBut i2 h2 h3 := b3
  refine wpAny_pure (wpAny_pure ?_)
  show wpAny _ A (newTuple [x, y] >>= _) _ E ⟨h3, gn, dr, t3, os⟩
  refine wpAny_bind (wpAny_newTuple ?_)
  have sz : h3.objs.size = h0.objs.size := by rw [b3.1, b2.1, b1.1]
  have z3 : IsZipHeld h3 z TI TO T true := b3.extBut _ _ Z.zi2 (b2.extBut _ _ Z.zi1 z1)
  have kp : ∀ e o, e ≠ z → e ≠ i1 → e ≠ i2 → h0.get? e = some o → h3.get? e = some o := fun e o c1 c2 c3 q => b3.extBut _ _ c3 (b2.extBut _ _ c2 (b1.extBut _ _ c1 q))
  have tp : IsTupOf2 (h3.push { cls := .type "tuple", data := .seq #[x, y] }) h3.objs.size x y := Heap.get?_push_size _ rfl
  have s4 : (h3.push { cls := .type "tuple", data := .seq #[x, y] }).objs.size = h3.objs.size + 1 := Heap.size_push ..
  refine wpAny_pure ⟨_, rfl, ?_⟩
  show Q (.ref h3.objs.size) _
  rw [sz] at tp s4 ⊢
  exact k x y _ t3 px py (Heap.get?_push_of_some _ z3) (Da.frame _ _ _ (Da.over sx b3 Z.sep2_1) fun e _ o q => Heap.get?_push_of_some _ q) (Db.frame _ _ _ sy fun e _ o q => Heap.get?_push_of_some _ q) tp s4 fun e o c1 c2 c3 q => Heap.get?_push_of_some _ (kp e o c1 c2 c3 q)
theorem zh_stop {Q : PySem.Fin → Shared → Prop} (Z : ZipSep2 z TI TO i1 i2 fa fb) (Da : Draws prog w A i1 fa n1 Pa Sa) (Db : Draws prog w A i2 fb n2 Pb Sb)
    (hz : IsZipHeld s.heap z TI TO T fl) (hT : s.heap.get? T = some oT) (hI : IsTupOf2 s.heap TI (.ref i1) (.ref i2)) (ta : Sa i s.heap) (tb : Sb i s.heap) (la : i ≤ n1) (lb : i ≤ n2) (hend : i = n1 ∨ i = n2)
    (k : ∀ g tk e, (∀ c o, c ≠ z → c ≠ i1 → c ≠ i2 → s.heap.get? c = some o → g.get? c = some o) → (∃ o, g.get? e = some o ∧ o.cls = .type "StopIteration") → E (.ref e) { s with heap := g, toks := tk }) :
    wpAny (model prog w) A (Builtin.«zip.__next__» ⟨[.ref z], []⟩) Q E s := by
  obtain ⟨h0, gn, dr, t0, os⟩ := s
  show wpAny _ A (field (.ref z) 2 >>= _) _ E _
  refine wpAny_bind (wpAny_field hz rfl (x := Value.bool false) rfl ?_)
  show wpAny _ A (field (.ref z) 3 >>= _) _ E _
  refine wpAny_bind (wpAny_field hz rfl (x := Value.ref TI) rfl ?_)
  refine wpAny_bind (wpAny_seqItems (s := ⟨h0, gn, dr, t0, os⟩) hI rfl ?_)
  show wpAny _ A (Builtin.SmallTypes.ownedTupleIsFree (.ref z) >>= _) _ E _
  refine wpAny_bind (wpAny_tupleHeld_zip (s := ⟨h0, gn, dr, t0, os⟩) hz hT fun h1 z1 b1 => ?_)
  replace b1 : Heap.SameBut z h0 h1 := b1
  simp only [Bool.false_eq_true, if_false]
  refine wpAny_bind ?_
  rw [← Array.forIn_toList]
  simp only [List.forIn_cons, List.forIn_nil]
  refine wpAny_bind (wpAny_bind (wpAny_holding ?_))
  show wpAny _ A (Builtin.SmallTypes.nextOf (.ref i1) >>= _) _ E ⟨h1, gn, dr, t0, os⟩
  by_cases lt : i < n1
  · have e2 : i = n2 := by omega
    refine wpAny_bind (Da.item i _ _ _ lt (Da.over ta b1 Z.zf1) fun x h2 t2 px sx b2 => wpAny_pure ?_)
    replace b2 : Heap.SameBut i1 h1 h2 := b2
    refine wpAny_pure ?_
    refine wpAny_bind (wpAny_bind (wpAny_holding ?_))
    show wpAny _ A (Builtin.SmallTypes.nextOf (.ref i2) >>= _) _ E ⟨h2, gn, dr, t2, os⟩
    refine wpAny_bind (Db.done ⟨h2, gn, dr, t2, os⟩ _ _ (by rw [← e2]; exact Db.over (Db.over tb b1 Z.zf2) b2 Z.sep1_2) fun h3 e b3 he => ?_)
    replace b3 : Heap.ExtBut i2 h2 h3 := b3
    exact k h3 t2 e (fun c o c1 c2 c3 q => b3 _ _ c3 (b2.extBut _ _ c2 (b1.extBut _ _ c1 q))) he
  · have e1 : i = n1 := by omega
    refine wpAny_bind (Da.done ⟨h1, gn, dr, t0, os⟩ _ _ (by rw [← e1]; exact Da.over ta b1 Z.zf1) fun h3 e b3 he => ?_)
    replace b3 : Heap.ExtBut i1 h1 h3 := b3
    exact k h3 t0 e (fun c o c1 c2 _ q => b3 _ _ c2 (b1.extBut _ _ c1 q)) he
/-- how a zip stands whose tuples the list at L holds -/
def ZS (z TI TO i1 i2 L : Addr) (Sa Sb : Nat → Heap → Prop) (i : Nat) (h : Heap) : Prop := IsTupOf2 h TI (.ref i1) (.ref i2) ∧ Sa i h ∧ Sb i h ∧
  ((IsZip h z TI TO .none ∧ ∃ u v, IsTupOf2 h TO u v) ∨ ∃ T fl oT, IsZipHeld h z TI TO T fl ∧ h.get? T = some oT ∧ T ≠ z ∧ T ≠ i1 ∧ T ≠ i2 ∧ T ≠ L)
theorem zs_item {L : Addr} {Q : Option Value → Shared → Prop} (Z : ZipSep2 z TI TO i1 i2 fa fb) (Da : Draws prog w A.in1 i1 fa n1 Pa Sa) (Db : Draws prog w A.in1 i2 fb n2 Pb Sb) (st : ZS z TI TO i1 i2 L Sa Sb i s.heap) (hL : L < s.heap.objs.size) (la : i < n1) (lb : i < n2)
    (k : ∀ x y g tk, Pa i x → Pb i y → ZS z TI TO i1 i2 L Sa Sb (i + 1) g → IsTupOf2 g s.heap.objs.size x y → g.objs.size = s.heap.objs.size + 1 →
      (∀ e o, e ≠ z → e ≠ TO → e ≠ i1 → e ≠ i2 → s.heap.get? e = some o → g.get? e = some o) → Q (some (.ref s.heap.objs.size)) { s with heap := g, toks := tk }) :
    wpAny (model prog w) A (pyNext (.ref z)) Q E s := by
  obtain ⟨hI, ta, tb, hz⟩ := st
  obtain ⟨o1, l1⟩ := Da.live _ _ ta
  obtain ⟨o2, l2⟩ := Db.live _ _ tb
  have n1' : s.heap.objs.size ≠ i1 := Nat.ne_of_gt (Heap.lt_size l1)
  have n2' : s.heap.objs.size ≠ i2 := Nat.ne_of_gt (Heap.lt_size l2)
  rcases hz with ⟨hz, u, v, hO⟩ | ⟨T, fl, oT, hz, hT, r1, r2, r3, r4⟩
  · have nz : s.heap.objs.size ≠ z := Nat.ne_of_gt (Heap.lt_size hz)
    refine wpAny_pyNext_zipD2_item Z Da Db hz hI hO ta tb la lb fun x y g tk px py z' O' sa sb tp sz kp => ?_
    exact k x y g tk px py ⟨kp _ _ Z.TIz Z.TITO Z.TIi1 Z.TIi2 hI, sa, sb, .inr ⟨_, false, _, z', tp, nz, n1', n2', Nat.ne_of_gt hL⟩⟩ tp sz kp
  · have tz : s.TypeIs (.ref z) "zip" := ⟨_, hz, rfl⟩
    unfold pyNext
    exact wpAny_bind (wpAny_attempt (wpAny_callSpecial?_slot (name := Str.ofString "__next__") tz F.slot_zip_next (wpAny_call_entry F.slot_zip_next tz F.entry_zip_next
      (zh_item Z Da Db hz hT hI ta tb la lb fun x y g tk px py z' sa sb tp sz kp => wpAny_pure (k x y g tk px py ⟨kp _ _ Z.TIz Z.TIi1 Z.TIi2 hI, sa, sb, .inr ⟨T, true, oT, z', kp _ _ r1 r2 r3 hT, r1, r2, r3, r4⟩⟩ tp sz fun e o c1 _ c2 c3 q => kp e o c1 c2 c3 q)) (F.args_zip_next_1 _))))
theorem zs_stop {L : Addr} {Q : Option Value → Shared → Prop} (Z : ZipSep2 z TI TO i1 i2 fa fb) (Da : Draws prog w A.in1 i1 fa n1 Pa Sa) (Db : Draws prog w A.in1 i2 fb n2 Pb Sb) (st : ZS z TI TO i1 i2 L Sa Sb i s.heap) (la : i ≤ n1) (lb : i ≤ n2) (hend : i = n1 ∨ i = n2)
    (k : ∀ g tk, (∀ e o, e ≠ z → e ≠ TO → e ≠ i1 → e ≠ i2 → s.heap.get? e = some o → g.get? e = some o) → Q none { s with heap := g, toks := tk }) :
    wpAny (model prog w) A (pyNext (.ref z)) Q E s := by
  obtain ⟨hI, ta, tb, hz⟩ := st
  rcases hz with ⟨hz, u, v, hO⟩ | ⟨T, fl, oT, hz, hT, r1, r2, r3, r4⟩
  · exact wpAny_pyNext_zipD2_end Z Da Db hz hI hO ta tb la lb hend fun g tk kp => k g tk kp
  · have tz : s.TypeIs (.ref z) "zip" := ⟨_, hz, rfl⟩
    unfold pyNext
    refine wpAny_bind (wpAny_attempt (wpAny_callSpecial?_slot (name := Str.ofString "__next__") tz F.slot_zip_next (wpAny_call_entry F.slot_zip_next tz F.entry_zip_next (zh_stop Z Da Db hz hT hI ta tb la lb hend fun g tk e kp he => ?_) (F.args_zip_next_1 _))))
    obtain ⟨o, ho, hc⟩ := he
    refine wpAny_bind (wpAny_isInstance (T := "StopIteration") (b := true) ⟨o, ho, hc⟩ isSubtype_stop ?_)
    exact wpAny_pure (k g tk fun e o c1 _ c2 c3 q => kp e o c1 c2 c3 q)
/-- the pairs in the list: at rising addresses above lo -/
structure ZG (Pa Pb : Nat → Value → Prop) (lo : Addr) (h : Heap) (as : List Addr) : Prop where
  rise : as.Pairwise (· < ·)
  above : ∀ a ∈ as, lo < a
  pr : ∀ (j : Nat) (a : Addr), as[j]? = some a → ∃ x y, Pa j x ∧ Pb j y ∧ IsTupOf2 h a x y
theorem ZG.there {lo : Addr} {h : Heap} {as : List Addr} (g : ZG Pa Pb lo h as) {a : Addr} (ha : a ∈ as) : a < h.objs.size := by
  obtain ⟨j, hj⟩ := List.mem_iff_getElem?.mp ha
  obtain ⟨_, _, _, _, e⟩ := g.pr j a hj
  exact Heap.lt_size e
end
section
variable {prog : Program} {w : World} {A : Around} {s : Shared} {R : Result → Shared → Prop} {z TI TO i1 i2 : Addr} {fa fb : List Addr} {n1 n2 : Nat} {Pa Pb : Nat → Value → Prop} {Sa Sb : Nat → Heap → Prop}
theorem zs_loop {L lo : Addr} (Z : ZipSep2 z TI TO i1 i2 fa fb) (Da : Draws prog w A.in1.in1 i1 fa n1 Pa Sa) (Db : Draws prog w A.in1.in1 i2 fb n2 Pb Sb) (cz : z ≤ lo) (cO : TO ≤ lo) (c1 : i1 ≤ lo) (c2 : i2 ≤ lo) (cL : L ≤ lo) (lz : L ≠ z) (lI : L ≠ TI) (lO : L ≠ TO) (l1 : L ≠ i1) (l2 : L ≠ i2) (la : L ∉ fa) (lb : L ∉ fb) (hn : min n1 n2 ≤ sizeLine) (res : Value) {hb : Heap}
    (hR : ∀ g tk acc c as, (∀ b o, b ≠ L → b ≠ z → b ≠ TO → b ≠ i1 → b ≠ i2 → hb.get? b = some o → g.get? b = some o) → g.get? L = some { cls := .type "list", dict := none, data := .seq acc c, slots := #[] } → as.length = min n1 n2 → ZG Pa Pb lo g as → acc.toList = as.map Value.ref → R (.ok (.ret res)) { s with heap := g, toks := tk }) :
    ∀ (k i : Nat) (h : Heap) (tk c : Nat) (acc : Array Value) (as : List Addr), min n1 n2 - i = k → i ≤ min n1 n2 → ZS z TI TO i1 i2 L Sa Sb i h → (∀ b o, b ≠ L → b ≠ z → b ≠ TO → b ≠ i1 → b ≠ i2 → hb.get? b = some o → h.get? b = some o) →
      h.get? L = some { cls := .type "list", dict := none, data := .seq acc c, slots := #[] } → acc.toList = as.map Value.ref → as.length = i → ZG Pa Pb lo h as → lo < h.objs.size →
      codeAny (model prog w) A (.builtin "list.extend.loop" ⟨[.ref L, .ref z, res], []⟩) R { s with heap := h, toks := tk } := by
  intro k
  induction k with
  | zero =>
    intro i h tk c acc as hk hi st hkp hL hacc hl hG hlo
    refine codeAny_builtin F.entry_extend_loop ?_
    rw [Around.under_plainId F.plain_extend_loop _]
    show wpAny _ A.in1 (pyNext (.ref z) >>= _) _ _ _
    refine wpAny_bind (zs_stop (s := { s with heap := h, toks := tk }) (A := A.in1) Z Da Db st (by omega) (by omega) (by omega) fun g t' kp => ?_)
    refine wpAny_pure (hR g t' acc c as (fun b o q0 q1 q2 q3 q4 e => kp b o q1 q2 q3 q4 (hkp b o q0 q1 q2 q3 q4 e)) (kp L _ lz lO l1 l2 hL) (by omega) ⟨hG.rise, hG.above, fun j a hj => ?_⟩ hacc)
    obtain ⟨x, y, p1, p2, p3⟩ := hG.pr j a hj
    have ab := hG.above a (List.mem_of_getElem? hj)
    exact ⟨x, y, p1, p2, kp a _ (Nat.ne_of_gt (Nat.lt_of_le_of_lt cz ab)) (Nat.ne_of_gt (Nat.lt_of_le_of_lt cO ab)) (Nat.ne_of_gt (Nat.lt_of_le_of_lt c1 ab)) (Nat.ne_of_gt (Nat.lt_of_le_of_lt c2 ab)) p3⟩
  | succ k ih =>
    intro i h tk c acc as hk hi st hkp hL hacc hl hG hlo
    have lt1 : i < n1 := by omega
    have lt2 : i < n2 := by omega
    have hsz : acc.size = i := by rw [← Array.length_toList, hacc, List.length_map, hl]
    refine codeAny_builtin F.entry_extend_loop ?_
    rw [Around.under_plainId F.plain_extend_loop _]
    show wpAny _ A.in1 (pyNext (.ref z) >>= _) _ _ _
    refine wpAny_bind (zs_item (s := { s with heap := h, toks := tk }) (A := A.in1) Z Da Db st (Heap.lt_size hL) lt1 lt2 fun x y g t' px py st' tp sz kp => ?_)
    dsimp only at tp sz kp ⊢
    have hL' := kp L _ lz lO l1 l2 hL
    have Llt : L < h.objs.size := Heap.lt_size hL
    have up : ∀ b o, b ≠ L → g.get? b = some o → (g.update L (Obj.mapSeq (·.push (Value.ref h.objs.size)))).get? b = some o := fun b o nb e => (Heap.get?_update_other _ _ (Ne.symm nb)).trans e
    show wpAny _ A.in1 (updateSeq L (·.push (Value.ref h.objs.size)) >>= _) _ _ _
    refine wpAny_bind ?_
    refine wpAny_updateSeq hL' rfl (wpAny_pure ⟨plainId_quiet F.plain_extend_loop _, ih (i + 1) _ t' _ (acc.push (Value.ref h.objs.size)) (as ++ [h.objs.size]) (by omega) (by omega) ?_
      (fun b o q0 q1 q2 q3 q4 e => up b o q0 (kp b o q1 q2 q3 q4 (hkp b o q0 q1 q2 q3 q4 e))) (Heap.get?_update_self _ hL' rfl) (by rw [Array.toList_push, hacc, List.map_append]; rfl) (by rw [List.length_append, hl]; rfl) ⟨?_, ?_, ?_⟩ ?_⟩) (by rw [hsz]; omega) (by show (acc.push (Value.ref h.objs.size)).size ≤ sizeLine + 1; rw [Array.size_push, hsz]; omega)
    · obtain ⟨q1, q2, q3, q4⟩ := st'
      refine ⟨up _ _ (Ne.symm lI) q1, Da.frame _ _ _ q2 fun b hb o e => up b o (fun q => la (q ▸ hb)) e, Db.frame _ _ _ q3 fun b hb o e => up b o (fun q => lb (q ▸ hb)) e, ?_⟩
      rcases q4 with ⟨q5, u, v, q6⟩ | ⟨T, fl, oT, q5, q6, r1, r2, r3, r4⟩
      · exact .inl ⟨up _ _ (Ne.symm lz) q5, u, v, up _ _ (Ne.symm lO) q6⟩
      · exact .inr ⟨T, fl, oT, up _ _ (Ne.symm lz) q5, up _ _ r4 q6, r1, r2, r3, r4⟩
    · refine List.pairwise_append.mpr ⟨hG.rise, List.pairwise_singleton _ _, fun a ha b hb' => ?_⟩
      rw [List.mem_singleton.mp hb']
      exact hG.there ha
    · intro a ha
      rcases List.mem_append.mp ha with ha | ha
      · exact hG.above a ha
      · rw [List.mem_singleton.mp ha]; exact hlo
    · intro j b hj
      rcases Nat.lt_trichotomy j as.length with q | q | q
      · rw [List.getElem?_append_left q] at hj
        obtain ⟨x', y', p1, p2, p3⟩ := hG.pr j b hj
        have ab := hG.above b (List.mem_of_getElem? hj)
        exact ⟨x', y', p1, p2, up b _ (Nat.ne_of_gt (Nat.lt_of_le_of_lt cL ab)) (kp b _ (Nat.ne_of_gt (Nat.lt_of_le_of_lt cz ab)) (Nat.ne_of_gt (Nat.lt_of_le_of_lt cO ab)) (Nat.ne_of_gt (Nat.lt_of_le_of_lt c1 ab)) (Nat.ne_of_gt (Nat.lt_of_le_of_lt c2 ab)) p3)⟩
      · subst q
        have eb : h.objs.size = b := by simpa using hj
        subst eb
        exact ⟨x, y, by rw [hl]; exact px, by rw [hl]; exact py, up _ _ (Nat.ne_of_gt Llt) tp⟩
      · rw [List.getElem?_eq_none (by rw [List.length_append, List.length_singleton]; omega)] at hj
        cases hj
    · have e : (g.update L (Obj.mapSeq (·.push (Value.ref h.objs.size)))).get? h.objs.size = _ := up _ _ (Nat.ne_of_gt Llt) tp
      exact Nat.lt_trans hlo (Heap.lt_size e)
end
theorem zip_nolen : typeLookup (.type "zip") "__len__" = pure none := by rw [typeLookup_type, builtinLookup_eq_fast]; kernel_rfl
theorem zip_nohint : typeLookup (.type "zip") "__length_hint__" = pure none := by rw [typeLookup_type, builtinLookup_eq_fast]; kernel_rfl
section
variable {prog : Program} {w : World} {A : Around} {E : Value → Shared → Prop} {s : Shared} {z TI TO i1 i2 : Addr} {fa fb : List Addr} {n1 n2 : Nat} {Pa Pb : Nat → Value → Prop} {Sa Sb : Nat → Heap → Prop}
/-- list(z), z a zip that has not begun -/
theorem list_zip {Q : Value → Shared → Prop} (Z : ZipSep2 z TI TO i1 i2 fa fb) (D4 : Draws prog w A.in1.in1.in1 i1 fa n1 Pa Sa) (D5 : Draws prog w A.in1.in1.in1 i2 fb n2 Pb Sb)
    (hz : IsZip s.heap z TI TO .none) (hI : IsTupOf2 s.heap TI (.ref i1) (.ref i2)) (hO : ∃ u v, IsTupOf2 s.heap TO u v) (ta : Sa 0 s.heap) (tb : Sb 0 s.heap) (fa1 : ∀ b ∈ fa, b < s.heap.objs.size) (fb1 : ∀ b ∈ fb, b < s.heap.objs.size) (hn : min n1 n2 ≤ sizeLine)
    (hQ : ∀ g tk acc c as, (∀ b o, b ≠ z → b ≠ TO → b ≠ i1 → b ≠ i2 → s.heap.get? b = some o → g.get? b = some o) → g.get? s.heap.objs.size = some { cls := .type "list", dict := none, data := .seq acc c, slots := #[] } → as.length = min n1 n2 → ZG Pa Pb s.heap.objs.size g as → acc.toList = as.map Value.ref → Q (.ref s.heap.objs.size) { s with heap := g, toks := tk }) :
    wpAny (model prog w) A (call (.type "list") [.ref z]) Q E s := by
  refine callType_codes (Q₁ := fun ob t => ob = .ref s.heap.objs.size ∧ t = { s with heap := s.heap.push { cls := .type "list", data := .seq #[] } }) F.called_list (F.typeCall_list_1 _) F.entry_list_init (code_list_new _ ⟨rfl, rfl⟩) fun ob t h => ?_
  obtain ⟨rfl, rfl⟩ := h
  have hS : (s.heap.push { cls := .type "list", data := .seq #[] }).get? s.heap.objs.size = some { cls := .type "list", data := .seq #[] } := Heap.get?_push_size _ rfl
  have zlt : z < s.heap.objs.size := Heap.lt_size hz
  have Olt : TO < s.heap.objs.size := let ⟨_, _, e⟩ := hO; Heap.lt_size e
  have Ilt : TI < s.heap.objs.size := Heap.lt_size hI
  have lt1 : i1 < s.heap.objs.size := fa1 _ Z.mem1
  have lt2 : i2 < s.heap.objs.size := fb1 _ Z.mem2
  refine ⟨⟨_, hS, rfl⟩, F.args_list_init_2 _ _, ?_⟩
  show wpAny _ A.in1.in1 (do let old ← Builtin.List.listItems (.ref s.heap.objs.size); Builtin.List.listUpdate (.ref s.heap.objs.size) (fun _ => #[]); letGo old.toList.reverse; Builtin.List.listExtendWith (.ref s.heap.objs.size) (.ref z) .none) _ _ _
  refine wpAny_bind ?_
  unfold Builtin.List.listItems
  refine wpAny_bind (wpAny_seqItems hS rfl (wpAny_pure ?_))
  show wpAny _ A.in1.in1 (updateSeq s.heap.objs.size (fun _ => #[]) >>= fun _ => letGo (#[] : Array Value).toList.reverse >>= fun _ => Builtin.List.listExtendWith (.ref s.heap.objs.size) (.ref z) .none) _ _ _
  refine wpAny_bind (wpAny_updateSeq hS rfl ?_)
  have hS2 := Heap.get?_update_self (Obj.mapSeq (fun _ => (#[] : Array Value))) hS rfl
  refine wpAny_bind (wpAny_letGo ?_)
  have up : ∀ (h : Heap) (f : Obj → Obj), (∀ b o, s.heap.get? b = some o → h.get? b = some o) → ∀ b o, s.heap.get? b = some o → (h.update s.heap.objs.size f).get? b = some o := fun h f q b o e => (Heap.get?_update_other _ _ (Ne.symm (Nat.ne_of_lt (Heap.lt_size e)))).trans (q b o e)
  have k1 : ∀ b o, s.heap.get? b = some o → (s.heap.push { cls := .type "list", data := .seq #[] }).get? b = some o := fun b o e => Heap.get?_push_of_some _ e
  have k2 := up _ (Obj.mapSeq (fun _ => (#[] : Array Value))) k1
  unfold Builtin.List.listExtendWith
  have zt : ∀ {h : Heap} {g : Array GenState} {d : Drawn} {tk : Nat} {os : OsState}, (∀ b o, s.heap.get? b = some o → h.get? b = some o) → Shared.TypeIs ⟨h, g, d, tk, os⟩ (.ref z) "zip" := fun {h g d tk os} q => ⟨_, q _ _ hz, rfl⟩
  refine wpAny_bind (wpAny_typeOf (T := "zip") (zt k2) ?_)
  have e1 : Builtin.List.listSameRef (.ref s.heap.objs.size) (.ref z) = false := by simp [Builtin.List.listSameRef, Nat.ne_of_gt zlt]
  have e2 : (Value.type "zip" == Value.type "list") = false := by decide
  have e3 : (Value.type "zip" == Value.type "tuple") = false := by decide
  simp only [e1, e2, e3, Bool.or_false, Bool.false_eq_true, if_false]
  refine wpAny_bind (wpAny_pyIter_zip (s := { s with heap := _ }) (k2 _ _ hz) ?_)
  refine wpAny_bind (wpAny_holding ?_)
  unfold Builtin.List.listLengthHint
  refine wpAny_bind (wpAny_specialOf (zt k2) zip_nolen ?_)
  show wpAny _ A.in1.in1 (specialOf (Value.ref z) (Str.ofString "__length_hint__") >>= _) _ _ _
  refine wpAny_bind (wpAny_specialOf (zt k2) zip_nohint ?_)
  refine wpAny_pure ?_
  show wpAny _ A.in1.in1 (rule "list.extend.makes-room" >>= fun _ => Builtin.List.listTouch (.ref s.heap.objs.size) >>= fun _ => again (.builtin "list.extend.loop" ⟨[.ref s.heap.objs.size, .ref z, .none], []⟩)) _ _ _
  refine wpAny_bind (wpAny_rule ?_)
  refine wpAny_bind ?_
  show wpAny _ A.in1.in1 (updateSeq s.heap.objs.size (·.push .none) >>= fun _ => updateSeq s.heap.objs.size (·.pop)) _ _ _
  refine wpAny_bind (wpAny_updateSeq hS2 rfl ?_)
  have hS3 := Heap.get?_update_self (Obj.mapSeq (·.push Value.none)) hS2 rfl
  refine wpAny_updateSeq (hz := by seq_fits) hS3 rfl ?_
  have hS4 := Heap.get?_update_self (Obj.mapSeq (·.pop)) hS3 rfl
  have k3 := up _ (Obj.mapSeq (·.push Value.none)) k2
  have k4 := up _ (Obj.mapSeq (·.pop)) k3
  refine wpAny_pure ⟨plainId_quiet F.plain_extend_loop _, zs_loop (A := A.in1) (s := s) (L := s.heap.objs.size) (lo := s.heap.objs.size) (hb := s.heap) Z D4 D5 (Nat.le_of_lt zlt) (Nat.le_of_lt Olt) (Nat.le_of_lt lt1) (Nat.le_of_lt lt2) (Nat.le_refl _) (Nat.ne_of_gt zlt) (Nat.ne_of_gt Ilt) (Nat.ne_of_gt Olt) (Nat.ne_of_gt lt1) (Nat.ne_of_gt lt2)
    (fun q => Nat.lt_irrefl _ (fa1 _ q)) (fun q => Nat.lt_irrefl _ (fb1 _ q)) hn .none (fun g tk acc c as kp hL hl hG hacc => ?_) (min n1 n2) 0 _ s.toks _ #[] [] (Nat.sub_zero _) (Nat.zero_le _)
    ⟨k4 _ _ hI, D4.frame _ _ _ ta fun b _ o e => k4 b o e, D5.frame _ _ _ tb fun b _ o e => k4 b o e, .inl ⟨k4 _ _ hz, let ⟨u, v, e⟩ := hO; ⟨u, v, k4 _ _ e⟩⟩⟩ (fun b o _ _ _ _ _ e => k4 b o e) hS4 rfl rfl ⟨List.Pairwise.nil, (fun a ha => by cases ha), fun j a hj => by simp at hj⟩ (Heap.lt_size hS4)⟩
  exact ⟨rfl, hQ g tk acc c as (fun b o q1 q2 q3 q4 e => kp b o (Nat.ne_of_lt (Heap.lt_size e)) q1 q2 q3 q4 e) hL hl hG hacc⟩
end
/-! ### in the abstract heap -/
def putP : Hp → List Addr → List (V × V) → Hp
  | H, a :: as, p :: ps => putP (upd H a (.tup [p.1, p.2])) as ps
  | H, [], _ => H
  | H, _ :: _, [] => H
theorem putP_off {b : Addr} : ∀ (as : List Addr) (ps : List (V × V)) (H : Hp), b ∉ as → putP H as ps b = H b
  | [], _, _, _ => by unfold putP; rfl
  | _ :: _, [], _, _ => by unfold putP; rfl
  | a :: as, p :: ps, H, h => by
    unfold putP
    rw [putP_off as ps _ (fun q => h (List.mem_cons_of_mem _ q)), upd_ne (fun q => h (by rw [q]; exact List.mem_cons_self))]
theorem putP_at : ∀ (as : List Addr) (ps : List (V × V)) (H : Hp), as.length = ps.length → as.Nodup → ∀ (j : Nat) (a : Addr), as[j]? = some a → ∃ q, ps[j]? = some q ∧ putP H as ps a = some (.tup [q.1, q.2])
  | [], _, _, _, _, j, a, h => by simp at h
  | _ :: _, [], _, h, _, _, _, _ => by simp at h
  | b :: as, p :: ps, H, h, nd, j, a, hj => by
    have nd' := List.nodup_cons.mp nd
    cases j with
    | zero =>
      have e : b = a := by simpa using hj
      subst e
      refine ⟨p, rfl, ?_⟩
      unfold putP
      rw [putP_off as ps _ nd'.1, upd_same]
    | succ j =>
      obtain ⟨q, h1, h2⟩ := putP_at as ps (upd H b (.tup [p.1, p.2])) (by simpa using h) nd'.2 j a (by simpa using hj)
      refine ⟨q, by simpa using h1, ?_⟩
      unfold putP
      exact h2
theorem refs_vals : ∀ as : List Addr, Vals (as.map V.ref) (as.map Value.ref)
  | [] => .nil
  | _ :: as => .cons rfl (refs_vals as)
/-- the list and its pairs are tracked -/
theorem pairs_laid {X : Cx} {pins : List (Addr × Obj)} {σ : L2.St} {H : Hp} {s : Shared} {g : Heap} {tk : Nat} {ps : List (V × V)} {acc : Array Value} {c : Nat} {as : List Addr} {L : Addr} (I : Inv X pins σ H s) (hz : ps.length ≤ sizeLine) (kp : ∀ b o, s.heap.get? b = some o → g.get? b = some o) (hL : s.heap.objs.size ≤ L)
    (hS : g.get? L = some { cls := .type "list", dict := none, data := .seq acc c, slots := #[] }) (hl : as.length = ps.length) (rise : as.Pairwise (· < ·)) (ab : ∀ a ∈ as, L < a) (hacc : acc.toList = as.map Value.ref)
    (pr : ∀ (j : Nat) (a : Addr) (q : V × V), as[j]? = some a → ps[j]? = some q → ∃ x y, RelV q.1 x ∧ RelV q.2 y ∧ IsTupOf2 g a x y) :
    ∃ H' : Hp, Same H H' ∧ H L = none ∧ H' L = some (.lst (as.map V.ref)) ∧ (∀ (j : Nat) (a : Addr), as[j]? = some a → ∃ q, ps[j]? = some q ∧ H' a = some (.tup [q.1, q.2])) ∧ Inv X pins σ H' { s with heap := g, toks := tk } := by
  have nL : L ∉ as := fun q => Nat.lt_irrefl _ (ab _ q)
  have nd : as.Nodup := List.Pairwise.imp (fun {a b} (h : a < b) => Nat.ne_of_lt h) rise
  have nw : ∀ t ∈ as, H t = none := fun t ht => I.hok.fresh (Nat.le_trans hL (Nat.le_of_lt (ab t ht)))
  have nwL : H L = none := I.hok.fresh hL
  have at' := putP_at as ps (upd H L (.lst (as.map V.ref))) hl nd
  have off : ∀ b, b ∉ as → b ≠ L → putP (upd H L (.lst (as.map V.ref))) as ps b = H b := fun b h1 h2 => by rw [putP_off as ps _ h1, upd_ne h2]
  have low : ∀ b o, s.heap.get? b = some o → b ∉ as ∧ b ≠ L := fun b o e => ⟨fun q => absurd (Nat.lt_trans (Nat.lt_of_lt_of_le (Heap.lt_size e) hL) (ab b q)) (Nat.lt_irrefl _), fun q => absurd (Nat.lt_of_lt_of_le (Heap.lt_size e) hL) (by rw [q]; exact Nat.lt_irrefl _)⟩
  have kH : ∀ b u, H b = some u → putP (upd H L (.lst (as.map V.ref))) as ps b = some u := fun b u e => by
    rw [off b (fun q => by rw [nw b q] at e; cases e) (fun q => by rw [q, nwL] at e; cases e)]
    exact e
  have eL : putP (upd H L (.lst (as.map V.ref))) as ps L = some (.lst (as.map V.ref)) := by rw [putP_off as ps _ nL, upd_same]
  refine ⟨_, kH, nwL, eL, at', ?_⟩
  refine I.call' (ch := []) rfl ⟨fun b o q _ _ _ => kp b o q, fun b o q _ _ _ => ⟨o.slots, kp b o q⟩, fun b o q n _ => ?_, fun b o q _ => ⟨o, kp b o q⟩, fun b xs q => kH b _ q, fun b o u q => kH b _ q, fun b qs q => ⟨#[], by rw [kH b _ q]; simp⟩⟩ (fun b u q => ?_) I.bare fun b q => by simp at q
  · obtain ⟨z1, z2⟩ := low b o q
    rw [off b z1 z2]
    exact n
  · by_cases hb : b ∈ as
    · obtain ⟨j, hj⟩ := List.mem_iff_getElem?.mp hb
      obtain ⟨pq, e1, e2⟩ := at' j b hj
      rw [e2] at q
      cases q
      obtain ⟨x, y, r1, r2, tp⟩ := pr j b pq hj e1
      exact ⟨by show 2 ≤ 2 ^ 24; decide, [x, y], .cons r1 (.cons r2 .nil), ⟨_, tp, rfl, _, rfl⟩⟩
    · by_cases hb2 : b = L
      · rw [hb2] at q ⊢
        rw [eL] at q
        cases q
        refine ⟨by rw [List.length_map]; omega, acc.toList, c, by rw [hacc]; exact refs_vals as, ?_⟩
        rw [Array.toArray_toList]
        exact hS
      · rw [off b hb hb2] at q
        exact (I.hok b u q).stay (fun d v _ y => kp d v y) (fun d y => kH d _ y) fun d xs y => kH d _ y
end Wk
namespace Wk
open PySem PySem.Spec PyProof.Rows L2
section
variable {X : Cx} {e a b c elt kx vx o : Expr} {es rest : List Expr} {σ : L2.St} {H : Hp} {Q : VK} {pos p0 apos : Pos} {N G G' : List Str} {Vn : List (Nat × Str)} {sc scope : Scope}
/-- list(zip(a, b)) -/
theorem e_listZ (c d : Side) {g g2 : Nat} {p p2 pos2 : Pos} (hm : X.mg "list" = none) (hmz : X.mg "zip" = none)
    (q : wE X a σ H fun v H1 => wE X b σ H1 fun u H2 => ∃ va vb xs ys, v = .ref va ∧ u = .ref vb ∧ c.sq X.K H2 va xs ∧ d.sq X.K H2 vb ys ∧ min xs.length ys.length ≤ 200000 ∧
      ∀ (L : Addr) (as : List Addr) (H3 : Hp), Same H2 H3 → H2 L = none → H3 L = some (.lst (as.map V.ref)) → as.length = min xs.length ys.length → (∀ (j : Nat) (t : Addr), as[j]? = some t → ∃ x y, xs[j]? = some x ∧ ys[j]? = some y ∧ H3 t = some (.tup [x, y])) → Q (.ref L) H3)
    (I : In X N G sc := by assumption) (hc : X.calm = true := by rfl) (hG : At G g ("list" : Str) := by repeat (first | with_reducible apply At.z | with_reducible apply At.s)) (hGz : At G g2 ("zip" : Str) := by repeat (first | with_reducible apply At.z | with_reducible apply At.s))
    (hs : starEach [.Call (.Name "zip" p2) [a, b] [] pos2] X.env = (false, eval (.Call (.Name "zip" p2) [a, b] [] pos2) X.env) :: starEach [] X.env := by rfl) (hs0 : starEach [a, b] X.env = (false, eval a X.env) :: starEach [b] X.env := by rfl) (hpl : (backTo pos2 (starEach [b] X.env)).any (·.1) = false := by rfl)
    (hs1 : starEach (b :: []) X.env = (false, eval b X.env) :: starEach [] X.env := by rfl) :
    wE X (.Call (.Name "list" p) [.Call (.Name "zip" p2) [a, b] [] pos2] [] pos) σ H Q := by
  unfold wE
  intro pins s I0
  refine wpAny_Call_Name_kw (ld_blt I0 (I.g hG) hm b_list ?_ (I.gn hG) (I.gd hG))
  refine PyProof.Rows.callWith_type1 ?_ hs rfl
  rw [hs]
  show wpAny _ _ (spliced ((false, eval (.Call (.Name "zip" p2) [a, b] [] pos2) X.env) :: backTo pos (starEach [] X.env))) _ _ s
  refine Calls.spliced_cons ?_
  refine Call_ (ld_blt I0 (I.g hGz) hmz PyProof.Rows.boot_zip (PyProof.Rows.callWith_type1 (thn ((pa_cons pe (pa_cons pe pa_nil hs1) hs0).run pos2 pins s σ H (fun vs H2 => ∃ va vb xs ys, vs = [.ref va, .ref vb] ∧ c.sq X.K H2 va xs ∧ d.sq X.K H2 vb ys ∧ min xs.length ys.length ≤ 200000 ∧
      ∀ (L : Addr) (as : List Addr) (H3 : Hp), Same H2 H3 → H2 L = none → H3 L = some (.lst (as.map V.ref)) → as.length = min xs.length ys.length → (∀ (j : Nat) (t : Addr), as[j]? = some t → ∃ x y, xs[j]? = some x ∧ ys[j]? = some y ∧ H3 t = some (.tup [x, y])) → Q (.ref L) H3) I0 (e_mono q fun v H1 q1 => e_mono q1 fun u H2 ⟨va, vb, xs, ys, e1, e2, z⟩ => ⟨va, vb, xs, ys, by rw [e1, e2], z⟩)) fun us s1 ⟨vs, H1, I1, r1, va, vb, xs, ys, ev, sx, sy, hz, k⟩ => ?_) hs0 hpl))
  subst ev
  obtain ⟨u, v, rfl, ru, rv⟩ : ∃ u v, us = [u, v] ∧ RelV (.ref va) u ∧ RelV (.ref vb) v := by
    cases r1 with
    | cons r t => cases t with
      | cons r' t => cases t; exact ⟨_, _, rfl, r, r'⟩
  cases ru
  cases rv
  obtain ⟨ws, rw1, cx⟩ := c.own I1 sx
  obtain ⟨zs, rw2, cy⟩ := d.own I1 sy
  have la := c.lt cx
  have lb := d.lt cy
  have hh : X.A.handled = none := I1.ok.hd hc
  have lw := rw1.length
  have lz := rw2.length
  generalize hN : s1.heap.objs.size = M at la lb
  refine zip_begins2 (c.begins va ws.toArray) (d.begins vb zs.toArray) cx cy fun h1 g1 g2 g3 g4 g5 gsz kp => ?_
  rw [hN] at g1 g2 g3 g4 g5 gsz ⊢
  refine Calls.spliced_nil ?_
  have S : ZipSep2 (M + 4) (M + 2) (M + 3) M (M + 1) [M, va] [M + 1, vb] := zip_sep2 (fun e he => by rw [List.mem_singleton.mp he]; exact la) (fun e he => by rw [List.mem_singleton.mp he]; exact lb)
  have cu : ∀ (cc : Side) (x : Addr) (us : Array Value), cc.con s1.heap x us → cc.con h1 x us := fun cc x us hx => by
    cases cc with
    | l => exact hx.at fun o q => kp _ o q
    | t => exact hx.at fun o q => kp _ o q
  refine list_zip (s := { s1 with heap := h1 }) S (c.draws (A := X.A.in1.in1.in1) hh M va (Nat.ne_of_lt la) ws.toArray) (d.draws (A := X.A.in1.in1.in1) hh (M + 1) vb (Nat.ne_of_lt (Nat.lt_succ_of_lt lb)) zs.toArray) g1 g2 ⟨_, _, g3⟩ ⟨c.start g4, cu c _ _ cx⟩ ⟨d.start g5, cu d _ _ cy⟩ (fun e he => ?_) (fun e he => ?_) ?_ fun g tk acc cc as kg hL hl hG hacc => ?_
  · show e < h1.objs.size
    rw [gsz]
    simp only [List.mem_cons, List.not_mem_nil, or_false] at he
    rcases he with rfl | rfl
    · exact Nat.lt_add_of_pos_right (by decide)
    · exact Nat.lt_of_lt_of_le la (Nat.le_add_right _ _)
  · show e < h1.objs.size
    rw [gsz]
    simp only [List.mem_cons, List.not_mem_nil, or_false] at he
    rcases he with rfl | rfl
    · exact Nat.add_lt_add_left (by decide) M
    · exact Nat.lt_of_lt_of_le lb (Nat.le_add_right _ _)
  · rw [List.size_toArray, List.size_toArray, ← lw, ← lz]
    show _ ≤ 2 ^ 24
    omega
  · dsimp only at kg hL hG
    have lo : ∀ b o, s1.heap.get? b = some o → b < M := fun b o q => hN ▸ Heap.lt_size q
    have lm : min xs.length ys.length = (xs.zip ys).length := by rw [List.length_zip]
    have hl2 : as.length = (xs.zip ys).length := by rw [hl, List.size_toArray, List.size_toArray, ← lw, ← lz, lm]
    obtain ⟨H', e1, e2, e3, e4, J⟩ := pairs_laid (tk := tk) (ps := xs.zip ys) (L := h1.objs.size) I1 (by rw [← lm]; show _ ≤ 2 ^ 24; omega) (fun b o q => kg b o (Nat.ne_of_lt (Nat.lt_of_lt_of_le (lo b o q) (Nat.le_add_right M 4))) (Nat.ne_of_lt (Nat.lt_of_lt_of_le (lo b o q) (Nat.le_add_right M 3))) (Nat.ne_of_lt (lo b o q)) (Nat.ne_of_lt (Nat.lt_of_lt_of_le (lo b o q) (Nat.le_add_right M 1))) (kp b o q)) (by omega) hL hl2 hG.rise hG.above hacc
      (fun j t pq hj hq => by
        obtain ⟨x', y', p1, p2, p3⟩ := hG.pr j t hj
        obtain ⟨q1, q2⟩ := List.getElem?_zip_eq_some.mp hq
        obtain ⟨w1, f1, f2⟩ := rw1.get q1
        obtain ⟨w2, f3, f4⟩ := rw2.get q2
        rw [List.getElem?_toArray, f1] at p1
        rw [List.getElem?_toArray, f3] at p2
        cases p1
        cases p2
        exact ⟨_, _, f2, f4, p3⟩)
    refine ⟨.ref h1.objs.size, H', J, rfl, k _ as H' e1 e2 e3 (by rw [hl2, lm]) fun j t hj => ?_⟩
    obtain ⟨pq, q1, q2⟩ := e4 j t hj
    obtain ⟨q3, q4⟩ := List.getElem?_zip_eq_some.mp q1
    exact ⟨pq.1, pq.2, q3, q4, q2⟩
/-- for x, y in reversed(xs), xs a list of pairs -/
theorem s_forRv2 {nx : L2.St → Hp → Prop} {rt : VK} {bk ct : L2.St → Hp → Prop} {g : Nat} {x y : Str} {i j : Nat} {body : List Stmt} {px py pt p cp pos : Pos} {kk : Nat} (hm : X.mg "reversed" = none)
    (q : wE X a σ H fun v H1 => ∃ ad xs, v = .ref ad ∧ SqL X.K H1 ad xs ∧ ∃ Pv : Nat → L2.St → Hp → Prop, Pv 0 σ H1 ∧ (∀ k σ H, k ≤ xs.length → Pv k σ H → SqL X.K H ad xs) ∧
      (∀ k y σ H, xs.reverse[k]? = some y → Pv k σ H → ∃ t u1 u2, y = .ref t ∧ SqT X.K H t [u1, u2] ∧ wL X body ⟨Pv (k + 1), rt, nx, Pv (k + 1)⟩ ((σ.set i (some u1)).set j (some u2)) H) ∧ ∀ σ H, Pv xs.length σ H → nx σ H)
    (I : In X N G sc := by assumption) (hc : X.calm = true := by rfl) (hA : At N i x := by repeat (first | with_reducible apply At.z | with_reducible apply At.s)) (hB : At N j y := by repeat (first | with_reducible apply At.z | with_reducible apply At.s)) (hG : At G g ("reversed" : Str) := by repeat (first | with_reducible apply At.z | with_reducible apply At.s))
    (hs : starEach [a] X.env = (false, eval a X.env) :: starEach [] X.env := by rfl) (hs2 : ∀ z, foldedSetIterable (.Call (.Name "reversed" p) [a] [] cp) X.env z = pure z := by intro _; rfl) :
    wS X (.For (.Tuple [.Name x px, .Name y py] kk pt) (.Call (.Name "reversed" p) [a] [] cp) body [] pos) ⟨nx, rt, bk, ct⟩ σ H := by
  refine s_of (ps_for I.never hc (RT.pi_revA (I.g hG) hm pe hs) (pg_tup hc (pgs_cons (pg_name I.nd (I.hi hA) (I.loc hA) I.f) (pgs_cons (pg_name I.nd (I.hi hB) (I.loc hB) I.f) pgs_nil))) pl hs2) (e_mono q fun v H1 q1 => ?_)
  obtain ⟨ad, xs, rfl, hl, Pv, h0, hk, hb, hd⟩ := q1
  refine ⟨ad, xs, rfl, .inl ⟨hl, fun k m σ H => m = xs.length - k ∧ k ≤ xs.length ∧ Pv k σ H, ⟨xs.length, by simp, Nat.zero_le _, h0⟩, ?_⟩⟩
  rintro k m σ H ⟨rfl, hi, p⟩
  have q := hk k σ H hi p
  by_cases hlt : k < xs.length
  · refine .inr ⟨⟨hlt, xs, xs[xs.length - 1 - k]'(by omega), q, by simp⟩, Pv (k + 1), fun σ' H' p' => ⟨xs.length - (k + 1), by omega, rfl, hlt, p'⟩, fun x H' y => ?_⟩
    obtain ⟨e, y⟩ := y
    subst e
    obtain ⟨t, u1, u2, rfl, hq, z⟩ := hb k x σ _ (by rw [List.getElem?_reverse hlt]; exact y xs q) p
    exact ⟨t, [u1, u2], rfl, hq, rfl, u1, [u2], rfl, u2, [], rfl, rfl, z⟩
  · have e : k = xs.length := by omega
    subst e
    exact .inl ⟨Nat.le_refl _, hd σ H p⟩
/-- what the turns of a dict's comprehension over a dict ask, with a test or without -/
def DTurn (X : Cx) (Vn : List (Nat × Str)) (G' : List Str) (kx vx : Expr) (scope : Scope) (i : Nat) (D : Addr) (σ : L2.St) (x : V) (H2 : Hp) (nxt : Hp → Prop) : Prop := ∀ s0 H0 C cl fp, InB (Bk X s0 H0 scope C cl fp) Vn G' →
  wE (Bk X s0 H0 scope C cl fp) kx ((wipe σ [i]).set i (some x)) H2 fun y H3 => ∀ s0 H0 C cl fp, InB (Bk X s0 H0 scope C cl fp) Vn G' →
    wE (Bk X s0 H0 scope C cl fp) vx ((wipe σ [i]).set i (some x)) H3 fun z H4 => ∃ kvs ky, y = kV ky ∧ H4 D = some (.dK kvs) ∧ kvs.length < sizeLine ∧ nxt (upd H4 D (.dK (putK kvs ky z)))
def DcD (X : Cx) (Vn : List (Nat × Str)) (G' : List Str) (kx vx : Expr) (scope : Scope) (i : Nat) (d : Addr) (o : Obj) (kvs : List (Key × V)) (D : Addr) (σ : L2.St) (H1 : Hp) (Qd : Hp → Prop) : Prop := ∃ Pv : Nat → Hp → Prop, Pv 0 (upd H1 D (.dK [])) ∧ (∀ k H2, k ≤ kvs.length → Pv k H2 → H2 d = some (.frz o (.dK kvs))) ∧
  (∀ k y v H2, kvs[k]? = some (y, v) → Pv k H2 → DTurn X Vn G' kx vx scope i D σ (kV y) H2 (Pv (k + 1))) ∧ ∀ H2, Pv kvs.length H2 → Qd H2
def DcDf (X : Cx) (Vn : List (Nat × Str)) (G' : List Str) (kx vx c : Expr) (scope : Scope) (i : Nat) (d : Addr) (o : Obj) (kvs : List (Key × V)) (D : Addr) (σ : L2.St) (H1 : Hp) (Qd : Hp → Prop) : Prop := ∃ Pv : Nat → Hp → Prop, Pv 0 (upd H1 D (.dK [])) ∧ (∀ k H2, k ≤ kvs.length → Pv k H2 → H2 d = some (.frz o (.dK kvs))) ∧
  (∀ k y v H2, kvs[k]? = some (y, v) → Pv k H2 → ∀ s0 H0 C cl fp, InB (Bk X s0 H0 scope C cl fp) Vn G' → wT (Bk X s0 H0 scope C cl fp) c ((wipe σ [i]).set i (some (kV y))) H2 fun t H3 => if t = true then DTurn X Vn G' kx vx scope i D σ (kV y) H3 (Pv (k + 1)) else Pv (k + 1) H3) ∧ ∀ H2, Pv kvs.length H2 → Qd H2
theorem dturn_of {i : Nat} {D : Addr} {x : V} {H2 : Hp} {nxt : Hp → Prop} (q : DTurn X Vn G' kx vx scope i D σ x H2 nxt) : wBk X Vn G' kx scope ((wipe σ [i]).set i (some x)) H2 fun y H4 => wBk X Vn G' vx scope ((wipe σ [i]).set i (some x)) H4 fun z H5 => ∃ kvs k, y = kV k ∧ H5 D = some (.dK kvs) ∧ kvs.length < sizeLine ∧ nxt (upd H5 D (.dK (putK kvs k z))) := by
  unfold wBk
  exact q
theorem dcD_of {i : Nat} {d : Addr} {ob : Obj} {kvs : List (Key × V)} {D : Addr} {H1 : Hp} {Qd : Hp → Prop} (q : DcD X Vn G' kx vx scope i d ob kvs D σ H1 Qd) : ∃ W : Nat → Nat → Hp → Prop, (∃ m, W 0 m (upd H1 D (.dK []))) ∧ ∀ k m H, W k m H →
    ((Itk d ob kvs).stop k H ∧ Qd H) ∨ ((Itk d ob kvs).go k H ∧ ∃ Nx : Hp → Prop, (∀ H', Nx H' → ∃ m', m' < m ∧ W (k + 1) m' H') ∧ ∀ x H', (Itk d ob kvs).yld k H x H' → gName i x (wipe σ [i]) H' fun σ2 H2 => wipe σ2 [i] = wipe σ [i] ∧ tYes σ2 H2 fun b H3 =>
      if b = true then wBk X Vn G' kx scope σ2 H3 fun y H4 => wBk X Vn G' vx scope σ2 H4 fun z H5 => ∃ kvs k, y = kV k ∧ H5 D = some (.dK kvs) ∧ kvs.length < sizeLine ∧ Nx (upd H5 D (.dK (putK kvs k z))) else Nx H3) := by
  obtain ⟨Pv, h0, hl, hs, hd⟩ := q
  refine ⟨fun k m H => m = kvs.length - k ∧ k ≤ kvs.length ∧ Pv k H, ⟨kvs.length, rfl, Nat.zero_le _, h0⟩, ?_⟩
  rintro k m H ⟨rfl, hk, p⟩
  have fz := hl k H hk p
  by_cases lt : k < kvs.length
  · refine .inr ⟨⟨fz, lt⟩, Pv (k + 1), fun H' p' => ⟨kvs.length - (k + 1), by omega, rfl, lt, p'⟩, fun x H' y => ?_⟩
    obtain ⟨rfl, ky, v, hkv, rfl⟩ := y
    refine ⟨wipe_set σ i _, ?_⟩
    unfold tYes
    exact iteT (dturn_of (hs k ky v _ hkv p))
  · have ek : k = kvs.length := by omega
    subst ek
    exact .inl ⟨⟨fz, Nat.le_refl _⟩, hd H p⟩
theorem dcDf_of {i : Nat} {d : Addr} {ob : Obj} {kvs : List (Key × V)} {D : Addr} {H1 : Hp} {Qd : Hp → Prop} (q : DcDf X Vn G' kx vx c scope i d ob kvs D σ H1 Qd) : ∃ W : Nat → Nat → Hp → Prop, (∃ m, W 0 m (upd H1 D (.dK []))) ∧ ∀ k m H, W k m H →
    ((Itk d ob kvs).stop k H ∧ Qd H) ∨ ((Itk d ob kvs).go k H ∧ ∃ Nx : Hp → Prop, (∀ H', Nx H' → ∃ m', m' < m ∧ W (k + 1) m' H') ∧ ∀ x H', (Itk d ob kvs).yld k H x H' → gName i x (wipe σ [i]) H' fun σ2 H2 => wipe σ2 [i] = wipe σ [i] ∧ wBkT X Vn G' c scope σ2 H2 fun b H3 =>
      if b = true then wBk X Vn G' kx scope σ2 H3 fun y H4 => wBk X Vn G' vx scope σ2 H4 fun z H5 => ∃ kvs k, y = kV k ∧ H5 D = some (.dK kvs) ∧ kvs.length < sizeLine ∧ Nx (upd H5 D (.dK (putK kvs k z))) else Nx H3) := by
  obtain ⟨Pv, h0, hl, hs, hd⟩ := q
  refine ⟨fun k m H => m = kvs.length - k ∧ k ≤ kvs.length ∧ Pv k H, ⟨kvs.length, rfl, Nat.zero_le _, h0⟩, ?_⟩
  rintro k m H ⟨rfl, hk, p⟩
  have fz := hl k H hk p
  by_cases lt : k < kvs.length
  · refine .inr ⟨⟨fz, lt⟩, Pv (k + 1), fun H' p' => ⟨kvs.length - (k + 1), by omega, rfl, lt, p'⟩, fun x H' y => ?_⟩
    obtain ⟨rfl, ky, v, hkv, rfl⟩ := y
    refine ⟨wipe_set σ i _, ?_⟩
    unfold wBkT
    intro s0 H0 C cl fp IB
    refine t_mono (hs k ky v _ hkv p s0 H0 C cl fp IB) fun t H3 z => ?_
    cases t with
    | true => exact iteT (dturn_of z)
    | false => exact z
  · have ek : k = kvs.length := by omega
    subst ek
    exact .inl ⟨⟨fz, Nat.le_refl _⟩, hd H p⟩
/-- {kx: vx for x in d}, d a dict that stands at ad -/
theorem e_dcD {i : Nat} {x : Str} {px : Pos} {ad : Addr} {kvs : List (Key × V)} (B : BkOk X.N Vn G' i x sc scope) (hd : H ad = some (.dK kvs))
    (q : ∀ o, wE X a σ (upd H ad (.frz o (.dK kvs))) fun v H1 => v = .ref ad ∧ H1 ad = some (.frz o (.dK kvs)) ∧ ∀ D, H1 D = none → DcD X Vn G' kx vx scope i ad o kvs D σ H1 fun H2 => H2 ad = some (.frz o (.dK kvs)) ∧ Q (.ref D) (upd H2 ad (.dK kvs)))
    (I : In X N G sc := by assumption) (hc : X.calm = true := by rfl) (hs2 : ∀ z, foldedSetIterable a X.env z = pure z := by intro _; rfl) :
    wE X (.DictComp kx vx [⟨.Name x px, a, [], 0⟩] scope pos) σ H Q := by
  refine e_of (pe_lock (pe_dc (own := [(x, i)]) (g := gName i) (tt := tYes) (tk := wBk X Vn G' kx scope) (tv := wBk X Vn G' vx scope) hc I.nd (pi_keys pe) (B.ok I) (fun s H C cl fp => B.pg I s H C cl fp) (fun _ _ _ _ _ => pts_nil) (fun s H C cl fp => pe_bk (B.inB I s H C cl fp)) (fun s H C cl fp => pe_bk (B.inB I s H C cl fp)) hs2)) ?_
  refine ⟨ad, .dK kvs, hd, trivial, fun o => e_mono (q o) fun v H1 q1 => ?_⟩
  obtain ⟨rfl, h1, q2⟩ := q1
  exact ⟨ad, o, rfl, .inl ⟨kvs, h1, fun D hD => dcD_of (q2 D hD)⟩⟩
theorem s_dcD {nx : L2.St → Hp → Prop} {rt : VK} {bk ct : L2.St → Hp → Prop} {i j : Nat} {x y : Str} {px py spos : Pos} {ad : Addr} {kvs : List (Key × V)} (B : BkOk X.N Vn G' i x sc scope) (hd : H ad = some (.dK kvs))
    (q : ∀ o, wE X a σ (upd H ad (.frz o (.dK kvs))) fun v H1 => v = .ref ad ∧ H1 ad = some (.frz o (.dK kvs)) ∧ ∀ D, H1 D = none → DcD X Vn G' kx vx scope i ad o kvs D σ H1 fun H2 => H2 ad = some (.frz o (.dK kvs)) ∧ nx (σ.set j (some (.ref D))) (upd H2 ad (.dK kvs)))
    (I : In X N G sc := by assumption) (hc : X.calm = true := by rfl) (hA : At N j y := by repeat (first | with_reducible apply At.z | with_reducible apply At.s))
    (hk : X.env.scope.kind = .function := by rfl) (hy : X.env.scope.names.lookup y = some .local := by rfl) (hl : (py.line == pos.line) = true := by rfl) (ha : (scope.names.any fun (n, k) => n == y && (k == .local || k == .cell)) = false := by decide +kernel) (hs2 : ∀ z, foldedSetIterable a X.env z = pure z := by intro _; rfl) :
    wS X (.Assign [.Name y py] (.DictComp kx vx [⟨.Name x px, a, [], 0⟩] scope pos) spos) ⟨nx, rt, bk, ct⟩ σ H := by
  refine s_of (ps_lock (ps_setDc (own := [(x, i)]) (g := gName i) (tt := tYes) (tk := wBk X Vn G' kx scope) (tv := wBk X Vn G' vx scope) hc I.nd (I.hi hA) hy (sw_trueD hk hy hl ha) (pi_keys pe) (B.ok I) (fun s H C cl fp => B.pg I s H C cl fp) (fun _ _ _ _ _ => pts_nil) (fun s H C cl fp => pe_bk (B.inB I s H C cl fp)) (fun s H C cl fp => pe_bk (B.inB I s H C cl fp)) hs2)) ?_
  refine ⟨ad, .dK kvs, hd, trivial, fun o => e_mono (q o) fun v H1 q1 => ?_⟩
  obtain ⟨rfl, h1, q2⟩ := q1
  exact ⟨ad, o, rfl, .inl ⟨kvs, h1, fun D hD => dcD_of (q2 D hD)⟩⟩
theorem s_dcDf {nx : L2.St → Hp → Prop} {rt : VK} {bk ct : L2.St → Hp → Prop} {i j : Nat} {x y : Str} {px py spos : Pos} {ad : Addr} {kvs : List (Key × V)} (B : BkOk X.N Vn G' i x sc scope) (hd : H ad = some (.dK kvs))
    (q : ∀ o, wE X a σ (upd H ad (.frz o (.dK kvs))) fun v H1 => v = .ref ad ∧ H1 ad = some (.frz o (.dK kvs)) ∧ ∀ D, H1 D = none → DcDf X Vn G' kx vx c scope i ad o kvs D σ H1 fun H2 => H2 ad = some (.frz o (.dK kvs)) ∧ nx (σ.set j (some (.ref D))) (upd H2 ad (.dK kvs)))
    (I : In X N G sc := by assumption) (hc : X.calm = true := by rfl) (hA : At N j y := by repeat (first | with_reducible apply At.z | with_reducible apply At.s))
    (hk : X.env.scope.kind = .function := by rfl) (hy : X.env.scope.names.lookup y = some .local := by rfl) (hl : (py.line == pos.line) = true := by rfl) (ha : (scope.names.any fun (n, k) => n == y && (k == .local || k == .cell)) = false := by decide +kernel) (hs2 : ∀ z, foldedSetIterable a X.env z = pure z := by intro _; rfl) :
    wS X (.Assign [.Name y py] (.DictComp kx vx [⟨.Name x px, a, [c], 0⟩] scope pos) spos) ⟨nx, rt, bk, ct⟩ σ H := by
  refine s_of (ps_lock (ps_setDc (own := [(x, i)]) (g := gName i) (tt := wBkT X Vn G' c scope) (tk := wBk X Vn G' kx scope) (tv := wBk X Vn G' vx scope) hc I.nd (I.hi hA) hy (sw_trueD hk hy hl ha) (pi_keys pe) (B.ok I) (fun s H C cl fp => B.pg I s H C cl fp) (fun s H C cl fp => pts_bk (B.inB I s H C cl fp)) (fun s H C cl fp => pe_bk (B.inB I s H C cl fp)) (fun s H C cl fp => pe_bk (B.inB I s H C cl fp)) hs2)) ?_
  refine ⟨ad, .dK kvs, hd, trivial, fun o => e_mono (q o) fun v H1 q1 => ?_⟩
  obtain ⟨rfl, h1, q2⟩ := q1
  exact ⟨ad, o, rfl, .inl ⟨kvs, h1, fun D hD => dcDf_of (q2 D hD)⟩⟩
/-- w, x, y, z = a tuple -/
theorem s_tup4 {nx : L2.St → Hp → Prop} {rt : VK} {bk ct : L2.St → Hp → Prop} {i1 i2 i3 i4 : Nat} {x1 x2 x3 x4 : Str} {k : Nat} {p1 p2 p3 p4 pt : Pos} (q : wE X e σ H fun v H1 => ∃ a u1 u2 u3 u4, v = .ref a ∧ SqT X.K H1 a [u1, u2, u3, u4] ∧ nx ((((σ.set i1 (some u1)).set i2 (some u2)).set i3 (some u3)).set i4 (some u4)) H1)
    (I : In X N G sc := by assumption) (hc : X.calm = true := by rfl) (h1 : At N i1 x1 := by repeat (first | with_reducible apply At.z | with_reducible apply At.s)) (h2 : At N i2 x2 := by repeat (first | with_reducible apply At.z | with_reducible apply At.s)) (h3 : At N i3 x3 := by repeat (first | with_reducible apply At.z | with_reducible apply At.s)) (h4 : At N i4 x4 := by repeat (first | with_reducible apply At.z | with_reducible apply At.s))
    (hs : swapsWithSole [.Tuple [.Name x1 p1, .Name x2 p2, .Name x3 p3, .Name x4 p4] k pt] e pos.line X.env = pure false := by rfl) (hw : swappedStores [.Tuple [.Name x1 p1, .Name x2 p2, .Name x3 p3, .Name x4 p4] k pt] e X.env = pure none := by rfl) (hp : (assignEach [.Tuple [.Name x1 p1, .Name x2 p2, .Name x3 p3, .Name x4 p4] k pt] X.env).map (·.2) = [assign (.Tuple [.Name x1 p1, .Name x2 p2, .Name x3 p3, .Name x4 p4] k pt) X.env] := by rfl) :
    wS X (.Assign [.Tuple [.Name x1 p1, .Name x2 p2, .Name x3 p3, .Name x4 p4] k pt] e pos) ⟨nx, rt, bk, ct⟩ σ H := by
  refine s_of (ps_asg pe (pg_tup hc (pgs_cons (pg_name I.nd (I.hi h1) (I.loc h1) I.f) (pgs_cons (pg_name I.nd (I.hi h2) (I.loc h2) I.f) (pgs_cons (pg_name I.nd (I.hi h3) (I.loc h3) I.f) (pgs_cons (pg_name I.nd (I.hi h4) (I.loc h4) I.f) pgs_nil))))) hs hw hp) (e_mono q fun v H1 q1 => ?_)
  obtain ⟨ad, u1, u2, u3, u4, ev, hq, q2⟩ := q1
  exact ⟨ad, [u1, u2, u3, u4], ev, hq, rfl, u1, [u2, u3, u4], rfl, u2, [u3, u4], rfl, u3, [u4], rfl, u4, [], rfl, rfl, q2⟩
theorem op_inDt (hu : X.A.units + 1 < cLine) : OpR X (compareOp .In) (fun x y H Q => ∃ a o, y = .ref a ∧ DGet H a x o ∧ Q (.bl o.isSome) H) := by
  intro pins s σ H x y v u Q I rx ry h
  obtain ⟨ad, ov, rfl, g, q⟩ := h
  cases ry
  exact d_in hu I g rx fun s3 I3 => ⟨.bl ov.isSome, H, I3, rfl, q⟩
theorem op_ninDt (hu : X.A.units + 1 < cLine) : OpR X (compareOp .NotIn) (fun x y H Q => ∃ a o, y = .ref a ∧ DGet H a x o ∧ Q (.bl (!o.isSome)) H) := by
  intro pins s σ H x y v u Q I rx ry h
  obtain ⟨ad, ov, rfl, g, q⟩ := h
  cases ry
  exact d_notIn hu I g rx fun s3 I3 => ⟨.bl (!ov.isSome), H, I3, rfl, q⟩
theorem o_inD {n : Nat} {x : V} {d : Addr} {ov : Option V} (hr : Room n X.A) (g : DGet H d x ov) (q : Q (.bl ov.isSome) H) : wK X .In x (.ref d) H Q := k_of (op_inDt (hu_of hr)) ⟨d, ov, rfl, g, q⟩
theorem o_ninD {n : Nat} {x : V} {d : Addr} {ov : Option V} (hr : Room n X.A) (g : DGet H d x ov) (q : Q (.bl (!ov.isSome)) H) : wK X .NotIn x (.ref d) H Q := k_of (op_ninDt (hu_of hr)) ⟨d, ov, rfl, g, q⟩
theorem dg_K {ad : Addr} {kvs : List (Key × V)} {k : Key} (h : H ad = some (.dK kvs)) : DGet H ad (kV k) (valV kvs k) := .inl ⟨kvs, k, .inl h, rfl, rfl⟩
theorem dg_F {ad : Addr} {ob : Obj} {kvs : List (Key × V)} {k : Key} (h : H ad = some (.frz ob (.dK kvs))) : DGet H ad (kV k) (valV kvs k) := .inl ⟨kvs, k, .inr ⟨ob, h⟩, rfl, rfl⟩
theorem c_lenD {d : Addr} {kvs : List (Key × V)} (h : H d = some (.dK kvs)) (q : Q (.int kvs.length) H) : wC X (.builtin "len") [.ref d] H Q := c_of call_lenD ⟨d, kvs, rfl, h, q⟩
theorem c_sumL {l : Addr} {ns : List Int} (hc : X.calm = true) (h : SqL X.K H l (ns.map V.int)) (q : Q (.int ns.sum) H) : wC X (.builtin "sum") [.ref l] H Q := c_of (cr_sum hc) ⟨l, ns, rfl, h, q⟩
theorem ty_dk {K : PySem.W.Frag} {H : Hp} {d : Addr} {kvs : List (Key × V)} (h : H d = some (.dK kvs)) : TyX K H (.ref d) (.type "dict") := .base (.dK h)
theorem e_dclr (q : wE X o σ H fun x H1 => ∃ d kvs, x = .ref d ∧ H1 d = some (.dK kvs) ∧ Q .non (upd H1 d (.dK [])))
    (hbase : attributeBase o "clear" X.env (eval o X.env) = eval o X.env := by rfl) (hline : (apos.endLine == pos.line) = true := by rfl) : wE X (.Call (.Attribute o "clear" apos) [] [] pos) σ H Q := by
  refine e_of (pe_dclear pe hbase hline) (e_mono q fun x H1 z => ?_)
  obtain ⟨d, kvs, rfl, h1, h2⟩ := z
  exact ⟨.inr (.inr (.inl ⟨rfl, .inl ⟨kvs, h1⟩⟩)), d, kvs, rfl, rfl, h1, h2⟩
/-- {k: v}, k a text or a number -/
theorem e_dk1 {k v : Expr} (q : ∀ p, H p = none → wE X k σ (upd H p (.dK [])) fun x H1 => wE X v σ H1 fun y H2 => H2 p = some (.dK []) ∧ ∃ z, x = kV z ∧ Q (.ref p) (upd H2 p (.dK [(z, y)]))) : wE X (.Dict [some k] [v] pos) σ H Q := by
  refine e_of (pe_disp (pps_cons pe pe pps_nil) rfl rfl (by simp) (by simp)) fun p np => e_mono (q p np) fun x H1 q1 => e_mono q1 fun y H2 q2 => ?_
  obtain ⟨h, z, rfl, q3⟩ := q2
  exact ⟨h, [(z, y)], rfl, by simp, q3⟩
end
end Wk
namespace Wk
open PySem PySem.Spec
/-! places in a text -/
def nE : Expr := .Name "" ⟨0, 0, 0, 0⟩
def exA : Expr → Nat → Expr
  | .BoolOp _ es _, n => es.getD n nE
  | .BinOp a _ b _, n => [a, b].getD n nE
  | .UnaryOp _ a _, _ => a
  | .IfExp c a b _, n => [c, a, b].getD n nE
  | .Dict _ vs _, n => vs.getD n nE
  | .ListComp e gs _ _, n => (e :: gs.flatMap fun g => g.iter :: g.ifs).getD n nE
  | .DictComp e f gs _ _, n => (e :: f :: gs.flatMap fun g => g.iter :: g.ifs).getD n nE
  | .Compare a _ bs _, n => (a :: bs).getD n nE
  | .Call f as ks _, n => (f :: as ++ ks.map (·.value)).getD n nE
  | .Attribute a _ _, _ => a
  | .Subscript a b _, n => [a, b].getD n nE
  | .List es _, n => es.getD n nE
  | .Tuple es _ _, n => es.getD n nE
  | e, _ => e
def stE : Stmt → Expr
  | .Return (some e) _ => e
  | .Assign _ e _ => e
  | .For _ e _ _ _ => e
  | .While e _ _ _ => e
  | .If e _ _ _ => e
  | .Expr e _ => e
  | _ => nE
def nS : Stmt := .Pass ⟨0, 0, 0, 0⟩
def stB : Stmt → Nat → Nat → Stmt
  | .For _ _ a b _, j, n => ((if j = 0 then a else b).getD n nS)
  | .While _ a b _, j, n => ((if j = 0 then a else b).getD n nS)
  | .If _ a b _, j, n => ((if j = 0 then a else b).getD n nS)
  | .Try a _ b _ _, j, n => ((if j = 0 then a else b).getD n nS)
  | _, _, _ => nS
def xSc : Expr → Scope
  | .ListComp _ _ sc _ => sc
  | .DictComp _ _ _ sc _ => sc
  | _ => { kind := .function, names := [], isGenerator := false, isCoroutine := false }
end Wk
namespace Wk
open PySem PySem.Spec PyProof.Rows L2
section
variable {X : Cx} {o e : Expr} {σ : L2.St} {H : Hp} {Q : VK} {pos apos : Pos}
/-- t.index(e), t a tuple of texts of the module's top -/
theorem e_tIx (q : wE X o σ H fun x H1 => ∃ p, x = .ref p ∧ (∃ ob, X.K.lookup p = some ob ∧ ob.cls = .type "tuple" ∧ ob.dict = none) ∧ wE X e σ H1 fun y H2 => ∃ (ys : List Str) (z : Str) (j : Nat), y = .str z ∧ SqT X.K H2 p (ys.map V.str) ∧ ys[j]? = some z ∧ (∀ m, m < j → ys[m]? ≠ some z) ∧ Q (.int (j : Int)) H2)
    (hbase : attributeBase o "index" X.env (eval o X.env) = eval o X.env := by rfl)
    (hfew : ((backTo pos (starEach (e :: []) X.env)).all (fun x => !x.1) && (backToKw pos (keywordEach [] X.env)).all (fun x => x.1.isSome)
      && decide ((e :: []).length + ([] : List Keyword).length + (if ([] : List Keyword).isEmpty then 0 else 1) < 30)) = true := by rfl)
    (hline : (apos.endLine == pos.line) = true := by rfl) (hs : starEach (e :: []) X.env = (false, eval e X.env) :: starEach [] X.env := by rfl) (hplain : (backTo pos (starEach [] X.env)).any (·.1) = false := by rfl) :
    wE X (.Call (.Attribute o "index" apos) [e] [] pos) σ H Q := by
  refine e_of (pe_bm PySem.F.plainAttrs_tuple PySem.F.slot_tuple_index PySem.F.type_tuple_index mt_tup_index pe (pa_cons pe pa_nil hs) hbase hfew hline hs hplain) (e_mono q fun x H1 z => ?_)
  obtain ⟨p, rfl, ho, z⟩ := z
  refine ⟨.inr (.inl ⟨rfl, ho⟩), e_mono z fun y H2 z2 => ?_⟩
  obtain ⟨ys, z, j, rfl, h1, h2, h3, h4⟩ := z2
  exact ⟨p, ys, z, j, rfl, rfl, h1, h2, h3, h4⟩
end
end Wk

set_option maxHeartbeats 4000000
/-! My own layer: enumerate, ranges that are held, list(range(..)), all of a list, dicts of lists compared, classes whose making may raise. -/
namespace Wk
open PySem PySem.Spec PyProof.Rows L2
section
variable {X : Cx} {e a b : Expr} {σ : L2.St} {H : Hp} {Q : VK} {N G G' : List Str} {sc scope : Scope} {Vn : List (Nat × Str)} {elt : Expr} {pos : Pos}
/-- for x, y in enumerate(a) -/
theorem s_forE {nx : L2.St → Hp → Prop} {rt : VK} {bk ct : L2.St → Hp → Prop} {g : Nat} {x y : Str} {i j : Nat} {body : List Stmt} {px py pt p cp pos : Pos} {kk : Nat} (hm : X.mg "enumerate" = none)
    (q : wE X a σ H fun v H1 => ∃ va xs, v = .ref va ∧ SqL X.K H1 va xs ∧ ∃ Pv : Nat → L2.St → Hp → Prop, Pv 0 σ H1 ∧ (∀ k σ H, k ≤ xs.length → Pv k σ H → SqL X.K H va xs) ∧
      (∀ k u T σ H, xs[k]? = some u → Pv k σ H → H T = none → wL X body ⟨Pv (k + 1), rt, nx, Pv (k + 1)⟩ ((σ.set i (some (.int (k : Nat)))).set j (some u)) (upd H T (.tup [.int (k : Nat), u]))) ∧ ∀ σ H, Pv xs.length σ H → nx σ H)
    (I : In X N G sc := by assumption) (hc : X.calm = true := by rfl) (hA : At N i x := by repeat (first | with_reducible apply At.z | with_reducible apply At.s)) (hB : At N j y := by repeat (first | with_reducible apply At.z | with_reducible apply At.s))
    (hG : At G g ("enumerate" : Str) := by repeat (first | with_reducible apply At.z | with_reducible apply At.s)) (hs : starEach [a] X.env = [(false, eval a X.env)] := by rfl)
    (hs1 : starEach (a :: []) X.env = (false, eval a X.env) :: starEach [] X.env := by rfl) (hs2 : ∀ z, foldedSetIterable (.Call (.Name "enumerate" p) [a] [] cp) X.env z = pure z := by intro _; rfl) :
    wS X (.For (.Tuple [.Name x px, .Name y py] kk pt) (.Call (.Name "enumerate" p) [a] [] cp) body [] pos) ⟨nx, rt, bk, ct⟩ σ H := by
  refine s_of (ps_for I.never hc (pi_enum (I.g hG) hm (pa_cons pe pa_nil hs1) hs) (pg_tup hc (pgs_cons (pg_name I.nd (I.hi hA) (I.loc hA) I.f) (pgs_cons (pg_name I.nd (I.hi hB) (I.loc hB) I.f) pgs_nil))) pl hs2) (e_mono q fun v H1 q1 => ?_)
  obtain ⟨va, xs, rfl, sx, Pv, h0, hk, hb, hd⟩ := q1
  refine ⟨va, xs, rfl, sx, fun k m σ H => m = xs.length - k ∧ k ≤ xs.length ∧ Pv k σ H, ⟨_, rfl, Nat.zero_le _, h0⟩, ?_⟩
  rintro k m σ H ⟨rfl, hle, pv⟩
  have tx := hk k σ H hle pv
  by_cases lt : k < xs.length
  · refine .inr ⟨⟨xs, xs[k], tx, List.getElem?_eq_getElem lt⟩, Pv (k + 1), fun σ' H' p' => ⟨_, by omega, rfl, lt, p'⟩, fun w H' yl => ?_⟩
    obtain ⟨T, u1, rfl, nT, rfl, y1⟩ := yl
    exact ⟨T, [.int (k : Nat), u1], rfl, SqT.of upd_same, rfl, .int (k : Nat), [u1], rfl, u1, [], rfl, rfl, hb k u1 T σ H (y1 xs tx) pv nT⟩
  · have ek : k = xs.length := by omega
    subst ek
    refine .inl ⟨⟨xs, tx, by omega⟩, hd σ H pv⟩
theorem cr_range1 : CallR X (.type "range") (fun vs H Q => ∃ j, vs = [V.int j] ∧ ∀ p, H p = none → Q (.ref p) (upd H p (.rng 0 j))) := by
  intro pins s σ H vs us Q I r h
  obtain ⟨j, rfl, q⟩ := h
  cases r with
  | cons r1 rr =>
    cases rr
    obtain ⟨t, rfl⟩ := r1
    exact call_range_1 ⟨.ref s.heap.objs.size, upd H s.heap.objs.size (.rng 0 j), I.laid (t' := s.toks + 1 + 1) (fun b o e => Heap.get?_push_of_some _ e) (Nat.le_refl _) ⟨_, _, _, Heap.get?_push_size _ rfl⟩, rfl, q _ (I.hok.fresh (Nat.le_refl _))⟩
theorem c_rng1 {j : Int} (q : ∀ p, H p = none → Q (.ref p) (upd H p (.rng 0 j))) : wC X (.type "range") [.int j] H Q := c_of cr_range1 ⟨j, rfl, q⟩
def iRngV (tl : TE) : TI := fun σ H R => tl σ H fun x H1 => ∃ ad lo hi, x = .ref ad ∧ H1 ad = some (.rng lo hi) ∧ (-(2 ^ 62) ≤ lo ∧ lo < 2 ^ 62 ∧ -(2 ^ 62) ≤ hi ∧ hi < 2 ^ 62) ∧ R (Itr lo (hi - lo).toNat) H1
/-- a range object that stands -/
theorem pi_rngV {tg l : Expr} {tl : TE} (hl : PE X l tl) : PI X tg l (iRngV tl) := by
  refine ⟨fun pins s σ H R I h => thn (hl.run pins s σ H _ I h) fun v s1 ⟨x, H1, I1, r1, ad, lo, hi, ex, had, ⟨b1, b2, b3, b4⟩, q⟩ => ?_⟩
  subst ex
  cases r1
  obtain ⟨t, u, w, ho⟩ := I1.hok ad _ had
  refine wpAny_pyIter_range (show IsRange s1.heap ad lo hi 1 t u w from ho) (small_one b1 b2 b3 b4) ?_
  refine ⟨s1.heap.objs.size, [s1.heap.objs.size], _, _, H1, rfl, I1.kept (t' := s1.toks) fun b o e => Heap.get?_push_of_some _ e, turn_range _ lo (hi - lo).toNat, ?_, fun b hb => ?_, q⟩
  · have z1 : lo + ((0 : Nat) : Int) * 1 = lo := by simp
    have z2 : (((hi - lo).toNat : Nat) : Int) - ((0 : Nat) : Int) = Builtin.Range.rangeSize lo hi 1 := by rw [rangeSize_one]; split <;> omega
    show IsRangeIter _ _ (lo + ((0 : Nat) : Int) * 1) ((((hi - lo).toNat : Nat) : Int) - ((0 : Nat) : Int)) 1
    rw [z1, z2]
    exact Heap.get?_push_size _ rfl
  · obtain rfl : b = s1.heap.objs.size := by simpa using hb
    exact I1.fpOk (Nat.le_refl _) (I1.hok.fresh (Nat.le_refl _))
/-- [elt for x in a], a holds range(n) -/
theorem e_lcRv {i : Nat} {x : Str} {px : Pos} (B : BkOk X.N Vn G' i x sc scope)
    (q : wE X a σ H fun v H1 => ∃ (ad : Addr) (n : Nat), v = .ref ad ∧ H1 ad = some (.rng 0 n) ∧ n < 2 ^ 62 ∧ ∀ D, H1 D = none → LcR X Vn G' elt scope i n D σ H1 fun H2 => Q (.ref D) H2)
    (I : In X N G sc := by assumption) (hc : X.calm = true := by rfl) (hs2 : ∀ z, foldedSetIterable a X.env z = pure z := by intro _; rfl) :
    wE X (.ListComp elt [⟨.Name x px, a, [], 0⟩] scope pos) σ H Q := by
  refine e_of (pe_lc (own := [(x, i)]) (g := gName i) (tt := tYes) (te := wBk X Vn G' elt scope) hc I.nd (pi_rngV pe) (B.ok I) (fun s H C cl fp => B.pg I s H C cl fp) (fun _ _ _ _ _ => pts_nil) (fun s H C cl fp => pe_bk (B.inB I s H C cl fp)) hs2) (e_mono q fun v H1 q1 => ?_)
  obtain ⟨ad, n, rfl, had, hn, q2⟩ := q1
  refine ⟨ad, 0, n, rfl, had, ⟨by omega, by omega, by omega, by omega⟩, ?_⟩
  rw [Int.sub_zero, Int.toNat_natCast]
  exact fun D hD => lcR_of (q2 D hD)
theorem c_allL {l : Addr} {bs : List Bool} (hc : X.calm = true) (h : SqL X.K H l (bs.map V.bl)) (q : Q (.bl (bs.all id)) H) : wC X (.builtin "all") [.ref l] H Q := c_of (cr_all hc) ⟨l, bs, rfl, h, q⟩
theorem b_all : bootBuiltins "all" = some (.builtin "all") := by decide +kernel
theorem b_range : bootBuiltins "range" = some (.type "range") := by decide +kernel
/-- list(range(a)) -/
theorem e_listRg {g g2 : Nat} {p p2 cp cp2 : Pos} (hm : X.mg "list" = none) (hm2 : X.mg "range" = none) (q : wE X a σ H fun v H1 => ∃ n : Nat, v = .int n ∧ n ≤ 100000 ∧ ∀ l, H1 l = none → Q (.ref l) (upd H1 l (.lst ((List.range n).map fun (k : Nat) => V.int (k : Int)))))
    (I : In X N G sc := by assumption) (hc : X.calm = true := by rfl) (hG : At G g ("list" : Str) := by repeat (first | with_reducible apply At.z | with_reducible apply At.s)) (hG2 : At G g2 ("range" : Str) := by repeat (first | with_reducible apply At.z | with_reducible apply At.s))
    (hs : starEach [a] X.env = (false, eval a X.env) :: starEach [] X.env := by rfl) (na : starEach [.Call (.Name "range" p2) [a] [] cp2] X.env = (false, eval (.Call (.Name "range" p2) [a] [] cp2) X.env) :: starEach [] X.env := by rfl) :
    wE X (.Call (.Name "list" p) [.Call (.Name "range" p2) [a] [] cp2] [] cp) σ H Q := by
  refine e_of (pe_listRg hc (I.g hG) hm (prg_1 (I.g hG2) hm2 pe hs) na) (e_mono q fun v H1 q1 => ?_)
  obtain ⟨n, rfl, hn, q2⟩ := q1
  refine ⟨n, rfl, ⟨by omega, by omega, by omega, by omega, by omega⟩, fun l nl => ?_⟩
  have := q2 l nl
  have e : rgV 0 (n : Int) = (List.range n).map fun (k : Nat) => V.int (k : Int) := by
    unfold rgV
    simp
  rw [e]
  exact this
end
/-! ### dicts of lists of numbers -/
abbrev iV (l : List Int) : List V := l.map V.int
theorem dp_ints {K : PySem.W.Frag} {H : Hp} : ∀ l : List Int, DpAll K H (iV l) (l.map PyData.int)
  | [] => .nil
  | i :: l => .cons (.int i) (dp_ints l)
theorem plain_ints : ∀ l : List Int, PyData.plainAll (l.map PyData.int) = true
  | [] => rfl
  | _ :: l => by show (true && PyData.plainAll _) = true; rw [plain_ints l]; rfl
theorem depth_ints : ∀ l : List Int, PyData.depthAll (l.map PyData.int) = 0
  | [] => rfl
  | _ :: l => by show max 0 (PyData.depthAll _) = 0; rw [depth_ints l]; rfl
/-- the same numbers, under each name -/
def rNeDL (K : PySem.W.Frag) : R2 := fun x y H Q => ∃ a b ks ls, x = .ref a ∧ y = .ref b ∧ H a = some (.dK ks) ∧ H b = some (.dK ls) ∧ ks.length = ls.length ∧ (∀ p ∈ ks, ∃ c d l, p.2 = .ref c ∧ valV ls p.1 = some (.ref d) ∧ SqL K H c (iV l) ∧ SqL K H d (iV l)) ∧ Q (.bl false) H
theorem op_neDL {X : Cx} (hu : X.A.units + 64 < cLine) : OpR X (compareOp .NotEq) (rNeDL X.K) := by
  intro pins s σ H x y v u Q I rx ry h
  obtain ⟨a, b, ks, ls, rfl, rfl, ea, eb, hlen, hp, q⟩ := h
  cases rx
  cases ry
  obtain ⟨_, ya, va, ra, da⟩ := (show ObjOk X.prog X.w H s.heap a (.dK ks) from I.hok a _ ea)
  obtain ⟨_, yb, vb, rb, db⟩ := (show ObjOk X.prog X.w H s.heap b (.dK ls) from I.hok b _ eb)
  have hits : ∀ {ks : List (Key × V)} {va : List (Key × Value)}, KV ks va → (∀ p ∈ ks, ∃ c d l, p.2 = .ref c ∧ valV ls p.1 = some (.ref d) ∧ SqL X.K H c (iV l) ∧ SqL X.K H d (iV l)) → PySem.W.KeqHits X.A.in1 s vb va true := by
    intro ks va ra
    unfold KV at ra
    induction ra with
    | nil => intro _; exact .nil
    | @cons p q ps qs h1 t ih =>
      intro hp
      obtain ⟨hk, hv⟩ := h1
      obtain ⟨c, d, l, e1, e2, s1, s2⟩ := hp p List.mem_cons_self
      have rr : RelO (some (V.ref d)) (valueAt vb p.1) := by rw [← e2]; exact rb.val p.1
      obtain ⟨y, hy, ry⟩ := rr.some_of
      obtain ⟨k, v⟩ := q
      have hk' : p.1 = k := hk
      rw [hk'] at hy
      rw [e1] at hv
      have hv' : RelV (.ref c) v := hv
      obtain ⟨as, r1⟩ := Dp.reads I (.list (l.map .int)) _ _ (.lst s1 (dp_ints l)) hv'
      obtain ⟨bs, r2⟩ := Dp.reads I (.list (l.map .int)) _ _ (.lst s2 (dp_ints l)) ry
      have hpl : (PyData.list (l.map .int)).plain = true := plain_ints l
      have hq := PySem.SeqAt.eqAt_plain _ _ X.A.in1 s _ _ as bs r1 r2 hpl hpl (by
        have : (PyData.list (l.map .int)).depth = 1 := by show PyData.depthAll _ + 1 = 1; rw [depth_ints]
        rw [this]
        have : X.A.in1.units ≤ X.A.units + 2 := by simp [Around.in1, Around.units] <;> omega
        omega)
      rw [PySem.SeqAt.eqv_refl_plain _ hpl] at hq
      show PySem.W.KeqHits _ s vb ((k, v) :: qs) (true && true)
      exact .hit hy hq (ih fun p' hm => hp p' (List.mem_cons_of_mem _ hm))
  have hl : va.length = vb.length := by rw [← ra.length, ← rb.length]; exact hlen
  exact PySem.W.keq_ne (knd := mixKind X.prog X.w) (r := true) ya yb da db (by omega) (fun _ => hits ra hp) (fin_bl I q (by simp [hl]))
/-! ### a class whose making may raise -/
section
variable {P : Program} {w : World} {K : PySem.W.Frag} {mg : Str → Option Value} {base : Heap}
theorem me_okN {x qual : Str} {C : Addr} {st : Stmt} {N D G ps : List Str} {k : Nat} {sp : Sp} (T : TopM K C x qual st) (S : FnScope (N ++ D) ps (defScope st)) (O : ScOk N G (defScope st)) (len : ∀ vs H Q E, sp vs H Q E → vs.length = ps.length)
    (hb : ∀ (kV doc pm : Value) (an : Option Addr) (cdv ct : Value) (us : List Value), us.length = ps.length → bindArgs (PySem.W.fnOf x qual (defArgs st) (defBody st) (defScope st) .none kV doc pm an cdv ct) ⟨us, []⟩ = pure (ps.zip us))
    (hbody : ∀ (f : Addr) (cdv : Value) (A : Around) (outer : List Env) (s : Shared) (H : Hp) (vs : List V) (Q : VK) (E : XK), Room k (A.deeper (envOfC qual (defScope st) s.heap.objs.size f cdv)) → sp vs H Q E → In (cxOf (L2N.CX P w) P w K mg base (N ++ D) qual (defScope st) f cdv A outer s H E) N G (defScope st) →
      L2N.Takes (cxOf (L2N.CX P w) P w K mg base (N ++ D) qual (defScope st) f cdv A outer s H E) (fun cls d _ H => E cls d H) →
      wL (cxOf (L2N.CX P w) P w K mg base (N ++ D) qual (defScope st) f cdv A outer s H E) (defBody st) { nx := fun _ H' => Q .non H', rt := Q } (start (N ++ D) vs) H) :
    ∃ (f : Addr) (fd : FuncData), FnOk P w K mg base (L2N.CX P w) (k + 1) f fd ps sp ∧ Binds K fd ps [] ∧ PySem.W.findIn K (.ref C) x = some (some (.ref f)) ∧ PySem.W.isFn K (.ref f) = true ∧ PySem.W.keepIn K (.ref f) = true := by
  obtain ⟨f, fd, F, hf, hi⟩ := T.ex
  obtain ⟨oc, od, kV, doc, pm, an, cdv, ct, osl, rfl, lk, hcd⟩ := id F.ex
  exact ⟨f, _, fn_of lk hcd S len (fun A outer s H vs Q E hr h => ⟨_, pl, hbody f cdv A outer s H vs Q E hr h ⟨O, ⟨D, rfl⟩, S.nd, rfl, rfl, passes_of rfl⟩ (L2N.takes_of rfl rfl rfl rfl)⟩), F.binds hb, hf, hi, F.kp⟩
structure KlN (P : Program) (w : World) (K : PySem.W.Frag) (mg : Str → Option Value) (base : Heap) (k : Nat) (x : Str) (C : Addr) (sp : Sp) : Prop where
  ex : ∃ (f : Addr) (fd : FuncData) (ps : List Str), FnOk P w K mg base (L2N.CX P w) k f fd ps sp ∧ mg x = some (.ref C) ∧ Mk K C f ∧ Binds K fd ps []
theorem cx_weak {outer : List Env} {H : Hp} {s s' : Shared} {E E' : XK} {u : Value} (h : L2N.CX P w outer H s E u s') (m : ∀ cls d H, E cls d H → E' cls d H) : L2N.CX P w outer H s E' u s' := by
  obtain ⟨a, B, H', cls, d, h1, h2, h3, h4, h5, h6, h7, h8⟩ := h
  exact ⟨a, B, H', cls, d, h1, h2, h3, h4, h5, h6, h7, m _ _ _ h8⟩
end
section
variable {X : Cx} {e : Expr} {es : List Expr} {pos p0 : Pos} {σ : L2.St} {H : Hp} {Q : VK} {N G : List Str} {sc : Scope}
theorem e_makeN {g k n : Nat} {x : Str} {C : Addr} {sp : Sp} {W : WX} (F : KlN X.prog X.w X.K X.mg X.base k x C sp) (tk : L2N.Takes X W) (hr : Room n X.A) (hk : k + 1 ≤ n)
    (q : wA X (e :: es) σ H fun vs H1 => ∀ x dx, H1 x = none → H1 dx = none → dx ≠ x → sp (.ref x :: vs) (upd (upd H1 dx (.own x)) x (.ins C dx [])) (fun v H2 => v = .non ∧ Q (.ref x) H2) (fun cls d H' => ∀ σ' : L2.St, σ'.length = X.N.length → W cls d σ' H'))
    (I : In X N G sc := by assumption) (hG : At G g x := by repeat (first | with_reducible apply At.z | with_reducible apply At.s)) (he : starEach (e :: es) X.env = (false, eval e X.env) :: starEach es X.env := by rfl) (hpl : (backTo pos (starEach es X.env)).any (·.1) = false := by rfl) : wE X (.Call (.Name x p0) (e :: es) [] pos) σ H Q := by
  obtain ⟨f, fd, ps, F0, hm, M, hb⟩ := F.ex
  have hx : Passes (L2N.CX X.prog X.w) X (fun cls d H' => ∀ σ' : L2.St, σ'.length = X.N.length → W cls d σ' H') := fun pins σ' H s e s' I0 c => L2N.passAt tk σ' pins H s e s' I0 (cx_weak c fun cls d H z => z σ' I0.len)
  refine e_of (pe_make M F0 (hr.mono hk) (I.g hG) hm hb .nil hx pa (I.gd hG) he hpl) ?_
  show wA X (e :: es) σ H fun vs H1 => ∀ x dx, H1 x = none → H1 dx = none → dx ≠ x → sp (.ref x :: (vs ++ [])) (upd (upd H1 dx (.own x)) x (.ins C dx [])) (fun v H2 => v = .non ∧ Q (.ref x) H2) _
  simp only [List.append_nil]
  exact q
end
/-! ### len of an instance whose class has its own __len__ -/
structure LnO (P : Program) (w : World) (K : PySem.W.Frag) (mg : Str → Option Value) (base : Heap) (k : Nat) (C : Addr) (sp : Sp) : Prop where
  ex : ∃ (f : Addr) (fd : FuncData) (pn : List Str), FnOk P w K mg base CX0 k f fd pn sp ∧ PySem.W.findIn K (.ref C) "__len__" = some (some (.ref f)) ∧ PySem.W.isFn K (.ref f) = true ∧ Binds K fd pn []
theorem c_lenO {X : Cx} {H : Hp} {Q : VK} {k n : Nat} {C a dx : Addr} {fs : List (Str × V)} {sp : Sp} (F : LnO X.prog X.w X.K X.mg X.base k C sp) (hr : Room (n + 1) X.A) (hk : k ≤ n) (ha : H a = some (.ins C dx fs))
    (q : sp [.ref a] H (fun v H' => ∃ m : Nat, v = .int (m : Int) ∧ m < 2 ^ 62 ∧ Q (.int (m : Int)) H') E0) : wC X (.builtin "len") [.ref a] H Q := by
  obtain ⟨f, fd, pn, F0, hs, hf, hb⟩ := F.ex
  refine c_of (r := fun xs H Q => xs = [.ref a] ∧ H a = some (.ins C dx fs) ∧ sp [.ref a] H (fun v H' => ∃ m : Nat, v = .int (m : Int) ∧ m < 2 ^ 62 ∧ Q (.int (m : Int)) H') E0) ?_ ⟨rfl, ha, q⟩
  intro pins s σ H xs us Q I r h
  obtain ⟨rfl, ha, q⟩ := h
  cases r with
  | cons r1 rr =>
    cases rr
    cases r1
    obtain ⟨mA, J, _⟩ := ins_get I.hok ha
    obtain ⟨od, J, _⟩ := J.look
    obtain ⟨m, hF⟩ := I.fr
    refine PySem.W.len_K hF I.ok.mod.kin J hs hf ?_
    have hl : ([Value.ref a] : List Value).length = pn.length := F0.len _ _ _ _ q
    refine wpAny_call (codeAny_mono (F0.run X.A.in1 X.stack s H ⟨[.ref a], []⟩ [.ref a] [.ref a] _ E0 (hr.in1.mono hk) I.env0.in1 (hb s [.ref a] I.kIn hl) (.cons rfl .nil) q) fun r s' hq => ?_)
    cases r with
    | error e => exact pass0 pins σ H s e s' I hq
    | ok fl =>
      cases fl with
      | ret u =>
        obtain ⟨v, H', I', rv, m, rfl, hm, q2⟩ := I.after hq
        obtain ⟨t, rfl⟩ := rv
        exact ⟨⟨by omega, by omega⟩, .int (m : Int), H', I'.tok _, ⟨_, rfl⟩, q2⟩
      | next => exact False.elim hq
      | brk => exact False.elim hq
      | cont => exact False.elim hq
section
variable {X : Cx} {σ : L2.St} {H : Hp}
/-- for x in range(a, b), a below b + 1 -/
theorem s_forR12 {nx : L2.St → Hp → Prop} {rt : VK} {bk ct : L2.St → Hp → Prop} {g : Nat} {N G : List Str} {sc : Scope} {x : Str} {i : Nat} {a b : Expr} {body : List Stmt} {px p cp pos : Pos} (hm : X.mg "range" = none)
    (q : wE X a σ H fun v H1 => wE X b σ H1 fun u H2 => ∃ lo n : Nat, v = .int (lo : Int) ∧ u = .int ((lo + n : Nat) : Int) ∧ lo + n < 2 ^ 62 ∧ ∃ Pv : Nat → L2.St → Hp → Prop, Pv 0 σ H2 ∧ (∀ k σ H, k < n → Pv k σ H → wL X body ⟨Pv (k + 1), rt, nx, Pv (k + 1)⟩ (σ.set i (some (.int ((lo + k : Nat) : Int)))) H) ∧ ∀ σ H, Pv n σ H → nx σ H)
    (I : In X N G sc := by assumption) (hc : X.calm = true := by rfl) (hA : At N i x := by repeat (first | with_reducible apply At.z | with_reducible apply At.s))
    (hG : At G g ("range" : Str) := by repeat (first | with_reducible apply At.z | with_reducible apply At.s)) (hs : starEach [a, b] X.env = [(false, eval a X.env), (false, eval b X.env)] := by rfl) (hsb : starEach [b] X.env = [(false, eval b X.env)] := by rfl)
    (hs2 : ∀ z, foldedSetIterable (.Call (.Name "range" p) [a, b] [] cp) X.env z = pure z := by intro _; rfl)
    (h1 : starEach (a :: [b]) X.env = (false, eval a X.env) :: starEach [b] X.env := by rfl) (h2 : starEach (b :: []) X.env = (false, eval b X.env) :: starEach [] X.env := by rfl) :
    wS X (.For (.Name x px) (.Call (.Name "range" p) [a, b] [] cp) body [] pos) ⟨nx, rt, bk, ct⟩ σ H := by
  refine s_of (ps_for I.never hc (pi_range2 (I.g hG) hm (pa_cons pe (pa_cons pe pa_nil h2) h1) hs hsb) (pg_name I.nd (I.hi hA) (I.loc hA) I.f) pl hs2) (e_mono q fun v H1 q1 => e_mono q1 fun u H2 q2 => ?_)
  obtain ⟨lo, n, rfl, rfl, hn, Pv, h0, hb, hd⟩ := q2
  refine ⟨(lo : Int), ((lo + n : Nat) : Int), rfl, ⟨by omega, by omega, by omega, by omega⟩, ?_⟩
  rw [show (((lo + n : Nat) : Int) - (lo : Int)).toNat = n by omega]
  refine for_range (n := n) Pv h0 (fun k σ H hk p => ?_) hd
  have := hb k σ H hk p
  rwa [show ((lo + k : Nat) : Int) = (lo : Int) + (k : Int) by omega] at this
theorem o_bor {X : Cx} {H : Hp} {Q : VK} {i j : Int} (q : Q (.int (Builtin.bitOr i j)) H) : wB X .BitOr (.int i) (.int j) H Q := b_of op_or ⟨i, j, rfl, rfl, q⟩
theorem bor_nn : ∀ a < 32, ∀ b < 32, 0 ≤ Builtin.bitOr ((a : Nat) : Int) ((b : Nat) : Int) := by decide +kernel
end
end Wk

/-! str of plain lists and tuples: it asks what is under way below (A.guards), so a def that shows them is promised where nothing is: FnG. -/
namespace Wk
open PySem PySem.Spec PyProof.Rows L2
section
variable {X : Cx} {H : Hp} {Q : VK}
/-- str of a list or a tuple of plain data, where nothing is being shown below -/
theorem call_strD (hg : X.A.guards = some []) (hu : X.A.units + 80 < cLine) :
    CallR X (.type "str") (fun xs H Q => ∃ a d, xs = [.ref a] ∧ Dp X.K H (.ref a) d ∧ d.showable = true ∧ d.hasDict = false ∧ d.depth ≤ 70 ∧ d.shown.length ≤ sizeLine ∧ Q (.str d.shown) H) := by
  intro pins s σ H xs us Q I r h
  obtain ⟨a, d, rfl, hd, h1, h2, h3, h4, q⟩ := h
  obtain ⟨u, rfl, rr⟩ := vals1 r
  obtain ⟨as, rd⟩ := Dp.reads I d _ _ hd rr
  cases rr
  exact PySem.str_of_reads rd h1 (fun z => by rw [h2] at z; cases z) hg (by omega) (fun _ _ e => e) (fun h' u tk hk => ⟨.str d.shown, H, I.turnedL (ch := []) (fun b o _ e => hk b o e) (fun b hb => by cases hb), ⟨_, rfl⟩, q⟩) h4
end
end Wk
namespace Wk
open PySem PySem.Spec PyProof.Rows L2
section
variable {P : Program} {w : World} {K : PySem.W.Frag} {mg : Str → Option Value} {base : Heap}
/-- a def that is promised where nothing is being shown below -/
structure FnG (P : Program) (w : World) (K : PySem.W.Frag) (mg : Str → Option Value) (base : Heap) (k : Nat) (f : Addr) (fd : FuncData) (ps : List Str) (sp : Sp) : Prop where
  len : ∀ vs H Q E, sp vs H Q E → vs.length = ps.length
  run : ∀ (A : Around) (outer : List Env) (s : Shared) (H : Hp) (args : Args) (us : List Value) (vs : List V) (Q : VK) (E : XK), A.guards = some [] → Room k A → Env0 P w K mg base A outer s H → BindsTo s fd args (ps.zip us) → Vals vs us → sp vs H Q E →
    codeAny (model P w) A (.call (.ref f) args) (CR CX0 outer P w H s Q E) s
theorem FnG.mono {j k : Nat} {f : Addr} {fd : FuncData} {ps : List Str} {sp : Sp} (F : FnG P w K mg base j f fd ps sp) (h : j ≤ k) : FnG P w K mg base k f fd ps sp :=
  ⟨F.len, fun A outer s H args us vs Q E hg hr => F.run A outer s H args us vs Q E hg (hr.mono h)⟩
/-- by its body, which knows that nothing is being shown below it -/
theorem fun_okG {x qual : Str} {st : Stmt} {f : Addr} {fd : FuncData} {N ps : List Str} {k : Nat} {sp : Sp} (F : Fun K x qual st f fd) (S : FnScope N ps (defScope st)) (len : ∀ vs H Q E, sp vs H Q E → vs.length = ps.length)
    (hbody : ∀ (cdv : Value) (A : Around) (outer : List Env) (s : Shared) (H : Hp) (vs : List V) (Q : VK) (E : XK), A.guards = some [] → Room k (A.deeper (envOfC qual (defScope st) s.heap.objs.size f cdv)) → sp vs H Q E →
      ∃ t, PSs (cxOf CX0 P w K mg base N qual (defScope st) f cdv A outer s H E).nox (defBody st) t ∧ t { nx := fun _ H' => Q .non H', rt := Q } (start N vs) H) : FnG P w K mg base (k + 1) f fd ps sp := by
  obtain ⟨oc, od, kV, doc, pm, an, cdv, ct, osl, rfl, lk, hcd⟩ := F.ex
  refine ⟨len, fun A outer s H args us vs Q E hg hr e0 hb r hsp => ?_⟩
  obtain ⟨t, ht, hq⟩ := hbody cdv A outer s H vs Q E hg (hr.deeper _) hsp
  have own : K.In s.heap := e0.mod.kin.keeps fun b o e => (e0.bs b o e).1
  have kinds : ∀ y ∈ ps.zip us, (defScope st).names.lookup y.1 = some .local ∨ ((defScope st).names.lookup y.1 = some .cell ∧ ((cellsFrom (s.heap.objs.size + 1) (defScope st).names []).lookup y.1).isSome = true) := by
    intro y hy
    obtain ⟨n, v⟩ := y
    cases S.par n (List.of_mem_zip hy).1 with
    | inl q => exact .inl q
    | inr q => exact .inr ⟨q, PySem.W.cellsFrom_some _ _ _ (.inl q)⟩
  refine codeAny_call_function hr.depth (own _ _ lk) rfl S.co S.gen rfl (PySem.W.codeRec_of own hcd) (hb _ _ _ _ (wpAny_newFunctionEnv_cells S.kind kinds fun env he s1 x => ?_))
  cases he
  refine ⟨(e0.mod.nolimit.keeps fun b o e => (e0.bs b o e).1).keeps x.toInCall.keep, codeAny_func (wpAny_mono (ht.nox.run [] s1 (start N vs) H _ (inv_start S hr.hd e0 (len _ _ _ _ hsp) r x) hq) (fun fl s' hs => ?_) fun e s' hs => hs)⟩
  cases fl with
  | next => exact let ⟨_, H', J, q⟩ := hs; ⟨.non, H', J.os, J.bare, J.base, J.hok, rfl, q⟩
  | ret u => exact let ⟨v, _, H', J, rv, q⟩ := hs; ⟨v, H', J.os, J.bare, J.base, J.hok, rv, q⟩
  | brk => exact (let ⟨_, _, _, q⟩ := hs; q : False).elim
  | cont => exact (let ⟨_, _, _, q⟩ := hs; q : False).elim
end
end Wk
namespace Wk
open PySem PySem.Spec PyProof.Rows L2
section
variable {X : Cx}
theorem run_fnG {k : Nat} {f : Addr} {fd : FuncData} {ps : List Str} {sp : Sp} {pins : List (Addr × Obj)} {σ : L2.St} {H : Hp} {s : Shared} {Q : VK} {us : List Value} {vs : List V} (F : FnG X.prog X.w X.K X.mg X.base k f fd ps sp) (hg : X.A.guards = some []) (hr : Room k X.A) (hb : Binds X.K fd ps [])
    (I : Inv X pins σ H s) (r : Vals vs us) (h : sp vs H Q E0) : wpAny (model X.prog X.w) X.A (call (.ref f) us) (EP X pins σ Q) X.xe s := by
  have hl : (us ++ []).length = ps.length := by rw [List.append_nil, ← r.length]; exact F.len _ _ _ _ h
  refine wpAny_call (codeAny_mono (F.run X.A X.stack s H ⟨us, []⟩ us vs Q E0 hg hr I.env0 (by have := hb s us I.kIn hl; rwa [List.append_nil] at this) r h) fun r s' hq => ?_)
  cases r with
  | error e => exact False.elim hq
  | ok fl =>
    cases fl with
    | ret u => exact I.after hq
    | next => exact False.elim hq
    | brk => exact False.elim hq
    | cont => exact False.elim hq
/-- a def of the module that is promised where nothing is being shown below -/
structure FnS (P : Program) (w : World) (K : PySem.W.Frag) (mg : Str → Option Value) (base : Heap) (k : Nat) (x : Str) (sp : Sp) : Prop where
  ex : ∃ (f : Addr) (fd : FuncData) (ps : List Str), FnG P w K mg base k f fd ps sp ∧ mg x = some (.ref f) ∧ PySem.W.keepIn K (.ref f) = true ∧ Binds K fd ps []
theorem pe_callG {x : Str} {p pos : Pos} {e : Expr} {es : List Expr} {t : TA} {k : Nat} {f : Addr} {fd : FuncData} {ps : List Str} {sp : Sp} (F : FnG X.prog X.w X.K X.mg X.base k f fd ps sp) (hgd : X.A.guards = some []) (hr : Room k X.A) (hg : Gl X x) (hm : X.mg x = some (.ref f)) (hk : PySem.W.keepIn X.K (.ref f) = true) (hb : Binds X.K fd ps [])
    (ha : PA X (e :: es) t) (hdb : (x == ("__debug__" : Str)) = false) (he : starEach (e :: es) X.env = (false, eval e X.env) :: starEach es X.env) (hpl : (backTo pos (starEach es X.env)).any (·.1) = false) :
    PE X (.Call (.Name x p) (e :: es) [] pos) (tCall sp [] E0 t) := by
  refine ⟨fun pins s σ H Q I h => wpAny_Call_Name_kw (ld_glob I hg hm (PySem.W.callWith_K (h₀ := X.base) I.ok.mod.kin hk (thn (ha.run pos pins s σ H _ I h) fun us s1 z => ?_) he hpl) hdb)⟩
  obtain ⟨vs, H1, I1, r, q⟩ := z
  exact ⟨I1.kIn, run_fnG F hgd hr hb I1 r (by rwa [List.append_nil] at q)⟩
theorem e_callG {N G : List Str} {sc : Scope} {e : Expr} {es : List Expr} {pos p0 : Pos} {σ : L2.St} {H : Hp} {Q : VK} {g : Nat} {k n : Nat} {x : Str} {sp : Sp} (F : FnS X.prog X.w X.K X.mg X.base k x sp) (hgd : X.A.guards = some []) (hr : Room n X.A) (hk : k ≤ n) (q : wA X (e :: es) σ H fun vs H1 => sp vs H1 Q E0)
    (I : In X N G sc := by assumption) (hG : At G g x := by repeat (first | with_reducible apply At.z | with_reducible apply At.s))
    (he : starEach (e :: es) X.env = (false, eval e X.env) :: starEach es X.env := by rfl) (hpl : (backTo pos (starEach es X.env)).any (·.1) = false := by rfl) : wE X (.Call (.Name x p0) (e :: es) [] pos) σ H Q := by
  obtain ⟨f, fd, ps, F0, hm, hkp, hb⟩ := F.ex
  refine e_of (pe_callG F0 hgd (hr.mono hk) (I.g hG) hm hkp hb pa (I.gd hG) he hpl) ?_
  show wA X (e :: es) σ H fun vs H1 => sp (vs ++ []) H1 Q E0
  simp only [List.append_nil]
  exact q
end
end Wk
namespace Wk
open PySem PySem.Spec PyProof.Rows L2
section
variable {P : Program} {w : World} {K : PySem.W.Frag}
/-- the heap in which the script alone is told (unless it is an object of the module) -/
def toldS (K : PySem.W.Frag) (a : Addr) (vs : List Value) (ns : List Int) : Hp := fun b =>
  if b = a ∧ (K.lookup a).isNone = true then some (.frz { cls := .type "list", data := .seq vs.toArray } (.lst (ns.map V.int))) else none
theorem toldS_some {a b : Addr} {vs : List Value} {ns : List Int} {u : HO} (h : toldS K a vs ns b = some u) : b = a ∧ K.lookup a = none ∧ u = .frz { cls := .type "list", data := .seq vs.toArray } (.lst (ns.map V.int)) := by
  unfold toldS at h
  split at h
  · rename_i hc
    cases h
    exact ⟨hc.1, Option.isNone_iff_eq_none.mp hc.2, rfl⟩
  · cases h
theorem toldS_none {a b : Addr} {vs : List Value} {ns : List Int} (h : ¬ (b = a ∧ K.lookup a = none)) : toldS K a vs ns b = none := by
  cases e : toldS K a vs ns b with
  | none => rfl
  | some u => exact absurd ⟨(toldS_some e).1, (toldS_some e).2.1⟩ h
theorem law_callG {mg mb : Str → Option Value} {k : Nat} {fa a : Addr} {fd : FuncData} {x : Str} {sp : Sp} {s : Shared} {vs : List Value} {ns : List Int}
    (KX : K.In s.heap) (hns : s.heap.Ns mainGlobals mg) (hb : s.heap.Ns builtinsNs mb) (hbb : ∀ x : Str, x ≠ "__name__" → mb x = bootBuiltins x) (hlim : s.heap.NoLimit) (hg : s.gens = #[])
    (ha : s.heap.get? a = some { cls := .type "list", data := .seq vs.toArray }) (hi : IntsAre vs ns) (hl : ns.length ≤ sizeLine) (hr : Room k callerA)
    (F : ∀ base : Heap, K.In base → base.Ns mainGlobals mg → FnG P w K mg base k fa fd [x] sp) (hbind : ∀ (s : Shared) (u : Value), BindsTo s fd ⟨[u], []⟩ [(x, u)])
    (hsp : ∀ H : Hp, Only H → SqL K H a (ns.map V.int) → sp [.ref a] H (fun v _ => v = .bl true) fun _ _ _ => False) :
    codeAny (model P w) callerA (.call (.ref fa) ⟨[.ref a], []⟩) (fun r s' => r = .ok (.ret (.bool true)) ∧ OldK s.heap s'.heap ∧ s'.os = s.os ∧ AllBare s'.gens) s := by
  have hT : ∀ {b : Addr} {u : HO}, toldS K a vs ns b = some u → b = a ∧ K.lookup a = none ∧ u = .frz { cls := .type "list", data := .seq vs.toArray } (.lst (ns.map V.int)) := toldS_some
  have hN : ∀ {b : Addr}, ¬ (b = a ∧ K.lookup a = none) → toldS K a vs ns b = none := toldS_none
  have hS : SqL K (toldS K a vs ns) a (ns.map V.int) := by
    cases hk : K.lookup a with
    | none => exact .inl (.inr ⟨_, if_pos ⟨rfl, by rw [hk]; rfl⟩⟩)
    | some o =>
      have e := KX a o hk
      rw [ha] at e
      cases e
      exact .inr ⟨_, vs.toArray, _, hk, rfl, rfl, rfl, by rw [List.size_toArray, hi.length]; exact hl, by simpa using vals_ints hi⟩
  generalize toldS K a vs ns = H at hT hN hS
  have only : Only H := fun b => by
    cases e : H b with
    | none => exact .inl rfl
    | some u => exact .inr ⟨_, _, by rw [(hT e).2.2]⟩
  have notDict : ∀ {b : Addr} {o : Obj} {es : Array DictEntry} {n : Nat}, s.heap.get? b = some o → o.data = .dict es n → H b = none := fun {b o es n} e d => hN fun z => by
    obtain ⟨rfl, _⟩ := z
    rw [ha] at e
    cases e
    cases (show Data.seq vs.toArray _ = Data.dict es n from d)
  have names : ∀ {b : Addr} {m : Str → Option Value}, s.heap.Ns b m → (hidT s.heap H).Ns b m := fun z => let ⟨o, es, n, e, d, r⟩ := z; ⟨o, es, n, hidT_get e (notDict e d), d, r⟩
  have inB : K.In (hidT s.heap H) := fun b o e => hidT_get (KX b o e) (hN fun z => by rw [← z.1, e] at z; cases z.2)
  have md : Mod K mg (hidT s.heap H) := ⟨inB, names hns, ⟨mb, names hb, hbb⟩, let ⟨m, z1, z2⟩ := hlim; ⟨m, names z1, z2⟩⟩
  have hok : HOk P w H s.heap := fun b u e => by
    obtain ⟨rfl, _, rfl⟩ := hT e
    exact ⟨ha, by rw [List.length_map]; exact hl, vs, _, vals_ints hi, ha⟩
  have env : Env0 P w K mg (hidT s.heap H) callerA [] s H := ⟨rfl, md, fun b o e => of_hidT e, Nat.le_of_eq (hidT_size _ _), trivial, fun b z => (List.not_mem_nil z).elim, hok, .of_eq hg⟩
  refine codeAny_mono ((F _ inB (names hns)).run callerA [] s H ⟨[.ref a], []⟩ [.ref a] [.ref a] _ _ rfl hr env (hbind s (.ref a)) (.cons rfl .nil) (hsp H only hS)) fun r s' z => ?_
  cases r with
  | error e => exact False.elim z
  | ok fl =>
    cases fl with
    | ret u =>
      obtain ⟨v, H', os, bare, un, hok', rv, q⟩ := z
      cases (show v = .bl true from q)
      cases (show u = Value.bool true from rv)
      refine ⟨rfl, OldK.of_keep fun b o e => ?_, os, bare⟩
      cases t : H b with
      | none => exact un.keep b o e t (List.not_mem_nil) (by simp)
      | some u =>
        obtain ⟨rfl, _, rfl⟩ := hT t
        have e2 := (hok' b _ (un.frzs b _ _ t)).1
        rw [ha] at e
        cases e
        exact e2
    | next => exact False.elim z
    | brk => exact False.elim z
    | cont => exact False.elim z
/-- the law's end, by a promise where nothing is being shown below -/
theorem walk_ofG {l : PySem.W.OpenLaw} {n k : Nat} {q : Program} {loose : List Str} {XP : (Str → Option Value) → Heap → Prop} {YP : World → Heap → Prop} {d : DefRec} {K : Params → PySem.W.Frag} {sp : World → Sp} {x : Str}
    (hn : l.most = some n) (hn2 : n ≤ sizeLine) (hdf : d.params.defaults = []) (hr : Room k callerA)
    (hY : ∀ (w : World) (h : Heap), YP w h → (K w.params).In h)
    (F : ∀ (w : World) (mg : Str → Option Value) (fa : Addr) (h : Heap), (K w.params).In h → h.Ns mainGlobals mg → mg d.name = some (.ref fa) →
      ∃ fd : FuncData, (∀ (s : Shared) (u : Value), BindsTo s fd ⟨[u], []⟩ [(x, u)]) ∧
        ∀ base : Heap, (K w.params).In base → base.Ns mainGlobals mg → FnG l.prog w (K w.params) mg base k fa fd [x] (sp w))
    (hsp : ∀ (w : World) (H : Hp) (a : Addr) (ns : List Int), ns.length ≤ n → Only H → SqL (K w.params) H a (ns.map V.int) → sp w [.ref a] H (fun v _ => v = .bl true) fun _ _ _ => False) :
    PySem.W.WalkO q loose XP YP l.row.toRowW d [] (fun f vs => PySem.call f vs) :=
  Att.attach_call hn hdf fun w s₀ s₁ mg mb fa o pm cd doc a vs ns G Y ho hd hcd hmg hobj hints hlen hg => by
    obtain ⟨fd, hb, hF⟩ := F w mg fa _ (hY w _ Y) G.T.g hmg
    exact law_callG (hY w _ Y) G.T.g G.T.b G.T.builtins G.T.nolimit hg hobj hints (Nat.le_trans hlen hn2) hr hF hb fun H hO hS => hsp w H a ns hlen hO hS
end
end Wk

set_option maxHeartbeats 4000000
/-! My own layer: comprehensions inside of comprehensions, comprehensions over zip, a loop over zip that unpacks triples, not of a list, methods that raise, errors without own __init__. -/
namespace Wk
open PySem PySem.Spec PyProof.Rows L2
/-- where a block's scope stands in -/
structure Sc (X : Cx) (sc : Scope) : Prop where
  nd : X.N.Nodup
  sc : X.env.scope = sc
section
variable {X : Cx} {e a b c elt o : Expr} {es rest : List Expr} {σ : L2.St} {H : Hp} {Q : VK} {pos p0 apos : Pos} {N G G' : List Str} {Vn : List (Nat × Str)} {sc scope : Scope}
theorem In.s (I : In X N G sc) : Sc X sc := ⟨I.nd, I.sc⟩
theorem Sc.bk (S : Sc X sc) {s : Shared} {H : Hp} {C : Addr} {cl : List (Str × Addr)} {fp : List Addr} : Sc (Bk X s H scope C cl fp) (relS scope sc) := ⟨S.nd, rel_eq S.sc C cl⟩
theorem BkOk.inS {i : Nat} {x : Str} (B : BkOk X.N Vn G' i x sc scope) (I : Sc X sc) (s : Shared) (H : Hp) (C : Addr) (cl : List (Str × Addr)) (fp : List Addr) : InB (Bk X s H scope C cl fp) Vn G' := by
  have e : (compEnvC scope cl C X.env).scope = relS scope sc := rel_eq I.sc C cl
  refine ⟨I.nd, fun p hp => ?_, fun y hy => ?_⟩
  · obtain ⟨h1, h2, h3, h4⟩ := B.lo p hp
    exact ⟨h1, by show Vis (compEnvC scope cl C X.env).scope p.2; rw [e]; exact h2, h3, h4⟩
  · obtain ⟨h1, h2, h3⟩ := B.gl y hy
    exact ⟨by show (compEnvC scope cl C X.env).scope.names.lookup y = _; rw [e]; exact h1, h2, h3⟩
theorem BkOk.pgS {i : Nat} {x : Str} {px : Pos} (B : BkOk X.N Vn G' i x sc scope) (I : Sc X sc) (s : Shared) (H : Hp) (C : Addr) (cl : List (Str × Addr)) (fp : List Addr) : PG (Bk X s H scope C cl fp) (.Name x px) (gName i) := by
  have e : (compEnvC scope cl C X.env).scope = relS scope sc := rel_eq I.sc C cl
  have l : (Bk X s H scope C cl fp).env.scope.names.lookup x = some .local := by
    show (compEnvC scope cl C X.env).scope.names.lookup x = _
    rw [e]
    exact B.own.2
  exact pg_name I.nd B.own.1 (.inl l) (.inr l)
theorem BkOk.okS {i : Nat} {x : Str} (B : BkOk X.N Vn G' i x sc scope) (I : Sc X sc) : BlkOk X.N X.env.scope scope [(x, i)] := by
  rw [I.sc]
  exact blkOk_by B.blk
/-- a block whose own name is captured by a block inside of it -/
structure BkOkC (N : List Str) (Vn : List (Nat × Str)) (G : List Str) (i : Nat) (x : Str) (sc scope : Scope) : Prop where
  lo : ∀ p ∈ Vn, N[p.1]? = some p.2 ∧ Vis (relS scope sc) p.2 ∧ (p.2 == ("__debug__" : Str)) = false ∧ (p.2 == ("__classdict__" : Str)) = false
  gl : ∀ x ∈ G, (relS scope sc).names.lookup x = some .globalImplicit ∧ (x == ("__debug__" : Str)) = false ∧ x ≠ "__name__"
  own : N[i]? = some x ∧ (relS scope sc).names.lookup x = some .cell
  cel : (scope.names.lookup x == some .cell) = true
  blk : blkC N sc scope [(x, i)] = true
theorem BkOkC.inS {i : Nat} {x : Str} (B : BkOkC X.N Vn G' i x sc scope) (I : Sc X sc) (s : Shared) (H : Hp) (C : Addr) (cl : List (Str × Addr)) (fp : List Addr) : InB (Bk X s H scope C cl fp) Vn G' := by
  have e : (compEnvC scope cl C X.env).scope = relS scope sc := rel_eq I.sc C cl
  refine ⟨I.nd, fun p hp => ?_, fun y hy => ?_⟩
  · obtain ⟨h1, h2, h3, h4⟩ := B.lo p hp
    exact ⟨h1, by show Vis (compEnvC scope cl C X.env).scope p.2; rw [e]; exact h2, h3, h4⟩
  · obtain ⟨h1, h2, h3⟩ := B.gl y hy
    exact ⟨by show (compEnvC scope cl C X.env).scope.names.lookup y = _; rw [e]; exact h1, h2, h3⟩
theorem BkOkC.pgS {i : Nat} {x : Str} {px : Pos} (B : BkOkC X.N Vn G' i x sc scope) (I : Sc X sc) (s : Shared) (H : Hp) (C : Addr) (cl : List (Str × Addr)) (fp : List Addr) : PG (Bk X s H scope C cl fp) (.Name x px) (gName i) := by
  have e : (compEnvC scope cl C X.env).scope = relS scope sc := rel_eq I.sc C cl
  have l : (Bk X s H scope C cl fp).env.scope.names.lookup x = some .cell := by
    show (compEnvC scope cl C X.env).scope.names.lookup x = _
    rw [e]
    exact B.own.2
  exact pg_name I.nd B.own.1 (.inr l) (.inl B.cel)
theorem BkOkC.okS {i : Nat} {x : Str} (B : BkOkC X.N Vn G' i x sc scope) (I : Sc X sc) : BlkOk X.N X.env.scope scope [(x, i)] := by
  rw [I.sc]
  exact blkOk_by B.blk
theorem e_lcLC {i : Nat} {x : Str} {px : Pos} (B : BkOkC X.N Vn G' i x sc scope)
    (q : wE X a σ H fun v H1 => ∃ ad xs, v = .ref ad ∧ SqL X.K H1 ad xs ∧ ∀ D, H1 D = none → LcL X Vn G' elt scope i ad xs D σ H1 fun H2 => Q (.ref D) H2)
    (I : In X N G sc := by assumption) (hc : X.calm = true := by rfl) (hs2 : ∀ z, foldedSetIterable a X.env z = pure z := by intro _; rfl) :
    wE X (.ListComp elt [⟨.Name x px, a, [], 0⟩] scope pos) σ H Q := by
  refine e_of (pe_lc (own := [(x, i)]) (g := gName i) (tt := tYes) (te := wBk X Vn G' elt scope) hc I.nd (pi_list pe) (B.okS I.s) (fun s H C cl fp => B.pgS I.s s H C cl fp) (fun _ _ _ _ _ => pts_nil) (fun s H C cl fp => pe_bk (B.inS I.s s H C cl fp)) hs2) (e_mono q fun v H1 q1 => ?_)
  obtain ⟨ad, xs, rfl, hl, q2⟩ := q1
  exact ⟨ad, rfl, ⟨xs, hl⟩, fun D hD => lcL_of (q2 D hD)⟩
theorem e_lcRC {i g : Nat} {x : Str} {px p cp : Pos} (B : BkOkC X.N Vn G' i x sc scope) (hm : X.mg "range" = none)
    (q : wE X a σ H fun v H1 => ∃ n : Nat, v = .int n ∧ n < 2 ^ 62 ∧ ∀ D, H1 D = none → LcR X Vn G' elt scope i n D σ H1 fun H2 => Q (.ref D) H2)
    (I : In X N G sc := by assumption) (hc : X.calm = true := by rfl) (hG : At G g ("range" : Str) := by repeat (first | with_reducible apply At.z | with_reducible apply At.s)) (hs : starEach [a] X.env = [(false, eval a X.env)] := by rfl) (hs2 : ∀ z, foldedSetIterable (.Call (.Name "range" p) [a] [] cp) X.env z = pure z := by intro _; rfl)
    (hs1 : starEach (a :: []) X.env = (false, eval a X.env) :: starEach [] X.env := by rfl) :
    wE X (.ListComp elt [⟨.Name x px, .Call (.Name "range" p) [a] [] cp, [], 0⟩] scope pos) σ H Q := by
  refine e_of (pe_lc (own := [(x, i)]) (g := gName i) (tt := tYes) (te := wBk X Vn G' elt scope) hc I.nd (pi_range1 (I.g hG) hm (pa_cons pe pa_nil hs1) hs) (B.okS I.s) (fun s H C cl fp => B.pgS I.s s H C cl fp) (fun _ _ _ _ _ => pts_nil) (fun s H C cl fp => pe_bk (B.inS I.s s H C cl fp)) hs2) (e_mono q fun v H1 q1 => ?_)
  obtain ⟨n, rfl, hn, q2⟩ := q1
  refine ⟨(n : Int), rfl, by omega, by omega, ?_⟩
  rw [Int.toNat_natCast]
  exact fun D hD => lcR_of (q2 D hD)
/-- [elt for x in a], a list, inside of a block -/
theorem n_lcL {i : Nat} {x : Str} {px : Pos} (S : Sc X sc) (B : BkOk X.N Vn G' i x sc scope)
    (q : wE X a σ H fun v H1 => ∃ ad xs, v = .ref ad ∧ SqL X.K H1 ad xs ∧ ∀ D, H1 D = none → LcL X Vn G' elt scope i ad xs D σ H1 fun H2 => Q (.ref D) H2)
    (hc : X.calm = true := by rfl) (hs2 : ∀ z, foldedSetIterable a X.env z = pure z := by intro _; rfl) :
    wE X (.ListComp elt [⟨.Name x px, a, [], 0⟩] scope pos) σ H Q := by
  refine e_of (pe_lc (own := [(x, i)]) (g := gName i) (tt := tYes) (te := wBk X Vn G' elt scope) hc S.nd (pi_list pe) (B.okS S) (fun s H C cl fp => B.pgS S s H C cl fp) (fun _ _ _ _ _ => pts_nil) (fun s H C cl fp => pe_bk (B.inS S s H C cl fp)) hs2) (e_mono q fun v H1 q1 => ?_)
  obtain ⟨ad, xs, rfl, hl, q2⟩ := q1
  exact ⟨ad, rfl, ⟨xs, hl⟩, fun D hD => lcL_of (q2 D hD)⟩
theorem n_lcLf {i : Nat} {x : Str} {px : Pos} (S : Sc X sc) (B : BkOk X.N Vn G' i x sc scope)
    (q : wE X a σ H fun v H1 => ∃ ad xs, v = .ref ad ∧ SqL X.K H1 ad xs ∧ ∀ D, H1 D = none → LcLf X Vn G' elt c scope i ad xs D σ H1 fun H2 => Q (.ref D) H2)
    (hc : X.calm = true := by rfl) (hs2 : ∀ z, foldedSetIterable a X.env z = pure z := by intro _; rfl) :
    wE X (.ListComp elt [⟨.Name x px, a, [c], 0⟩] scope pos) σ H Q := by
  refine e_of (pe_lc (own := [(x, i)]) (g := gName i) (tt := wBkT X Vn G' c scope) (te := wBk X Vn G' elt scope) hc S.nd (pi_list pe) (B.okS S) (fun s H C cl fp => B.pgS S s H C cl fp) (fun s H C cl fp => pts_bk (B.inS S s H C cl fp)) (fun s H C cl fp => pe_bk (B.inS S s H C cl fp)) hs2) (e_mono q fun v H1 q1 => ?_)
  obtain ⟨ad, xs, rfl, hl, q2⟩ := q1
  exact ⟨ad, rfl, ⟨xs, hl⟩, fun D hD => lcLf_of (q2 D hD)⟩
/-- [elt for x in a if c], a holds range(n) -/
theorem e_lcRvf {i : Nat} {x : Str} {px : Pos} (B : BkOk X.N Vn G' i x sc scope)
    (q : wE X a σ H fun v H1 => ∃ (ad : Addr) (n : Nat), v = .ref ad ∧ H1 ad = some (.rng 0 n) ∧ n < 2 ^ 62 ∧ ∀ D, H1 D = none → LcRf X Vn G' elt c scope i n D σ H1 fun H2 => Q (.ref D) H2)
    (I : In X N G sc := by assumption) (hc : X.calm = true := by rfl) (hs2 : ∀ z, foldedSetIterable a X.env z = pure z := by intro _; rfl) :
    wE X (.ListComp elt [⟨.Name x px, a, [c], 0⟩] scope pos) σ H Q := by
  refine e_of (pe_lc (own := [(x, i)]) (g := gName i) (tt := wBkT X Vn G' c scope) (te := wBk X Vn G' elt scope) hc I.nd (pi_rngV pe) (B.ok I) (fun s H C cl fp => B.pg I s H C cl fp) (fun s H C cl fp => pts_bk (B.inB I s H C cl fp)) (fun s H C cl fp => pe_bk (B.inB I s H C cl fp)) hs2) (e_mono q fun v H1 q1 => ?_)
  obtain ⟨ad, n, rfl, had, hn, q2⟩ := q1
  refine ⟨ad, 0, n, rfl, had, ⟨by omega, by omega, by omega, by omega⟩, ?_⟩
  rw [Int.sub_zero, Int.toNat_natCast]
  exact fun D hD => lcRf_of (q2 D hD)
/-- not a, by its truth -/
theorem e_notT (q : wE X a σ H fun x H1 => ∃ k, TruV X.K x H1 k ∧ Q (.bl (!k)) H1) : wE X (.UnaryOp .Not a pos) σ H Q := e_of (pe_notT pe) q
/-- [elt for x, y in zip(a, b)] -/
def LcZ (X : Cx) (Vn : List (Nat × Str)) (G' : List Str) (c d : Side) (elt : Expr) (scope : Scope) (i j : Nat) (va vb : Addr) (xs ys : List L2.V) (D : Addr) (σ : L2.St) (H1 : Hp) (Qd : Hp → Prop) : Prop := ∃ Pv : Nat → Hp → Prop, Pv 0 (upd H1 D (.lst [])) ∧ (∀ k H2, k ≤ min xs.length ys.length → Pv k H2 → c.sq X.K H2 va xs ∧ d.sq X.K H2 vb ys) ∧
  (∀ k u1 u2 T H2, xs[k]? = some u1 → ys[k]? = some u2 → Pv k H2 → H2 T = none → ∀ s0 H0 C cl fp, InB (Bk X s0 H0 scope C cl fp) Vn G' → wE (Bk X s0 H0 scope C cl fp) elt (((wipe σ [i, j]).set i (some u1)).set j (some u2)) (upd H2 T (.tup [u1, u2])) fun y H4 => ∃ acc, H4 D = some (.lst acc) ∧ acc.length < sizeLine ∧ Pv (k + 1) (upd H4 D (.lst (acc ++ [y])))) ∧
  ∀ H2, Pv (min xs.length ys.length) H2 → Qd H2
theorem e_lcZ (cs ds : Side) {i j g : Nat} {x y : Str} {px py pt p cp : Pos} {kt : Nat} (B : BkOk2 X.N Vn G' i j x y sc scope) (hm : X.mg "zip" = none)
    (q : wE X a σ H fun v H1 => wE X b σ H1 fun u H2 => ∃ va vb xs ys, v = .ref va ∧ u = .ref vb ∧ cs.sq X.K H2 va xs ∧ ds.sq X.K H2 vb ys ∧ ∀ D, H2 D = none → LcZ X Vn G' cs ds elt scope i j va vb xs ys D σ H2 fun H3 => Q (.ref D) H3)
    (I : In X N G sc := by assumption) (hc : X.calm = true := by rfl) (hG : At G g ("zip" : Str) := by repeat (first | with_reducible apply At.z | with_reducible apply At.s)) (hs : starEach [a, b] X.env = (false, eval a X.env) :: starEach [b] X.env := by rfl) (hpl : (backTo cp (starEach [b] X.env)).any (·.1) = false := by rfl)
    (hs1 : starEach (b :: []) X.env = (false, eval b X.env) :: starEach [] X.env := by rfl) (hs2 : ∀ z, foldedSetIterable (.Call (.Name "zip" p) [a, b] [] cp) X.env z = pure z := by intro _; rfl) :
    wE X (.ListComp elt [⟨.Tuple [.Name x px, .Name y py] kt pt, .Call (.Name "zip" p) [a, b] [] cp, [], 0⟩] scope pos) σ H Q := by
  refine e_of (pe_lc (own := [(x, i), (y, j)]) (g := gT2 X.K i j) (tt := tYes) (te := wBk X Vn G' elt scope) hc I.nd (pi_zipM (c := cs) (d := ds) (I.g hG) hm (pa_cons pe (pa_cons pe pa_nil hs1) hs) hs hpl) (B.ok I) (fun s H C cl fp => B.pg hc I s H C cl fp) (fun _ _ _ _ _ => pts_nil) (fun s H C cl fp => pe_bk (B.inB I s H C cl fp)) hs2) (e_mono q fun v H1 q1 => e_mono q1 fun u H2 q2 => ?_)
  obtain ⟨va, vb, xs, ys, rfl, rfl, sx, sy, q3⟩ := q2
  refine ⟨va, vb, xs, ys, rfl, sx, sy, fun D hD => ?_⟩
  obtain ⟨Pv, h0, hk, hb, hd⟩ := q3 D hD
  refine ⟨fun k m H => m = min xs.length ys.length - k ∧ k ≤ min xs.length ys.length ∧ Pv k H, ⟨_, rfl, Nat.zero_le _, h0⟩, ?_⟩
  rintro k m H ⟨rfl, hle, pv⟩
  obtain ⟨tx, ty⟩ := hk k H hle pv
  by_cases lt : k < min xs.length ys.length
  · have l1 : k < xs.length := by omega
    have l2 : k < ys.length := by omega
    refine .inr ⟨⟨xs, ys, xs[k], ys[k], tx, ty, List.getElem?_eq_getElem l1, List.getElem?_eq_getElem l2⟩, Pv (k + 1), fun H' p' => ⟨_, by omega, rfl, lt, p'⟩, fun w H' yl => ?_⟩
    obtain ⟨T, u1, u2, rfl, nT, rfl, y1, y2⟩ := yl
    refine ⟨T, u1, u2, rfl, SqT.of upd_same, wipe_set2 σ B.ne u1 u2, ?_⟩
    unfold tYes
    refine iteT ?_
    unfold wBk
    exact fun s0 H0 C cl fp I => hb k u1 u2 T H (y1 xs tx) (y2 ys ty) pv nT s0 H0 C cl fp I
  · have ek : k = min xs.length ys.length := by omega
    subst ek
    exact .inl ⟨⟨xs, ys, tx, ty, by omega, by omega, by omega⟩, hd H pv⟩
/-- for (x1, x2, x3), y in zip(a, b) -/
theorem s_forZ3 {nx : L2.St → Hp → Prop} {rt : VK} {bk ct : L2.St → Hp → Prop} (c d : Side) {g : Nat} {x1 x2 x3 y : Str} {i1 i2 i3 j : Nat} {body : List Stmt} {p1 p2 p3 py pt pt2 p cp pos : Pos} {kk kk2 : Nat} (hm : X.mg "zip" = none)
    (q : wE X a σ H fun v H1 => wE X b σ H1 fun u H2 => ∃ va vb xs ys, v = .ref va ∧ u = .ref vb ∧ c.sq X.K H2 va xs ∧ d.sq X.K H2 vb ys ∧ ∃ Pv : Nat → L2.St → Hp → Prop, Pv 0 σ H2 ∧ (∀ k σ H, k ≤ min xs.length ys.length → Pv k σ H → c.sq X.K H va xs ∧ d.sq X.K H vb ys) ∧
      (∀ k u1 u2 T σ H, xs[k]? = some u1 → ys[k]? = some u2 → Pv k σ H → H T = none → ∃ t v1 v2 v3, u1 = .ref t ∧ SqT X.K (upd H T (.tup [u1, u2])) t [v1, v2, v3] ∧ wL X body ⟨Pv (k + 1), rt, nx, Pv (k + 1)⟩ ((((σ.set i1 (some v1)).set i2 (some v2)).set i3 (some v3)).set j (some u2)) (upd H T (.tup [u1, u2]))) ∧ ∀ σ H, Pv (min xs.length ys.length) σ H → nx σ H)
    (I : In X N G sc := by assumption) (hc : X.calm = true := by rfl) (hA1 : At N i1 x1 := by repeat (first | with_reducible apply At.z | with_reducible apply At.s)) (hA2 : At N i2 x2 := by repeat (first | with_reducible apply At.z | with_reducible apply At.s)) (hA3 : At N i3 x3 := by repeat (first | with_reducible apply At.z | with_reducible apply At.s)) (hB : At N j y := by repeat (first | with_reducible apply At.z | with_reducible apply At.s))
    (hG : At G g ("zip" : Str) := by repeat (first | with_reducible apply At.z | with_reducible apply At.s)) (hs : starEach [a, b] X.env = (false, eval a X.env) :: starEach [b] X.env := by rfl) (hpl : (backTo cp (starEach [b] X.env)).any (·.1) = false := by rfl)
    (hs1 : starEach (b :: []) X.env = (false, eval b X.env) :: starEach [] X.env := by rfl) (hs2 : ∀ z, foldedSetIterable (.Call (.Name "zip" p) [a, b] [] cp) X.env z = pure z := by intro _; rfl) :
    wS X (.For (.Tuple [.Tuple [.Name x1 p1, .Name x2 p2, .Name x3 p3] kk2 pt2, .Name y py] kk pt) (.Call (.Name "zip" p) [a, b] [] cp) body [] pos) ⟨nx, rt, bk, ct⟩ σ H := by
  refine s_of (ps_for I.never hc (pi_zipM (c := c) (d := d) (I.g hG) hm (pa_cons pe (pa_cons pe pa_nil hs1) hs) hs hpl) (pg_tup hc (pgs_cons (pg_tup hc (pgs_cons (pg_name I.nd (I.hi hA1) (I.loc hA1) I.f) (pgs_cons (pg_name I.nd (I.hi hA2) (I.loc hA2) I.f) (pgs_cons (pg_name I.nd (I.hi hA3) (I.loc hA3) I.f) pgs_nil)))) (pgs_cons (pg_name I.nd (I.hi hB) (I.loc hB) I.f) pgs_nil))) pl hs2) (e_mono q fun v H1 q1 => e_mono q1 fun u H2 q2 => ?_)
  obtain ⟨va, vb, xs, ys, rfl, rfl, sx, sy, Pv, h0, hk, hb, hd⟩ := q2
  refine ⟨va, vb, xs, ys, rfl, sx, sy, fun k m σ H => m = min xs.length ys.length - k ∧ k ≤ min xs.length ys.length ∧ Pv k σ H, ⟨_, rfl, Nat.zero_le _, h0⟩, ?_⟩
  rintro k m σ H ⟨rfl, hle, pv⟩
  obtain ⟨tx, ty⟩ := hk k σ H hle pv
  by_cases lt : k < min xs.length ys.length
  · have l1 : k < xs.length := by omega
    have l2 : k < ys.length := by omega
    refine .inr ⟨⟨xs, ys, xs[k], ys[k], tx, ty, List.getElem?_eq_getElem l1, List.getElem?_eq_getElem l2⟩, Pv (k + 1), fun σ' H' p' => ⟨_, by omega, rfl, lt, p'⟩, fun w H' yl => ?_⟩
    obtain ⟨T, u1, u2, rfl, nT, rfl, y1, y2⟩ := yl
    obtain ⟨t, v1, v2, v3, rfl, ht, z⟩ := hb k u1 u2 T σ H (y1 xs tx) (y2 ys ty) pv nT
    exact ⟨T, [.ref t, u2], rfl, SqT.of upd_same, rfl, .ref t, [u2], rfl, t, [v1, v2, v3], rfl, ht, rfl, v1, [v2, v3], rfl, v2, [v3], rfl, v3, [], rfl, rfl, u2, [], rfl, rfl, z⟩
  · have ek : k = min xs.length ys.length := by omega
    subst ek
    exact .inl ⟨⟨xs, ys, tx, ty, by omega, by omega, by omega⟩, hd σ H pv⟩
/-! ### errors without own __init__, methods that raise -/
abbrev bmVE : List Value := [.type "ValueError", .type "Exception", .type "BaseException", .type "object"]
structure Ei (K : PySem.W.Frag) (mg : Str → Option Value) (x : Str) (C : Addr) : Prop where
  mgC : mg x = some (.ref C)
  kp : PySem.W.keepIn K (.ref C) = true
  ex : PySem.W.excIn K C bmVE "ValueError.__new__" = true
  sub : PySem.W.subIn K (.ref C) (.type "BaseException") = some true
  ty : PySem.W.typeIn K (.ref C) = some (.type "type")
theorem pmk0N {x : Str} {C : Addr} (R : Ei X.K X.mg x C) (hg : Gl X x) (hdb : (x == ("__debug__" : Str)) = false) : L2N.PMk X (.Call (.Name x p0) [] [] pos) (fun _ H Q => Q (.ref C) none H) := by
  intro pins s σ H Q I h
  refine wpAny_Call_Name_kw (ld_glob I hg R.mgC ?_ hdb)
  refine PySem.W.callWith_K0 I.kIn R.kp ?_
  obtain ⟨bm, N, nm, qn, bs, hdct, sn, sub, ab, col, dd, k0, k1, k2, k3, k5, mN, hC, hN, hni, T⟩ := exc_obj I.kIn R.ex
  refine wpAny_call_exc_subT F.excBase_ValueError T hC hN hni (fun h' e hm => ?_) (Nat.zero_le _)
  exact L2N.mk_of I hm (raises_own R.sub R.ty) h (I.hok.gone hm.new)
/-- raise C() -/
theorem s_raise0 {nx : L2.St → Hp → Prop} {rt : VK} {bk ct : L2.St → Hp → Prop} {g : Nat} {x : Str} {C : Addr} {W : WX} {pos' : Pos} (R : Ei X.K X.mg x C) (tk : L2N.Takes X W) (q : W (.ref C) none σ H)
    (I : In X N G sc := by assumption) (hG : At G g x := by repeat (first | with_reducible apply At.z | with_reducible apply At.s)) (hc : X.calm = true := by rfl) :
    wS X (.Raise (some (.Call (.Name x p0) [] [] pos)) none pos') ⟨nx, rt, bk, ct⟩ σ H :=
  s_of (L2N.ps_raise hc tk (pmk0N R (I.g hG) (I.gd hG))) q
structure MtN (P : Program) (w : World) (K : PySem.W.Frag) (mg : Str → Option Value) (base : Heap) (k : Nat) (C : Addr) (m : Str) (sp : Sp) : Prop where
  ex : ∃ (f : Addr) (fd : FuncData) (ps : List Str), FnOk P w K mg base (L2N.CX P w) k f fd ps sp ∧ Meth K C m f ∧ Binds K fd ps [] ∧ Cls K C
theorem e_methN {k n : Nat} {m : Str} {C : Addr} {pl : Sem Bool} {sp : Sp} {W : WX} (F : MtN X.prog X.w X.K X.mg X.base k C m sp) (tk : L2N.Takes X W) (hr : Room n X.A) (hk : k ≤ n)
    (q : wE X o σ H fun x H1 => ∃ a dx fs, x = .ref a ∧ H1 a = some (.ins C dx fs) ∧ fs.lookup m = none ∧ wA X (e :: es) σ H1 fun vs H2 => sp (x :: vs) H2 Q (fun cls d H' => W cls d σ H'))
    (hst : starEach (e :: es) X.env = (false, eval e X.env) :: starEach es X.env := by rfl) (hpl : (backTo pos (starEach es X.env)).any (·.1) = false := by rfl)
    (ht : eval (.Call (.Attribute o m apos) (e :: es) [] pos) X.env = (do let ov ← eval o X.env; standAt apos.atName; let (f, first) ← holding [ov] (getMethod ov m pl); callWith pos f first (backTo pos (starEach (e :: es) X.env)) (backToKw pos (keywordEach [] X.env))) := by rfl) :
    wE X (.Call (.Attribute o m apos) (e :: es) [] pos) σ H Q := by
  obtain ⟨f, fd, ps, F0, M, hb, c⟩ := F.ex
  refine e_of (t := fun σ H Q => wE X o σ H fun x H1 => ∃ a dx fs, x = .ref a ∧ H1 a = some (.ins C dx fs) ∧ fs.lookup m = none ∧ wA X (e :: es) σ H1 fun vs H2 => sp (x :: vs) H2 Q (fun cls d H' => W cls d σ H')) ⟨fun pins s σ H Q I h => ?_⟩ q
  refine PySem.W.methodCall_KW (pl := pl) (thn (pe.run pins s σ H _ I h) fun u s1 ⟨x, H1, I1, rx, a, dx, fs, ex, ea, l, q⟩ => ?_) ht
  subst ex
  obtain rfl : u = Value.ref a := rx
  refine getmeth_ok I1 ea c M l ?_
  refine PySem.W.callWith_K (first := [.ref a]) (h₀ := X.base) I.ok.mod.kin M.kp (thn (pa.run pos pins s1 σ H1 _ I1 q) fun us s2 ⟨vs, H2, I2, r, q2⟩ => ⟨I2.kIn, ?_⟩) hst hpl
  exact run_fnSD (us := .ref a :: us) (vs := .ref a :: vs) (E := fun σ cls d H' => W cls d σ H') F0 (hr.mono hk) hb .nil (L2N.passAt tk σ) I2 (.cons rfl r) (by rw [List.append_nil]; exact q2)
end
end Wk

set_option maxHeartbeats 4000000
/-! My own layer: errors as values: made, their fields read, asked by isinstance; repr of plain data. -/
namespace Wk
open PySem PySem.Spec PyProof.Rows L2
section
variable {X : Cx} {e o : Expr} {es : List Expr} {σ : L2.St} {H : Hp} {Q : VK} {pos p0 apos : Pos} {N G : List Str} {sc : Scope}
/-- an own class of errors with its own __init__ -/
structure Ec (P : Program) (w : World) (K : PySem.W.Frag) (mg : Str → Option Value) (base : Heap) (x : Str) (C : Addr) (sp : Sp) : Prop where
  o : OexC K C
  mgC : mg x = some (.ref C)
  ex : ∃ (fI : Addr) (fd : FuncData) (ps : List Str), FnOk P w K mg base CX0 1 fI fd ps sp ∧ PySem.W.findIn K (.ref C) "__init__" = some (some (.ref fI)) ∧ PySem.W.typeIn K (.ref fI) = some (.type "function") ∧ Binds K fd ps []
/-- C(e, ..) as a value -/
theorem e_mkX {g n : Nat} {x : Str} {C : Addr} {sp : Sp} (R : Ec X.prog X.w X.K X.mg X.base x C sp) (hr : Room n X.A) (hn : 2 ≤ n)
    (q : wA X (e :: es) σ H fun vs H1 => vs.length ≤ 1000 ∧ ∀ a, H1 a = none → sp (.ref a :: vs) (upd H1 a (exo a C none)) (fun v H2 => v = .non ∧ Q (.ref a) H2) (fun _ _ _ => False))
    (I : In X N G sc := by assumption) (hG : At G g x := by repeat (first | with_reducible apply At.z | with_reducible apply At.s))
    (he : starEach (e :: es) X.env = (false, eval e X.env) :: starEach es X.env := by rfl) (hpl : (backTo pos (starEach es X.env)).any (·.1) = false := by rfl) : wE X (.Call (.Name x p0) (e :: es) [] pos) σ H Q := by
  have hg := I.g hG
  have hdb := I.gd hG
  refine e_of (t := fun σ H Q => wA X (e :: es) σ H fun vs H1 => vs.length ≤ 1000 ∧ ∀ a, H1 a = none → sp (.ref a :: vs) (upd H1 a (exo a C none)) (fun v H2 => v = .non ∧ Q (.ref a) H2) (fun _ _ _ => False)) ⟨fun pins s σ H Q I h => ?_⟩ q
  obtain ⟨fI, fd, ps, F0, hi, ht, hb⟩ := R.ex
  obtain ⟨_, _, _, _, bm, _, _, _, _, _, _, _, _, _, _, hC, hbm⟩ := R.o.cls
  refine wpAny_Call_Name_kw (ld_glob I hg R.mgC ?_ hdb)
  refine PySem.W.callWith_K (h₀ := X.base) I.ok.mod.kin R.o.kC (thn (pa.run pos pins s σ H _ I h) fun us s1 ⟨vs, H1, I1, r1, hl, q1⟩ => ⟨I1.kIn, ?_⟩) he hpl
  show wpAny _ _ (call (.ref C) us) _ _ _
  obtain ⟨hp, g, dr, tk, os⟩ := s1
  have hget0 : ((hp.push (PySem.W.kdv_tup us)).push (PySem.HandSPX.excO C hp.objs.size)).get? (hp.objs.size + 1) = some (PySem.HandSPX.excO C hp.objs.size) := by heap_get
  let a := hp.objs.size + 1
  have na : H1 a = none := I1.hok.fresh (Nat.le_succ _)
  let hp2 := (hp.push (PySem.W.kdv_tup us)).push (PySem.HandSPX.excO C hp.objs.size)
  have kk : ∀ b o, hp.get? b = some o → hp2.get? b = some o := fun b o z => Heap.get?_push_of_some _ (Heap.get?_push_of_some _ z)
  have hget : hp2.get? a = some (PySem.HandSPX.excO C hp.objs.size) := hget0
  have I2 : Inv X pins σ (upd H1 a (exo a C none)) ⟨hp2, g, dr, tk, os⟩ := I1.laid (t' := tk) (h' := hp2) kk (Nat.le_succ _) (exo_ok hget)
  have r2 : Vals (V.ref a :: vs) (Value.ref a :: us) := .cons rfl r1
  have lu : us.length ≤ 1000 := by rw [← r1.length]; exact hl
  have hq := q1 a na
  have lp : (Value.ref a :: us).length = ps.length := by
    have z1 := r2.length
    rw [F0.len _ _ _ _ hq] at z1
    exact z1.symm
  have bind : BindsTo ⟨hp2, g, dr, tk, os⟩ fd ⟨Value.ref a :: us, []⟩ (ps.zip (Value.ref a :: us)) := by
    have z1 := hb ⟨hp2, g, dr, tk, os⟩ (Value.ref a :: us) I2.kIn (by rw [List.append_nil]; exact lp)
    rwa [List.append_nil] at z1
  have room : Room 1 (X.A.under (.builtin "type.__call__" ⟨.ref C :: us, []⟩)) := (hr.mono hn).make C us []
  have go := F0.run _ X.stack _ _ ⟨Value.ref a :: us, []⟩ (Value.ref a :: us) (V.ref a :: vs) _ (fun _ _ _ => False) room (I2.env0.make C us []) bind r2 hq
  refine wpAny_call (PySem.HandSPX.call_own F.excBase_ValueError (fun Y => PySem.HandSPX.refsVE_contains Y bm hbm) (I1.kIn _ _ hC) (PySem.W.looks_findIn I1.kIn hi) (fun self => PySem.W.bind_fn I1.kIn self ht) (by rw [sizeLine_eq]; omega) (codeAny_mono go fun r s' back => ?_))
  cases r with
  | error er => exact False.elim back
  | ok fl =>
    cases fl with
    | ret u =>
      obtain ⟨v', H', I', rz, e1, q2⟩ := I2.after back
      subst e1
      exact ⟨rz, .ref a, H', I', rfl, q2⟩
    | next => exact False.elim back
    | brk => exact False.elim back
    | cont => exact False.elim back
/-- C() as a value, C without own __init__ -/
theorem e_mk0 {g : Nat} {x : Str} {C : Addr} (R : Ei X.K X.mg x C) (q : ∀ a, H a = none → Q (.ref a) (upd H a (exo a C none)))
    (I : In X N G sc := by assumption) (hG : At G g x := by repeat (first | with_reducible apply At.z | with_reducible apply At.s)) : wE X (.Call (.Name x p0) [] [] pos) σ H Q := by
  have hg := I.g hG
  have hdb := I.gd hG
  refine e_of (t := fun σ H Q => ∀ a, H a = none → Q (.ref a) (upd H a (exo a C none))) ⟨fun pins s σ H Q I h => ?_⟩ q
  refine wpAny_Call_Name_kw (ld_glob I hg R.mgC ?_ hdb)
  refine PySem.W.callWith_K0 I.kIn R.kp ?_
  obtain ⟨bm, N, nm, qn, bs, hdct, sn, sub, ab, col, dd, k0, k1, k2, k3, k5, mN, hC, hN, hni, T⟩ := exc_obj I.kIn R.ex
  refine wpAny_call_exc_subT F.excBase_ValueError T hC hN hni (fun h' e hm => ?_) (Nat.zero_le _)
  obtain ⟨t, he, _, _⟩ := hm.there
  have na := I.hok.gone hm.new
  exact ⟨.ref e, _, I.laidN (t' := _) hm.keeps hm.new na (exo_ok he), rfl, h e na⟩
/-- e.f of an error that is held -/
theorem e_xA {C : Addr} {f : Str} (T : XfC X.K C) (hno : PySem.W.findIn X.K (.ref C) f = some none)
    (q : wE X e σ H fun x H1 => ∃ (a dd : Addr) (fs : List (Str × V)) (v : V), x = .ref a ∧ H1 a = some (exo a C (some dd)) ∧ H1 dd = some (exd dd fs) ∧ fs.lookup f = some v ∧ Q v H1) (hb : attributeBase e f X.env (eval e X.env) = eval e X.env := by rfl) :
    wE X (.Attribute e f pos) σ H Q := by
  refine e_of (t := fun σ H Q => wE X e σ H fun x H1 => ∃ (a dd : Addr) (fs : List (Str × V)) (v : V), x = .ref a ∧ H1 a = some (exo a C (some dd)) ∧ H1 dd = some (exd dd fs) ∧ fs.lookup f = some v ∧ Q v H1) ⟨fun pins s σ H Q I h => ?_⟩ q
  refine attr_of hb (thn (pe.run pins s σ H _ I h) fun u s1 hh => ?_)
  obtain ⟨x, H1, I1, rx, a, dd, fs, v, ex, ea, ed, l, q⟩ := hh
  subst ex
  obtain rfl : u = Value.ref a := rx
  obtain ⟨t1, ho⟩ := exo_at I1.hok ea
  obtain ⟨mA, hns, hr⟩ := exd_at I1.hok ed
  obtain ⟨od, hod, hl⟩ := lookIn_ns hns
  obtain ⟨u, hu, ru⟩ := RelO.some_of (v := v) (o := mA f) (by rw [← l]; exact hr f)
  have J : PySem.W.InstAt s1.heap a { cls := .ref C, dict := some dd, data := .fields #[.ref t1, .none, .none, .none, .bool false, .none] } C (some od) := ⟨ho, rfl, rfl, hod⟩
  exact HandSPX.exc_get I1.kIn J T.ga T.gg T.exC (PySem.W.findObj_own T.hdC hno rfl (by rw [hl, hu])) (handed_of ru) ⟨v, H1, I1.tok _, ru, q⟩
/-- an error that is held, with its fields -/
def ErrV (H : Hp) (a C : Addr) (fv : List (Str × V)) : Prop := (fv = [] ∧ H a = some (exo a C none)) ∨ ∃ dd fs, H a = some (exo a C (some dd)) ∧ H dd = some (exd dd fs) ∧ ∀ p ∈ fv, fs.lookup p.1 = some p.2
theorem ErrV.same {H H' : Hp} {a C : Addr} {fv : List (Str × V)} (h : ErrV H a C fv) (e : Same H H') : ErrV H' a C fv := by
  rcases h with ⟨h1, h2⟩ | ⟨dd, fs, h1, h2, h3⟩
  · exact .inl ⟨h1, e _ _ h2⟩
  · exact .inr ⟨dd, fs, e _ _ h1, e _ _ h2, h3⟩
/-- isinstance(e, c) of an error that is held -/
theorem c_isX {a C : Addr} {fv : List (Str × V)} {c : V} {cv : Value} {b : Bool} (T : EcC X.K C) (h : ErrV H a C fv) (k : ClsV c cv) (e : PySem.W.kitOne X.K (.ref C) cv = some b) (q : Q (.bl b) H) : wC X (.builtin "isinstance") [.ref a, c] H Q := by
  unfold wC
  intro pins s σ us I r
  obtain ⟨u1, u2, rfl, r1, r2⟩ := vals2 r
  cases (show u1 = Value.ref a from r1)
  have ec := k.eq r2
  subst ec
  have J : ∃ oe od, PySem.W.InstAt s.heap a oe C od := by
    rcases h with ⟨_, h⟩ | ⟨dd, fs, h, hd, _⟩
    · obtain ⟨t1, ho⟩ := exo_at I.hok h
      exact ⟨_, none, ho, rfl, rfl, trivial⟩
    · obtain ⟨t1, ho⟩ := exo_at I.hok h
      obtain ⟨mA, hns, _⟩ := exd_at I.hok hd
      obtain ⟨od, hod, _⟩ := lookIn_ns hns
      exact ⟨_, some od, ho, rfl, rfl, hod⟩
  obtain ⟨oe, od, J⟩ := J
  exact PySem.W.kia_one (PySem.W.kitx_exc (od := od) T.cl T.hg T.hk T.hs T.ha T.hn T.ht T.hm) I.kIn J e (fun z => nomatch z) fun tk => ⟨.bl b, H, I.tok tk, rfl, q⟩
/-- repr of a list or a tuple of plain data, where nothing is being shown below -/
theorem call_reprD (hg : X.A.guards = some []) (hu : X.A.units + 80 < cLine) :
    CallR X (.builtin "repr") (fun xs H Q => ∃ a d, xs = [.ref a] ∧ Dp X.K H (.ref a) d ∧ d.showable = true ∧ d.hasDict = false ∧ d.depth ≤ 70 ∧ d.shown.length ≤ sizeLine ∧ Q (.str d.shown) H) := by
  intro pins s σ H xs us Q I r h
  obtain ⟨a, d, rfl, hd, h1, h2, h3, h4, q⟩ := h
  obtain ⟨u, rfl, rr⟩ := vals1 r
  obtain ⟨as, rd⟩ := Dp.reads I d _ _ hd rr
  cases rr
  exact PySem.repr_of_reads' rd h1 (fun z => by rw [h2] at z; cases z) hg (by omega) (fun _ _ e => e) (fun h' u tk hk => ⟨.str d.shown, H, I.turnedL (ch := []) (fun b o _ e => hk b o e) (fun b hb => by cases hb), ⟨_, rfl⟩, q⟩) h4
theorem b_repr : bootBuiltins "repr" = some (.builtin "repr") := by decide +kernel
end
end Wk

set_option maxHeartbeats 4000000
/-! My own layer: a piece of a text between two places, x += e, f-strings, a class called without arguments, a text repeated, int of a text, count. -/
namespace Wk
open PySem PySem.Spec PyProof.Rows L2
section
variable {X : Cx} {a b e o : Expr} {es : List Expr} {σ : L2.St} {H : Hp} {Q : VK} {pos p0 p2 apos : Pos} {N G : List Str} {sc : Scope}
theorem e_slB {r : L2.V → Option Int → Option Int → Hp → VK → Prop} (hr : SlR X r) (q : wE X e σ H fun x H1 => wE X a σ H1 fun y H2 => ∃ j, y = .int j ∧ wE X b σ H2 fun y' H3 => ∃ j', y' = .int j' ∧ r x (some j) (some j') H3 Q) : wE X (.Subscript e (.Slice (some a) (some b) none p2) pos) σ H Q :=
  e_of (pe_slice hr pe (po_some pe) (po_some pe)) (e_mono q fun x H1 z => e_mono z fun y H2 ⟨j, e, z2⟩ => ⟨j, e, e_mono z2 fun y' H3 ⟨j', e', z3⟩ => ⟨j', e', z3⟩⟩)
theorem s_aug {nx : L2.St → Hp → Prop} {rt : VK} {bk ct : L2.St → Hp → Prop} {i : Nat} {x : Str} {pos' : Pos} {j : Int} (hs : σ[i]? = some (some (.int j))) (q : wE X e σ H fun v H' => ∃ k : Int, v = .int k ∧ nx (σ.set i (some (.int (j + k)))) H') (I : In X N G sc := by assumption) (hA : At N i x := by repeat (first | with_reducible apply At.z | with_reducible apply At.s)) :
    wS X (.AugAssign (.Name x pos') .Add e pos) ⟨nx, rt, bk, ct⟩ σ H := by
  refine s_of (ps_aug I.nd (I.hi hA) (I.loc hA) pe ip_add I.f) ⟨_, hs, e_mono q fun v H' z => ?_⟩
  obtain ⟨k, rfl, z⟩ := z
  exact ⟨j, k, rfl, rfl, z⟩
/-- the parts of an f-string -/
def jsW (X : Cx) : List Expr → Str → L2.St → Hp → (Str → Hp → Prop) → Prop
  | [], acc, _, H, Q => Q acc H
  | e :: es, acc, σ, H, Q => wE X e σ H fun x H1 => ∃ y : Str, x = .str y ∧ (acc ++ y).length ≤ sizeLine ∧ jsW X es (acc ++ y) σ H1 Q
theorem pj_w : ∀ es : List Expr, PJ X es (es.map fun e => wE X e)
  | [] => .nil
  | _ :: es => .cons pe (pj_w es)
theorem tjs_w : ∀ (es : List Expr) (acc : Str) (σ : L2.St) (H : Hp) (Q : Str → Hp → Prop), jsW X es acc σ H Q → tJs (es.map fun e => wE X e) acc σ H Q
  | [], _, _, _, _, q => q
  | e :: es, acc, σ, H, Q, q => by
    show wE X e σ H _
    refine e_mono q fun x H1 z => ?_
    obtain ⟨y, e1, e2, z⟩ := z
    exact ⟨y, e1, e2, tjs_w es _ σ H1 Q z⟩
theorem e_js {v1 v2 : Expr} {rest : List Expr} (q : jsW X (v1 :: v2 :: rest) Str.empty σ H fun out H1 => Q (.str out) H1) : wE X (.JoinedStr (v1 :: v2 :: rest) pos) σ H Q :=
  e_of (pe_joined (pj_w (v1 :: v2 :: rest))) (tjs_w _ _ σ H _ q)
theorem e_fmt (q : wE X e σ H fun x H1 => (∃ y : Str, x = .str y ∧ y.length ≤ sizeLine ∧ Q (.str y) H1) ∨ ∃ i : Int, x = .int i ∧ i.natAbs.log2 < 1920 ∧ Q (.str (toString i)) H1) : wE X (.FormattedValue e (-1) none pos) σ H Q := e_of (pe_fmt pe) q
theorem e_make0 {g : Nat} {k n : Nat} {x : Str} {C : Addr} {sp : Sp} (F : Kl X.prog X.w X.K X.mg X.base k x C sp) (hr : Room n X.A) (hk : k + 1 ≤ n)
    (q : ∀ x dx, H x = none → H dx = none → dx ≠ x → sp [.ref x] (upd (upd H dx (.own x)) x (.ins C dx [])) (fun v H2 => v = .non ∧ Q (.ref x) H2) E0)
    (I : In X N G sc := by assumption) (hG : At G g x := by repeat (first | with_reducible apply At.z | with_reducible apply At.s)) : wE X (.Call (.Name x p0) [] [] pos) σ H Q := by
  obtain ⟨f, fd, ps, F0, hm, M, hb⟩ := F.ex
  exact e_of (pe_make0 M F0 (hr.mono hk) (I.g hG) hm hb .nil pass0 (I.gd hG)) q
theorem c_intS {z : Str} {n : Int} (h : PySem.intText? z = some n) (hl : z.length ≤ 640) (q : Q (.int n) H) : wC X (.type "int") [.str z] H Q := c_of call_int_str ⟨z, n, rfl, h, hl, q⟩
theorem op_mulS : OpR X (binaryOp .Mult) (fun x y H Q => ∃ z n, x = .str z ∧ y = .int n ∧ MulOk z n ∧ Q (.str (Txt.mul z n)) H) := by
  intro pins s σ H x y v u Q I rx ry h
  obtain ⟨z, n, rfl, rfl, ok, q⟩ := h
  obtain ⟨t, rfl⟩ := rx
  obtain ⟨t', rfl⟩ := ry
  exact SB.mul ok fun t' k => ⟨.str (Txt.mul z n), H, I.tok _, ⟨_, rfl⟩, q⟩
theorem m_count {x y : Str} (q : wE X o σ H fun v H1 => ∃ x, v = .str x ∧ wE X e σ H1 fun w H2 => ∃ y, w = .str y ∧ Q (.int (Txt.count x y)) H2)
    (hs : starEach [e] X.env = [(false, eval e X.env)] := by rfl) (hbase : attributeBase o "count" X.env (eval o X.env) = eval o X.env := by rfl) (hline : (apos.endLine == pos.line) = true := by rfl) : wE X (.Call (.Attribute o "count" apos) [e] [] pos) σ H Q := by
  refine e_of (pe_m1 PySem.F.slot_str_count PySem.F.type_str_count mt_count pe pe hs hbase hline) (e_mono q fun v H1 z => ?_)
  obtain ⟨x, rfl, z⟩ := z
  refine ⟨⟨x, rfl⟩, e_mono z fun w H2 z2 => ?_⟩
  obtain ⟨y, rfl, z3⟩ := z2
  exact ⟨x, y, rfl, rfl, z3⟩
/-- try: .. except C: .. -/
theorem s_tryO {nx : L2.St → Hp → Prop} {rt : VK} {bk ct : L2.St → Hp → Prop} {g : Nat} {x : Str} {c : Value} {body suite : List Stmt} {b0 : Stmt} {np pos' : Pos} {Wout : WX} (hm : X.mg x = some c) (tk : L2N.Takes X Wout)
    (q : ∀ (pn : List (Addr × Obj)) (xe : Value → Shared → Prop), L2N.Takes (X.tr pn xe) (wMany X.K Wout ⟨nx, rt, bk, ct⟩ [(c, tsN X N G sc (b0 :: suite))]) → In (X.tr pn xe) N G sc → wL (X.tr pn xe) body ⟨nx, rt, bk, ct⟩ σ H)
    (I : In X N G sc := by assumption) (hG : At G g x := by repeat (first | with_reducible apply At.z | with_reducible apply At.s))
    (hs : X.stack = X.env :: X.outer := by rfl) (hf : X.env.frame = some X.env.locals := by rfl) :
    wS X (.Try body [.ExceptHandler (some (.Name x np)) none (b0 :: suite) pos'] [] [] pos) ⟨nx, rt, bk, ct⟩ σ H :=
  s_of (L2N.ps_try_many (tb := fun W D σ H => ∀ (pn : List (Addr × Obj)) (xe : Value → Shared → Prop), L2N.Takes (X.tr pn xe) W → In (X.tr pn xe) N G sc → wL (X.tr pn xe) body D σ H) hs hf tk
    (fun W pn xe tk' po => ⟨fun pins s σ H D Iv h => pl.run pins s σ H D Iv (h pn xe tk' (I.tr po))⟩)
    (.cons ⟨I.g hG, I.gd hG, .inl hm⟩ (fun a oe cls d pn hz hd => ⟨fun pins s σ H D Iv h => pl.run pins s σ H D Iv (h oe pn hz.zc hd I.suite (by
      obtain ⟨vs, hv⟩ := hd
      exact ⟨(a, oe), ⟨rfl, vs, hv, hz.2.2 vs hv⟩, List.mem_cons_self⟩))⟩) .nil)) q
end
end Wk

set_option maxHeartbeats 4000000
/-! My own layer: split and join of texts, displayed dicts of many text keys. -/
namespace Wk
open PySem PySem.Spec PyProof.Rows L2
section
variable {X : Cx} {a b e o : Expr} {es : List Expr} {σ : L2.St} {H : Hp} {Q : VK} {pos p0 p2 apos : Pos} {N G : List Str} {sc : Scope}
/-- o.split(e) -/
theorem e_split (q : wE X o σ H fun v H1 => ∃ x : Str, v = .str x ∧ wE X e σ H1 fun w H2 => ∃ y : Str, w = .str y ∧ (y.length == 0) = false ∧ x.length + 2 ≤ sizeLine ∧ ∀ p H3, Same H2 H3 → H2 p = none → H3 p = some (.lst ((Txt.split x y).map V.str)) → Q (.ref p) H3)
    (hs : starEach [e] X.env = [(false, eval e X.env)] := by rfl) (hbase : attributeBase o "split" X.env (eval o X.env) = eval o X.env := by rfl) (hline : (apos.endLine == pos.line) = true := by rfl) : wE X (.Call (.Attribute o "split" apos) [e] [] pos) σ H Q := by
  refine e_of (pe_split pe pe hs hbase hline) (e_mono q fun v H1 z => ?_)
  obtain ⟨x, rfl, z⟩ := z
  refine ⟨⟨x, rfl⟩, e_mono z fun w H2 z2 => ?_⟩
  obtain ⟨y, rfl, h1, h2, z3⟩ := z2
  exact ⟨x, y, rfl, rfl, h1, h2, fun p np => z3 p _ (fun c u eo => by rw [upd_ne (ne_of_none eo np)]; exact eo) np upd_same⟩
/-- o.join(e), e a list of texts -/
theorem e_join (q : wE X o σ H fun v H1 => ∃ x : Str, v = .str x ∧ wE X e σ H1 fun w H2 => ∃ (p : Addr) (ys : List Str), w = .ref p ∧ SqL X.K H2 p (ys.map V.str) ∧ (ys.map (·.length)).sum + ys.length * x.length ≤ 16777216 ∧ Q (.str (Txt.join x ys)) H2)
    (hs : starEach [e] X.env = [(false, eval e X.env)] := by rfl) (hbase : attributeBase o "join" X.env (eval o X.env) = eval o X.env := by rfl) (hline : (apos.endLine == pos.line) = true := by rfl) : wE X (.Call (.Attribute o "join" apos) [e] [] pos) σ H Q := by
  refine e_of (pe_join pe pe hs hbase hline) (e_mono q fun v H1 z => ?_)
  obtain ⟨x, rfl, z⟩ := z
  refine ⟨⟨x, rfl⟩, e_mono z fun w H2 z2 => ?_⟩
  obtain ⟨p, ys, rfl, h1, h2, z3⟩ := z2
  exact ⟨x, p, ys, rfl, rfl, .inl h1, h2, z3⟩
/-- a displayed dict of constant texts -/
abbrev IsC (e : Option Expr) (z : Str) : Prop := ∃ j p, e = some (.Constant (.str z) j p)
abbrev IsC1 (e : Expr) (z : Str) : Prop := ∃ j p, e = .Constant (.str z) j p
theorem pps_const : ∀ {ks : List (Option Expr)} {vs : List Expr} {zs ws : List Str}, Paired IsC ks zs → Paired IsC1 vs ws → ks.length = vs.length →
    ∃ trs, PPs X pos ks vs trs ∧ ∀ σ H (Q : List (V × V) → Hp → Prop), Q ((zs.zip ws).map fun z => (V.str z.1, V.str z.2)) H → tPairs trs σ H Q
  | _, _, _, _, .nil, .nil, _ => ⟨[], pps_nil, fun _ _ _ q => q⟩
  | _, _, _, _, .cons ⟨j, p, e⟩ h1, .cons ⟨j', p', e'⟩ h2, hl => by
    subst e e'
    obtain ⟨trs, h, q⟩ := pps_const h1 h2 (by simpa using hl)
    refine ⟨_, pps_cons pe pe h, fun σ H Q q0 => ?_⟩
    exact e_str (e_str (q σ H _ q0))
  | _, _, _, _, .nil, .cons _ _, hl => by cases hl
  | _, _, _, _, .cons _ _, .nil, hl => by cases hl
theorem e_dC {keys : List (Option Expr)} {vals : List Expr} {zs ws : List Str} (h1 : Paired IsC keys zs) (h2 : Paired IsC1 vals ws) (hl : keys.length = vals.length) (h0 : keys ≠ []) (h15 : keys.length ≤ 15) (h16 : (zs.zip ws).length ≤ 15)
    (q : ∀ p H2, Same H H2 → H p = none → H2 p = some (.dK (mergeK [] ((zs.zip ws).map fun z => ((Sum.inr z.1 : Key), V.str z.2)))) → Q (.ref p) H2) : wE X (.Dict keys vals pos) σ H Q := by
  obtain ⟨trs, h, hq⟩ := pps_const (X := X) (pos := pos) h1 h2 hl
  have hall : keys.all (·.isSome) = true := by
    clear hl h0 h15 h16 q h hq
    induction h1 with
    | nil => rfl
    | cons a _ ih =>
      obtain ⟨j, p, rfl⟩ := a
      simpa using ih
  refine e_of (pe_disp h hall hl h0 h15) fun p np => hq _ _ _ ?_
  refine ⟨upd_same, (zs.zip ws).map (fun z => ((Sum.inr z.1 : Key), V.str z.2)), by rw [List.map_map]; rfl, by rw [List.length_map]; exact h16, ?_⟩
  exact q p _ (fun c u eo => by rw [upd_ne (ne_of_none eo np), upd_ne (ne_of_none eo np)]; exact eo) np upd_same
theorem valV_in {κ : Type} [DecidableEq κ] {kvs : List (κ × V)} {k : κ} {v : V} (h : valV kvs k = some v) : ∃ p ∈ kvs, p.2 = v := by
  unfold valV at h
  obtain ⟨p, hp, rfl⟩ := Option.map_eq_some_iff.mp h
  exact ⟨p, List.mem_of_find?_eq_some hp, rfl⟩
theorem putK_all {κ : Type} [DecidableEq κ] {P : V → Prop} {kvs : List (κ × V)} {k : κ} {v : V} (h : ∀ p ∈ kvs, P p.2) (hv : P v) : ∀ p ∈ putK kvs k v, P p.2 := by
  intro p hp
  unfold putK at hp
  split at hp
  · obtain ⟨q, hq, rfl⟩ := List.mem_map.mp hp
    split
    · exact hv
    · exact h q hq
  · rcases List.mem_append.mp hp with hp | hp
    · exact h p hp
    · rw [List.mem_singleton.mp hp]; exact hv
theorem merge_all {P : V → Prop} : ∀ {more acc : List (Key × V)}, (∀ p ∈ acc, P p.2) → (∀ p ∈ more, P p.2) → ∀ p ∈ mergeK acc more, P p.2
  | [], _, h, _ => h
  | kv :: more, acc, h, h2 => merge_all (more := more) (acc := putK acc kv.1 kv.2) (putK_all h (h2 kv List.mem_cons_self)) fun p hp => h2 p (List.mem_cons_of_mem _ hp)
end
end Wk
namespace Wk
open PySem PySem.Spec PyProof.Rows L2
/-! ### pure values and pure tests: what is read in any heap from H on -/
@[irreducible] def PV (X : Cx) (e : Expr) (σ : L2.St) (H : Hp) (v : V) : Prop := ∀ H1 (Q : VK), Same H H1 → (∀ H2, Same H1 H2 → Q v H2) → wE X e σ H1 Q
@[irreducible] def TV (X : Cx) (e : Expr) (σ : L2.St) (H : Hp) (b : Bool) : Prop := ∀ H1 (QT : Bool → Hp → Prop), Same H H1 → (∀ H2, Same H1 H2 → QT b H2) → wT X e σ H1 QT
@[irreducible] def TWV (X : Cx) (e : Expr) (σ : L2.St) (H : Hp) (b : Bool) : Prop := ∀ H1 (QT : Bool → Hp → Prop), Same H H1 → (∀ H2, Same H1 H2 → QT b H2) → wW X e σ H1 QT
section
variable {X : Cx} {N G : List Str} {sc : Scope} {a b c e o : Expr} {es rest : List Expr} {σ : L2.St} {H : Hp} {Q : VK} {pos p0 : Pos} {QT : Bool → Hp → Prop} {u v w : V} {x y z : Bool}
theorem pv_use (h : PV X e σ H v) (q : ∀ H2, Same H H2 → Q v H2) : wE X e σ H Q := by unfold PV at h; exact h H Q (Same.refl H) q
theorem tv_use (h : TV X e σ H x) (q : ∀ H2, Same H H2 → QT x H2) : wT X e σ H QT := by unfold TV at h; exact h H QT (Same.refl H) q
theorem pv_up {H' : Hp} (h : PV X e σ H v) (s : Same H H') : PV X e σ H' v := by
  unfold PV at h ⊢
  exact fun H1 Q s1 q => h H1 Q (s.trans s1) q
theorem pv_var {i : Nat} {n : Str} (I : In X N G sc := by assumption) (hA : At N i n := by repeat (first | with_reducible apply At.z | with_reducible apply At.s)) (hσ : σ[i]? = some (some v) := by exact rfl) : PV X (.Name n pos) σ H v := by
  unfold PV
  exact fun H1 Q _ q => e_var (q H1 (Same.refl H1)) I hA hσ
theorem pv_str {n : Str} {j} : PV X (.Constant (.str n) j pos) σ H (.str n) := by
  unfold PV
  exact fun H1 Q _ q => e_str (q H1 (Same.refl H1))
theorem pv_int {n : Int} {j} : PV X (.Constant (.int n) j pos) σ H (.int n) := by
  unfold PV
  exact fun H1 Q _ q => e_int (q H1 (Same.refl H1))
theorem pv_non {j} : PV X (.Constant .none j pos) σ H .non := by
  unfold PV
  exact fun H1 Q _ q => e_non (q H1 (Same.refl H1))
theorem pv_bl {k : Bool} {j} : PV X (.Constant (.bool k) j pos) σ H (.bl k) := by
  unfold PV
  exact fun H1 Q _ q => e_bl (q H1 (Same.refl H1))
theorem pv_of (h : ∀ H1 (Q : VK), Same H H1 → (∀ H2, Same H1 H2 → Q v H2) → wE X e σ H1 Q) : PV X e σ H v := by unfold PV; exact h
theorem tv_of (h : ∀ H1 (QT : Bool → Hp → Prop), Same H H1 → (∀ H2, Same H1 H2 → QT x H2) → wT X e σ H1 QT) : TV X e σ H x := by unfold TV; exact h
theorem pv_lenS {g : Nat} {n : Str} (h : PV X e σ H (.str n)) (hn : n.length ≤ sizeLine) (hw : w = .int (n.length : Int) := by exact rfl) (hm : X.mg "len" = none := by assumption) (I : In X N G sc := by assumption) (hG : At G g ("len" : Str) := by repeat (first | with_reducible apply At.z | with_reducible apply At.s))
    (he : starEach (e :: []) X.env = (false, eval e X.env) :: starEach [] X.env := by rfl) (hpl : (backTo pos (starEach [] X.env)).any (·.1) = false := by rfl) : PV X (.Call (.Name "len" p0) [e] [] pos) σ H w := by
  subst hw
  exact pv_of fun H1 Q s q => e_callB (x := "len") hm b_len (a_cons (pv_use (pv_up h s) fun H2 s2 => a_nil (c_lenS hn (q H2 s2))) he) I hG he hpl
theorem pv_lenL {g : Nat} {l : Addr} {xs : List V} (h : PV X e σ H (.ref l)) (hl : H l = some (.lst xs)) (hw : w = .int (xs.length : Int) := by exact rfl) (hm : X.mg "len" = none := by assumption) (I : In X N G sc := by assumption) (hG : At G g ("len" : Str) := by repeat (first | with_reducible apply At.z | with_reducible apply At.s))
    (he : starEach (e :: []) X.env = (false, eval e X.env) :: starEach [] X.env := by rfl) (hpl : (backTo pos (starEach [] X.env)).any (·.1) = false := by rfl) : PV X (.Call (.Name "len" p0) [e] [] pos) σ H w := by
  subst hw
  exact pv_of fun H1 Q s q => e_callB (x := "len") hm b_len (a_cons (pv_use (pv_up h s) fun H2 s2 => a_nil (c_lenL (SqL.of (s2 _ _ (s _ _ hl))) (q H2 s2))) he) I hG he hpl
/-- x[k] of a tuple that stands -/
theorem pv_ixT {t : Addr} {xs : List V} {i : Int} (h : PV X a σ H (.ref t)) (hk : PV X b σ H (.int i)) (ht : H t = some (.tup xs)) (e : atI xs i = some v) (hs : PlainIx b := by intro _ _; rfl) : PV X (.Subscript a b pos) σ H v :=
  pv_of fun H1 Q s q => e_ix (pv_use (pv_up h s) fun H2 s2 => pv_use (pv_up hk (s.trans s2)) fun H3 s3 => ix_t (SqT.of (s3 _ _ (s2 _ _ (s _ _ ht)))) e (q H3 (s2.trans s3))) hs
theorem tv_val (h : PV X e σ H (.bl x)) (he : ∀ whole, isTrue e X.env whole = (do let v ← whole; standAt e.pos; holding [v] (truthy v)) := by intro _; rfl) : TV X e σ H x :=
  tv_of fun H1 QT s q => t_val (pv_use (pv_up h s) fun H2 s2 => ⟨x, rfl, q H2 s2⟩) he
theorem tv_var {i : Nat} {n : Str} (I : In X N G sc := by assumption) (hA : At N i n := by repeat (first | with_reducible apply At.z | with_reducible apply At.s)) (hσ : σ[i]? = some (some (.bl x)) := by exact rfl) : TV X (.Name n pos) σ H x := tv_val (pv_var I hA hσ)
theorem tv_cmp {op : CmpOp} (h1 : PV X a σ H u) (h2 : PV X b σ H w) (hr : ∀ H1 (Q : VK), Same H H1 → Q (.bl x) H1 → wK X op u w H1 Q) (hm : behindInMarks op b = false := by first | exact nomark _ | rfl) : TV X (.Compare a [op] [b] pos) σ H x :=
  tv_of fun H1 QT s q => t_cmp (pv_use (pv_up h1 s) fun H2 s2 => pv_use (pv_up h2 (s.trans s2)) fun H3 s3 => hr H3 _ ((s.trans s2).trans s3) ⟨x, rfl, q H3 (s2.trans s3)⟩) hm
theorem pv_cmp {op : CmpOp} (h1 : PV X a σ H u) (h2 : PV X b σ H w) (hr : ∀ H1 (Q : VK), Same H H1 → Q (.bl x) H1 → wK X op u w H1 Q) (hm : behindInMarks op b = false := by first | exact nomark _ | rfl) : PV X (.Compare a [op] [b] pos) σ H (.bl x) :=
  pv_of fun H1 Q s q => e_cmp (pv_use (pv_up h1 s) fun H2 s2 => pv_use (pv_up h2 (s.trans s2)) fun H3 s3 => hr H3 _ ((s.trans s2).trans s3) (q H3 (s2.trans s3))) hm
section
variable {m n : Str} {i j : Int}
theorem tv_eqS (h1 : PV X a σ H (.str m)) (h2 : PV X b σ H (.str n)) : TV X (.Compare a [.Eq] [b] pos) σ H (decide (m = n)) := tv_cmp h1 h2 fun H1 Q _ q => o_eqS q
theorem tv_neS (h1 : PV X a σ H (.str m)) (h2 : PV X b σ H (.str n)) : TV X (.Compare a [.NotEq] [b] pos) σ H (!decide (m = n)) := tv_cmp h1 h2 fun H1 Q _ q => o_neS q
theorem tv_eqI (h1 : PV X a σ H (.int i)) (h2 : PV X b σ H (.int j)) : TV X (.Compare a [.Eq] [b] pos) σ H (decide (i = j)) := tv_cmp h1 h2 fun H1 Q _ q => o_eqI q
theorem tv_neI (h1 : PV X a σ H (.int i)) (h2 : PV X b σ H (.int j)) : TV X (.Compare a [.NotEq] [b] pos) σ H (!decide (i = j)) := tv_cmp h1 h2 fun H1 Q _ q => o_neI q
theorem tv_lt (h1 : PV X a σ H (.int i)) (h2 : PV X b σ H (.int j)) : TV X (.Compare a [.Lt] [b] pos) σ H (decide (i < j)) := tv_cmp h1 h2 fun H1 Q _ q => o_lt q
theorem tv_le (h1 : PV X a σ H (.int i)) (h2 : PV X b σ H (.int j)) : TV X (.Compare a [.LtE] [b] pos) σ H (decide (i ≤ j)) := tv_cmp h1 h2 fun H1 Q _ q => o_le q
theorem tv_gt (h1 : PV X a σ H (.int i)) (h2 : PV X b σ H (.int j)) : TV X (.Compare a [.Gt] [b] pos) σ H (decide (j < i)) := tv_cmp h1 h2 fun H1 Q _ q => o_gt q
theorem tv_ge (h1 : PV X a σ H (.int i)) (h2 : PV X b σ H (.int j)) : TV X (.Compare a [.GtE] [b] pos) σ H (decide (j ≤ i)) := tv_cmp h1 h2 fun H1 Q _ q => o_ge q
theorem tv_inS {k : Nat} (h1 : PV X a σ H (.str ⟨#[k]⟩)) (h2 : PV X b σ H (.str n)) (hm : behindInMarks .In b = false := by first | exact nomark _ | rfl) : TV X (.Compare a [.In] [b] pos) σ H (decide (k ∈ n.cps.toList)) := tv_cmp h1 h2 (fun H1 Q _ q => o_inS q) hm
theorem pv_inS {k : Nat} (h1 : PV X a σ H (.str ⟨#[k]⟩)) (h2 : PV X b σ H (.str n)) (hm : behindInMarks .In b = false := by first | exact nomark _ | rfl) : PV X (.Compare a [.In] [b] pos) σ H (.bl (decide (k ∈ n.cps.toList))) := pv_cmp h1 h2 (fun H1 Q _ q => o_inS q) hm
theorem inV_str (m : Str) : ∀ zs : List Str, inV (.str m) (zs.map V.str) = decide (m ∈ zs)
  | [] => rfl
  | z :: zs => by
    have ih := inV_str m zs
    unfold inV at ih ⊢
    rw [List.map_cons, List.any_cons, ih]
    have : eqV (.str z) (.str m) = decide (m = z) := by
      show (z == m) = _
      by_cases h : m = z
      · subst h; simp
      · rw [decide_eq_false h]; simp [Ne.symm h]
    rw [this]
    by_cases h1 : m = z <;> by_cases h2 : m ∈ zs <;> simp [h1, h2]
theorem flat_strs : ∀ zs : List Str, (zs.map V.str).all flatV = true
  | [] => rfl
  | z :: zs => by rw [List.map_cons, List.all_cons, flat_strs zs]; rfl
theorem consts_a : ∀ {es : List Expr} {zs : List Str} {QA : List V → Hp → Prop}, Paired IsC1 es zs → QA (zs.map V.str) H → wA X es σ H QA
  | _, _, _, .nil, q => a_nil q
  | _, _, _, .cons ⟨j, p, e⟩ h, q => by
    subst e
    exact a_cons (e_str (consts_a h q)) (by rfl)
theorem pc1 {z : Str} {j} {p : Pos} : IsC1 (.Constant (.str z) j p) z := ⟨j, p, rfl⟩
/-- m in (.., ..), texts -/
theorem tv_inT {zs : List Str} {k : Nat} {pt : Pos} (h1 : PV X a σ H (.str m)) (h2 : Paired IsC1 es zs) (hl : es.length ≤ 1000) (hm : behindInMarks .In (.Tuple es k pt) = false := by rfl) : TV X (.Compare a [.In] [.Tuple es k pt] pos) σ H (decide (m ∈ zs)) :=
  tv_of fun H1 QT s q => t_cmp (pv_use (pv_up h1 s) fun H2 s2 => e_tup (consts_a h2 ⟨by rw [List.length_map, ← h2.length]; show _ ≤ 2 ^ 24; omega, fun p H3 e3 _ h3 => o_inT (SqT.of h3) rfl (flat_strs zs) ⟨_, rfl, by rw [inV_str]; exact q H3 (s2.trans e3)⟩⟩)) hm
theorem tv_ninT {zs : List Str} {k : Nat} {pt : Pos} (h1 : PV X a σ H (.str m)) (h2 : Paired IsC1 es zs) (hl : es.length ≤ 1000) (hm : behindInMarks .NotIn (.Tuple es k pt) = false := by rfl) : TV X (.Compare a [.NotIn] [.Tuple es k pt] pos) σ H (!decide (m ∈ zs)) :=
  tv_of fun H1 QT s q => t_cmp (pv_use (pv_up h1 s) fun H2 s2 => e_tup (consts_a h2 ⟨by rw [List.length_map, ← h2.length]; show _ ≤ 2 ^ 24; omega, fun p H3 e3 _ h3 => k_of op_notIn_seq ⟨p, zs.map V.str, rfl, .inr (SqT.of h3), rfl, flat_strs zs, ⟨_, rfl, by rw [inV_str]; exact q H3 (s2.trans e3)⟩⟩⟩)) hm
end
theorem tw_and1 (h : TV X a σ H x) : TWV X (.BoolOp .And [a] pos) σ H x := by
  unfold TWV
  exact fun H1 QT s q => w_and1 (by unfold TV at h; exact h H1 QT s q)
theorem tw_or1 (h : TV X a σ H x) : TWV X (.BoolOp .Or [a] pos) σ H x := by
  unfold TWV
  exact fun H1 QT s q => w_or1 (by unfold TV at h; exact h H1 QT s q)
theorem tw_and (h : TV X a σ H x) (h2 : TWV X (.BoolOp .And (b :: rest) pos) σ H y) : TWV X (.BoolOp .And (a :: b :: rest) pos) σ H (x && y) := by
  unfold TWV at h2 ⊢
  unfold TV at h
  refine fun H1 QT s q => w_and (h H1 _ s fun H2 s2 => ?_)
  cases x with
  | true => exact iteT (h2 H2 QT (s.trans s2) fun H3 s3 => q H3 (s2.trans s3))
  | false => exact iteF (q H2 s2)
theorem tw_or (h : TV X a σ H x) (h2 : TWV X (.BoolOp .Or (b :: rest) pos) σ H y) : TWV X (.BoolOp .Or (a :: b :: rest) pos) σ H (x || y) := by
  unfold TWV at h2 ⊢
  unfold TV at h
  refine fun H1 QT s q => w_or (h H1 _ s fun H2 s2 => ?_)
  cases x with
  | true => exact iteT (q H2 s2)
  | false => exact iteF (h2 H2 QT (s.trans s2) fun H3 s3 => q H3 (s2.trans s3))
theorem tv_w {op : BoolOp} (h : TWV X (.BoolOp op es pos) σ H x) : TV X (.BoolOp op es pos) σ H x := by
  unfold TWV at h
  exact tv_of fun H1 QT s q => t_w (h H1 QT s q)
theorem tv_not (h : TV X a σ H x) : TV X (.UnaryOp .Not a pos) σ H (!x) := by
  unfold TV at h
  exact tv_of fun H1 QT s q => t_not (h H1 _ s q)
theorem tv_isN (h1 : PV X a σ H u) (h2 : PV X b σ H .non) : TV X (.Compare a [.Is] [b] pos) σ H (decide (u = .non)) := tv_cmp h1 h2 fun H1 Q _ q => o_isN q
/-- if c: A else: B -/
theorem s_ift {nx : L2.St → Hp → Prop} {rt : VK} {bk ct : L2.St → Hp → Prop} {A B : List Stmt} (h : TV X c σ H x) (q1 : x = true → ∀ H1, Same H H1 → wL X A ⟨nx, rt, bk, ct⟩ σ H1) (q2 : x = false → ∀ H1, Same H H1 → wL X B ⟨nx, rt, bk, ct⟩ σ H1) : wS X (.If c A B pos) ⟨nx, rt, bk, ct⟩ σ H :=
  s_if (tv_use h fun H1 s => by
    cases x with
    | true => exact iteT (q1 rfl H1 s)
    | false => exact iteF (q2 rfl H1 s))
end
end Wk

set_option maxHeartbeats 4000000
/-! My own layer: sorted with an own def as its key; the keys are tuples of a text and three numbers. -/
namespace Wk
open PySem PySem.Spec PyProof.Rows L2
/-- a key: a text and three numbers -/
abbrev K4 := Str × Int × Int × Int
def K4.d (k : K4) : PyData := .tuple [.str k.1, .int k.2.1, .int k.2.2.1, .int k.2.2.2]
def KeyV (H : Hp) (v : L2.V) (k : K4) : Prop := ∃ t, v = .ref t ∧ H t = some (.tup [.str k.1, .int k.2.1, .int k.2.2.1, .int k.2.2.2])
theorem KeyV.dp {K : PySem.W.Frag} {H : Hp} {v : L2.V} {k : K4} (h : KeyV H v k) : Dp K H v k.d := by
  obtain ⟨t, rfl, ht⟩ := h
  exact .tup (SqT.of ht) (.cons (.str _) (.cons (.int _) (.cons (.int _) (.cons (.int _) .nil))))
def leK (k : L2.V → K4) : L2.V → L2.V → Bool := PySem.W.dataLe false fun x => (k x).d
/-- the list that stands at p -/
def atL (p : Addr) (vs : List Value) (n : Nat) : Heap → Prop := fun h => h.get? p = some (seqObj "list" vs.toArray n)
section
variable {X : Cx} {pins : List (Addr × Obj)} {σ : L2.St} {H : Hp} {s : Shared}
theorem atL_ok {P : Program} {w : World} {H : Hp} {h : Heap} {p : Addr} {vs : List Value} {n : Nat} (e : h.get? p = some (seqObj "list" vs.toArray n)) : ObjOk P w H h p (.ext (atL p vs n)) := ⟨e, ⟨_, e⟩, fun _ _ a k => k _ a⟩
theorem Inv.atL {p : Addr} {vs : List Value} {n : Nat} (I : Inv X pins σ H s) (h : H p = some (.ext (atL p vs n))) : s.heap.get? p = some (seqObj "list" vs.toArray n) := (I.hok p _ h).1
theorem vals_each : ∀ {xs : List L2.V} {us : List Value}, Vals xs us → PySem.W.EachIs (fun u x => RelV x u) us xs
  | [], _, .nil => .nil
  | _ :: _, _, .cons h r => .cons h (vals_each r)
theorem each_vals : ∀ {us : List Value} {xs : List L2.V}, PySem.W.EachIs (fun u x => RelV x u) us xs → Vals xs us
  | _, _, .nil => .nil
  | _, _, .cons h r => .cons h (each_vals r)
theorem each_map {γ : Type} {R : Value → γ → Prop} (g : L2.V → γ) : ∀ {us : List Value} {xs : List L2.V}, PySem.W.EachIs (fun u x => R u (g x)) us xs → PySem.W.EachIs R us (xs.map g)
  | _, _, .nil => .nil
  | _, _, .cons h r => .cons h (each_map g r)
theorem get_at {us : List Value} {xs : List L2.V} (r : Vals xs us) {i : Nat} {u : Value} (h : us[i]? = some u) : ∃ x, xs[i]? = some x ∧ RelV x u := by
  induction r generalizing i with
  | nil => simp at h
  | cons a _ ih =>
    cases i with
    | zero => cases h; exact ⟨_, rfl, a⟩
    | succ i => exact ih h
theorem alike4 (a b : K4) : PySem.W.alike a.d b.d = true := rfl
theorem Inv.forget {a : Addr} {φ : Heap → Prop} (I : Inv X pins σ H s) (ha : H a = some (.ext φ)) (n0 : X.s_0.heap.get? a = none) (hx : X.ex = []) :
    ∃ G : Heap, (∀ b o, G.get? b = some o → s.heap.get? b = some o) ∧ G.get? a = none ∧ Inv X pins σ (delH H a) { s with heap := G } := by
  have ne : ∀ b o, X.s_0.heap.get? b = some o → b ≠ a := fun b o e z => by rw [z, n0] at e; cases e
  have I' : Inv { X with H_0 := delH X.H_0 a } pins σ H s := by
    obtain ⟨ok, os, bare, base, loc, cell, free, freeC, pin, hok, len⟩ := I
    obtain ⟨k1, k2, k3, k4, k5, k6, k7, k8, k9, k10, k11, k12, k13, k14, k15, k16, k17, k18⟩ := ok
    obtain ⟨u1, u2, u3, u4, u5, u6, u7⟩ := base
    have back : ∀ b u, delH X.H_0 a b = some u → X.H_0 b = some u ∧ b ≠ a := fun b u e => by
      by_cases hb : b = a
      · subst hb; rw [delH_same] at e; cases e
      · rw [delH_ne hb] at e; exact ⟨e, hb⟩
    have none' : ∀ b, X.H_0 b = none → delH X.H_0 a b = none := fun b e => by
      by_cases hb : b = a
      · subst hb; exact delH_same
      · rw [delH_ne hb]; exact e
    exact ⟨⟨k1, k2, k3, k4, k5, k6, k7, k8, k9, k10, k11, k12, fun b o e => ⟨(k13 b o e).1, none' b (k13 b o e).2⟩, k14, k15, k16, k17, fun b hb => none' b (k18 b hb)⟩, os, bare,
      ⟨fun b o e n => u1 b o e ((delH_ne (ne b o e)).symm.trans n), fun b o e n => u2 b o e ((delH_ne (ne b o e)).symm.trans n), fun b o e n => u3 b o e ((delH_ne (ne b o e)).symm.trans n), u4, fun b xs e => u5 b xs (back b _ e).1, fun b o u e => u6 b o u (back b _ e).1, fun b ps e => u7 b ps (back b _ e).1⟩,
      loc, cell, free, freeC, pin, hok, len⟩
  obtain ⟨G, g1, g2, IG⟩ := I'.untrack ha (fr0_none (show delH X.H_0 a a = none from delH_same)) hx
  refine ⟨G, g1, g2, ?_⟩
  have b0 := I.base
  obtain ⟨ok, os, bare, base, loc, cell, free, freeC, pin, hok, len⟩ := IG
  obtain ⟨u1, u2, u3, u4, u5, u6, u7⟩ := base
  refine ⟨I.ok, os, bare, ⟨fun b o e n => u1 b o e ((delH_ne (ne b o e)).trans n), fun b o e n => u2 b o e ((delH_ne (ne b o e)).trans n), fun b o e n => u3 b o e ((delH_ne (ne b o e)).trans n), u4, fun b xs e => ?_, fun b o u e => ?_, fun b ps e => ?_⟩, loc, cell, free, freeC, pin, hok, len⟩
  · refine u5 b xs ?_
    have : b ≠ a := fun z => by have := b0.tups b xs e; rw [z, ha] at this; cases this
    exact (delH_ne this).trans e
  · refine u6 b o u ?_
    have : b ≠ a := fun z => by have := b0.frzs b o u e; rw [z, ha] at this; cases this
    exact (delH_ne this).trans e
  · refine u7 b ps ?_
    have : b ≠ a := fun z => by obtain ⟨more, this⟩ := b0.tbls b ps e; rw [z, ha] at this; cases this
    exact (delH_ne this).trans e
theorem sortedF_run {n : Nat} {f : Addr} {fd : FuncData} {pr : Str} {sp : Sp} {a : Addr} {xs : List L2.V} {Q : VK} (F : FnOk X.prog X.w X.K X.mg X.base CX0 n f fd [pr] sp) (hb : Binds X.K fd [pr] []) (hr : Room (n + 2) X.A) (hx : X.ex = [])
    (I : Inv X pins σ H s) (hs : SqL X.K H a xs) (k : L2.V → K4)
    (turn : ∀ x ∈ xs, ∀ H1, Same H H1 → sp [x] H1 (fun v H2 => Same H1 H2 ∧ KeyV H2 v (k x)) E0)
    (q : ∀ p H2, Same H H2 → H p = none → H2 p = some (.lst (xs.mergeSort (leK k))) → Q (.ref p) H2) :
    wpAny (model X.prog X.w) X.A (call (.builtin "sorted") [.ref a] [(Str.ofString "key", .ref f)]) (EP X pins σ Q) X.xe s := by
  obtain ⟨its, rv, hl, hzl⟩ := I.list hs
  have hlen := rv.length
  have hp0 : H (s.heap.objs.size + 1) = none := I.hok.fresh (Nat.le_succ _)
  refine PySem.W.sorted_of_sort hl.isList (by rw [← hlen]; exact hzl) (PyProof.Rows.ksk_s1 _ _) (fun _ => PyProof.Rows.ksk_l1 _ _) fun E' => ?_
  rw [PyProof.Rows.ksk_t1]
  have hcp := PySem.W.copyHeap_at s.heap its
  have I1 : Inv X pins σ (upd H (s.heap.objs.size + 1) (.ext (atL (s.heap.objs.size + 1) its 0))) { s with heap := PySem.W.copyHeap s.heap its } := I.laid (t' := s.toks) (fun _ _ e => PySem.W.copyHeap_old e) (Nat.le_succ _) (atL_ok hcp)
  generalize s.heap.objs.size + 1 = p at hp0 hcp I1
  generalize PySem.W.copyHeap s.heap its = h1 at hcp I1
  have hHp : ∀ b o, H b = some o → b ≠ p := fun b o e z => by rw [z, hp0] at e; cases e
  unfold PyProof.Rows.ksk_tree
  refine wpAny_bind (listItems_at (xs := its.toArray) hcp rfl ?_)
  refine wpAny_bind (listUpdate_at hcp rfl ?_ (by rw [List.size_toArray, ← hlen]; exact hzl) (Nat.zero_le _))
  obtain ⟨e1, ho1⟩ : ∃ e1, (h1.update p (Obj.mapSeq fun _ => (#[] : Array Value))).get? p = some (seqObj "list" ([] : List Value).toArray e1) := ⟨_, get?_update_seq hcp fun _ => #[]⟩
  have I2 : Inv X pins σ (upd (upd H p (.ext (atL p its 0))) p (.ext (atL p [] e1))) { s with heap := h1.update p (Obj.mapSeq fun _ => (#[] : Array Value)) } :=
    I1.write (x := p) (e := p) (t' := s.toks) (by rw [upd_same]; trivial) (.inl rfl) (fun b u hb e => (Heap.get?_update_ne _ _ _ _ hb).trans e) ⟨_, ho1⟩ (atL_ok ho1)
  rw [upd_upd] at I2
  generalize h1.update p (Obj.mapSeq fun _ => (#[] : Array Value)) = h2 at ho1 I2
  refine wpAny_bind (seqEpoch_at ho1 rfl ?_)
  refine wpAny_bind (wpAny_newTuple ?_ (by show its.length ≤ _; rw [← hlen]; exact hzl))
  have I3 := I2.laid (t' := s.toks) (a := h2.objs.size) (o := .tup xs) (h' := h2.push { cls := .type "tuple", data := .seq its.toArray }) (fun b u e => Heap.get?_push_of_some _ e) (Nat.le_refl _) ⟨hzl, its, rv, ⟨_, Heap.get?_push_size _ rfl, rfl, _, rfl⟩⟩
  have nT : h2.objs.size ≠ p := Nat.ne_of_gt (Heap.lt_size ho1)
  have hT0 : H h2.objs.size = none := by have := I2.hok.fresh (Nat.le_refl _); rwa [upd_ne nT] at this
  refine wpAny_bind (wpAny_newList ?_ (Nat.zero_le _))
  have I4 := I3.laid (t' := s.toks) (a := (h2.push { cls := .type "tuple", data := .seq its.toArray }).objs.size) (o := .ext (atL (h2.push { cls := .type "tuple", data := .seq its.toArray }).objs.size [] 0)) (h' := (h2.push { cls := .type "tuple", data := .seq its.toArray }).push { cls := .type "list", data := .seq ([] : List Value).toArray }) (fun b u e => Heap.get?_push_of_some _ e) (Nat.le_refl _) (atL_ok (Heap.get?_push_size _ rfl))
  have hkS0 := I3.hok.fresh (Nat.le_refl _)
  have n0 : X.s_0.heap.get? (h2.push { cls := .type "tuple", data := .seq its.toArray }).objs.size = none := by
    cases e : X.s_0.heap.get? (h2.push { cls := .type "tuple", data := .seq its.toArray }).objs.size with
    | none => rfl
    | some o =>
      obtain ⟨o', e'⟩ := I3.base.there _ o e (by rw [hx]; exact fun z => nomatch z)
      exact absurd (Heap.lt_size e') (Nat.lt_irrefl _)
  generalize h2.objs.size = T at hT0 nT I3 I4 hkS0
  generalize (h2.push { cls := .type "tuple", data := .seq its.toArray }).objs.size = kS at I4 hkS0 n0
  generalize (h2.push { cls := .type "tuple", data := .seq its.toArray }).push { cls := .type "list", data := .seq ([] : List Value).toArray } = h4 at I4
  have nkT : kS ≠ T := fun e => by subst e; rw [upd_same] at hkS0; cases hkS0
  have nkp : kS ≠ p := fun e => by subst e; rw [upd_ne nT.symm, upd_same] at hkS0; cases hkS0
  have hk0 : H kS = none := by rwa [upd_ne nkT, upd_ne nkp] at hkS0
  refine wpAny_holding ?_
  generalize hHi : upd (upd (upd H p (.ext (atL p [] e1))) T (.tup xs)) kS (.ext (atL kS [] 0)) = H4 at I4
  have S4 : Same H H4 := fun b o e => by
    rw [← hHi, upd_ne (ne_of_none e hk0), upd_ne (ne_of_none e hT0), upd_ne (hHp b o e)]
    exact e
  have p4 : H4 p = some (.ext (atL p [] e1)) := by rw [← hHi, upd_ne nkp.symm, upd_ne nT.symm, upd_same]
  have k4 : H4 kS = some (.ext (atL kS [] 0)) := by rw [← hHi, upd_same]
  clear hHi hkS0 I3 I2 I1
  unfold PyProof.Rows.ksk_rest
  refine wpAny_bind (wpAny_rule ?_)
  first
    | rw [List.forIn_toArray]
    | (rw [← Array.forIn_toList]; simp only [List.toList_toArray])
  refine wpAny_bind (PyProof.Rows.ksk_fold (fun i s' => ∃ Hi kA e, Inv X pins σ Hi s' ∧ Same H Hi ∧ Hi p = some (.ext (atL p [] e1)) ∧ Hi kS = some (.ext (atL kS kA e)) ∧ PySem.W.EachIs (fun u x => ∃ y, RelV y u ∧ KeyV Hi y (k x)) kA (xs.take i)) its 0 _
    ⟨H4, [], 0, I4, S4, p4, k4, by rw [List.take_zero]; exact .nil⟩ ?step ?done)
  case step =>
    rintro j u s' hu ⟨Hi, kA, e, Ii, Si, pi, ki, ek⟩
    simp only [Nat.zero_add] at ek ⊢
    obtain ⟨x, hxj, rx⟩ := get_at rv hu
    have hm := List.mem_of_getElem? hxj
    have hjl := (List.getElem?_eq_some_iff.mp hxj).1
    have kl : kA.length ≤ xs.length := by
      have := ek.length
      rw [List.length_take] at this
      omega
    have ksz : kA.toArray.size ≤ sizeLine := by rw [List.size_toArray]; omega
    have run1 : wpAny (model X.prog X.w) X.A.in1.in1 (call (.ref f) [u]) (EP X pins σ fun v H2 => Same Hi H2 ∧ KeyV H2 v (k x)) (fun _ _ => False) s' := by
      refine wpAny_call (codeAny_mono (F.run X.A.in1.in1 X.stack s' Hi ⟨[u], []⟩ [u] [x] _ E0 hr.in1.in1 Ii.env0.in1.in1 (by have := hb s' [u] Ii.kIn rfl; simpa using this) (.cons rx .nil) (turn x hm Hi Si)) fun r s2 hq => ?_)
      cases r with
      | error e => exact hq
      | ok fl =>
        cases fl with
        | ret u => exact Ii.after hq
        | next => exact False.elim hq
        | brk => exact False.elim hq
        | cont => exact False.elim hq
    refine wpAny_bind (wpAny_attempt (wpAny_mono run1 (fun v s2 he => ?_) fun _ _ hF => hF.elim))
    obtain ⟨y, H2, I5, ry, S5, ky⟩ := he
    try dsimp only
    have k5 := S5 _ _ ki
    have hk5 := Inv.atL I5 k5
    obtain ⟨e2, he2⟩ : ∃ e2, (s2.heap.update kS (Obj.mapSeq (·.push v))).get? kS = some (seqObj "list" (kA ++ [v]).toArray e2) := ⟨_, by have := get?_update_seq hk5 (·.push v); simpa using this⟩
    refine wpAny_bind (listUpdate_at hk5 rfl ?_ ksz (Nat.le_trans (Nat.le_of_eq (Array.size_push ..)) (Nat.succ_le_succ ksz)))
    have I6 := I5.write (t' := s2.toks) (x := kS) (e := kS) (o := .ext (atL kS (kA ++ [v]) e2)) (h' := s2.heap.update kS (Obj.mapSeq (·.push v))) (by rw [k5]; trivial) (.inl rfl) (fun b o hb e => (Heap.get?_update_ne _ _ _ _ hb).trans e) ⟨_, he2⟩ (atL_ok he2)
    have up : ∀ {y' : L2.V} {kk : K4}, KeyV H2 y' kk → KeyV (upd H2 kS (.ext (atL kS (kA ++ [v]) e2))) y' kk := fun ⟨t, e1, e3⟩ => ⟨t, e1, by rw [upd_ne (fun z => by rw [z, k5] at e3; cases e3)]; exact e3⟩
    refine wpAny_pure ⟨rfl, _, kA ++ [v], e2, I6, fun b o hb' => by rw [upd_ne (ne_of_none hb' hk0)]; exact S5 _ _ (Si _ _ hb'), by rw [upd_ne nkp.symm]; exact S5 _ _ pi, upd_same, ?_⟩
    rw [List.take_add_one, hxj]
    refine PySem.W.each_snoc (R := fun u x => ∃ y, RelV y u ∧ KeyV (upd H2 kS (.ext (atL kS (kA ++ [v]) e2))) y (k x)) ⟨y, ry, up ky⟩ ?_
    exact ek.mono fun u x ⟨y', r', t, e1, e3⟩ => ⟨y', r', up ⟨t, e1, S5 _ _ e3⟩⟩
  case done =>
    rintro s' ⟨Hi, kA, e, Ii, Si, pi, ki, ek⟩
    have ek : PySem.W.EachIs (fun u x => ∃ y, RelV y u ∧ KeyV Hi y (k x)) kA xs := by
      rwa [Nat.zero_add, ← hlen, List.take_length] at ek
    have hki := Inv.atL Ii ki
    have hpi := Inv.atL Ii pi
    refine wpAny_bind (listItems_at hki rfl ?_)
    obtain ⟨G, g1, g2, IG⟩ := Inv.forget Ii ki n0 hx
    have hk' : PySem.W.EachIs (fun v d => ∃ as, Reads s'.heap v d as) kA (xs.map fun x => (k x).d) := by
      exact each_map (R := fun v d => ∃ as, Reads s'.heap v d as) (fun x => (k x).d) (ek.mono fun u x ⟨y, ry, hy⟩ => Dp.reads Ii _ _ _ hy.dp ry)
    have hal : PySem.W.AllAlike (xs.map fun x => (k x).d) := by
      intro d hd d' hd'
      obtain ⟨x, _, rfl⟩ := List.mem_map.mp hd
      obtain ⟨x', _, rfl⟩ := List.mem_map.mp hd'
      rfl
    have hso : PySem.W.Sortable (xs.map fun x => (k x).d) := .inl fun d hd => by
      obtain ⟨x, _, rfl⟩ := List.mem_map.mp hd
      exact ⟨_, _, rfl⟩
    have hun : ∀ d, d ∈ (xs.map fun x => (k x).d) → X.A.in1.in1.units + d.depth < cLine := fun d hd => by
      obtain ⟨x, _, rfl⟩ := List.mem_map.mp hd
      have h1 := (hr.in1.in1).units
      have h2 : (k x).d.depth ≤ 2 := by
        show PyData.depth (.tuple [.str _, .int _, .int _, .int _]) ≤ 2
        simp [PyData.depth, PyData.depthAll]
      omega
    have hsz : kA.toArray.size = its.length := by rw [List.size_toArray, ek.length, hlen]
    refine PySem.W.keyH_end (κ := PySem.W.dataKind s'.heap (xs.map fun x => (k x).d)) (h₁ := G) (a := p) (vs := its) (fun b o _ e => g1 b o e) g2 hki hpi nkp (PySem.W.SortsAt.data (by rw [List.toList_toArray]; exact hk') hal hso hun) hsz (by rw [← hlen]; exact hzl) fun h' tk c k3 n3 => ⟨rfl, ?_⟩
    rw [List.toList_toArray] at n3
    have ko : PySem.W.KeyedOut false (xs.map fun x => (k x).d) its (PySem.W.sortVals (PySem.W.dataKind s'.heap (xs.map fun x => (k x).d)) false kA its) := ⟨s'.heap, kA, hal, rfl, hk'⟩
    have vo := each_vals (PySem.W.keyedOut_each (fun x => (k x).d) ko (vals_each rv))
    have dp : delH Hi kS p = some (.ext (atL p [] e1)) := by rw [delH_ne nkp.symm]; exact pi
    have IF := IG.write (t' := tk) (x := p) (e := p) (o := .lst (xs.mergeSort (leK k))) (h' := h') (by rw [dp]; trivial) (.inl rfl) (fun b o hb e => k3 b o hb e) ⟨_, n3⟩ ⟨by rw [List.length_mergeSort]; exact hzl, _, c, vo, n3⟩
    refine ⟨.ref p, _, IF, rfl, q p _ (fun b o hb' => ?_) hp0 upd_same⟩
    rw [upd_ne (hHp b o hb'), delH_ne (ne_of_none hb' hk0)]
    exact Si _ _ hb'
end
section
variable {X : Cx} {e : Expr} {σ : L2.St} {H : Hp} {Q : VK} {pos p0 fp kp : Pos} {N G : List Str} {sc : Scope}
def rSortF (X : Cx) (f : Addr) (sp : Sp) : List L2.V → List L2.V → Hp → VK → Prop := fun vs zs H Q => ∃ (a : Addr) (xs : List L2.V) (k : L2.V → K4), vs = [.ref a] ∧ zs = [.ref f] ∧ SqL X.K H a xs ∧
  (∀ x ∈ xs, ∀ H1, Same H H1 → sp [x] H1 (fun v H2 => Same H1 H2 ∧ KeyV H2 v (k x)) E0) ∧ ∀ p H2, Same H H2 → H p = none → H2 p = some (.lst (xs.mergeSort (leK k))) → Q (.ref p) H2
theorem cr_sortF {n : Nat} {f : Addr} {fd : FuncData} {pr : Str} {sp : Sp} (F : FnOk X.prog X.w X.K X.mg X.base CX0 n f fd [pr] sp) (hb : Binds X.K fd [pr] []) (hr : Room (n + 2) X.A) (hx : X.ex = []) : CallRK X (.builtin "sorted") [Str.ofString "key"] (rSortF X f sp) := by
  intro pins s σ H vs zs us ws Q I r rz h
  obtain ⟨a, xs, k, rfl, rfl, hs, turn, q⟩ := h
  obtain rfl := Vals.ref1 r
  obtain rfl := Vals.ref1 rz
  exact sortedF_run F hb hr hx I hs k turn q
/-- sorted(e, key=f) -/
theorem e_sortF {g g2 : Nat} {n m : Nat} {x : Str} {sp : Sp} (hm : X.mg "sorted" = none) (F : Fn X.prog X.w X.K X.mg X.base n x sp) (hl : ∀ f fd ps, FnOk X.prog X.w X.K X.mg X.base CX0 n f fd ps sp → ∃ pr, ps = [pr]) (hr : Room m X.A) (hk : n + 2 ≤ m)
    (q : wE X e σ H fun v H1 => ∃ (a : Addr) (xs : List L2.V) (k : L2.V → K4), v = .ref a ∧ SqL X.K H1 a xs ∧ (∀ x ∈ xs, ∀ H2, Same H1 H2 → sp [x] H2 (fun v H3 => Same H2 H3 ∧ KeyV H3 v (k x)) E0) ∧ ∀ p H2, Same H1 H2 → H1 p = none → H2 p = some (.lst (xs.mergeSort (leK k))) → Q (.ref p) H2)
    (I : In X N G sc := by assumption) (hG : At G g ("sorted" : Str) := by repeat (first | with_reducible apply At.z | with_reducible apply At.s)) (hG2 : At G g2 x := by repeat (first | with_reducible apply At.z | with_reducible apply At.s)) (hx : X.ex = [] := by rfl)
    (he : backTo pos (starEach (e :: []) X.env) = (false, eval e X.env) :: backTo pos (starEach [] X.env) := by rfl) (hpl : (backTo pos (starEach (e :: []) X.env)).any (·.1) = false := by rfl)
    (hs : starEach (e :: []) X.env = (false, eval e X.env) :: starEach [] X.env := by rfl)
    (hall : (backToKw pos (keywordEach [⟨some (Str.ofString "key"), .Name x fp, kp⟩] X.env)).all (·.1.isSome) = true := by rfl) (hnone : (backToKw pos (keywordEach [⟨some (Str.ofString "key"), .Name x fp, kp⟩] X.env)).any (·.1.isNone) = false := by rfl) (hks : (backToKw pos (keywordEach [⟨some (Str.ofString "key"), .Name x fp, kp⟩] X.env)).filterMap (·.1) = [Str.ofString "key"] := by rfl) :
    wE X (.Call (.Name "sorted" p0) [e] [⟨some (Str.ofString "key"), .Name x fp, kp⟩] pos) σ H Q := by
  obtain ⟨f, fd, ps, F0, hmf, hkp, hb⟩ := F.ex
  obtain ⟨pr, rfl⟩ := hl f fd ps F0
  refine e_of (pe_callBK (cr_sortF F0 hb (hr.mono hk) hx) (I.g hG) hm (by decide +kernel) (pa_cons pe pa_nil hs) (pk_cons (pe_glob (v := .ref f) (I.g hG2) hmf rfl (I.gd hG2)) pk_nil) (by decide) (by decide) he hpl hall hnone hks) ?_
  refine e_mono q fun v H1 z => ?_
  obtain ⟨a, xs, k, rfl, h1, h2, h3⟩ := z
  exact ⟨a, xs, k, rfl, rfl, h1, h2, h3⟩
end
end Wk

set_option maxHeartbeats 4000000
/-! My own layer: several except clauses with names; loops over triples; comprehensions over a text and over triples. -/
namespace Wk
open PySem PySem.Spec PyProof.Rows L2
inductive HdsA (X : Cx) (D : Ends) : List ExceptHandler → WX → WX → Prop
  | nil {W : WX} : HdsA X D [] W W
  | cons {x n : Str} {c : Value} {i : Nat} {ts : Addr → Value → Option Addr → TS} {b₀ : Stmt} {suite : List Stmt} {np pos' : Pos} {hds : List ExceptHandler} {W Wout : WX} (hi : X.N[i]? = some n) (hln : X.env.kindOf n = some .local) (hc : Names X x c)
      (hsu : ∀ (a : Addr) (oe : Obj) (cls : Value) (d : Option Addr) (pn : List (Addr × Obj)), L2N.Zn cls d oe → (∃ vs, oe.data = .fields vs) → PSs (X.suite a ((a, oe) :: pn)) (b₀ :: suite) (ts a cls d)) (r : HdsA X D hds W Wout) :
      HdsA X D (.ExceptHandler (some (.Name x np)) (some n) (b₀ :: suite) pos' :: hds) (wAs X.K c i ts W D) Wout
end Wk
namespace L2N
open PySem PySem.Spec PyProof.Rows L2 Wk
section
variable {X : Cx} {body : List Stmt} {h₀ : ExceptHandler} {hds : List ExceptHandler} {pos : Pos} {tb : WX → TS} {Wout : WX}
theorem ps_try_manyA (hs : X.stack = X.env :: X.outer) (hf : X.env.frame = some X.env.locals) (hN : X.N.Nodup) (tk : Takes X Wout)
    (hb : ∀ (W : WX) (pn : List (Addr × Obj)) (xe : Value → Shared → Prop), Takes (X.tr pn xe) W → PassesOwn (model X.prog X.w) X.A X.env xe → PSs (X.tr pn xe) body (tb W))
    : PS X (.Try body (h₀ :: hds) [] [] pos) (fun D σ H => ∃ W, HdsA X D (h₀ :: hds) W Wout ∧ tb W D σ H) := by
  refine ⟨fun pins s σ H D I h => ?_⟩
  obtain ⟨W, hh, h⟩ := h
  have ok := I.ok
  have hfr : X.A.frames = some (X.env :: X.outer) := by rw [ok.frames, hs]
  refine wpAny_Try_except ?_
  refine wpAny_mono ((hb W (X.pn ++ pins) (fun e s₁ => wpAny (model X.prog X.w) X.A (noteFrame e X.env) (fun _ s₂ => wpAny (model X.prog X.w) X.A (setFlight e none) (fun _ s₃ =>
    wpAny (model X.prog X.w) X.A (handleBy e X.env (h₀ :: hds)) (SP X pins D) X.xe s₃) X.xe s₂) X.xe s₁) (fun u s' xx => ?_) PassesOwn.looking).run [] s σ H D (I.toTry _) h) (fun f s1 hsp => ?_) (fun e s1 he => he)
  · -- the catch
    obtain ⟨a, B, sI, pins', σ', H', cls, d, rfl, J', nb, up, sky, na, os, ag, w⟩ := xx
    have J : Inv X pins σ' H' sI := J'.ofTry ok
    have sky' : Sky B (X.env :: X.outer) a (Zn cls d) X.env.locals s'.heap := by rw [← hs]; exact sky
    show wpAny (model X.prog X.w) X.A (noteFrame (.ref a) X.env) _ _ _
    refine Sky.land Zn.steady hfr hf sky' fun h3 fl3 up3 => ?_
    have J3 : Inv X pins σ' H' { s' with heap := h3 } := J.landed nb fl3.1 (up.trans up3) os ag
    obtain ⟨oe3, vs3, he3, hz3, hd3⟩ := fl3.there
    have notFr : ∀ {h : Heap} {o : Obj} {vs : Array Value}, h.FunFrames B (X.env :: X.outer) → h.get? a = some o → o.data = .fields vs → a ∉ frs (X.env :: X.outer) := fun {h o vs} ff e dd hm => by
      obtain ⟨_, o', e', hnf⟩ := ff.mem hm
      rw [e] at e'; cases e'
      exact hnf _ dd
    have nfr := notFr fl3.2.2.1 he3 hd3
    have nL : a ≠ X.env.locals := fun z => nfr (List.mem_filterMap.mpr ⟨X.env, List.mem_cons_self, by rw [hf, z]⟩)
    have nF : a ∉ X.fs := fun hm => by
      obtain ⟨e, he, q⟩ := List.mem_filterMap.mp hm
      exact nfr (List.mem_filterMap.mpr ⟨e, List.mem_cons_of_mem _ he, q⟩)
    have S3 := J3.suite he3 hd3 na nL nF
    have go : ∀ {hds' : List ExceptHandler} {W' : WX}, HdsA X D hds' W' Wout → W' cls d σ' H' →
        wpAny (model X.prog X.w) X.A (handleBy (.ref a) X.env hds') (SP X pins D) X.xe { s' with heap := h3 } := by
      intro hds' W' hk
      generalize hWo : Wout = Wo at hk
      induction hk with
      | nil =>
        subst hWo
        intro w
        refine wpAny_handleBy_nil ?_
        obtain ⟨k1, k2, k3, oe, vs, T, oT, ts', he, hz, hd, h1, hr⟩ := id fl3
        unfold PySem.passOn
        refine wpAny_bind (wpAny_field he hd h1 ?_)
        rw [if_neg (show ¬ ((Value.ref T == Value.none) = true) from by simp)]
        have fin : wpAny (model X.prog X.w) X.A (setFlight (.ref a) X.env.frame) (fun _ s4 => wpAny (model X.prog X.w) X.A (throw (.ref a) : Sem Flow) (SP X pins D) X.xe s4) X.xe { s' with heap := h3 } := by
          rw [hf]
          refine HandSPX.setFlight_upZ fl3 fun h4 hh4 up4 => wpAny_throw (tk _ _ ?_)
          exact ⟨a, B, sI, pins, σ', H', cls, d, rfl, J, nb, (up.trans up3).trans up4, .inr (.inr (by rw [hs]; exact hh4)), na, os, ag, w⟩
        first
          | exact wpAny_bind (wpAny_pure (wpAny_bind fin))
          | exact wpAny_bind fin
      | @cons x n c i ts b₀ suite np pos' hds2 W2 Wo2 hi hln hc hsu r ih =>
        intro w
        have hloc : Loc X.env.scope n := .inl hln
        obtain ⟨b, hb1, hyes, hno⟩ := w
        refine wpAny_handleBy_cons (codeAny_handlers_test ?_) (by intro q; cases q)
        have LT : PySem.W.Looks (model X.prog X.w) h3 (typeOf (.ref a)) cls := fun A Q E s k q => wpAny_typeOf_ref (k _ _ he3) (by rw [hz3.1]; exact q)
        have LM := PySem.W.exm_one (M := model X.prog X.w) (J3.kIn) LT hb1
        have test : ∀ {Q : Value → Shared → Prop} {E : Value → Shared → Prop}, Q c { s' with heap := h3 } → wpAny (model X.prog X.w) (X.A.mark (some (.ref a))) (eval (.Name x np) X.env) Q E { s' with heap := h3 } := fun {Q E} q => by
          obtain ⟨hg, hdbg, hm | ⟨hm, hv, hnn⟩⟩ := hc
          · exact ld_glob (X := X.suite a ((a, oe3) :: (X.pn ++ pins))) S3 hg hm q hdbg
          · exact ld_blt (X := X.suite a ((a, oe3) :: (X.pn ++ pins))) S3 hg hm hv q hnn hdbg
        refine test (LM.here ?_)
        cases b with
        | true =>
          refine codeAny_handlers_suite_as ?_
          refine HandSPX.lands_againZ fl3 fun h4 fl4 up4 => ?_
          have J4 : Inv X pins σ' H' { s' with heap := h4 } := J.landed nb fl4.1 ((up.trans up3).trans up4) os ag
          obtain ⟨oe4, vs4, he4, hz4, hd4⟩ := fl4.there
          have S4 := J4.suite he4 hd4 na nL nF
          refine store_ok (X := X.suite a ((a, oe4) :: (X.pn ++ pins))) (v := .ref a) S4 hN hi hloc rfl (fun s5 S5 => ?_) (.inr hln)
          refine wpAny_mono ((hsu a oe4 cls d (X.pn ++ pins) hz4 ⟨_, hd4⟩).run [] s5 _ H' _ S5 (hyes rfl a na)) (fun f s6 hsp => ?_) (fun _ _ z => False.elim z)
          have end_ : ∀ {σ6 : St} {H6 : Hp} {Q : Shared → Prop}, Inv (X.suite a ((a, oe4) :: (X.pn ++ pins))) [] σ6 H6 s6 → (∀ s7, Inv X pins (σ6.set i none) H6 s7 → Q s7) →
              wpAny (model X.prog X.w) X.A (do bindName X.env n .none; unbindBehindTheSuite X.env n pos') (fun _ s7 => Q s7) X.xe s6 := fun {σ6 H6 Q} S6 hq => gone_ok (S6.unsuite ok) hN hi hln hq
          cases f with
          | next =>
            obtain ⟨σ6, H6, S6, q6⟩ := hsp
            exact end_ S6 fun s7 J7 => ⟨_, _, J7, q6⟩
          | brk =>
            obtain ⟨σ6, H6, S6, q6⟩ := hsp
            exact end_ S6 fun s7 J7 => ⟨_, _, J7, q6⟩
          | cont =>
            obtain ⟨σ6, H6, S6, q6⟩ := hsp
            exact end_ S6 fun s7 J7 => ⟨_, _, J7, q6⟩
          | ret u =>
            obtain ⟨v6, σ6, H6, S6, r6, q6⟩ := hsp
            exact end_ S6 fun s7 J7 => ⟨_, _, _, J7, r6, q6⟩
        | false =>
          show wpAny _ X.A (handleBy (.ref a) X.env hds2) _ _ _
          exact ih hWo (hno rfl)
    exact go hh w
  · cases f with
    | next =>
      obtain ⟨σ', H', J', q⟩ := hsp
      exact wpAny_execs_nil ⟨σ', H', J'.ofTry ok, q⟩
    | brk =>
      obtain ⟨σ', H', J', q⟩ := hsp
      exact ⟨σ', H', J'.ofTry ok, q⟩
    | cont =>
      obtain ⟨σ', H', J', q⟩ := hsp
      exact ⟨σ', H', J'.ofTry ok, q⟩
    | ret u =>
      obtain ⟨v, σ', H', J', r, q⟩ := hsp
      exact ⟨v, σ', H', J'.ofTry ok, r, q⟩
end
end L2N
namespace Wk
open PySem PySem.Spec PyProof.Rows L2
section
variable {X : Cx} {N G : List Str} {sc : Scope} {a e : Expr} {σ : L2.St} {H : Hp} {Q : VK} {pos : Pos}
/-- clauses, each `except C as n` with its suite -/
inductive HsA (X : Cx) (N G : List Str) (sc : Scope) (D : Ends) : List ExceptHandler → WX → WX → Prop
  | nil {W : WX} : HsA X N G sc D [] W W
  | cons {x n : Str} {c : Value} {i g : Nat} {b0 : Stmt} {suite : List Stmt} {np pos' : Pos} {hds : List ExceptHandler} {W Wout : WX} (hm : X.mg x = some c) (hA : At N i n) (hG : At G g x) (hln : X.env.kindOf n = some .local) (r : HsA X N G sc D hds W Wout) :
      HsA X N G sc D (.ExceptHandler (some (.Name x np)) (some n) (b0 :: suite) pos' :: hds) (wAs X.K c i (tsN X N G sc (b0 :: suite)) W D) Wout
theorem hsA_of {D : Ends} (I : In X N G sc) {hds : List ExceptHandler} {W Wout : WX} (h : HsA X N G sc D hds W Wout) : HdsA X D hds W Wout := by
  induction h with
  | nil => exact .nil
  | cons hm hA hG hln r ih =>
    exact .cons (I.hi hA) hln ⟨I.g hG, I.gd hG, .inl hm⟩ (fun a oe cls d pn hz hd => ⟨fun pins s σ H D Iv h => pl.run pins s σ H D Iv (h oe pn hz.zc hd I.suite (by
      obtain ⟨vs, hv⟩ := hd
      exact ⟨(a, oe), ⟨rfl, vs, hv, hz.2.2 vs hv⟩, List.mem_cons_self⟩))⟩) ih
theorem s_tryM {nx : L2.St → Hp → Prop} {rt : VK} {bk ct : L2.St → Hp → Prop} {body : List Stmt} {h0 : ExceptHandler} {hds : List ExceptHandler} {W Wout : WX} (tk : L2N.Takes X Wout) (hh : HsA X N G sc ⟨nx, rt, bk, ct⟩ (h0 :: hds) W Wout)
    (q : ∀ (pn : List (Addr × Obj)) (xe : Value → Shared → Prop), L2N.Takes (X.tr pn xe) W → In (X.tr pn xe) N G sc → wL (X.tr pn xe) body ⟨nx, rt, bk, ct⟩ σ H)
    (I : In X N G sc := by assumption) (hs : X.stack = X.env :: X.outer := by rfl) (hf : X.env.frame = some X.env.locals := by rfl) :
    wS X (.Try body (h0 :: hds) [] [] pos) ⟨nx, rt, bk, ct⟩ σ H :=
  s_of (L2N.ps_try_manyA (tb := fun W D σ H => ∀ (pn : List (Addr × Obj)) (xe : Value → Shared → Prop), L2N.Takes (X.tr pn xe) W → In (X.tr pn xe) N G sc → wL (X.tr pn xe) body D σ H) hs hf I.nd tk
    (fun W pn xe tk' po => ⟨fun pins s σ H D Iv h => pl.run pins s σ H D Iv (h pn xe tk' (I.tr po))⟩)) ⟨W, hsA_of I hh, q⟩
/-- for x, y, z in l, a list or a tuple of triples -/
theorem s_forQ3 (c : Side) {nx : L2.St → Hp → Prop} {rt : VK} {bk ct : L2.St → Hp → Prop} {x y z : Str} {i j k : Nat} {body : List Stmt} {px py pz pt : Pos} {kk : Nat}
    (q : wE X a σ H fun v H1 => ∃ (ad : Addr) (xs : List L2.V), v = .ref ad ∧ c.sq X.K H1 ad xs ∧ ∃ Pv : Nat → L2.St → Hp → Prop, Pv 0 σ H1 ∧ (∀ n σ H, n ≤ xs.length → Pv n σ H → c.sq X.K H ad xs) ∧
      (∀ n u σ H, xs[n]? = some u → Pv n σ H → ∃ t u1 u2 u3, u = .ref t ∧ SqT X.K H t [u1, u2, u3] ∧ wL X body ⟨Pv (n + 1), rt, nx, Pv (n + 1)⟩ (((σ.set i (some u1)).set j (some u2)).set k (some u3)) H) ∧ ∀ σ H, Pv xs.length σ H → nx σ H)
    (I : In X N G sc := by assumption) (hc : X.calm = true := by rfl) (hA : At N i x := by repeat (first | with_reducible apply At.z | with_reducible apply At.s)) (hB : At N j y := by repeat (first | with_reducible apply At.z | with_reducible apply At.s)) (hC : At N k z := by repeat (first | with_reducible apply At.z | with_reducible apply At.s))
    (hs2 : ∀ z, foldedSetIterable a X.env z = pure z := by intro _; rfl) :
    wS X (.For (.Tuple [.Name x px, .Name y py, .Name z pz] kk pt) a body [] pos) ⟨nx, rt, bk, ct⟩ σ H := by
  cases c with
  | l =>
    refine s_of (ps_for I.never hc (pi_list pe) (pg_tup hc (pgs_cons (pg_name I.nd (I.hi hA) (I.loc hA) I.f) (pgs_cons (pg_name I.nd (I.hi hB) (I.loc hB) I.f) (pgs_cons (pg_name I.nd (I.hi hC) (I.loc hC) I.f) pgs_nil)))) pl hs2) (e_mono q fun v H1 q1 => ?_)
    obtain ⟨ad, xs, rfl, hl, Pv, h0, hk, hb, hd⟩ := q1
    refine ⟨ad, rfl, ⟨xs, hl⟩, for_list Pv h0 hk (fun n u σ H hu p => ?_) hd⟩
    obtain ⟨t, u1, u2, u3, rfl, hq, z⟩ := hb n u σ H hu p
    exact ⟨t, [u1, u2, u3], rfl, hq, rfl, u1, [u2, u3], rfl, u2, [u3], rfl, u3, [], rfl, rfl, z⟩
  | t =>
    refine s_of (ps_for I.never hc (pi_tup pe) (pg_tup hc (pgs_cons (pg_name I.nd (I.hi hA) (I.loc hA) I.f) (pgs_cons (pg_name I.nd (I.hi hB) (I.loc hB) I.f) (pgs_cons (pg_name I.nd (I.hi hC) (I.loc hC) I.f) pgs_nil)))) pl hs2) (e_mono q fun v H1 q1 => ?_)
    obtain ⟨ad, xs, rfl, hl, Pv, h0, hk, hb, hd⟩ := q1
    refine ⟨ad, rfl, ⟨xs, hl⟩, for_tup Pv h0 hk (fun n u σ H hu p => ?_) hd⟩
    obtain ⟨t, u1, u2, u3, rfl, hq, z⟩ := hb n u σ H hu p
    exact ⟨t, [u1, u2, u3], rfl, hq, rfl, u1, [u2, u3], rfl, u2, [u3], rfl, u3, [], rfl, rfl, z⟩
theorem tru_t {K : PySem.W.Frag} {l : Addr} {xs : List L2.V} (h : H l = some (.tup xs)) : TruV K (.ref l) H (!xs.isEmpty) := .inr (.inl ⟨xs, SqT.of h, rfl⟩)
end
/-! ### a block with three own names -/
structure BkOk3 (N : List Str) (V : List (Nat × Str)) (G : List Str) (i j k : Nat) (x y z : Str) (sc scope : Scope) : Prop where
  lo : ∀ p ∈ V, N[p.1]? = some p.2 ∧ Vis (relS scope sc) p.2 ∧ (p.2 == ("__debug__" : Str)) = false ∧ (p.2 == ("__classdict__" : Str)) = false
  gl : ∀ x ∈ G, (relS scope sc).names.lookup x = some .globalImplicit ∧ (x == ("__debug__" : Str)) = false ∧ x ≠ "__name__"
  own : N[i]? = some x ∧ (relS scope sc).names.lookup x = some .local
  own2 : N[j]? = some y ∧ (relS scope sc).names.lookup y = some .local
  own3 : N[k]? = some z ∧ (relS scope sc).names.lookup z = some .local
  ne : i ≠ j ∧ i ≠ k ∧ j ≠ k
  blk : blkC N sc scope [(x, i), (y, j), (z, k)] = true
section
variable {X : Cx} {e a b c elt : Expr} {es rest : List Expr} {σ : L2.St} {H : Hp} {Q : VK} {pos p0 : Pos} {N G G' : List Str} {Vn : List (Nat × Str)} {sc scope : Scope}
theorem BkOk3.inB {i j k : Nat} {x y z : Str} (B : BkOk3 X.N Vn G' i j k x y z sc scope) (I : In X N G sc) (s : Shared) (H : Hp) (C : Addr) (cl : List (Str × Addr)) (fp : List Addr) : InB (Bk X s H scope C cl fp) Vn G' := by
  have e : (compEnvC scope cl C X.env).scope = relS scope sc := rel_eq I.sc C cl
  refine ⟨I.nd, fun p hp => ?_, fun y hy => ?_⟩
  · obtain ⟨h1, h2, h3, h4⟩ := B.lo p hp
    exact ⟨h1, by show Vis (compEnvC scope cl C X.env).scope p.2; rw [e]; exact h2, h3, h4⟩
  · obtain ⟨h1, h2, h3⟩ := B.gl y hy
    exact ⟨by show (compEnvC scope cl C X.env).scope.names.lookup y = _; rw [e]; exact h1, h2, h3⟩
def gT3 (K : PySem.W.Frag) (i j k : Nat) : TG := fun v σ H Q => ∃ a u w y, v = .ref a ∧ SqT K H a [u, w, y] ∧ Q (((σ.set i (some u)).set j (some w)).set k (some y)) H
theorem BkOk3.pg {i j k : Nat} {x y z : Str} {px py pz pt : Pos} {kk : Nat} (B : BkOk3 X.N Vn G' i j k x y z sc scope) (hc : X.calm = true) (I : In X N G sc) (s : Shared) (H : Hp) (C : Addr) (cl : List (Str × Addr)) (fp : List Addr) : PG (Bk X s H scope C cl fp) (.Tuple [.Name x px, .Name y py, .Name z pz] kk pt) (gT3 X.K i j k) := by
  have e : (compEnvC scope cl C X.env).scope = relS scope sc := rel_eq I.sc C cl
  have l : (Bk X s H scope C cl fp).env.scope.names.lookup x = some .local := by
    show (compEnvC scope cl C X.env).scope.names.lookup x = _
    rw [e]
    exact B.own.2
  have l2 : (Bk X s H scope C cl fp).env.scope.names.lookup y = some .local := by
    show (compEnvC scope cl C X.env).scope.names.lookup y = _
    rw [e]
    exact B.own2.2
  have l3 : (Bk X s H scope C cl fp).env.scope.names.lookup z = some .local := by
    show (compEnvC scope cl C X.env).scope.names.lookup z = _
    rw [e]
    exact B.own3.2
  refine ⟨fun pins s σ H v u Q I0 r h => ?_⟩
  obtain ⟨ad, u1, w1, y1, rfl, hq, q⟩ := h
  exact (pg_tup (X := Bk X _ _ scope C cl fp) hc (pgs_cons (pg_name I.nd B.own.1 (.inl l) (.inr l)) (pgs_cons (pg_name I.nd B.own2.1 (.inl l2) (.inr l2)) (pgs_cons (pg_name I.nd B.own3.1 (.inl l3) (.inr l3)) pgs_nil)))).run pins s σ H _ u Q I0 r ⟨ad, [u1, w1, y1], rfl, hq, rfl, u1, [w1, y1], rfl, w1, [y1], rfl, y1, [], rfl, rfl, q⟩
theorem BkOk3.ok {i j k : Nat} {x y z : Str} (B : BkOk3 X.N Vn G' i j k x y z sc scope) (I : In X N G sc) : BlkOk X.N X.env.scope scope [(x, i), (y, j), (z, k)] := by
  rw [I.sc]
  exact blkOk_by B.blk
theorem wipe3 (σ : L2.St) (i j k : Nat) : wipe σ [i, j, k] = ((σ.set k none).set j none).set i none := rfl
theorem wipe_set3 (σ : L2.St) {i j k : Nat} (h : i ≠ j ∧ i ≠ k ∧ j ≠ k) (u w y : L2.V) : wipe ((((wipe σ [i, j, k]).set i (some u)).set j (some w)).set k (some y)) [i, j, k] = wipe σ [i, j, k] := by
  obtain ⟨h1, h2, h3⟩ := h
  rw [wipe3, wipe3]
  apply List.ext_getElem?
  intro m
  by_cases e1 : i = m
  · subst e1
    simp [List.getElem?_set, h1.symm, h2.symm]
  · by_cases e2 : j = m
    · subst e2
      simp [List.getElem?_set, e1, h3.symm]
    · by_cases e3 : k = m
      · subst e3
        simp [List.getElem?_set, e1, e2]
      · simp [List.getElem?_set, e1, e2, e3]
/-- [elt for x, y, z in t], a tuple of triples -/
def LcT3 (X : Cx) (Vn : List (Nat × Str)) (G' : List Str) (elt : Expr) (scope : Scope) (i j k : Nat) (ad : Addr) (xs : List L2.V) (D : Addr) (σ : L2.St) (H1 : Hp) (Qd : Hp → Prop) : Prop := ∃ Pv : Nat → Hp → Prop, Pv 0 (upd H1 D (.lst [])) ∧ (∀ n H2, n ≤ xs.length → Pv n H2 → SqT X.K H2 ad xs) ∧
  (∀ n x H2, xs[n]? = some x → Pv n H2 → ∃ t u w y, x = .ref t ∧ SqT X.K H2 t [u, w, y] ∧ ∀ s0 H0 C cl fp, InB (Bk X s0 H0 scope C cl fp) Vn G' → wE (Bk X s0 H0 scope C cl fp) elt ((((wipe σ [i, j, k]).set i (some u)).set j (some w)).set k (some y)) H2 fun y H4 => ∃ acc, H4 D = some (.lst acc) ∧ acc.length < sizeLine ∧ Pv (n + 1) (upd H4 D (.lst (acc ++ [y])))) ∧
  ∀ H2, Pv xs.length H2 → Qd H2
theorem lcT3_of {i j k : Nat} (hij : i ≠ j ∧ i ≠ k ∧ j ≠ k) {ad : Addr} {xs : List L2.V} {D : Addr} {H1 : Hp} {Qd : Hp → Prop} (q : LcT3 X Vn G' elt scope i j k ad xs D σ H1 Qd) : ∃ W : Nat → Nat → Hp → Prop, (∃ m, W 0 m (upd H1 D (.lst []))) ∧ ∀ n m H, W n m H →
    ((Itt X.K ad).stop n H ∧ Qd H) ∨ ((Itt X.K ad).go n H ∧ ∃ Nx : Hp → Prop, (∀ H', Nx H' → ∃ m', m' < m ∧ W (n + 1) m' H') ∧ ∀ x H', (Itt X.K ad).yld n H x H' → gT3 X.K i j k x (wipe σ [i, j, k]) H' fun σ2 H2 => wipe σ2 [i, j, k] = wipe σ [i, j, k] ∧ tYes σ2 H2 fun b H3 =>
      if b = true then wBk X Vn G' elt scope σ2 H3 fun y H4 => ∃ acc, H4 D = some (.lst acc) ∧ acc.length < sizeLine ∧ Nx (upd H4 D (.lst (acc ++ [y]))) else Nx H3) := by
  obtain ⟨Pv, h0, hl, hs, hd⟩ := q
  refine lc_tup Pv h0 hl (fun n x H hk p => ?_) hd
  obtain ⟨t, u, w, y, rfl, hq, z⟩ := hs n x H hk p
  refine ⟨t, u, w, y, rfl, hq, wipe_set3 σ hij u w y, ?_⟩
  unfold tYes
  refine iteT ?_
  unfold wBk
  intro s0 H0 C cl fp I
  exact z s0 H0 C cl fp I
theorem e_lcT3 {i j k : Nat} {x y z : Str} {px py pz pt : Pos} {kt : Nat} (B : BkOk3 X.N Vn G' i j k x y z sc scope)
    (q : wE X a σ H fun v H1 => ∃ ad xs, v = .ref ad ∧ SqT X.K H1 ad xs ∧ ∀ D, H1 D = none → LcT3 X Vn G' elt scope i j k ad xs D σ H1 fun H2 => Q (.ref D) H2)
    (I : In X N G sc := by assumption) (hc : X.calm = true := by rfl) (hs2 : ∀ z, foldedSetIterable a X.env z = pure z := by intro _; rfl) :
    wE X (.ListComp elt [⟨.Tuple [.Name x px, .Name y py, .Name z pz] kt pt, a, [], 0⟩] scope pos) σ H Q := by
  refine e_of (pe_lc (own := [(x, i), (y, j), (z, k)]) (g := gT3 X.K i j k) (tt := tYes) (te := wBk X Vn G' elt scope) hc I.nd (pi_tup pe) (B.ok I) (fun s H C cl fp => B.pg hc I s H C cl fp) (fun _ _ _ _ _ => pts_nil) (fun s H C cl fp => pe_bk (B.inB I s H C cl fp)) hs2) (e_mono q fun v H1 q1 => ?_)
  obtain ⟨ad, xs, rfl, hl, q2⟩ := q1
  exact ⟨ad, rfl, ⟨xs, hl⟩, fun D hD => lcT3_of B.ne (q2 D hD)⟩
/-- n = [elt for x, y, z in t] -/
theorem s_lcT3 {nx : L2.St → Hp → Prop} {rt : VK} {bk ct : L2.St → Hp → Prop} {i j k m : Nat} {x y z n : Str} {px py pz pt pn spos : Pos} {kt : Nat} (B : BkOk3 X.N Vn G' i j k x y z sc scope)
    (q : wE X a σ H fun v H1 => ∃ ad xs, v = .ref ad ∧ SqT X.K H1 ad xs ∧ ∀ D, H1 D = none → LcT3 X Vn G' elt scope i j k ad xs D σ H1 fun H2 => nx (σ.set m (some (.ref D))) H2)
    (I : In X N G sc := by assumption) (hc : X.calm = true := by rfl) (hA : At N m n := by repeat (first | with_reducible apply At.z | with_reducible apply At.s))
    (hk : X.env.scope.kind = .function := by rfl) (hy : X.env.scope.names.lookup n = some .local := by rfl) (hl : (pn.line == pos.line) = true := by rfl) (ha : (scope.names.any fun (u, k) => u == n && (k == .local || k == .cell)) = false := by decide +kernel) (hs2 : ∀ z, foldedSetIterable a X.env z = pure z := by intro _; rfl) :
    wS X (.Assign [.Name n pn] (.ListComp elt [⟨.Tuple [.Name x px, .Name y py, .Name z pz] kt pt, a, [], 0⟩] scope pos) spos) ⟨nx, rt, bk, ct⟩ σ H := by
  refine s_of (ps_setLc (own := [(x, i), (y, j), (z, k)]) (g := gT3 X.K i j k) (tt := tYes) (te := wBk X Vn G' elt scope) hc I.nd (I.hi hA) hy (sw_true hk hy hl ha) (pi_tup pe) (B.ok I) (fun s H C cl fp => B.pg hc I s H C cl fp) (fun _ _ _ _ _ => pts_nil) (fun s H C cl fp => pe_bk (B.inB I s H C cl fp)) hs2) (e_mono q fun v H1 q1 => ?_)
  obtain ⟨ad, xs, rfl, hl, q2⟩ := q1
  exact ⟨ad, rfl, ⟨xs, hl⟩, fun D hD => lcT3_of B.ne (q2 D hD)⟩
/-- [elt for x in z if c], a text -/
def LcSf (X : Cx) (Vn : List (Nat × Str)) (G' : List Str) (elt c : Expr) (scope : Scope) (i : Nat) (z : Str) (D : Addr) (σ : L2.St) (H1 : Hp) (Qd : Hp → Prop) : Prop := ∃ Pv : Nat → Hp → Prop, Pv 0 (upd H1 D (.lst [])) ∧
  (∀ k x H2, z.cps[k]? = some x → Pv k H2 → Turn1 X Vn G' elt c scope i D σ (.str (sg x)) H2 (Pv (k + 1))) ∧ ∀ H2, Pv z.cps.size H2 → Qd H2
theorem e_lcSf {i : Nat} {x : Str} {px : Pos} (B : BkOk X.N Vn G' i x sc scope)
    (q : wE X a σ H fun v H1 => ∃ z : Str, v = .str z ∧ ∀ D, H1 D = none → LcSf X Vn G' elt c scope i z D σ H1 fun H2 => Q (.ref D) H2)
    (I : In X N G sc := by assumption) (hc : X.calm = true := by rfl) (hs2 : ∀ z, foldedSetIterable a X.env z = pure z := by intro _; rfl) :
    wE X (.ListComp elt [⟨.Name x px, a, [c], 0⟩] scope pos) σ H Q := by
  refine e_of (pe_lc (own := [(x, i)]) (g := gName i) (tt := wBkT X Vn G' c scope) (te := wBk X Vn G' elt scope) hc I.nd (pi_str pe) (B.ok I) (fun s H C cl fp => B.pg I s H C cl fp) (fun s H C cl fp => pts_bk (B.inB I s H C cl fp)) (fun s H C cl fp => pe_bk (B.inB I s H C cl fp)) hs2) (e_mono q fun v H1 q1 => ?_)
  obtain ⟨z, rfl, q2⟩ := q1
  refine ⟨z, rfl, fun D hD => ?_⟩
  obtain ⟨Pv, h0, hs, hd⟩ := q2 D hD
  refine ⟨fun k m H => m = z.cps.size - k ∧ k ≤ z.cps.size ∧ Pv k H, ⟨z.cps.size, by simp, Nat.zero_le _, h0⟩, ?_⟩
  rintro k m H ⟨rfl, hk, p⟩
  by_cases hlt : k < z.cps.size
  · refine .inr ⟨hlt, Pv (k + 1), fun H' p' => ⟨z.cps.size - (k + 1), by omega, rfl, hlt, p'⟩, fun y H' hy => ?_⟩
    obtain ⟨rfl, c, hc', rfl⟩ := hy
    exact turn1_of (hs k c _ hc' p)
  · have e : k = z.cps.size := by omega
    subst e
    exact .inl ⟨Nat.le_refl _, hd H p⟩
end
section
variable {P : Program} {w : World} {K : PySem.W.Frag} {mg : Str → Option Value} {base : Heap}
theorem fn_okNC {x : Str} {st : Stmt} {N C G ps : List Str} {k : Nat} {sp : Sp} (T : Top K mg x st) (S : FnScope (N ++ C) ps (defScope st)) (O : ScOk N G (defScope st)) (len : ∀ vs H Q E, sp vs H Q E → vs.length = ps.length)
    (hb : ∀ (kV doc pm : Value) (an : Option Addr) (cdv ct : Value) (us : List Value), us.length = ps.length → bindArgs (PySem.W.fnOf x x (defArgs st) (defBody st) (defScope st) .none kV doc pm an cdv ct) ⟨us, []⟩ = pure (ps.zip us))
    (hbody : ∀ (f : Addr) (cdv : Value) (A : Around) (outer : List Env) (s : Shared) (H : Hp) (vs : List V) (Q : VK) (E : XK), Room k (A.deeper (envOfC x (defScope st) s.heap.objs.size f cdv)) → sp vs H Q E → In (cxOf (L2N.CX P w) P w K mg base (N ++ C) x (defScope st) f cdv A outer s H E) N G (defScope st) →
      L2N.Takes (cxOf (L2N.CX P w) P w K mg base (N ++ C) x (defScope st) f cdv A outer s H E) (fun cls d _ H => E cls d H) →
      wL (cxOf (L2N.CX P w) P w K mg base (N ++ C) x (defScope st) f cdv A outer s H E) (defBody st) { nx := fun _ H' => Q .non H', rt := Q } (start (N ++ C) vs) H) : FnN P w K mg base (k + 1) x sp := by
  obtain ⟨f, fd, F, hm⟩ := T.ex
  obtain ⟨oc, od, kV, doc, pm, an, cdv, ct, osl, rfl, lk, hcd⟩ := id F.ex
  exact ⟨f, _, ps, fn_of lk hcd S len (fun A outer s H vs Q E hr h => ⟨_, pl, hbody f cdv A outer s H vs Q E hr h ⟨O, ⟨C, rfl⟩, S.nd, rfl, rfl, passes_of rfl⟩ (L2N.takes_of rfl rfl rfl rfl)⟩), hm, F.kp, F.binds hb⟩
end
end Wk

set_option maxHeartbeats 4000000
/-! My own layer: list(reversed(l)) of a list. -/
namespace Wk
open PySem PySem.Spec PyProof.Rows L2 RT
section
variable {prog : Program} {w : World} {A : Around} {E : Value → Shared → Prop} {s : Shared}
theorem list_rev {it l : Addr} {items : Array Value} {Q : Value → Shared → Prop} (hh : A.handled = none) (hit : s.heap.IsRevIter it l ((items.size : Int) - 1)) (hl : s.heap.IsList l items) (hne : l ≠ it) (hn : items.size ≤ sizeLine)
    (hQ : ∀ (h' : Heap) (tk : Nat) (acc : Array Value) (c : Nat), (∀ b o, b ≠ it → s.heap.get? b = some o → h'.get? b = some o) → h'.get? s.heap.objs.size = some { cls := .type "list", dict := none, data := .seq acc c, slots := #[] } →
      ItemsOf (fun i v => items[items.size - 1 - i]? = some v) acc items.size → Q (.ref s.heap.objs.size) { s with heap := h', toks := tk }) :
    wpAny (model prog w) A (call (.type "list") [.ref it]) Q E s := by
  refine callType_codes (Q₁ := fun ob t => ob = .ref s.heap.objs.size ∧ t = { s with heap := s.heap.push { cls := .type "list", data := .seq #[] } }) F.called_list (F.typeCall_list_1 _) F.entry_list_init (code_list_new _ ⟨rfl, rfl⟩) fun ob t h => ?_
  obtain ⟨rfl, rfl⟩ := h
  have W := (Walks.listRev (prog := prog) (w := w) (A := A.in1.in1) hh it l hne items).toS
  have hS : (s.heap.push { cls := .type "list", data := .seq #[] }).get? s.heap.objs.size = some { cls := .type "list", data := .seq #[] } := Heap.get?_push_size _ rfl
  obtain ⟨oi, hoi, _⟩ := id hit
  obtain ⟨ol, hol, _⟩ := id hl
  have hSi : s.heap.objs.size ≠ it := Nat.ne_of_gt (Heap.lt_size hoi)
  have hSl : s.heap.objs.size ≠ l := Nat.ne_of_gt (Heap.lt_size hol)
  have hSf : s.heap.objs.size ∉ [it, l] := by simp only [List.mem_cons, List.not_mem_nil, or_false, not_or]; exact ⟨hSi, hSl⟩
  refine ⟨⟨_, hS, rfl⟩, F.args_list_init_2 _ _, ?_⟩
  show wpAny _ A.in1.in1 (do let old ← Builtin.List.listItems (.ref s.heap.objs.size); Builtin.List.listUpdate (.ref s.heap.objs.size) (fun _ => #[]); letGo old.toList.reverse; Builtin.List.listExtendWith (.ref s.heap.objs.size) (.ref it) .none) _ _ _
  refine wpAny_bind ?_
  unfold Builtin.List.listItems
  refine wpAny_bind (wpAny_seqItems hS rfl (wpAny_pure ?_))
  show wpAny _ A.in1.in1 (updateSeq s.heap.objs.size (fun _ => #[]) >>= fun _ => letGo (#[] : Array Value).toList.reverse >>= fun _ => Builtin.List.listExtendWith (.ref s.heap.objs.size) (.ref it) .none) _ _ _
  refine wpAny_bind (wpAny_updateSeq hS rfl ?_)
  have hS2 := Heap.get?_update_self (Obj.mapSeq (fun _ => (#[] : Array Value))) hS rfl
  refine wpAny_bind (wpAny_letGo ?_)
  have k2 : ∀ b o, s.heap.get? b = some o → ((s.heap.push { cls := .type "list", data := .seq #[] }).update s.heap.objs.size (Obj.mapSeq (fun _ => (#[] : Array Value)))).get? b = some o := fun b o e => (Heap.get?_update_other _ _ (Ne.symm (Nat.ne_of_lt (Heap.lt_size e)))).trans (Heap.get?_push_of_some _ e)
  generalize (s.heap.push { cls := .type "list", data := .seq #[] }).update s.heap.objs.size (Obj.mapSeq (fun _ => (#[] : Array Value))) = h2 at hS2 k2
  have hit1 : h2.IsRevIter it l ((items.size : Int) - 1) := hit.at fun o e => k2 _ o e
  have hl1 : h2.IsList l items := let ⟨o, e, r⟩ := hl; ⟨o, k2 _ o e, r⟩
  have hT : ({ s with heap := h2 } : Shared).TypeIs (.ref it) "list_reverseiterator" := Heap.IsRevIter.typeIs (s := { s with heap := h2 }) hit1
  unfold Builtin.List.listExtendWith
  refine wpAny_bind (wpAny_typeOf hT ?_)
  have e1 : Builtin.List.listSameRef (.ref s.heap.objs.size) (.ref it) = false := by simp [Builtin.List.listSameRef, hSi]
  have e2 : (Value.type "list_reverseiterator" == Value.type "list") = false := by decide
  have e3 : (Value.type "list_reverseiterator" == Value.type "tuple") = false := by decide
  simp only [e1, e2, e3, Bool.or_false, Bool.false_eq_true, if_false]
  refine wpAny_bind (wpAny_pyIter_revIter (s := { s with heap := h2 }) hit1 ?_)
  refine wpAny_bind (wpAny_holding ?_)
  unfold Builtin.List.listLengthHint
  refine wpAny_bind (wpAny_specialOf hT nolen_lri ?_)
  show wpAny _ A.in1.in1 (specialOf (Value.ref it) (Str.ofString "__length_hint__") >>= _) _ _ _
  refine wpAny_bind (wpAny_specialOf hT hint_lri ?_)
  generalize hid : ("list_reverseiterator.__length_hint__" : String) = id0
  wp_delta
  rw [show splitId id0 = some ("list_reverseiterator", "__length_hint__") from by subst hid; decide +kernel]
  subst hid
  refine wpAny_bind (wpAny_isInstance (b := true) hT (by rw [isSubtype_type]; kernel_rfl) ?_)
  refine wpAny_pure ?_
  rw [if_neg (by decide)]
  have e0 : ((items.size : Nat) : Int) - 1 - ((0 : Nat) : Int) = (items.size : Int) - 1 := by omega
  refine wpAny_pure ⟨plainId_quiet F.plain_extend_loop _, codeAny_extend_loopS W hn _ hSf _ items.size 0 _ _ _ rfl (Nat.zero_le _) ⟨Nat.zero_le _, by rw [e0]; exact hit1, hl1⟩ hS2 (ItemsOf.nil _) fun s' acc' c' hm hS' hacc => ?_⟩
  refine ⟨rfl, ?_⟩
  rw [Moved.eq_with hm]
  refine hQ s'.heap s'.toks acc' c' (fun b o hb e => hm.heap b o (fun hmem => ?_) (k2 _ _ e)) hS' hacc
  rcases List.mem_cons.mp hmem with e' | hmem
  · exact absurd (Heap.lt_size e) (by rw [e']; exact Nat.lt_irrefl _)
  · exact hb (List.mem_singleton.mp hmem)
end
def tListRev (K : PySem.W.Frag) (te : TE) : TE := fun σ H Q => te σ H fun v H1 => ∃ (a : Addr) (xs : List V), v = .ref a ∧ SqL K H1 a xs ∧ ∀ q, H1 q = none → Q (.ref q) (upd H1 q (.lst xs.reverse))
section
variable {X : Cx}
theorem pe_listRev {e : Expr} {te : TE} {p p2 pos pos2 : Pos} (hc : X.calm = true) (hg : Gl X "list") (hm : X.mg "list" = none) (hg2 : Gl X "reversed") (hm2 : X.mg "reversed" = none) (he : PE X e te)
    (hs : starEach [e] X.env = (false, eval e X.env) :: starEach [] X.env := by rfl)
    (hs2 : starEach [.Call (.Name "reversed" p2) [e] [] pos2] X.env = (false, eval (.Call (.Name "reversed" p2) [e] [] pos2) X.env) :: starEach [] X.env := by rfl) :
    PE X (.Call (.Name "list" p) [.Call (.Name "reversed" p2) [e] [] pos2] [] pos) (tListRev X.K te) := by
  refine ⟨fun pins s σ H Q I h => ?_⟩
  refine Call_ (ld_blt I hg hm b_list (PyProof.Rows.callWith_type1 (args_cons (Call_ (ld_blt I hg2 hm2 PyProof.Rows.boot_reversed (PyProof.Rows.callWith_type1 (args_cons (thn (he.run pins s σ H _ I h) fun u s1 ⟨v, H1, I1, r1, q1⟩ => args_nil ?_) hs) hs rfl))) hs2) hs2 rfl))
  obtain ⟨a, xs, ev, hq, q⟩ := q1
  subst ev
  obtain rfl : u = Value.ref a := r1
  obtain ⟨its, rv, p', hz⟩ := I1.list hq
  refine call_reversed_list p'.isList (args_nil ?_)
  have k0 : ∀ b o, s1.heap.get? b = some o → (s1.heap.push (revObj a ((its.toArray.size : Int) - 1))).get? b = some o := fun b o e => Heap.get?_push_of_some _ e
  have I2 : Inv X pins σ H1 { s1 with heap := s1.heap.push (revObj a ((its.toArray.size : Int) - 1)) } := I1.kept (t' := s1.toks) k0
  obtain ⟨f0, f1, f2, f3, f4, f5⟩ := I1.fpOk (H' := H1) (b := s1.heap.objs.size) (Nat.le_refl _) (I1.hok.fresh (Nat.le_refl _))
  have hl := p'.isList
  obtain ⟨ol, hol, _⟩ := id hl
  have hne : a ≠ s1.heap.objs.size := Nat.ne_of_lt (Heap.lt_size hol)
  have hn : its.toArray.size ≤ sizeLine := by rw [List.size_toArray, ← rv.length]; exact hz
  have hsz : (s1.heap.push (revObj a ((its.toArray.size : Int) - 1))).objs.size = s1.heap.objs.size + 1 := Heap.size_push ..
  refine list_rev (s := { s1 with heap := s1.heap.push (revObj a ((its.toArray.size : Int) - 1)) }) (I1.ok.hd hc) ⟨_, Heap.get?_push_size _ rfl, rfl, rfl⟩ (hl.push _) hne hn fun h' tk acc c hk hS hi => ?_
  have le1 : s1.heap.objs.size ≤ (s1.heap.push (revObj a ((its.toArray.size : Int) - 1))).objs.size := by rw [hsz]; exact Nat.le_succ _
  generalize (s1.heap.push (revObj a ((its.toArray.size : Int) - 1))).objs.size = n at hS le1
  have I3 := I1.laid (t' := tk) (a := n) (o := .lst xs.reverse) (h' := h') (fun b o e => hk b o (Nat.ne_of_lt (Heap.lt_size e)) (k0 b o e)) le1 (show ObjOk X.prog X.w _ _ _ (.lst xs.reverse) from ⟨by rw [List.length_reverse]; exact hz, acc.toList, c, vals_rev rv hi, by rw [Array.toArray_toList]; exact hS⟩)
  exact ⟨.ref n, _, I3, rfl, q _ (I1.hok.fresh le1)⟩
end
section
variable {X : Cx} {N G : List Str} {sc : Scope} {e : Expr} {σ : L2.St} {H : Hp} {Q : VK} {pos : Pos}
/-- list(reversed(e)), e a list -/
theorem e_listRev {g1 g2 : Nat} {p p2 pos2 : Pos} (hm : X.mg "list" = none) (hm2 : X.mg "reversed" = none) (q : wE X e σ H fun v H1 => ∃ (a : Addr) (xs : List L2.V), v = .ref a ∧ SqL X.K H1 a xs ∧ ∀ q H2, Same H1 H2 → H1 q = none → H2 q = some (.lst xs.reverse) → Q (.ref q) H2)
    (I : In X N G sc := by assumption) (hc : X.calm = true := by rfl) (hG : At G g1 ("list" : Str) := by repeat (first | with_reducible apply At.z | with_reducible apply At.s)) (hG2 : At G g2 ("reversed" : Str) := by repeat (first | with_reducible apply At.z | with_reducible apply At.s))
    (hs : starEach [e] X.env = (false, eval e X.env) :: starEach [] X.env := by rfl) (hs2 : starEach [.Call (.Name "reversed" p2) [e] [] pos2] X.env = (false, eval (.Call (.Name "reversed" p2) [e] [] pos2) X.env) :: starEach [] X.env := by rfl) :
    wE X (.Call (.Name "list" p) [.Call (.Name "reversed" p2) [e] [] pos2] [] pos) σ H Q :=
  e_of (pe_listRev hc (I.g hG) hm (I.g hG2) hm2 pe hs hs2) (e_mono q fun v H1 ⟨a, xs, ev, hq, z⟩ => ⟨a, xs, ev, hq, fun l np => z l _ (fun b o eo => by rw [upd_ne (ne_of_none eo np)]; exact eo) np upd_same⟩)
end
end Wk

set_option maxHeartbeats 4000000
namespace K03
open PySem PySem.Spec PyProof.Rows L2 Wk
def topS (i : Nat) : Stmt := PySem.Challenge.pw_heldproofs_k03_claims_made.main.body.getD i (.Pass ⟨0, 0, 0, 0⟩)
abbrev s_BadName___init : Stmt := inClass (topS 2) 0
abbrev N_BadName___init : List Str := ["self", "name"]
abbrev P_BadName___init : List Str := ["self", "name"]
abbrev G_BadName___init : List Str := []
theorem so_BadName___init : ScOk N_BadName___init G_BadName___init (defScope s_BadName___init) := ⟨by decide +kernel, by decide +kernel, by decide +kernel⟩
theorem sc_BadName___init : FnScope N_BadName___init P_BadName___init (defScope s_BadName___init) := ⟨rfl, rfl, rfl, by decide +kernel, rfl, by decide +kernel, by decide +kernel⟩
abbrev s_NameTaken___init : Stmt := inClass (topS 3) 0
abbrev N_NameTaken___init : List Str := ["self", "name"]
abbrev P_NameTaken___init : List Str := ["self", "name"]
abbrev G_NameTaken___init : List Str := []
theorem so_NameTaken___init : ScOk N_NameTaken___init G_NameTaken___init (defScope s_NameTaken___init) := ⟨by decide +kernel, by decide +kernel, by decide +kernel⟩
theorem sc_NameTaken___init : FnScope N_NameTaken___init P_NameTaken___init (defScope s_NameTaken___init) := ⟨rfl, rfl, rfl, by decide +kernel, rfl, by decide +kernel, by decide +kernel⟩
abbrev s_UnknownName___init : Stmt := inClass (topS 4) 0
abbrev N_UnknownName___init : List Str := ["self", "name"]
abbrev P_UnknownName___init : List Str := ["self", "name"]
abbrev G_UnknownName___init : List Str := []
theorem so_UnknownName___init : ScOk N_UnknownName___init G_UnknownName___init (defScope s_UnknownName___init) := ⟨by decide +kernel, by decide +kernel, by decide +kernel⟩
theorem sc_UnknownName___init : FnScope N_UnknownName___init P_UnknownName___init (defScope s_UnknownName___init) := ⟨rfl, rfl, rfl, by decide +kernel, rfl, by decide +kernel, by decide +kernel⟩
abbrev s_BadKind___init : Stmt := inClass (topS 5) 0
abbrev N_BadKind___init : List Str := ["self", "kind"]
abbrev P_BadKind___init : List Str := ["self", "kind"]
abbrev G_BadKind___init : List Str := []
theorem so_BadKind___init : ScOk N_BadKind___init G_BadKind___init (defScope s_BadKind___init) := ⟨by decide +kernel, by decide +kernel, by decide +kernel⟩
theorem sc_BadKind___init : FnScope N_BadKind___init P_BadKind___init (defScope s_BadKind___init) := ⟨rfl, rfl, rfl, by decide +kernel, rfl, by decide +kernel, by decide +kernel⟩
abbrev s_is_number_from : Stmt := topS 7
abbrev N_is_number_from : List Str := ["value", "least"]
abbrev P_is_number_from : List Str := ["value", "least"]
abbrev G_is_number_from : List Str := ["isinstance", "int", "bool"]
theorem so_is_number_from : ScOk N_is_number_from G_is_number_from (defScope s_is_number_from) := ⟨by decide +kernel, by decide +kernel, by decide +kernel⟩
theorem sc_is_number_from : FnScope N_is_number_from P_is_number_from (defScope s_is_number_from) := ⟨rfl, rfl, rfl, by decide +kernel, rfl, by decide +kernel, by decide +kernel⟩
abbrev s_is_kind : Stmt := topS 8
abbrev N_is_kind : List Str := ["value"]
abbrev P_is_kind : List Str := ["value"]
abbrev G_is_kind : List Str := ["isinstance", "tuple", "len", "is_number_from", "str"]
theorem so_is_kind : ScOk N_is_kind G_is_kind (defScope s_is_kind) := ⟨by decide +kernel, by decide +kernel, by decide +kernel⟩
theorem sc_is_kind : FnScope N_is_kind P_is_kind (defScope s_is_kind) := ⟨rfl, rfl, rfl, by decide +kernel, rfl, by decide +kernel, by decide +kernel⟩
abbrev s_is_letter : Stmt := topS 11
abbrev N_is_letter : List Str := ["char"]
abbrev P_is_letter : List Str := ["char"]
abbrev G_is_letter : List Str := []
theorem so_is_letter : ScOk N_is_letter G_is_letter (defScope s_is_letter) := ⟨by decide +kernel, by decide +kernel, by decide +kernel⟩
theorem sc_is_letter : FnScope N_is_letter P_is_letter (defScope s_is_letter) := ⟨rfl, rfl, rfl, by decide +kernel, rfl, by decide +kernel, by decide +kernel⟩
abbrev s_is_digit : Stmt := topS 12
abbrev N_is_digit : List Str := ["char"]
abbrev P_is_digit : List Str := ["char"]
abbrev G_is_digit : List Str := []
theorem so_is_digit : ScOk N_is_digit G_is_digit (defScope s_is_digit) := ⟨by decide +kernel, by decide +kernel, by decide +kernel⟩
theorem sc_is_digit : FnScope N_is_digit P_is_digit (defScope s_is_digit) := ⟨rfl, rfl, rfl, by decide +kernel, rfl, by decide +kernel, by decide +kernel⟩
abbrev s_is_name : Stmt := topS 13
abbrev N_is_name : List Str := ["text", "char"]
abbrev P_is_name : List Str := ["text"]
abbrev G_is_name : List Str := ["len", "NAME_LENGTH", "is_letter", "is_digit"]
theorem so_is_name : ScOk N_is_name G_is_name (defScope s_is_name) := ⟨by decide +kernel, by decide +kernel, by decide +kernel⟩
theorem sc_is_name : FnScope N_is_name P_is_name (defScope s_is_name) := ⟨rfl, rfl, rfl, by decide +kernel, rfl, by decide +kernel, by decide +kernel⟩
abbrev s_format_kind : Stmt := topS 15
abbrev N_format_kind : List Str := ["kind"]
abbrev P_format_kind : List Str := ["kind"]
abbrev G_format_kind : List Str := []
theorem so_format_kind : ScOk N_format_kind G_format_kind (defScope s_format_kind) := ⟨by decide +kernel, by decide +kernel, by decide +kernel⟩
theorem sc_format_kind : FnScope N_format_kind P_format_kind (defScope s_format_kind) := ⟨rfl, rfl, rfl, by decide +kernel, rfl, by decide +kernel, by decide +kernel⟩
abbrev s_format_sentence : Stmt := topS 17
abbrev N_format_sentence : List Str := ["sentence", "left", "right", "price", "goods"]
abbrev P_format_sentence : List Str := ["sentence"]
abbrev G_format_sentence : List Str := ["enclosed", "format_sentence", "format_kind"]
theorem so_format_sentence : ScOk N_format_sentence G_format_sentence (defScope s_format_sentence) := ⟨by decide +kernel, by decide +kernel, by decide +kernel⟩
theorem sc_format_sentence : FnScope N_format_sentence P_format_sentence (defScope s_format_sentence) := ⟨rfl, rfl, rfl, by decide +kernel, rfl, by decide +kernel, by decide +kernel⟩
abbrev s_enclosed : Stmt := topS 18
abbrev N_enclosed : List Str := ["text", "needed"]
abbrev P_enclosed : List Str := ["text", "needed"]
abbrev G_enclosed : List Str := []
theorem so_enclosed : ScOk N_enclosed G_enclosed (defScope s_enclosed) := ⟨by decide +kernel, by decide +kernel, by decide +kernel⟩
theorem sc_enclosed : FnScope N_enclosed P_enclosed (defScope s_enclosed) := ⟨rfl, rfl, rfl, by decide +kernel, rfl, by decide +kernel, by decide +kernel⟩
abbrev s_make_claim : Stmt := topS 20
abbrev N_make_claim : List Str := ["holds", "goal", "made", "taken", "name", "kind", "sentence"]
abbrev P_make_claim : List Str := ["holds", "goal"]
abbrev G_make_claim : List Str := ["is_name", "BadName", "is_kind", "BadKind", "NameTaken", "tuple"]
theorem so_make_claim : ScOk N_make_claim G_make_claim (defScope s_make_claim) := ⟨by decide +kernel, by decide +kernel, by decide +kernel⟩
theorem sc_make_claim : FnScope N_make_claim P_make_claim (defScope s_make_claim) := ⟨rfl, rfl, rfl, by decide +kernel, rfl, by decide +kernel, by decide +kernel⟩
abbrev s_hold_of : Stmt := topS 21
abbrev N_hold_of : List Str := ["claim", "name", "held", "kind", "sentence"]
abbrev P_hold_of : List Str := ["claim", "name"]
abbrev G_hold_of : List Str := ["UnknownName"]
theorem so_hold_of : ScOk N_hold_of G_hold_of (defScope s_hold_of) := ⟨by decide +kernel, by decide +kernel, by decide +kernel⟩
theorem sc_hold_of : FnScope N_hold_of P_hold_of (defScope s_hold_of) := ⟨rfl, rfl, rfl, by decide +kernel, rfl, by decide +kernel, by decide +kernel⟩
abbrev s_with_hold : Stmt := topS 22
abbrev N_with_hold : List Str := ["claim", "name", "kind", "sentence", "holds", "goal"]
abbrev P_with_hold : List Str := ["claim", "name", "kind", "sentence"]
abbrev G_with_hold : List Str := ["make_claim"]
theorem so_with_hold : ScOk N_with_hold G_with_hold (defScope s_with_hold) := ⟨by decide +kernel, by decide +kernel, by decide +kernel⟩
theorem sc_with_hold : FnScope N_with_hold P_with_hold (defScope s_with_hold) := ⟨rfl, rfl, rfl, by decide +kernel, rfl, by decide +kernel, by decide +kernel⟩
abbrev s_without_hold : Stmt := topS 23
abbrev N_without_hold : List Str := ["claim", "name", "holds", "goal", "kept"]
abbrev P_without_hold : List Str := ["claim", "name"]
abbrev G_without_hold : List Str := ["tuple", "len", "UnknownName"]
theorem so_without_hold : ScOk N_without_hold G_without_hold (defScope s_without_hold) := ⟨by decide +kernel, by decide +kernel, by decide +kernel⟩
abbrev C_without_hold : List Str := ["hold"]
theorem sc_without_hold : FnScope (N_without_hold ++ C_without_hold) P_without_hold (defScope s_without_hold) := ⟨rfl, rfl, rfl, by decide +kernel, rfl, by decide +kernel, by decide +kernel⟩
abbrev s_pair_order : Stmt := topS 24
abbrev N_pair_order : List Str := ["pair", "kind", "sentence"]
abbrev P_pair_order : List Str := ["pair"]
abbrev G_pair_order : List Str := ["format_sentence"]
theorem so_pair_order : ScOk N_pair_order G_pair_order (defScope s_pair_order) := ⟨by decide +kernel, by decide +kernel, by decide +kernel⟩
theorem sc_pair_order : FnScope N_pair_order P_pair_order (defScope s_pair_order) := ⟨rfl, rfl, rfl, by decide +kernel, rfl, by decide +kernel, by decide +kernel⟩
abbrev s_bare_claim : Stmt := topS 25
abbrev N_bare_claim : List Str := ["claim", "holds", "goal", "pairs"]
abbrev P_bare_claim : List Str := ["claim"]
abbrev G_bare_claim : List Str := ["tuple", "sorted", "pair_order"]
theorem so_bare_claim : ScOk N_bare_claim G_bare_claim (defScope s_bare_claim) := ⟨by decide +kernel, by decide +kernel, by decide +kernel⟩
abbrev C_bare_claim : List Str := ["name", "kind", "sentence"]
theorem sc_bare_claim : FnScope (N_bare_claim ++ C_bare_claim) P_bare_claim (defScope s_bare_claim) := ⟨rfl, rfl, rfl, by decide +kernel, rfl, by decide +kernel, by decide +kernel⟩
abbrev s_cell : Stmt := topS 27
abbrev N_cell : List Str := ["_law_script", "_law_k"]
abbrev P_cell : List Str := ["_law_script", "_law_k"]
abbrev G_cell : List Str := ["len", "abs"]
theorem so_cell : ScOk N_cell G_cell (defScope s_cell) := ⟨by decide +kernel, by decide +kernel, by decide +kernel⟩
theorem sc_cell : FnScope N_cell P_cell (defScope s_cell) := ⟨rfl, rfl, rfl, by decide +kernel, rfl, by decide +kernel, by decide +kernel⟩
abbrev s_pool : Stmt := topS 28
abbrev N_pool : List Str := ["_law_script", "_law_k", "_law_cell_here"]
abbrev P_pool : List Str := ["_law_script", "_law_k"]
abbrev G_pool : List Str := ["_law_cell", "int"]
theorem so_pool : ScOk N_pool G_pool (defScope s_pool) := ⟨by decide +kernel, by decide +kernel, by decide +kernel⟩
theorem sc_pool : FnScope N_pool P_pool (defScope s_pool) := ⟨rfl, rfl, rfl, by decide +kernel, rfl, by decide +kernel, by decide +kernel⟩
abbrev s_next : Stmt := topS 29
abbrev N_next : List Str := ["_law_pool_here", "_law_many", "_law_digit", "_law_mixed"]
abbrev P_next : List Str := ["_law_pool_here", "_law_many"]
abbrev G_next : List Str := ["int"]
theorem so_next : ScOk N_next G_next (defScope s_next) := ⟨by decide +kernel, by decide +kernel, by decide +kernel⟩
theorem sc_next : FnScope N_next P_next (defScope s_next) := ⟨rfl, rfl, rfl, by decide +kernel, rfl, by decide +kernel, by decide +kernel⟩
abbrev s_same : Stmt := topS 30
abbrev N_same : List Str := ["_law_told_here", "_law_due_here", "_law_k"]
abbrev P_same : List Str := ["_law_told_here", "_law_due_here"]
abbrev G_same : List Str := ["isinstance", "bool", "int", "str", "list", "tuple", "len", "range", "_law_same"]
theorem so_same : ScOk N_same G_same (defScope s_same) := ⟨by decide +kernel, by decide +kernel, by decide +kernel⟩
theorem sc_same : FnScope N_same P_same (defScope s_same) := ⟨rfl, rfl, rfl, by decide +kernel, rfl, by decide +kernel, by decide +kernel⟩
abbrev s_name : Stmt := topS 31
abbrev N_name : List Str := ["_law_pool_here", "_law_names", "_law_letters", "_law_signs", "_law_pick", "_law_name_here", "_law_at", "_law_k"]
abbrev P_name : List Str := ["_law_pool_here", "_law_names"]
abbrev G_name : List Str := ["_law_next", "len", "max", "range"]
theorem so_name : ScOk N_name G_name (defScope s_name) := ⟨by decide +kernel, by decide +kernel, by decide +kernel⟩
theorem sc_name : FnScope N_name P_name (defScope s_name) := ⟨rfl, rfl, rfl, by decide +kernel, rfl, by decide +kernel, by decide +kernel⟩
abbrev s_fresh : Stmt := topS 32
abbrev N_fresh : List Str := ["_law_pool_here", "_law_names", "_law_name_here", "_law_k"]
abbrev P_fresh : List Str := ["_law_pool_here", "_law_names"]
abbrev G_fresh : List Str := ["_law_name", "range", "str"]
theorem so_fresh : ScOk N_fresh G_fresh (defScope s_fresh) := ⟨by decide +kernel, by decide +kernel, by decide +kernel⟩
theorem sc_fresh : FnScope N_fresh P_fresh (defScope s_fresh) := ⟨rfl, rfl, rfl, by decide +kernel, rfl, by decide +kernel, by decide +kernel⟩
abbrev s_mode : Stmt := topS 33
abbrev N_mode : List Str := ["_law_pool_here", "_law_pick"]
abbrev P_mode : List Str := ["_law_pool_here"]
abbrev G_mode : List Str := ["_law_next"]
theorem so_mode : ScOk N_mode G_mode (defScope s_mode) := ⟨by decide +kernel, by decide +kernel, by decide +kernel⟩
theorem sc_mode : FnScope N_mode P_mode (defScope s_mode) := ⟨rfl, rfl, rfl, by decide +kernel, rfl, by decide +kernel, by decide +kernel⟩
abbrev s_deep : Stmt := topS 34
abbrev N_deep : List Str := ["_law_pool_here", "_law_depth", "_law_pick", "_law_one", "_law_two"]
abbrev P_deep : List Str := ["_law_pool_here", "_law_depth"]
abbrev G_deep : List Str := ["_law_next", "_law_deep", "_law_mode"]
theorem so_deep : ScOk N_deep G_deep (defScope s_deep) := ⟨by decide +kernel, by decide +kernel, by decide +kernel⟩
theorem sc_deep : FnScope N_deep P_deep (defScope s_deep) := ⟨rfl, rfl, rfl, by decide +kernel, rfl, by decide +kernel, by decide +kernel⟩
abbrev s_holds : Stmt := topS 35
abbrev N_holds : List Str := ["_law_pool_here", "_law_names", "_law_holds_here", "_law_k", "_law_sentence", "_law_name_here"]
abbrev P_holds : List Str := ["_law_pool_here", "_law_names"]
abbrev G_holds : List Str := ["range", "_law_next", "_law_deep", "len", "_law_fresh", "_law_mode"]
theorem so_holds : ScOk N_holds G_holds (defScope s_holds) := ⟨by decide +kernel, by decide +kernel, by decide +kernel⟩
theorem sc_holds : FnScope N_holds P_holds (defScope s_holds) := ⟨rfl, rfl, rfl, by decide +kernel, rfl, by decide +kernel, by decide +kernel⟩
abbrev s_spoilt : Stmt := topS 36
abbrev N_spoilt : List Str := ["_law_pool_here", "_law_holds_here", "_law_spoilt_here", "_law_bad", "_law_odd", "_law_k", "_law_at", "_law_row", "_law_pick", "_law_name_here", "_law_mode_here"]
abbrev P_spoilt : List Str := ["_law_pool_here", "_law_holds_here"]
abbrev G_spoilt : List Str := ["list", "range", "_law_next", "len"]
theorem so_spoilt : ScOk N_spoilt G_spoilt (defScope s_spoilt) := ⟨by decide +kernel, by decide +kernel, by decide +kernel⟩
theorem sc_spoilt : FnScope N_spoilt P_spoilt (defScope s_spoilt) := ⟨rfl, rfl, rfl, by decide +kernel, rfl, by decide +kernel, by decide +kernel⟩
abbrev s_good_name : Stmt := topS 37
abbrev N_good_name : List Str := ["_law_name_here", "_law_letters"]
abbrev P_good_name : List Str := ["_law_name_here"]
abbrev G_good_name : List Str := ["len"]
theorem so_good_name : ScOk N_good_name G_good_name (defScope s_good_name) := ⟨by decide +kernel, by decide +kernel, by decide +kernel⟩
abbrev C_good_name : List Str := ["_law_sign"]
theorem sc_good_name : FnScope (N_good_name ++ C_good_name) P_good_name (defScope s_good_name) := ⟨rfl, rfl, rfl, by decide +kernel, rfl, by decide +kernel, by decide +kernel⟩
abbrev s_good_mode : Stmt := topS 38
abbrev N_good_mode : List Str := ["_law_mode_here"]
abbrev P_good_mode : List Str := ["_law_mode_here"]
abbrev G_good_mode : List Str := ["isinstance", "tuple", "str", "len"]
theorem so_good_mode : ScOk N_good_mode G_good_mode (defScope s_good_mode) := ⟨by decide +kernel, by decide +kernel, by decide +kernel⟩
abbrev C_good_mode : List Str := ["_law_one"]
theorem sc_good_mode : FnScope (N_good_mode ++ C_good_mode) P_good_mode (defScope s_good_mode) := ⟨rfl, rfl, rfl, by decide +kernel, rfl, by decide +kernel, by decide +kernel⟩
abbrev s_due : Stmt := topS 39
abbrev N_due : List Str := ["_law_holds_here", "_law_goal", "_law_names", "_law_row"]
abbrev P_due : List Str := ["_law_holds_here", "_law_goal"]
abbrev G_due : List Str := ["_law_good_name", "_law_good_mode", "tuple"]
theorem so_due : ScOk N_due G_due (defScope s_due) := ⟨by decide +kernel, by decide +kernel, by decide +kernel⟩
theorem sc_due : FnScope N_due P_due (defScope s_due) := ⟨rfl, rfl, rfl, by decide +kernel, rfl, by decide +kernel, by decide +kernel⟩
abbrev s_told : Stmt := topS 40
abbrev N_told : List Str := ["_law_what", "_law_claim", "_law_row", "e"]
abbrev P_told : List Str := ["_law_what", "_law_claim", "_law_row"]
abbrev G_told : List Str := ["make_claim", "with_hold", "without_hold", "hold_of", "BadName", "isinstance", "HeldError", "BadKind", "NameTaken", "UnknownName"]
theorem so_told : ScOk N_told G_told (defScope s_told) := ⟨by decide +kernel, by decide +kernel, by decide +kernel⟩
theorem sc_told : FnScope N_told P_told (defScope s_told) := ⟨rfl, rfl, rfl, by decide +kernel, rfl, by decide +kernel, by decide +kernel⟩
abbrev s_refused_at_all : Stmt := topS 41
abbrev N_refused_at_all : List Str := ["_law_holds_here", "_law_goal", "e"]
abbrev P_refused_at_all : List Str := ["_law_holds_here", "_law_goal"]
abbrev G_refused_at_all : List Str := ["make_claim", "list", "HeldError", "isinstance", "ValueError"]
theorem so_refused_at_all : ScOk N_refused_at_all G_refused_at_all (defScope s_refused_at_all) := ⟨by decide +kernel, by decide +kernel, by decide +kernel⟩
theorem sc_refused_at_all : FnScope N_refused_at_all P_refused_at_all (defScope s_refused_at_all) := ⟨rfl, rfl, rfl, by decide +kernel, rfl, by decide +kernel, by decide +kernel⟩
abbrev s_text : Stmt := topS 42
abbrev N_text : List Str := ["_law_sentence", "_law_strength", "_law_mine", "_law_text_here", "_law_room"]
abbrev P_text : List Str := ["_law_sentence", "_law_strength"]
abbrev G_text : List Str := ["_law_text", "str"]
theorem so_text : ScOk N_text G_text (defScope s_text) := ⟨by decide +kernel, by decide +kernel, by decide +kernel⟩
theorem sc_text : FnScope N_text P_text (defScope s_text) := ⟨rfl, rfl, rfl, by decide +kernel, rfl, by decide +kernel, by decide +kernel⟩
abbrev s_key : Stmt := topS 43
abbrev N_key : List Str := ["_law_pair"]
abbrev P_key : List Str := ["_law_pair"]
abbrev G_key : List Str := ["_law_text"]
theorem so_key : ScOk N_key G_key (defScope s_key) := ⟨by decide +kernel, by decide +kernel, by decide +kernel⟩
theorem sc_key : FnScope N_key P_key (defScope s_key) := ⟨rfl, rfl, rfl, by decide +kernel, rfl, by decide +kernel, by decide +kernel⟩
abbrev s_bare_told : Stmt := topS 44
abbrev N_bare_told : List Str := ["_law_pool_here", "_law_holds_here", "_law_goal", "_law_row", "_law_pairs", "_law_due_here", "_law_at", "_law_turned", "_law_names", "_law_other", "_law_name_here"]
abbrev P_bare_told : List Str := ["_law_pool_here", "_law_holds_here", "_law_goal"]
abbrev G_bare_told : List Str := ["sorted", "_law_key", "tuple", "_law_same", "bare_claim", "_law_next", "list", "reversed", "_law_fresh"]
theorem so_bare_told : ScOk N_bare_told G_bare_told (defScope s_bare_told) := ⟨by decide +kernel, by decide +kernel, by decide +kernel⟩
theorem sc_bare_told : FnScope N_bare_told P_bare_told (defScope s_bare_told) := ⟨rfl, rfl, rfl, by decide +kernel, rfl, by decide +kernel, by decide +kernel⟩
abbrev s_named : Stmt := topS 45
abbrev N_named : List Str := ["_law_pool_here", "_law_holds_here", "_law_goal", "_law_fresh_here", "_law_claim", "_law_k", "_law_row", "_law_rest", "_law_what", "_law_name_here", "_law_more", "_law_other"]
abbrev P_named : List Str := ["_law_pool_here", "_law_holds_here", "_law_goal", "_law_fresh_here"]
abbrev G_named : List Str := ["tuple", "range", "len", "_law_same", "_law_told", "_law_mode", "_law_deep", "_law_next", "_law_due"]
theorem so_named : ScOk N_named G_named (defScope s_named) := ⟨by decide +kernel, by decide +kernel, by decide +kernel⟩
theorem sc_named : FnScope N_named P_named (defScope s_named) := ⟨rfl, rfl, rfl, by decide +kernel, rfl, by decide +kernel, by decide +kernel⟩
abbrev s_law : Stmt := topS 46
abbrev N_law : List Str := ["_law_script", "_law_pool_here", "_law_names", "_law_holds_here", "_law_goal", "_law_due_here", "_law_handed", "_law_told_here", "_law_spoilt_here"]
abbrev P_law : List Str := ["_law_script"]
abbrev G_law : List Str := ["_law_pool", "_law_holds", "_law_deep", "_law_due", "list", "_law_told", "_law_same", "tuple", "_law_spoilt", "_law_refused_at_all", "_law_named", "_law_fresh", "_law_bare_told"]
theorem so_law : ScOk N_law G_law (defScope s_law) := ⟨by decide +kernel, by decide +kernel, by decide +kernel⟩
theorem sc_law : FnScope N_law P_law (defScope s_law) := ⟨rfl, rfl, rfl, by decide +kernel, rfl, by decide +kernel, by decide +kernel⟩
theorem bk_without_hold0 : BkOk (N_without_hold ++ C_without_hold) [(5, "hold"), (1, "name")] [] 5 "hold" (defScope s_without_hold) (xSc (exA (stE ((defBody s_without_hold).getD 1 nS)) 1)) := ⟨by decide +kernel, by decide +kernel, by decide +kernel, by decide +kernel⟩
theorem bk_bare_claim0 : BkOk3 (N_bare_claim ++ C_bare_claim) [(5, "kind"), (6, "sentence")] [] 4 5 6 "name" "kind" "sentence" (defScope s_bare_claim) (xSc (stE ((defBody s_bare_claim).getD 1 nS))) := ⟨by decide +kernel, by decide +kernel, by decide +kernel, by decide +kernel, by decide +kernel, by decide, by decide +kernel⟩
theorem bk_good_name0 : BkOk (N_good_name ++ C_good_name) [(2, "_law_sign"), (1, "_law_letters")] [] 2 "_law_sign" (defScope s_good_name) (xSc (exA (stE ((defBody s_good_name).getD 2 nS)) 0)) := ⟨by decide +kernel, by decide +kernel, by decide +kernel, by decide +kernel⟩
theorem bk_good_mode0 : BkOk (N_good_mode ++ C_good_mode) [(1, "_law_one")] ["isinstance", "bool", "int"] 1 "_law_one" (defScope s_good_mode) (xSc (exA (stE ((defBody s_good_mode).getD 1 nS)) 1)) := ⟨by decide +kernel, by decide +kernel, by decide +kernel, by decide +kernel⟩
theorem bk_bare_told0 : BkOk N_bare_told [(3, "_law_row")] [] 3 "_law_row" (defScope s_bare_told) (xSc (exA (stE ((defBody s_bare_told).getD 0 nS)) 1)) := ⟨by decide +kernel, by decide +kernel, by decide +kernel, by decide +kernel⟩
local macro_rules | `(tactic| walk_at "bl") => `(tactic| first
  | refine e_callB (x := "len") (by assumption) b_len ?_
  | refine e_callB (x := "isinstance") (by assumption) b_isi ?_
  | refine e_callB (x := "abs") (by assumption) b_abs ?_
  | refine e_callB (x := "max") (by assumption) b_max ?_
  | refine e_callB (x := "min") (by assumption) b_min ?_
  | refine e_callTy (x := "str") (by assumption) b_str ?_
  | refine e_callTy (x := "int") (by assumption) b_int ?_)
local macro_rules | `(tactic| walk_at "gl") => `(tactic| first
  | refine e_bltn (x := "int") (v := .ty "int") (by assumption) b_int rfl ?_
  | refine e_bltn (x := "bool") (v := .ty "bool") (by assumption) b_bool rfl ?_
  | refine e_bltn (x := "str") (v := .ty "str") (by assumption) b_str rfl ?_
  | refine e_bltn (x := "tuple") (v := .ty "tuple") (by assumption) b_tuple rfl ?_
  | refine e_bltn (x := "list") (v := .ty "list") (by assumption) b_list rfl ?_)
local macro_rules | `(tactic| walk_at "st") => `(tactic| first
  | refine l_cons ?_
  | refine s_ret ?_
  | refine s_if ?_
  | refine s_set ?_
  | refine s_sub ?_
  | refine e_var ?_
  | refine e_int ?_
  | refine e_ix ?_
  | refine a_cons ?_
  | refine a_nil ?_
  | refine t_cmp ?_
  | refine t_not ?_
  | refine t_w (w_and ?_)
  | refine t_w (w_or ?_)
  | refine w_and ?_
  | refine w_or ?_
  | refine w_and1 ?_
  | refine w_or1 ?_
  | refine t_val ?_
  | refine e_str ?_
  | refine e_bl ?_
  | refine e_non ?_
  | refine e_bin ?_
  | refine e_cmp ?_
  | refine e_and ?_
  | refine e_or ?_
  | refine e_not ?_
  | refine e_one ?_
  | refine l_nil ?_
  | refine s_expr ?_
  | refine e_tup ?_
  | refine e_lst ?_
  | refine ⟨_, rfl, ?_⟩
  | ((with_reducible refine ite_t ?hc ?_); (case hc => exact rfl))
  | ((with_reducible refine ite_f ?hc ?_); (case hc => exact rfl))
  | refine o_add ?_
  | refine o_sub ?_
  | refine o_lt ?_
  | refine o_le ?_
  | refine o_gt ?_
  | refine o_ge ?_
  | refine o_eqI ?_
  | refine o_neI ?_
  | refine o_eqS ?_
  | refine o_neB ?_
  | refine o_isN ?_
  | refine o_nisB ?_
  | refine o_isB ?_
  | refine e_neg ?_
  | refine o_eqB ?_
  | refine c_int ?_
  | refine c_abs ?_
  | refine c_max rfl ?_
  | refine c_min rfl ?_
  | refine a_cons (e_fld ?_)
  | walk_at "bl"
  | walk_at "gl")
local macro_rules | `(tactic| walk_at "sts") => `(tactic| repeat walk_at "st")
section
variable {P : Program} {w : World} {K : PySem.W.Frag} {mg : Str → Option Value} {base : Heap}
def let1 (c : Nat) : Bool := decide (97 ≤ c) && decide (c ≤ 122)
def dig1 (c : Nat) : Bool := decide (48 ≤ c) && decide (c ≤ 57)
theorem and_val {X : Cx} {e : Expr} {σ : L2.St} {H : Hp} {Q : VK} {x y : Bool} (h : Q (.bl (x && y)) H) (hb : Q (.bl y) H → wE X e σ H Q) : if x = true then wE X e σ H Q else Q (.bl false) H := by
  cases x with
  | true => exact iteT (hb h)
  | false => exact iteF h
theorem chain_val {X : Cx} {e : Expr} {σ : L2.St} {H : Hp} {Q : VK} {R : V → Hp → Prop} {x y : Bool} (h : Q (.bl (x && y)) H) (hb : Q (.bl y) H → wE X e σ H R) : if x = true then wE X e σ H R else Q (.bl false) H := by
  cases x with
  | true => exact iteT (hb h)
  | false => exact iteF h
/-- one sign or none -/
def one : Option Nat → Str
  | none => ⟨#[]⟩
  | some c => sg c
def on1 (g : Nat → Bool) : Option Nat → Bool
  | none => false
  | some c => g c
theorem one_inj {o : Option Nat} {c : Nat} : one o = sg c ↔ o = some c := by
  constructor
  · intro h
    cases o with
    | none => exact absurd (congrArg (fun z : Str => z.cps.size) h) (by show ¬ (0 = 1); decide)
    | some d =>
      have := congrArg (fun z : Str => z.cps.toList) h
      have : [d] = [c] := this
      cases this
      rfl
  · rintro rfl
    rfl
def spLet (g : Nat → Bool) : Sp := fun vs H Q _ => ∃ o : Option Nat, vs = [.str (one o)] ∧ Q (.bl (on1 g o)) H
theorem sg_a : (Str.ofString "a") = sg 97 := by decide +kernel
theorem sg_z : (Str.ofString "z") = sg 122 := by decide +kernel
theorem sg_0 : (Str.ofString "0") = sg 48 := by decide +kernel
theorem sg_9 : (Str.ofString "9") = sg 57 := by decide +kernel
theorem o_le0 {X : Cx} {H : Hp} {Q : VK} {c : Nat} (q : Q (.bl false) H) : wK X .LtE (.str (sg c)) (.str (one none)) H Q := by
  refine k_of op_le_str ⟨sg c, one none, rfl, rfl, ?_⟩
  have e : (!decide (([] : List Nat) < [c])) = false := by
    rw [decide_eq_true (show ([] : List Nat) < [c] from .nil)]
    rfl
  show Q (.bl (!decide (([] : List Nat) < [c]))) H
  rw [e]
  exact q
theorem ok_letter (T : Top K mg "is_letter" s_is_letter) : Fn P w K mg base 1 "is_letter" (spLet let1) := by
  refine fn_ok T sc_is_letter so_is_letter (fun vs H Q E h => by obtain ⟨o, rfl, _⟩ := h; rfl) (fun _ _ _ _ _ _ us hl => match us, hl with | [_], _ => rfl) fun f cdv A outer s H vs Q E hr h nd => ?_
  obtain ⟨o, rfl, q⟩ := h
  refine l_cons (s_ret (e_chain (e_str (e_var ?_))))
  rw [sg_a]
  cases o with
  | none =>
    refine o_le0 ⟨_, rfl, ?_⟩
    exact iteF q
  | some c =>
    refine o_le1 ⟨_, rfl, chain_val (x := decide (97 ≤ c)) (y := decide (c ≤ 122)) q fun q => e_str ?_⟩
    rw [sg_z]
    exact o_le1 q
theorem ok_digit (T : Top K mg "is_digit" s_is_digit) : Fn P w K mg base 1 "is_digit" (spLet dig1) := by
  refine fn_ok T sc_is_digit so_is_digit (fun vs H Q E h => by obtain ⟨o, rfl, _⟩ := h; rfl) (fun _ _ _ _ _ _ us hl => match us, hl with | [_], _ => rfl) fun f cdv A outer s H vs Q E hr h nd => ?_
  obtain ⟨o, rfl, q⟩ := h
  refine l_cons (s_ret (e_chain (e_str (e_var ?_))))
  rw [sg_0]
  cases o with
  | none =>
    refine o_le0 ⟨_, rfl, ?_⟩
    exact iteF q
  | some c =>
    refine o_le1 ⟨_, rfl, chain_val (x := decide (48 ≤ c)) (y := decide (c ≤ 57)) q fun q => e_str ?_⟩
    rw [sg_9]
    exact o_le1 q
theorem let_sg {g : Nat → Bool} {c : Nat} {H : Hp} {Q : VK} {E : XK} (q : Q (.bl (g c)) H) : spLet g [.str (sg c)] H Q E := ⟨some c, rfl, q⟩
def nameB (l : List Nat) : Bool := (decide ((1 : Int) ≤ l.length) && decide ((l.length : Int) ≤ 12)) && ((l.head?.map let1).getD false && l.all fun c => let1 c || dig1 c)
def spNm : Sp := fun vs H Q _ => ∃ z : Str, vs = [.str z] ∧ z.length ≤ sizeLine ∧ Q (.bl (nameB z.cps.toList)) H
theorem ok_isname {t : Tok} (T : Top K mg "is_name" s_is_name) (mLen : mg "len" = none) (mN : mg "NAME_LENGTH" = some (.int 12 t)) (FL : Fn P w K mg base 1 "is_letter" (spLet let1)) (FD : Fn P w K mg base 1 "is_digit" (spLet dig1)) : Fn P w K mg base 2 "is_name" spNm := by
  refine fn_ok T sc_is_name so_is_name (fun vs H Q E h => ?_) (fun _ _ _ _ _ _ us hl => match us, hl with | [_], _ => rfl) fun f cdv A outer s H vs Q E hr h nd => ?_
  · obtain ⟨c, rfl, _⟩ := h
    rfl
  · obtain ⟨z, rfl, hz, q⟩ := h
    have el : (z.length : Int) = (z.cps.toList.length : Int) := by
      show (z.cps.size : Int) = _
      rw [Array.length_toList]
    refine l_cons (s_if (t_w (w_or (t_not (t_chain (e_int ?_))))))
    walk_at "sts"
    refine c_lenS hz ?_
    rw [el]
    refine o_le ⟨_, rfl, ?_⟩
    by_cases h1 : (1 : Int) ≤ z.cps.toList.length
    · refine ifT h1 ?_
      refine e_glob (v := .int 12) (by exact mN) ⟨t, rfl⟩ ?_
      refine o_le ⟨_, rfl, ?_⟩
      by_cases h2 : (z.cps.toList.length : Int) ≤ 12
      · rw [decide_eq_true h2]
        refine iteF ?_
        refine w_or1 (t_not (t_val (e_call (by exact FL) (by exact hr) (by decide) ?_)))
        walk_at "sts"
        have hl0 : 0 < z.cps.toList.length := by omega
        refine ix_s hz (atI_nat (j := 0) (v := z.cps.toList[0]) (by simp [hl0])) ?_
        refine a_nil (let_sg ?_)
        have hd : (z.cps.toList.head?.map let1).getD false = let1 z.cps.toList[0] := by
          rw [List.head?_eq_getElem?, List.getElem?_eq_getElem hl0]
          rfl
        have e0 : nameB z.cps.toList = (let1 z.cps.toList[0] && z.cps.toList.all fun c => let1 c || dig1 c) := by
          unfold nameB
          rw [decide_eq_true h1, decide_eq_true h2, hd]
          rfl
        rw [e0] at q
        cases h3 : let1 z.cps.toList[0] with
        | false =>
          rw [h3] at q
          walk_at "sts"
          exact q
        | true =>
          rw [h3] at q
          walk_at "sts"
          refine s_forS ?_
          walk_at "sts"
          refine ⟨fun k σ H' => ∃ y, σ = [some (.str z), y] ∧ H' = H ∧ ∀ i c, i < k → z.cps.toList[i]? = some c → (let1 c || dig1 c) = true, ⟨_, rfl, rfl, fun i c hi => absurd hi (Nat.not_lt_zero i)⟩, fun k c σ H' hk hW => ?_, fun σ H' hW => ?_⟩
          · obtain ⟨y, rfl, rfl, hall⟩ := hW
            have hk' : z.cps.toList[k]? = some c := by rw [Array.getElem?_toList]; exact hk
            walk_at "sts"
            refine e_call (by exact FL) (by exact hr) (by decide) (a_cons (e_var (a_nil (let_sg ?_))))
            cases h4 : let1 c with
            | true =>
              walk_at "sts"
              refine ⟨rfl, fun i c' hi hc' => ?_⟩
              rcases Nat.lt_succ_iff_lt_or_eq.mp hi with hi | rfl
              · exact hall i c' hi hc'
              · rw [hk'] at hc'
                cases hc'
                simp [h4]
            | false =>
              walk_at "sts"
              refine e_call (by exact FD) (by exact hr) (by decide) (a_cons (e_var (a_nil (let_sg ?_))))
              cases h5 : dig1 c with
              | true =>
                walk_at "sts"
                refine ⟨rfl, fun i c' hi hc' => ?_⟩
                rcases Nat.lt_succ_iff_lt_or_eq.mp hi with hi | rfl
                · exact hall i c' hi hc'
                · rw [hk'] at hc'
                  cases hc'
                  simp [h5]
              | false =>
                walk_at "sts"
                have hn : (z.cps.toList.all fun c => let1 c || dig1 c) = false := by
                  rw [List.all_eq_false]
                  exact ⟨c, List.mem_of_getElem? hk', by simp [h4, h5]⟩
                rw [hn] at q
                exact q
          · obtain ⟨y, rfl, rfl, hall⟩ := hW
            have hy : (z.cps.toList.all fun c => let1 c || dig1 c) = true := by
              rw [List.all_eq_true]
              intro c hc
              obtain ⟨i, hi, e⟩ := List.getElem_of_mem hc
              exact hall i c (by rw [Array.length_toList] at hi; exact hi) (by rw [List.getElem?_eq_getElem hi, e])
            rw [hy] at q
            walk_at "sts"
            exact q
      · rw [decide_eq_false h2]
        have e0 : nameB z.cps.toList = false := by
          unfold nameB
          rw [decide_eq_false h2]
          simp
        rw [e0] at q
        walk_at "sts"
        exact q
    · refine ifF h1 ?_
      have e0 : nameB z.cps.toList = false := by
        unfold nameB
        rw [decide_eq_false h1]
        simp
      rw [e0] at q
      walk_at "sts"
      exact q
end
section
variable {P : Program} {w : World} {K : PySem.W.Frag} {mg : Str → Option Value} {base : Heap}
def PoolAt (H : Hp) (a : Addr) : Prop := ∃ x y z : Int, H a = some (.lst [.int x, .int y, .int z])
def spCell (K : PySem.W.Frag) : Sp := fun vs H Q _ => ∃ (a : Addr) (ns : List Int) (k : Nat), vs = [.ref a, .int k] ∧ SqL K H a (ns.map V.int) ∧ ∀ z : Int, 0 ≤ z → Q (.int z) H
theorem ok_cell (T : Top K mg "_law_cell" s_cell) (mLen : mg "len" = none) (mAbs : mg "abs" = none) : Fn P w K mg base 1 "_law_cell" (spCell K) := by
  refine fn_ok T sc_cell so_cell (fun vs H Q E h => ?_) (fun _ _ _ _ _ _ us hl => match us, hl with | [_, _], _ => rfl) fun f cdv A outer s H vs Q E hr h nd => ?_
  · obtain ⟨a, ns, k, rfl, _⟩ := h
    rfl
  · obtain ⟨a, ns, k, rfl, hS, q⟩ := h
    walk_at "sts"
    refine c_lenL (by exact hS) ?_
    walk_at "sts"
    refine if2 (fun h => ?_) (fun h => ?_)
    · rw [List.length_map] at h
      have hk : k < ns.length := by omega
      walk_at "sts"
      refine ix_l (by exact hS) (atI_nat (v := .int ns[k]) (by simp [hk])) ?_
      walk_at "sts"
      exact q _ (by split <;> omega)
    · walk_at "sts"
      exact q _ (Int.le_refl _)
def spPool (K : PySem.W.Frag) : Sp := fun vs H Q _ => ∃ (a : Addr) (ns : List Int) (k : Nat), vs = [.ref a, .int k] ∧ SqL K H a (ns.map V.int) ∧ ∀ p H', Same H H' → H p = none → PoolAt H' p → Q (.ref p) H'
theorem ok_pool (T : Top K mg "_law_pool" s_pool) (F : Fn P w K mg base 1 "_law_cell" (spCell K)) (mInt : mg "int" = none) : Fn P w K mg base 2 "_law_pool" (spPool K) := by
  refine fn_ok T sc_pool so_pool (fun vs H Q E h => ?_) (fun _ _ _ _ _ _ us hl => match us, hl with | [_, _], _ => rfl) fun f cdv A outer s H vs Q E hr h nd => ?_
  · obtain ⟨a, ns, k, rfl, _⟩ := h
    rfl
  · obtain ⟨a, ns, k, rfl, hS, q⟩ := h
    walk_at "sts"
    refine e_call (by exact F) (by exact hr) (by decide) ?_
    walk_at "sts"
    refine ⟨a, ns, k, rfl, hS, fun z hz => ?_⟩
    walk_at "sts"
    refine o_pow ⟨by decide, by decide, by decide⟩ ?_
    walk_at "sts"
    refine if2 (fun h => ?_) (fun h => ?_)
    · walk_at "sts"
      refine o_mod (by decide) ?_
      walk_at "sts"
      refine ⟨by show 3 ≤ sizeLine; decide, fun p H2 e np hp => ?_⟩
      exact q p H2 e np ⟨_, _, _, hp⟩
    · walk_at "sts"
      refine ⟨by show 3 ≤ sizeLine; decide, fun p H2 e np hp => ?_⟩
      exact q p H2 e np ⟨_, _, _, hp⟩
def spNext : Sp := fun vs H Q _ => ∃ (a : Addr) (m : Int), vs = [.ref a, .int m] ∧ 0 < m ∧ m < 1073741824 ∧ PoolAt H a ∧ ∀ d H', 0 ≤ d → d < m → But a H H' → PoolAt H' a → Q (.int d) H'
theorem ok_next (T : Top K mg "_law_next" s_next) (mInt : mg "int" = none) : Fn P w K mg base 1 "_law_next" spNext := by
  refine fn_ok T sc_next so_next (fun vs H Q E h => ?_) (fun _ _ _ _ _ _ us hl => match us, hl with | [_, _], _ => rfl) fun f cdv A outer s H vs Q E hr h nd => ?_
  · obtain ⟨a, m, rfl, _⟩ := h
    rfl
  · obtain ⟨a, m, rfl, m0, m1, ⟨x, y, z, hp⟩, q⟩ := h
    walk_at "sts"
    refine ix_l (by exact SqL.of hp) rfl ?_
    walk_at "sts"
    refine if2 (fun h => ?_) (fun h => ?_)
    · walk_at "sts"
      refine ix_l (by exact SqL.of hp) rfl ?_
      walk_at "sts"
      refine o_mod m0 ?_
      walk_at "sts"
      refine ix_l (by exact SqL.of hp) rfl ?_
      walk_at "sts"
      refine o_fdiv ⟨m0, m1⟩ ?_
      walk_at "sts"
      refine set_l hp rfl ?_
      walk_at "sts"
      exact q _ _ (Int.emod_nonneg _ (by omega)) (Int.emod_lt_of_pos _ m0) (But.refl.upd) ⟨_, _, _, upd_same⟩
    · walk_at "sts"
      refine ix_l (by exact SqL.of hp) rfl ?_
      walk_at "sts"
      refine set_l hp rfl ?_
      walk_at "sts"
      refine ix_l (by exact SqL.of upd_same) rfl ?_
      walk_at "sts"
      refine ix_l (by exact SqL.of upd_same) rfl ?_
      walk_at "sts"
      refine o_mul (.inl (by decide)) ?_
      walk_at "sts"
      refine o_mod (by decide) ?_
      walk_at "sts"
      have b1 := Int.emod_nonneg (z + 7919 * (y + 1) + 13) (show (2147483647 : Int) ≠ 0 by decide)
      have b2 := Int.emod_lt_of_pos (z + 7919 * (y + 1) + 13) (show (0 : Int) < 2147483647 by decide)
      refine o_mul (.inl ⟨by omega, by omega⟩) ?_
      walk_at "sts"
      refine o_mod (by decide) ?_
      walk_at "sts"
      generalize (z + 7919 * (y + 1) + 13) % 2147483647 = u at *
      have c1 := Int.emod_nonneg (u * (u + 48271)) (show (2147483629 : Int) ≠ 0 by decide)
      have c2 := Int.emod_lt_of_pos (u * (u + 48271)) (show (0 : Int) < 2147483629 by decide)
      refine o_mul (.inl ⟨by omega, by omega⟩) ?_
      walk_at "sts"
      refine ix_l (by exact SqL.of upd_same) rfl ?_
      walk_at "sts"
      refine o_mul (.inl (by decide)) ?_
      walk_at "sts"
      refine o_mod (by decide) ?_
      walk_at "sts"
      refine o_fdiv (by decide) ?_
      walk_at "sts"
      refine o_mod m0 ?_
      walk_at "sts"
      exact q _ _ (Int.emod_nonneg _ (by omega)) (Int.emod_lt_of_pos _ m0) (But.refl.upd) ⟨_, _, _, upd_same⟩
end
theorem none_of {H H' : Hp} {p : Addr} (s : Same H H') (n : H' p = none) : H p = none := by
  cases hz : H p with
  | none => rfl
  | some o => exact absurd (s p o hz) (by rw [n]; intro z; cases z)
/-- all tuples stay -/
def TS (H H' : Hp) : Prop := ∀ t xs, H t = some (.tup xs) → H' t = some (.tup xs)
theorem Same.ts {H H' : Hp} (s : Same H H') : TS H H' := fun t xs h => s t _ h
theorem But.ts {a : Addr} {H H' : Hp} {l : List V} (b : But a H H') (ha : H a = some (.lst l)) : TS H H' := fun t xs h => b.tup ha h
theorem PoolAt.ts {a : Addr} {H H' : Hp} (h : PoolAt H a) (b : But a H H') : TS H H' := let ⟨_, _, _, e⟩ := h; But.ts b e
theorem TS.upd {a : Addr} {H : Hp} {l : List V} {o : HO} (ha : H a = some (.lst l)) : TS H (L2.upd H a o) := fun t xs h => by
  rw [upd_ne (ne_of h ha (by intro z; cases z))]
  exact h
theorem TS.trans {H H1 H2 : Hp} (a : TS H H1) (b : TS H1 H2) : TS H H2 := fun t xs h => b t xs (a t xs h)




/-! ### sentences as data -/
abbrev Pk := Option (Int × Int)
inductive Sn where
  | word (z : List Nat)
  | menu (l r : Sn)
  | trade (k : Pk) (p g : Sn)
deriving DecidableEq
abbrev Prs := List (Pk × Sn)
abbrev Frs := List (Option Sn × Prs)
def alnum (c : Nat) : Bool := let1 c || dig1 c
/-! ### the tokens -/
def skip : List Nat → List Nat
  | [] => []
  | c :: l => if c = 32 then skip l else c :: l
def mt : List Nat → List Nat → Except (List Nat) (List Nat)
  | [], l => .ok l
  | _ :: _, [] => .error []
  | c :: s, d :: l => if d = c then mt s l else .error (d :: l)
def run (g : Nat → Bool) : List Nat → List Nat
  | [] => []
  | c :: l => if g c = true then c :: run g l else []
def rest (g : Nat → Bool) : List Nat → List Nat
  | [] => []
  | c :: l => if g c = true then rest g l else c :: l
abbrev dv (l : List Nat) : Nat := NumText.digitsVal l
def mst (c : Nat) : Nat := if c = 48 then 1 else 9
def rnum (least : Nat) : List Nat → Except (List Nat) (Nat × List Nat)
  | [] => .error []
  | c :: l => if dig1 c = false ∨ c - 48 < least then .error (c :: l)
    else if mst c < (run dig1 (c :: l)).length then .error ((c :: l).drop (mst c))
    else .ok (dv (run dig1 (c :: l)), rest dig1 (c :: l))
theorem rnum_cons (least c : Nat) (l : List Nat) : rnum least (c :: l) = if dig1 c = false ∨ c - 48 < least then .error (c :: l)
    else if mst c < (run dig1 (c :: l)).length then .error ((c :: l).drop (mst c))
    else .ok (dv (run dig1 (c :: l)), rest dig1 (c :: l)) := rfl
def rname : List Nat → Except (List Nat) (List Nat × List Nat)
  | [] => .error []
  | c :: l => if let1 c = false then .error (c :: l)
    else if 12 < (run alnum (c :: l)).length then .error ((c :: l).drop 12)
    else .ok (run alnum (c :: l), rest alnum (c :: l))
theorem rname_cons (c : Nat) (l : List Nat) : rname (c :: l) = if let1 c = false then .error (c :: l)
    else if 12 < (run alnum (c :: l)).length then .error ((c :: l).drop 12)
    else .ok (run alnum (c :: l), rest alnum (c :: l)) := rfl
def rbr (l : List Nat) : Except (List Nat) (Pk × List Nat) :=
  match mt [91] (skip l) with
  | .error e => .error e
  | .ok l1 => match rnum 1 (skip l1) with
    | .error e => .error e
    | .ok (u, l2) => match mt [47] (skip l2) with
      | .error e => .error e
      | .ok l3 => match rnum 0 (skip l3) with
        | .error e => .error e
        | .ok (d, l4) => match mt [93] (skip l4) with
          | .error e => .error e
          | .ok l5 => .ok (some ((u : Int), (d : Int)), l5)
def rpay (l : List Nat) : Except (List Nat) (Pk × List Nat) :=
  match rbr l with
  | .error e => .error e
  | .ok (k, l1) => match mt [62] (skip l1) with
    | .error e => .error e
    | .ok l2 => .ok (k, l2)
theorem run_rest (g : Nat → Bool) : ∀ l, run g l ++ rest g l = l
  | [] => rfl
  | c :: l => by
    unfold run rest
    by_cases h : g c = true
    · rw [if_pos h, if_pos h, List.cons_append, run_rest g l]
    · rw [if_neg h, if_neg h]; rfl
/-- what does not go on with a sign of this sort -/
def Cut (g : Nat → Bool) (r : List Nat) : Prop := ∀ c l, r = c :: l → g c = false
theorem run_app {g : Nat → Bool} {r : List Nat} (hr : Cut g r) : ∀ {a : List Nat}, (∀ c ∈ a, g c = true) → run g (a ++ r) = a ∧ rest g (a ++ r) = r
  | [], _ => by
    cases r with
    | nil => exact ⟨rfl, rfl⟩
    | cons c l =>
      have := hr c l rfl
      rw [List.nil_append]
      unfold run rest
      rw [this]
      exact ⟨rfl, rfl⟩
  | c :: a, h => by
    have h1 := h c List.mem_cons_self
    obtain ⟨e1, e2⟩ := run_app hr (a := a) fun d hd => h d (List.mem_cons_of_mem _ hd)
    rw [List.cons_append]
    unfold run rest
    rw [if_pos h1, if_pos h1, e1, e2]
    exact ⟨rfl, rfl⟩
/-! ### the reader -/
inductive St where
  | A (p : Option Sn) (ps : Prs) (fs : Frs) (l : List Nat)
  | B (p : Sn) (ps : Prs) (fs : Frs) (l : List Nat)
inductive Re where
  | err (l : List Nat)
  | ok (s : Sn)
def put : Option Sn → Sn → Sn
  | none, a => a
  | some x, a => .menu x a
def whole (ps : Prs) (p : Sn) : Sn := ps.reverse.foldl (fun m kp => .trade kp.1 kp.2 m) p
theorem whole_snoc (ps : Prs) (k : Pk) (q p : Sn) : whole (ps ++ [(k, q)]) p = whole ps (.trade k q p) := by
  unfold whole
  rw [List.reverse_append]
  rfl
def step : St → St ⊕ Re
  | .A _ _ _ [] => .inr (.err [])
  | .A p ps fs (c :: l) =>
    if c = 32 then .inl (.A p ps fs l)
    else if c = 40 then .inl (.A none [] ((p, ps) :: fs) l)
    else match rname (c :: l) with
      | .error e => .inr (.err e)
      | .ok (n, r) => .inl (.B (put p (.word n)) ps fs r)
  | .B p ps fs [] => if fs = [] then .inr (.ok (whole ps p)) else .inr (.err [])
  | .B p ps fs (c :: l) =>
    if c = 32 then .inl (.B p ps fs l)
    else if c = 38 then .inl (.A (some p) ps fs l)
    else if c = 62 then .inl (.A none (ps ++ [(none, p)]) fs l)
    else if c = 91 then match rpay (c :: l) with
      | .error e => .inr (.err e)
      | .ok (k, r) => .inl (.A none (ps ++ [(k, p)]) fs r)
    else match fs with
      | [] => .inr (.err (c :: l))
      | (q, qs) :: gs => if c = 41 then .inl (.B (put q (whole ps p)) qs gs l) else .inr (.err (c :: l))
theorem step_A (p : Option Sn) (ps : Prs) (fs : Frs) (c : Nat) (l : List Nat) : step (.A p ps fs (c :: l)) = if c = 32 then .inl (.A p ps fs l)
    else if c = 40 then .inl (.A none [] ((p, ps) :: fs) l)
    else match rname (c :: l) with
      | .error e => .inr (.err e)
      | .ok (n, r) => .inl (.B (put p (.word n)) ps fs r) := rfl
theorem step_B (p : Sn) (ps : Prs) (fs : Frs) (c : Nat) (l : List Nat) : step (.B p ps fs (c :: l)) = if c = 32 then .inl (.B p ps fs l)
    else if c = 38 then .inl (.A (some p) ps fs l)
    else if c = 62 then .inl (.A none (ps ++ [(none, p)]) fs l)
    else if c = 91 then match rpay (c :: l) with
      | .error e => .inr (.err e)
      | .ok (k, r) => .inl (.A none (ps ++ [(k, p)]) fs r)
    else match fs with
      | [] => .inr (.err (c :: l))
      | (q, qs) :: gs => if c = 41 then .inl (.B (put q (whole ps p)) qs gs l) else .inr (.err (c :: l)) := rfl
theorem step_B0 (p : Sn) (ps : Prs) (fs : Frs) : step (.B p ps fs []) = if fs = [] then .inr (.ok (whole ps p)) else .inr (.err []) := rfl
inductive Goes : St → St → Prop where
  | refl {a} : Goes a a
  | cons {a b c} : step a = .inl b → Goes b c → Goes a c
theorem Goes.trans {a b c : St} (h : Goes a b) (k : Goes b c) : Goes a c := by
  induction h with
  | refl => exact k
  | cons e _ ih => exact .cons e (ih k)
theorem Goes.one {a b : St} (e : step a = .inl b) : Goes a b := .cons e .refl
theorem Goes.snoc {a b c : St} (h : Goes a b) (e : step b = .inl c) : Goes a c := h.trans (.one e)
def Ends (a : St) (r : Re) : Prop := ∃ b, Goes a b ∧ step b = .inr r
theorem Ends.det {a : St} {r r' : Re} (h : Ends a r) (k : Ends a r') : r = r' := by
  obtain ⟨b, g, e⟩ := h
  obtain ⟨b', g', e'⟩ := k
  induction g with
  | refl =>
    cases g' with
    | refl => rw [e] at e'; injection e'
    | cons e2 _ => rw [e] at e2; cases e2
  | cons e1 _ ih =>
    cases g' with
    | refl => rw [e1] at e'; cases e'
    | cons e2 g2 => rw [e1] at e2; injection e2 with e2; subst e2; exact ih e g2
abbrev init (l : List Nat) : St := .A none [] [] l
/-! ### what is drawn: tokens with their spaces -/
def rm : Pk → List (List Nat)
  | none => []
  | some (u, d) => [[91], TL.numL u.toNat, [47], TL.numL d.toNat, [93]]
def okNm (n : List Nat) : Prop := nameB n = true
def okK : Pk → Prop
  | none => True
  | some (u, d) => 1 ≤ u ∧ u < 1000000000 ∧ 0 ≤ d ∧ d < 1000000000
def okS : Sn → Prop
  | .word n => okNm n
  | .menu l r => okS l ∧ okS r
  | .trade k p g => okK k ∧ okS p ∧ okS g
inductive Tk : Sn → Nat → List (List Nat) → Prop where
  | word {n k} : okNm n → Tk (.word n) k [n]
  | menu {a b k ta tb} : k ≤ 1 → Tk a 1 ta → Tk b 2 tb → Tk (.menu a b) k (ta ++ [[38]] ++ tb)
  | trade {m p g tp tg} : okK m → Tk p 1 tp → Tk g 0 tg → Tk (.trade m p g) 0 (tp ++ rm m ++ [[62]] ++ tg)
  | par {s k ts} : Tk s 0 ts → Tk s k ([[40]] ++ ts ++ [[41]])
abbrev sps (n : Nat) : List Nat := List.replicate n 32
/-- the tokens with spaces in front of each -/
inductive Spc : List (List Nat) → List Nat → Prop where
  | nil : Spc [] []
  | cons {n t ts l} : Spc ts l → Spc (t :: ts) (sps n ++ (t ++ l))
theorem Spc.split {b : List (List Nat)} : ∀ {a : List (List Nat)} {l : List Nat}, Spc (a ++ b) l → ∃ x y, l = x ++ y ∧ Spc a x ∧ Spc b y
  | [], l, h => ⟨[], l, rfl, .nil, h⟩
  | t :: a, l, h => by
    cases h with
    | @cons n _ _ _ h =>
      obtain ⟨x, y, rfl, h1, h2⟩ := Spc.split h
      exact ⟨sps n ++ (t ++ x), y, by simp only [List.append_assoc], .cons h1, h2⟩
theorem Spc.one {t : List Nat} {l : List Nat} (h : Spc [t] l) : ∃ n, l = sps n ++ t := by
  cases h with
  | cons h => cases h; exact ⟨_, by rw [List.append_nil]⟩
theorem spA (p : Option Sn) (ps : Prs) (fs : Frs) (l : List Nat) : ∀ n, Goes (.A p ps fs (sps n ++ l)) (.A p ps fs l)
  | 0 => .refl
  | n + 1 => .cons (by show step (.A p ps fs (32 :: (sps n ++ l))) = _; rfl) (spA p ps fs l n)
theorem spB (p : Sn) (ps : Prs) (fs : Frs) (l : List Nat) : ∀ n, Goes (.B p ps fs (sps n ++ l)) (.B p ps fs l)
  | 0 => .refl
  | n + 1 => .cons (by show step (.B p ps fs (32 :: (sps n ++ l))) = _; rfl) (spB p ps fs l n)
theorem skip_sps {c : Nat} (h : c ≠ 32) (l : List Nat) : ∀ n, skip (sps n ++ c :: l) = c :: l
  | 0 => by show skip (c :: l) = _; unfold skip; rw [if_neg h]
  | n + 1 => by
    show skip (32 :: (sps n ++ c :: l)) = _
    unfold skip
    rw [if_pos rfl]
    exact skip_sps h l n
/-! ### numbers and names are read -/
theorem numL_head {n : Nat} (h : 10 ≤ n) : ∃ c l, TL.numL n = c :: l ∧ c ≠ 48 := by
  induction n using Nat.strongRecOn with
  | _ n ih =>
    rw [TL.numL_step h]
    by_cases h2 : n / 10 < 10
    · rw [TL.numL_lt h2]
      exact ⟨48 + n / 10, [48 + n % 10], rfl, by omega⟩
    · obtain ⟨c, l, e, hc⟩ := ih (n / 10) (by omega) (by omega)
      rw [e]
      exact ⟨c, l ++ [48 + n % 10], rfl, hc⟩
theorem numL_shape (n : Nat) : ∃ c l, TL.numL n = c :: l ∧ 48 ≤ c ∧ c ≤ 57 ∧ (c = 48 → l = [] ∧ n = 0) := by
  by_cases h : n < 10
  · rw [TL.numL_lt h]
    exact ⟨48 + n, [], rfl, by omega, by omega, fun e => ⟨rfl, by omega⟩⟩
  · obtain ⟨c, l, e, hc⟩ := numL_head (n := n) (by omega)
    have := TL.numL_digits n
    rw [e] at this
    exact ⟨c, l, e, (this.head).1, (this.head).2, fun z => absurd z hc⟩
theorem dig_all (n : Nat) : ∀ c ∈ TL.numL n, dig1 c = true := fun c hc => by
  have := TL.numL_digits n c hc
  unfold dig1
  rw [decide_eq_true this.1, decide_eq_true this.2]
  rfl
theorem rnum_num {n least : Nat} {r : List Nat} (h1 : n < 1000000000) (h2 : least ≤ 1) (h3 : least ≤ n) (hr : Cut dig1 r) : rnum least (TL.numL n ++ r) = .ok (n, r) := by
  obtain ⟨e1, e2⟩ := run_app hr (dig_all n)
  have hv := TL.numL_val n
  have hl := TL.numL_len (n := n) (k := 9) (by decide) h1
  obtain ⟨c, l, e, c0, c9, cz⟩ := numL_shape n
  have hd := dig_all n c (by rw [e]; exact List.mem_cons_self)
  rw [e] at e1 e2 hv hl ⊢
  rw [List.cons_append] at e1 e2 ⊢
  rw [rnum_cons]
  rw [e1, e2, if_neg, if_neg]
  · rw [show dv (c :: l) = n from hv]
  · by_cases z : c = 48
    · obtain ⟨rfl, _⟩ := cz z
      unfold mst
      rw [if_pos z]; show ¬ (1 < 1); omega
    · unfold mst
      rw [if_neg z]; omega
  · rintro (h | h)
    · rw [hd] at h; cases h
    · by_cases z : c = 48
      · obtain ⟨rfl, rfl⟩ := cz z
        omega
      · omega
theorem name_parts {n : List Nat} (h : okNm n) : (∃ c l, n = c :: l ∧ let1 c = true) ∧ n.length ≤ 12 ∧ ∀ c ∈ n, alnum c = true := by
  unfold okNm nameB at h
  simp only [Bool.and_eq_true, decide_eq_true_eq, List.all_eq_true] at h
  obtain ⟨⟨h1, h2⟩, h3, h4⟩ := h
  refine ⟨?_, by omega, fun c hc => h4 c hc⟩
  cases n with
  | nil => cases h3
  | cons c l => exact ⟨c, l, rfl, h3⟩
theorem rname_name {n r : List Nat} (h : okNm n) (hr : Cut alnum r) : rname (n ++ r) = .ok (n, r) := by
  obtain ⟨⟨c, l, rfl, hc⟩, hl, ha⟩ := name_parts h
  obtain ⟨e1, e2⟩ := run_app hr ha
  rw [List.cons_append] at e1 e2 ⊢
  rw [rname_cons]
  rw [e1, e2, if_neg (by rw [hc]; decide), if_neg (by omega)]




/-! ### what is drawn is read -/
theorem cut_sps {g : Nat → Bool} (h : g 32 = false) {c : Nat} (hc : g c = false) (r : List Nat) : ∀ n, Cut g (sps n ++ c :: r)
  | 0 => fun d l e => by cases e; exact hc
  | n + 1 => fun d l e => by cases e; exact h
theorem mt1 (c : Nat) (l : List Nat) : mt [c] (c :: l) = .ok l := by
  unfold mt
  rw [if_pos rfl]
  rfl
theorem skip_num (n : Nat) (r : List Nat) (m : Nat) : skip (sps m ++ (TL.numL n ++ r)) = TL.numL n ++ r := by
  obtain ⟨c, l, e, c0, _, _⟩ := numL_shape n
  rw [e, List.cons_append]
  exact skip_sps (by omega) _ m
theorem rbr_ok {u d : Nat} (hu : 1 ≤ u) (hu9 : u < 1000000000) (hd9 : d < 1000000000) (r : List Nat) (n1 n2 n3 n4 n5 : Nat) : rbr (sps n1 ++ 91 :: (sps n2 ++ (TL.numL u ++ (sps n3 ++ 47 :: (sps n4 ++ (TL.numL d ++ (sps n5 ++ 93 :: r))))))) = .ok (some ((u : Int), (d : Int)), r) := by
  unfold rbr
  rw [skip_sps (by decide), mt1]
  simp only []
  rw [skip_num, rnum_num hu9 (Nat.le_refl 1) hu (cut_sps (by decide) (by decide) _ _)]
  simp only []
  rw [skip_sps (by decide), mt1]
  simp only []
  rw [skip_num, rnum_num hd9 (by decide) (Nat.zero_le _) (cut_sps (by decide) (by decide) _ _)]
  simp only []
  rw [skip_sps (by decide), mt1]
theorem rpay_ok {u d : Nat} (hu : 1 ≤ u) (hu9 : u < 1000000000) (hd9 : d < 1000000000) (r : List Nat) (n2 n3 n4 n5 n6 : Nat) : rpay (91 :: (sps n2 ++ (TL.numL u ++ (sps n3 ++ 47 :: (sps n4 ++ (TL.numL d ++ (sps n5 ++ 93 :: (sps n6 ++ 62 :: r)))))))) = .ok (some ((u : Int), (d : Int)), r) := by
  have h := rbr_ok hu hu9 hd9 (sps n6 ++ 62 :: r) 0 n2 n3 n4 n5
  unfold rpay
  rw [show 91 :: (sps n2 ++ (TL.numL u ++ (sps n3 ++ 47 :: (sps n4 ++ (TL.numL d ++ (sps n5 ++ 93 :: (sps n6 ++ 62 :: r))))))) = sps 0 ++ 91 :: (sps n2 ++ (TL.numL u ++ (sps n3 ++ 47 :: (sps n4 ++ (TL.numL d ++ (sps n5 ++ 93 :: (sps n6 ++ 62 :: r))))))) from rfl, h]
  simp only []
  rw [skip_sps (by decide), mt1]
/-- the price's room and its sign -/
theorem pays {m : Pk} (hm : okK m) {y : List Nat} (h : Spc (rm m ++ [[62]]) y) (p : Sn) (ps : Prs) (fs : Frs) (r : List Nat) : (∃ n c z, y = sps n ++ c :: z ∧ alnum c = false) ∧ Goes (.B p ps fs (y ++ r)) (.A none (ps ++ [(m, p)]) fs r) := by
  rcases m with _ | ⟨u, d⟩
  · obtain ⟨n, rfl⟩ := Spc.one h
    refine ⟨⟨n, 62, [], rfl, by decide⟩, ?_⟩
    rw [List.append_assoc]
    refine (spB p ps fs _ n).trans (.one ?_)
    rfl
  · obtain ⟨h1, h2, h3, h4⟩ := hm
    cases h with | @cons n1 _ _ _ h =>
    cases h with | @cons n2 _ _ _ h =>
    cases h with | @cons n3 _ _ _ h =>
    cases h with | @cons n4 _ _ _ h =>
    cases h with | @cons n5 _ _ _ h =>
    cases h with | @cons n6 _ _ _ h =>
    cases h
    refine ⟨⟨n1, 91, _, rfl, by decide⟩, ?_⟩
    have e := rpay_ok (u := u.toNat) (d := d.toNat) (by omega) (by omega) (by omega) r n2 n3 n4 n5 n6
    rw [Int.toNat_of_nonneg (by omega), Int.toNat_of_nonneg h3] at e
    simp only [List.append_assoc, List.cons_append, List.nil_append]
    refine (spB p ps fs _ n1).trans (.one ?_)
    show (match rpay _ with | .error e => Sum.inr (Re.err e) | .ok (k, r) => Sum.inl (St.A none (ps ++ [(k, p)]) fs r)) = _
    rw [e]
theorem word_reads {n : List Nat} (hn : okNm n) (p : Option Sn) (ps : Prs) (fs : Frs) {l : List Nat} (h : Spc [n] l) {r : List Nat} (hr : Cut alnum r) : Goes (.A p ps fs (l ++ r)) (.B (put p (.word n)) ps fs r) := by
  obtain ⟨m, rfl⟩ := Spc.one h
  rw [List.append_assoc]
  refine (spA p ps fs _ m).trans (.one ?_)
  have e := rname_name hn hr
  obtain ⟨⟨c, l, rfl, hc⟩, _⟩ := name_parts hn
  have c1 : c ≠ 32 := by rintro rfl; revert hc; decide
  have c2 : c ≠ 40 := by rintro rfl; revert hc; decide
  rw [List.cons_append] at e ⊢
  rw [step_A, if_neg c1, if_neg c2, e]
def Rds (s : Sn) (k : Nat) (l : List Nat) : Prop :=
  (2 ≤ k → ∀ p ps fs r, Cut alnum r → Goes (.A p ps fs (l ++ r)) (.B (put p s) ps fs r)) ∧
  (1 ≤ k → ∀ ps fs r, Cut alnum r → Goes (.A none ps fs (l ++ r)) (.B s ps fs r)) ∧
  ∀ ps fs r, Cut alnum r → ∃ p' ps', Goes (.A none ps fs (l ++ r)) (.B p' ps' fs r) ∧ whole ps' p' = whole ps s
theorem reads {s : Sn} {k : Nat} {ts : List (List Nat)} (h : Tk s k ts) : ∀ {l : List Nat}, Spc ts l → Rds s k l := by
  induction h with
  | word hn =>
    intro l hl
    exact ⟨fun _ p ps fs r hr => word_reads hn p ps fs hl hr, fun _ ps fs r hr => word_reads hn none ps fs hl hr, fun ps fs r hr => ⟨_, ps, word_reads hn none ps fs hl hr, rfl⟩⟩
  | @menu a b k ta tb hk _ _ iha ihb =>
    intro l hl
    rw [List.append_assoc] at hl
    obtain ⟨x, yz, rfl, h1, h2⟩ := Spc.split hl
    obtain ⟨y, z, rfl, h3, h4⟩ := Spc.split h2
    obtain ⟨n, rfl⟩ := Spc.one h3
    have main : ∀ ps fs r, Cut alnum r → Goes (.A none ps fs (x ++ (sps n ++ [38] ++ z) ++ r)) (.B (.menu a b) ps fs r) := by
      intro ps fs r hr
      have e : x ++ (sps n ++ [38] ++ z) ++ r = x ++ (sps n ++ 38 :: (z ++ r)) := by simp only [List.append_assoc, List.cons_append, List.nil_append]
      rw [e]
      refine ((iha h1).2.1 (Nat.le_refl 1) ps fs _ (cut_sps (by decide) (by decide) _ _)).trans ?_
      refine (spB a ps fs _ n).trans (.cons (b := .A (some a) ps fs (z ++ r)) rfl ?_)
      exact (ihb h4).1 (Nat.le_refl 2) (some a) ps fs r hr
    exact ⟨fun h => by omega, fun _ => main, fun ps fs r hr => ⟨_, ps, main ps fs r hr, rfl⟩⟩
  | @trade m p g tp tg hm _ _ ihp ihg =>
    intro l hl
    rw [List.append_assoc, List.append_assoc, ← List.append_assoc (rm m)] at hl
    obtain ⟨x, yz, rfl, h1, h2⟩ := Spc.split hl
    obtain ⟨y, z, rfl, h3, h4⟩ := Spc.split h2
    refine ⟨fun h => by omega, fun h => by omega, fun ps fs r hr => ?_⟩
    obtain ⟨⟨n, c, w, rfl, hc⟩, gp⟩ := pays hm h3 p ps fs (z ++ r)
    obtain ⟨p', ps', g2, e2⟩ := (ihg h4).2.2 (ps ++ [(m, p)]) fs r hr
    refine ⟨p', ps', ?_, by rw [e2, whole_snoc]⟩
    have e : x ++ (sps n ++ c :: w ++ z) ++ r = x ++ (sps n ++ c :: w ++ (z ++ r)) := by simp only [List.append_assoc, List.cons_append]
    rw [e]
    refine ((ihp h1).2.1 (Nat.le_refl 1) ps fs _ ?_).trans (gp.trans g2)
    rw [List.append_assoc, List.cons_append]
    exact cut_sps (by decide) hc _ n
  | @par s k ts _ ih =>
    intro l hl
    rw [List.append_assoc] at hl
    obtain ⟨x, yz, rfl, h1, h2⟩ := Spc.split hl
    obtain ⟨y, z, rfl, h3, h4⟩ := Spc.split h2
    obtain ⟨n, rfl⟩ := Spc.one h1
    obtain ⟨m, rfl⟩ := Spc.one h4
    have main : ∀ p ps fs r, Goes (.A p ps fs (sps n ++ [40] ++ (y ++ (sps m ++ [41])) ++ r)) (.B (put p s) ps fs r) := by
      intro p ps fs r
      have e : sps n ++ [40] ++ (y ++ (sps m ++ [41])) ++ r = sps n ++ 40 :: (y ++ (sps m ++ 41 :: r)) := by simp only [List.append_assoc, List.cons_append, List.nil_append]
      rw [e]
      obtain ⟨p', ps', g2, e2⟩ := (ih h3).2.2 [] ((p, ps) :: fs) (sps m ++ 41 :: r) (cut_sps (by decide) (by decide) _ _)
      refine (spA p ps fs _ n).trans (.cons (b := .A none [] ((p, ps) :: fs) _) rfl (g2.trans ((spB p' ps' _ _ m).trans (.one ?_))))
      show Sum.inl (St.B (put p (whole ps' p')) ps fs r) = _
      rw [e2]
      rfl
    exact ⟨fun _ p ps fs r _ => main p ps fs r, fun _ ps fs r _ => main none ps fs r, fun ps fs r _ => ⟨_, ps, main none ps fs r, rfl⟩⟩
/-- tokens at strength 0 with spaces, and spaces behind: read -/
theorem reads_all {s : Sn} {ts : List (List Nat)} (h : Tk s 0 ts) {l : List Nat} (hl : Spc ts l) (n : Nat) : Ends (init (l ++ sps n)) (.ok s) := by
  obtain ⟨p', ps', g, e⟩ := (reads h hl).2.2 [] [] (sps n) (fun c l e => by
    cases n with
    | zero => cases e
    | succ n => cases e; decide)
  refine ⟨_, g.trans ((by have := spB p' ps' [] [] n; rwa [List.append_nil] at this)), ?_⟩
  show Sum.inr (Re.ok (whole ps' p')) = _
  rw [e]
  rfl
/-! ### as few brackets as can be -/
def np : Sn → Nat → Nat
  | .word _, _ => 0
  | .menu a b, k => np a 1 + np b 2 + (if 1 < k then 1 else 0)
  | .trade _ p g, k => np p 1 + np g 0 + (if 0 < k then 1 else 0)
theorem np_le (s : Sn) (k : Nat) : np s k ≤ np s 0 + 1 := by
  cases s with
  | word => exact Nat.zero_le _
  | menu a b =>
    show np a 1 + np b 2 + (if 1 < k then 1 else 0) ≤ np a 1 + np b 2 + 0 + 1
    split <;> omega
  | trade m p g =>
    show np p 1 + np g 0 + (if 0 < k then 1 else 0) ≤ np p 1 + np g 0 + 0 + 1
    split <;> omega
theorem np_0 (s : Sn) (k : Nat) : np s 0 ≤ np s k := by
  cases s with
  | word => exact Nat.zero_le _
  | menu a b =>
    show np a 1 + np b 2 + 0 ≤ np a 1 + np b 2 + (if 1 < k then 1 else 0)
    split <;> omega
  | trade m p g =>
    show np p 1 + np g 0 + 0 ≤ np p 1 + np g 0 + (if 0 < k then 1 else 0)
    split <;> omega
abbrev c40 (l : List Nat) : Nat := l.count 40
def sumP : Prs → Nat
  | [] => 0
  | kp :: ps => np kp.2 1 + sumP ps
theorem sumP_snoc (k : Pk) (q : Sn) : ∀ ps : Prs, sumP (ps ++ [(k, q)]) = sumP ps + np q 1
  | [] => by show np q 1 + 0 = 0 + np q 1; omega
  | x :: ps => by
    rw [List.cons_append]
    show np x.2 1 + sumP (ps ++ [(k, q)]) = np x.2 1 + sumP ps + np q 1
    rw [sumP_snoc k q ps]
    omega
theorem np_whole (p : Sn) : ∀ ps : Prs, np (whole ps p) 0 ≤ sumP ps + np p 1 := by
  suffices h : ∀ (qs : Prs) (p : Sn) (n : Nat), np p 0 ≤ n → np (qs.foldl (fun m kp => Sn.trade kp.1 kp.2 m) p) 0 ≤ n + sumP qs.reverse by
    intro ps
    have := h ps.reverse p (np p 1) (np_0 p 1)
    rw [List.reverse_reverse] at this
    unfold whole
    omega
  intro qs
  induction qs with
  | nil => intro p n h; show np p 0 ≤ n + 0; omega
  | cons x qs ih =>
    intro p n h
    rw [List.foldl_cons, List.reverse_cons, sumP_snoc]
    have := ih (.trade x.1 x.2 p) (np x.2 1 + n) (by show np x.2 1 + np p 0 + 0 ≤ _; omega)
    omega
def frN : Option Sn → Prs → Nat
  | none, ps => sumP ps
  | some x, ps => sumP ps + np x 1
def frs : Frs → Nat
  | [] => 0
  | (q, qs) :: fs => frN q qs + 1 + frs fs
def pot : St → Nat
  | .A p ps fs l => frN p ps + frs fs + c40 l
  | .B p ps fs l => sumP ps + np p 1 + frs fs + c40 l
theorem np_put (q : Option Sn) (s : Sn) (qs : Prs) : sumP qs + np (put q s) 1 ≤ frN q qs + np s 2 + (if q = none then np s 1 else 0) := by
  cases q with
  | none => show sumP qs + np s 1 ≤ sumP qs + np s 2 + np s 1; omega
  | some x =>
    show sumP qs + (np x 1 + np s 2 + 0) ≤ sumP qs + np x 1 + np s 2 + 0
    omega
theorem np_put1 (q : Option Sn) (s : Sn) (qs : Prs) (n : Nat) (h1 : np s 1 ≤ n) (h2 : np s 2 ≤ n) : sumP qs + np (put q s) 1 ≤ frN q qs + n := by
  cases q with
  | none => show sumP qs + np s 1 ≤ sumP qs + n; omega
  | some x =>
    show sumP qs + (np x 1 + np s 2 + 0) ≤ sumP qs + np x 1 + n
    omega
theorem skip_le : ∀ l, c40 (skip l) ≤ c40 l
  | [] => Nat.le_refl _
  | c :: l => by
    unfold skip
    split
    · exact Nat.le_trans (skip_le l) (List.count_le_count_cons ..)
    · exact Nat.le_refl _
theorem rest_le (g : Nat → Bool) : ∀ l, c40 (rest g l) ≤ c40 l
  | [] => Nat.le_refl _
  | c :: l => by
    unfold rest
    split
    · exact Nat.le_trans (rest_le g l) (List.count_le_count_cons ..)
    · exact Nat.le_refl _
theorem mt_le : ∀ {s l r : List Nat}, mt s l = .ok r → c40 r ≤ c40 l
  | [], l, r, h => by unfold mt at h; cases h; exact Nat.le_refl _
  | _ :: _, [], r, h => by unfold mt at h; cases h
  | c :: s, d :: l, r, h => by
    unfold mt at h
    split at h
    · exact Nat.le_trans (mt_le h) (List.count_le_count_cons ..)
    · cases h
theorem rnum_le {least n : Nat} : ∀ {l r : List Nat}, rnum least l = .ok (n, r) → c40 r ≤ c40 l
  | [], r, h => by unfold rnum at h; cases h
  | c :: l, r, h => by
    rw [rnum_cons] at h
    split at h
    · cases h
    split at h
    · cases h
    · cases h
      exact rest_le dig1 (c :: l)
theorem rname_le {n : List Nat} : ∀ {l r : List Nat}, rname l = .ok (n, r) → c40 r ≤ c40 l
  | [], r, h => by unfold rname at h; cases h
  | c :: l, r, h => by
    rw [rname_cons] at h
    split at h
    · cases h
    split at h
    · cases h
    · cases h
      exact rest_le alnum (c :: l)
theorem rbr_le {k : Pk} {l r : List Nat} (h : rbr l = .ok (k, r)) : c40 r ≤ c40 l := by
  unfold rbr at h
  split at h
  · cases h
  next l1 h1 =>
  split at h
  · cases h
  next u l2 h2 =>
  split at h
  · cases h
  next l3 h3 =>
  split at h
  · cases h
  next d l4 h4 =>
  split at h
  · cases h
  next l5 h5 =>
  cases h
  exact Nat.le_trans (mt_le h5) (Nat.le_trans (skip_le _) (Nat.le_trans (rnum_le h4) (Nat.le_trans (skip_le _) (Nat.le_trans (mt_le h3) (Nat.le_trans (skip_le _) (Nat.le_trans (rnum_le h2) (Nat.le_trans (skip_le _) (Nat.le_trans (mt_le h1) (skip_le _)))))))))
theorem rpay_le {k : Pk} {l r : List Nat} (h : rpay l = .ok (k, r)) : c40 r ≤ c40 l := by
  unfold rpay at h
  split at h
  · cases h
  next k1 l1 h1 =>
  split at h
  · cases h
  next l2 h2 =>
  cases h
  exact Nat.le_trans (mt_le h2) (Nat.le_trans (skip_le _) (rbr_le h1))
theorem c40_ne {c : Nat} (h : c ≠ 40) (l : List Nat) : c40 (c :: l) = c40 l := List.count_cons_of_ne h
theorem step_le {a b : St} (h : step a = .inl b) : pot b ≤ pot a := by
  cases a with
  | A p ps fs l =>
    cases l with
    | nil => cases h
    | cons c l =>
      rw [step_A] at h
      split at h
      · next h1 => cases h; subst h1; show frN p ps + frs fs + c40 l ≤ frN p ps + frs fs + c40 (32 :: l); rw [c40_ne (by decide)]; exact Nat.le_refl _
      split at h
      · next h1 =>
        cases h
        subst h1
        show frN none [] + (frN p ps + 1 + frs fs) + c40 l ≤ frN p ps + frs fs + c40 (40 :: l)
        rw [show c40 (40 :: l) = c40 l + 1 from List.count_cons_self]
        show 0 + (frN p ps + 1 + frs fs) + c40 l ≤ _
        omega
      split at h
      · cases h
      next n r hr =>
      cases h
      have h1 := rname_le hr
      have h2 := np_put1 p (.word n) ps 0 (Nat.le_refl 0) (Nat.le_refl 0)
      show sumP ps + np (put p (.word n)) 1 + frs fs + c40 r ≤ frN p ps + frs fs + c40 (c :: l)
      omega
  | B p ps fs l =>
    cases l with
    | nil => rw [step_B0] at h; split at h <;> cases h
    | cons c l =>
      have hc : c40 l ≤ c40 (c :: l) := List.count_le_count_cons ..
      rw [step_B] at h
      split at h
      · cases h; show sumP ps + np p 1 + frs fs + c40 l ≤ sumP ps + np p 1 + frs fs + c40 (c :: l); omega
      split at h
      · cases h; show sumP ps + np p 1 + frs fs + c40 l ≤ sumP ps + np p 1 + frs fs + c40 (c :: l); omega
      split at h
      · cases h
        show sumP (ps ++ [(none, p)]) + frs fs + c40 l ≤ sumP ps + np p 1 + frs fs + c40 (c :: l)
        rw [sumP_snoc]; omega
      split at h
      · split at h
        · cases h
        next k r hr =>
        cases h
        have h1 := rpay_le hr
        show sumP (ps ++ [(k, p)]) + frs fs + c40 r ≤ sumP ps + np p 1 + frs fs + c40 (c :: l)
        rw [sumP_snoc]; omega
      split at h
      · cases h
      next q qs gs =>
      split at h
      · cases h
        have h1 := np_whole p ps
        have h2 := np_put1 q (whole ps p) qs (sumP ps + np p 1 + 1) (Nat.le_trans (np_le _ _) (by omega)) (Nat.le_trans (np_le _ _) (by omega))
        show sumP qs + np (put q (whole ps p)) 1 + frs gs + c40 l ≤ sumP ps + np p 1 + (frN q qs + 1 + frs gs) + c40 (c :: l)
        omega
      · cases h
theorem goes_le {a b : St} (h : Goes a b) : pot b ≤ pot a := by
  induction h with
  | refl => exact Nat.le_refl _
  | cons e _ ih => exact Nat.le_trans ih (step_le e)
theorem np_min {l : List Nat} {s : Sn} (h : Ends (init l) (.ok s)) : np s 0 ≤ c40 l := by
  obtain ⟨b, g, e⟩ := h
  have h1 := goes_le g
  have h2 : pot (init l) = c40 l := by show 0 + 0 + c40 l = _; omega
  rw [h2] at h1
  cases b with
  | A p ps fs r =>
    cases r with
    | nil => cases e
    | cons c r =>
      rw [step_A] at e
      split at e
      · cases e
      split at e
      · cases e
      split at e <;> cases e
  | B p ps fs r =>
    cases r with
    | nil =>
      rw [step_B0] at e
      split at e
      · next hf =>
        cases e
        have := np_whole p ps
        have h3 : sumP ps + np p 1 + frs fs + c40 [] ≤ c40 l := h1
        omega
      · cases e
    | cons c r =>
      rw [step_B] at e
      split at e
      · cases e
      split at e
      · cases e
      split at e
      · cases e
      split at e
      · split at e <;> cases e
      split at e
      · cases e
      · split at e <;> cases e




/-! ### the one text of a sentence -/
def mine : Sn → Nat
  | .word _ => 2
  | .menu _ _ => 1
  | .trade _ _ _ => 0
def encl (b : Bool) (t : List Nat) : List Nat := if b = true then 40 :: (t ++ [41]) else t
def rmT : Pk → List Nat
  | none => []
  | some (u, d) => 32 :: 91 :: (TL.numL u.toNat ++ 47 :: (TL.numL d.toNat ++ [93]))
def tx0 : Sn → List Nat
  | .word n => n
  | .menu a b => encl (decide (mine a < 1)) (tx0 a) ++ [32, 38, 32] ++ encl (decide (mine b < 2)) (tx0 b)
  | .trade m p g => encl (decide (mine p < 1)) (tx0 p) ++ rmT m ++ [32, 62, 32] ++ tx0 g
def tx (s : Sn) (k : Nat) : List Nat := encl (decide (mine s < k)) (tx0 s)
theorem tx_0 (s : Sn) : tx s 0 = tx0 s := by
  unfold tx
  rw [decide_eq_false (Nat.not_lt_zero _)]
  rfl
theorem Spc.app {b : List (List Nat)} {y : List Nat} (hb : Spc b y) : ∀ {a : List (List Nat)} {x : List Nat}, Spc a x → Spc (a ++ b) (x ++ y)
  | _, _, .nil => hb
  | _, _, .cons (n := n) (t := t) (ts := ts) (l := l) h => by
    rw [List.cons_append, List.append_assoc, List.append_assoc]
    exact .cons (Spc.app hb h)
theorem Spc.tok (n : Nat) (t : List Nat) : Spc [t] (sps n ++ t) := by
  have := Spc.cons (n := n) (t := t) .nil
  rwa [List.append_nil] at this
theorem encl_tk {s : Sn} {k : Nat} (h : ∀ n, ∃ ts, Tk s (mine s) ts ∧ Spc ts (sps n ++ tx0 s)) (n : Nat) : ∃ ts, Tk s k ts ∧ Spc ts (sps n ++ tx s k) := by
  have up : ∀ {ts j}, Tk s (mine s) ts → j ≤ mine s → Tk s j ts := by
    clear h
    intro ts j ht hj
    generalize e : mine s = m at ht hj
    cases ht with
    | word h => exact .word (by assumption)
    | menu h1 h2 h3 => cases e; exact .menu hj h2 h3
    | trade h1 h2 h3 => cases e; cases Nat.le_zero.mp hj; exact .trade h1 h2 h3
    | par h => exact .par h
  unfold tx encl
  by_cases hk : mine s < k
  · rw [if_pos (decide_eq_true hk)]
    obtain ⟨ts, h1, h2⟩ := h 0
    refine ⟨_, .par (up h1 (Nat.zero_le _)), ?_⟩
    have e : sps n ++ 40 :: (tx0 s ++ [41]) = sps n ++ [40] ++ (sps 0 ++ tx0 s) ++ (sps 0 ++ [41]) := by simp
    rw [e]
    exact Spc.app (.tok 0 _) (Spc.app h2 (.tok n _))
  · rw [if_neg (by rw [decide_eq_false hk]; decide)]
    obtain ⟨ts, h1, h2⟩ := h n
    exact ⟨ts, up h1 (by omega), h2⟩
theorem tx0_tk : ∀ {s : Sn}, okS s → ∀ n, ∃ ts, Tk s (mine s) ts ∧ Spc ts (sps n ++ tx0 s)
  | .word w, h, n => ⟨[w], .word h, .tok n w⟩
  | .menu a b, h, n => by
    obtain ⟨ta, a1, a2⟩ := encl_tk (k := 1) (tx0_tk h.1) n
    obtain ⟨tb, b1, b2⟩ := encl_tk (k := 2) (tx0_tk h.2) 1
    refine ⟨_, .menu (Nat.le_refl 1) a1 b1, ?_⟩
    have e : sps n ++ tx0 (.menu a b) = sps n ++ tx a 1 ++ (sps 1 ++ [38]) ++ (sps 1 ++ tx b 2) := by
      show sps n ++ (tx a 1 ++ [32, 38, 32] ++ tx b 2) = _
      simp
    rw [e]
    exact Spc.app b2 (Spc.app (.tok 1 _) a2)
  | .trade m p g, h, n => by
    obtain ⟨tp, p1, p2⟩ := encl_tk (k := 1) (tx0_tk h.2.1) n
    obtain ⟨tg, g1, g2⟩ := encl_tk (k := 0) (tx0_tk h.2.2) 1
    rw [tx_0] at g2
    refine ⟨_, .trade h.1 p1 g1, ?_⟩
    have hr : Spc (rm m) (rmT m) := by
      rcases m with _ | ⟨u, d⟩
      · exact .nil
      · have := Spc.cons (n := 1) (t := [91]) (.cons (n := 0) (t := TL.numL u.toNat) (.cons (n := 0) (t := [47]) (.cons (n := 0) (t := TL.numL d.toNat) (.cons (n := 0) (t := [93]) .nil))))
        show Spc [[91], TL.numL u.toNat, [47], TL.numL d.toNat, [93]] (32 :: 91 :: (TL.numL u.toNat ++ 47 :: (TL.numL d.toNat ++ [93])))
        simpa using this
    have e : sps n ++ tx0 (.trade m p g) = sps n ++ tx p 1 ++ rmT m ++ (sps 1 ++ [62]) ++ (sps 1 ++ tx0 g) := by
      show sps n ++ (tx p 1 ++ rmT m ++ [32, 62, 32] ++ tx0 g) = _
      simp
    rw [e]
    exact Spc.app g2 (Spc.app (.tok 1 _) (Spc.app hr p2))
theorem tx_reads {s : Sn} (h : okS s) : Ends (init (tx0 s)) (.ok s) := by
  obtain ⟨ts, h1, h2⟩ := encl_tk (k := 0) (tx0_tk h) 0
  rw [tx_0] at h2
  have := reads_all h1 h2 0
  simpa using this
/-! ### how many brackets it has -/
theorem c40_free {l : List Nat} (h : ∀ c ∈ l, c ≠ 40) : c40 l = 0 := List.count_eq_zero.mpr fun m => h 40 m rfl
theorem name_free {n : List Nat} (h : okNm n) : ∀ c ∈ n, c ≠ 40 ∧ c ≠ 41 := fun c hc => by
  have := (name_parts h).2.2 c hc
  constructor <;> rintro rfl <;> revert this <;> decide
theorem num_free (n : Nat) : ∀ c ∈ TL.numL n, c ≠ 40 ∧ c ≠ 41 := fun c hc => by
  have := TL.numL_digits n c hc
  omega
theorem rmT_free (m : Pk) : ∀ c ∈ rmT m, c ≠ 40 ∧ c ≠ 41 := by
  rcases m with _ | ⟨u, d⟩
  · intro c hc; cases hc
  · intro c hc
    simp only [rmT, List.mem_cons, List.mem_append, List.not_mem_nil, or_false] at hc
    rcases hc with rfl | rfl | hc | rfl | hc | rfl
    · decide
    · decide
    · exact num_free _ c hc
    · decide
    · exact num_free _ c hc
    · decide
theorem c40_encl (b : Bool) (t : List Nat) : c40 (encl b t) = c40 t + (if b = true then 1 else 0) := by
  unfold encl
  cases b with
  | true =>
    rw [if_pos rfl, if_pos rfl]
    show List.count 40 (40 :: (t ++ [41])) = _
    rw [List.count_cons_self, List.count_append]
    show c40 t + 0 + 1 = _
    omega
  | false => rfl
theorem np_mine (s : Sn) (k : Nat) (hk : k ≤ 2) : np s k = np s 0 + (if decide (mine s < k) = true then 1 else 0) := by
  cases s with
  | word => show 0 = 0 + (if decide (2 < k) = true then 1 else 0); rw [if_neg (by rw [decide_eq_false (by omega)]; decide)]
  | menu a b =>
    show np a 1 + np b 2 + (if 1 < k then 1 else 0) = np a 1 + np b 2 + 0 + (if decide (1 < k) = true then 1 else 0)
    by_cases h : 1 < k
    · rw [if_pos h, if_pos (decide_eq_true h)]
    · rw [if_neg h, if_neg (by rw [decide_eq_false h]; decide)]
  | trade m p g =>
    show np p 1 + np g 0 + (if 0 < k then 1 else 0) = np p 1 + np g 0 + 0 + (if decide (0 < k) = true then 1 else 0)
    by_cases h : 0 < k
    · rw [if_pos h, if_pos (decide_eq_true h)]
    · rw [if_neg h, if_neg (by rw [decide_eq_false h]; decide)]
theorem c40_app (a b : List Nat) : c40 (a ++ b) = c40 a + c40 b := List.count_append
theorem c40_tx : ∀ {s : Sn}, okS s → c40 (tx0 s) = np s 0
  | .word w, h => c40_free fun c hc => (name_free h c hc).1
  | .menu a b, h => by
    show c40 (encl _ (tx0 a) ++ [32, 38, 32] ++ encl _ (tx0 b)) = np a 1 + np b 2 + 0
    rw [c40_app, c40_app, c40_encl, c40_encl, c40_tx h.1, c40_tx h.2, np_mine a 1 (by decide), np_mine b 2 (by decide), show c40 [32, 38, 32] = 0 from rfl]
    omega
  | .trade m p g, h => by
    show c40 (encl _ (tx0 p) ++ rmT m ++ [32, 62, 32] ++ tx0 g) = np p 1 + np g 0 + 0
    rw [c40_app, c40_app, c40_app, c40_encl, c40_tx h.2.1, c40_tx h.2.2, np_mine p 1 (by decide), c40_free fun c hc => (rmT_free m c hc).1, show c40 [32, 62, 32] = 0 from rfl]
    omega
/-! ### its brackets close -/
def lv : List Nat → Nat → Option Nat
  | [], n => some n
  | c :: l, n => if c = 40 then lv l (n + 1) else if c = 41 then (match n with
    | 0 => none
    | m + 1 => lv l m) else lv l n
theorem lv_free {r : List Nat} : ∀ {l : List Nat} (n : Nat), (∀ c ∈ l, c ≠ 40 ∧ c ≠ 41) → lv (l ++ r) n = lv r n
  | [], n, _ => rfl
  | c :: l, n, h => by
    have h1 := h c List.mem_cons_self
    rw [List.cons_append]
    show (if c = 40 then _ else _) = _
    rw [if_neg h1.1, if_neg h1.2]
    exact lv_free n fun d hd => h d (List.mem_cons_of_mem _ hd)
theorem lv_encl {b : Bool} {t : List Nat} (h : ∀ r n, lv (t ++ r) n = lv r n) (r : List Nat) (n : Nat) : lv (encl b t ++ r) n = lv r n := by
  unfold encl
  cases b with
  | false => exact h r n
  | true =>
    rw [if_pos rfl, List.cons_append, List.append_assoc]
    show lv (t ++ 41 :: r) (n + 1) = _
    rw [h]
    rfl
theorem lv_tx : ∀ {s : Sn}, okS s → ∀ r n, lv (tx0 s ++ r) n = lv r n
  | .word w, h, r, n => lv_free n (name_free h)
  | .menu a b, h, r, n => by
    show lv (encl _ (tx0 a) ++ [32, 38, 32] ++ encl _ (tx0 b) ++ r) n = _
    rw [List.append_assoc, List.append_assoc, lv_encl (lv_tx h.1), lv_free n (by decide), lv_encl (lv_tx h.2)]
  | .trade m p g, h, r, n => by
    show lv (encl _ (tx0 p) ++ rmT m ++ [32, 62, 32] ++ tx0 g ++ r) n = _
    rw [List.append_assoc, List.append_assoc, List.append_assoc, lv_encl (lv_tx h.2.1), lv_free n (rmT_free m), lv_free n (by decide), lv_tx h.2.2]
theorem lv_all {s : Sn} (h : okS s) : lv (tx0 s) 0 = some 0 := by
  have := lv_tx h [] 0
  rwa [List.append_nil] at this
/-- a bracket less: not this sentence -/
theorem less_not {s : Sn} (h : okS s) {l : List Nat} (hl : c40 l < c40 (tx0 s)) : ¬ Ends (init l) (.ok s) := fun e => by
  have := np_min e
  rw [c40_tx h] at hl
  omega




abbrev cs (z : Str) : List Nat := z.cps.toList
theorem len_cs (z : Str) : z.length = (cs z).length := by
  show z.cps.size = z.cps.toList.length
  rw [Array.length_toList]
theorem cs_ext {x y : Str} (h : cs x = cs y) : x = y := by
  cases x with | mk a => cases y with | mk b =>
  have : a = b := Array.toList_inj.mp h
  rw [this]
/-- a place in a text, and what is left there -/
def AtI (z : Str) (i : Nat) (l : List Nat) : Prop := i ≤ (cs z).length ∧ (cs z).drop i = l
theorem AtI.next {z : Str} {i c : Nat} {l : List Nat} (h : AtI z i (c :: l)) : AtI z (i + 1) l := by
  obtain ⟨h1, h2⟩ := h
  have hl : i < (cs z).length := by
    rcases Nat.lt_or_ge i (cs z).length with h | h
    · exact h
    · rw [List.drop_eq_nil_of_le h] at h2; cases h2
  refine ⟨hl, ?_⟩
  rw [List.drop_eq_getElem_cons hl] at h2
  injection h2
theorem AtI.len {z : Str} {i : Nat} {l : List Nat} (h : AtI z i l) : i + l.length = (cs z).length := by
  obtain ⟨h1, rfl⟩ := h
  rw [List.length_drop]
  omega
theorem AtI.app {z : Str} {i : Nat} {a l : List Nat} (h : AtI z i (a ++ l)) : AtI z (i + a.length) l := by
  have h3 := h.len
  obtain ⟨h1, h2⟩ := h
  rw [List.length_append] at h3
  refine ⟨by omega, ?_⟩
  rw [← List.drop_drop, h2, List.drop_left]
theorem AtI.drop {z : Str} {i n : Nat} {l : List Nat} (h : AtI z i l) (hn : n ≤ l.length) : AtI z (i + n) (l.drop n) := by
  have h3 := h.len
  obtain ⟨h1, h2⟩ := h
  exact ⟨by omega, by rw [← List.drop_drop, h2]⟩
theorem cs_cut (z : Str) {i j : Nat} (hi : i ≤ j) (hj : j ≤ (cs z).length) : cs (cutS z (some (i : Int)) (some (j : Int))) = ((cs z).drop i).take (j - i) := by
  unfold cutS
  rw [HT.sIx_nat, HT.sIx_nat]
  rw [← len_cs] at hj
  show ((cs z).drop (min i z.length)).take (min j z.length - min i z.length) = _
  rw [Nat.min_eq_left hj, Nat.min_eq_left (by omega)]
theorem cutOne {z : Str} {i : Nat} {l : List Nat} (h : AtI z i l) : cutS z (some (i : Int)) (some ((i : Int) + 1)) = one l.head? := by
  refine cs_ext ?_
  cases l with
  | nil =>
    have := h.len
    rw [show ((i : Int) + 1) = ((i + 1 : Nat) : Int) by omega]
    unfold cutS
    rw [HT.sIx_nat, HT.sIx_nat]
    show ((cs z).drop (min i z.length)).take (min (i + 1) z.length - min i z.length) = []
    rw [len_cs, ← this]
    simp
  | cons c l =>
    have := h.next.1
    rw [show ((i : Int) + 1) = ((i + 1 : Nat) : Int) by omega, cs_cut z (Nat.le_succ i) this, h.2]
    rw [show i + 1 - i = 1 by omega]
    rfl
theorem one_dec (o : Option Nat) (c : Nat) : decide (one o = sg c) = decide (o = some c) := by
  by_cases h : o = some c
  · rw [decide_eq_true h, decide_eq_true (one_inj.mpr h)]
  · rw [decide_eq_false h, decide_eq_false fun z => h (one_inj.mp z)]
theorem sg_sp : (Str.ofString " ") = sg 32 := by decide +kernel
/-- a kind as a value: once, or a pair -/
def ModeV (H : Hp) (m : V) : Pk → Prop
  | none => m = .str "once"
  | some (u, v) => ∃ t, m = .ref t ∧ H t = some (.tup [.int u, .int v])
theorem ModeV.ts {H H' : Hp} {m : V} {k : Pk} (e : TS H H') (h : ModeV H m k) : ModeV H' m k := by
  cases k with
  | none => exact h
  | some uv =>
    obtain ⟨t, h1, h2⟩ := h
    exact ⟨t, h1, e _ _ h2⟩
theorem sg_br : (Str.ofString "[") = sg 91 := by decide +kernel
theorem sg_sl : (Str.ofString "/") = sg 47 := by decide +kernel
theorem sg_rb : (Str.ofString "]") = sg 93 := by decide +kernel
def okk : Pk → Prop
  | none => True
  | some (u, d) => 1 ≤ u ∧ 0 ≤ d
section
variable {P : Program} {w : World} {K : PySem.W.Frag} {mg : Str → Option Value} {base : Heap}
structure BOk (mg : Str → Option Value) : Prop where
  isi : mg "isinstance" = none
  int : mg "int" = none
  bool : mg "bool" = none
  str : mg "str" = none
  tuple : mg "tuple" = none
  list : mg "list" = none
  len : mg "len" = none
  range : mg "range" = none
def Flat (v : V) : Prop := v = .non ∨ (∃ b, v = .bl b) ∨ (∃ i, v = .int i) ∨ ∃ z, v = .str z
theorem once_shaped : SeqAt.shaped (.str "once") = true := by decide +kernel
/-- whether a value is a whole number of at least l -/
def IsW (K : PySem.W.Frag) (H : Hp) (v : V) (l : Int) (b : Bool) : Prop := (∃ i, v = .int i ∧ b = decide (l ≤ i)) ∨ (b = false ∧ ((∃ k, v = .bl k) ∨ ∃ T, TyX K H v (.type T) ∧ kitB T "int" = some false))
def spWh (K : PySem.W.Frag) : Sp := fun vs H Q _ => ∃ v l b, vs = [v, .int l] ∧ IsW K H v l b ∧ Q (.bl b) H
theorem ok_whole (T : Top K mg "is_number_from" s_is_number_from) (B : BOk mg) : Fn P w K mg base 1 "is_number_from" (spWh K) := by
  refine fn_ok T sc_is_number_from so_is_number_from (fun vs H Q E h => ?_) (fun _ _ _ _ _ _ us hl => match us, hl with | [_, _], _ => rfl) fun f cdv A outer s H vs Q E hr h nd => ?_
  · obtain ⟨v, l, b, rfl, _⟩ := h
    rfl
  · obtain ⟨v, l, b, rfl, hv, q⟩ := h
    obtain ⟨bi, bt, bb, bs, btu, bl, bn, br⟩ := B
    rcases hv with ⟨i, rfl, rfl⟩ | ⟨rfl, ⟨k, rfl⟩ | ⟨T, ht, hk⟩⟩
    · walk_at "sts"
      refine c_isi ty_int (.ty _) (kit_ty kb_int_int) ?_
      walk_at "sts"
      refine c_isi ty_int (.ty _) (kit_ty kb_int_bool) ?_
      walk_at "sts"
      exact q
    · walk_at "sts"
      refine c_isi ty_bl (.ty _) (kit_ty kb_bool_int) ?_
      walk_at "sts"
      refine c_isi ty_bl (.ty _) (kit_ty kb_bool_bool) ?_
      walk_at "sts"
      exact q
    · walk_at "sts"
      refine c_isi (by exact ht) (.ty _) (kit_ty hk) ?_
      walk_at "sts"
      exact q
def KindV (K : PySem.W.Frag) (H : Hp) (v : V) (b : Bool) : Prop :=
  (∃ p xs, v = .ref p ∧ H p = some (.tup xs) ∧ ((¬ (xs.length : Int) = 2 ∧ b = false) ∨ ∃ x y b1 b2, xs = [x, y] ∧ IsW K H x 1 b1 ∧ IsW K H y 0 b2 ∧ b = (b1 && b2))) ∨
  (∃ z, v = .str z ∧ b = decide (z = "once")) ∨ (b = false ∧ ∃ T, TyX K H v (.type T) ∧ kitB T "tuple" = some false ∧ kitB T "str" = some false)
def spKi (K : PySem.W.Frag) : Sp := fun vs H Q _ => ∃ v b, vs = [v] ∧ KindV K H v b ∧ Q (.bl b) H
theorem ok_kind (T : Top K mg "is_kind" s_is_kind) (B : BOk mg) (F : Fn P w K mg base 1 "is_number_from" (spWh K)) : Fn P w K mg base 2 "is_kind" (spKi K) := by
  refine fn_ok T sc_is_kind so_is_kind (fun vs H Q E h => ?_) (fun _ _ _ _ _ _ us hl => match us, hl with | [_], _ => rfl) fun f cdv A outer s H vs Q E hr h nd => ?_
  · obtain ⟨v, b, rfl, _⟩ := h
    rfl
  · obtain ⟨v, b, rfl, hv, q⟩ := h
    obtain ⟨bi, bt, bb, bs, btu, bl, bn, br⟩ := B
    rcases hv with ⟨p, xs, rfl, hp, hx⟩ | ⟨z, rfl, rfl⟩ | ⟨rfl, T, ht, hk1, hk2⟩
    · walk_at "sts"
      refine c_isi (ty_tup hp) (.ty _) (kit_ty kb_tuple_tuple) ?_
      walk_at "sts"
      refine c_lenT (by exact SqT.of hp) ?_
      rcases hx with ⟨hl, rfl⟩ | ⟨x, y, b1, b2, rfl, h1, h2, rfl⟩
      · walk_at "sts"
        refine ite_f (decide_eq_false hl) ?_
        exact q
      · walk_at "sts"
        refine e_call (by exact F) (by exact hr) (by decide) ?_
        walk_at "sts"
        refine ix_t (by exact SqT.of hp) rfl ?_
        walk_at "sts"
        refine ⟨x, 1, b1, rfl, h1, ?_⟩
        cases b1 with
        | false =>
          walk_at "sts"
          exact q
        | true =>
          walk_at "sts"
          refine e_call (by exact F) (by exact hr) (by decide) ?_
          walk_at "sts"
          refine ix_t (by exact SqT.of hp) rfl ?_
          walk_at "sts"
          refine ⟨y, 0, b2, rfl, h2, ?_⟩
          exact q
    · walk_at "sts"
      refine c_isi ty_str (.ty _) (kit_ty kb_str_tuple) ?_
      walk_at "sts"
      refine c_isi ty_str (.ty _) (kit_ty kb_str_str) ?_
      walk_at "sts"
      exact q
    · walk_at "sts"
      refine c_isi (by exact ht) (.ty _) (kit_ty hk1) ?_
      walk_at "sts"
      refine c_isi (by exact ht) (.ty _) (kit_ty hk2) ?_
      walk_at "sts"
      exact q
theorem kindV_of {H : Hp} {m : V} {k : Pk} (hm : ModeV H m k) (hk : okk k) : KindV K H m true := by
  rcases k with _ | ⟨u, v⟩
  · exact .inr (.inl ⟨"once", hm, by simp⟩)
  · obtain ⟨t, rfl, ht⟩ := hm
    exact .inl ⟨t, _, rfl, ht, .inr ⟨.int u, .int v, true, true, rfl, .inl ⟨u, rfl, by simp [hk.1]⟩, .inl ⟨v, rfl, by simp [hk.2]⟩, rfl⟩⟩
def SnV (H : Hp) : V → Sn → Prop
  | v, .word n => ∃ t z, v = .ref t ∧ H t = some (.tup [.str "word", .str z]) ∧ cs z = n
  | v, .menu l r => ∃ t a b, v = .ref t ∧ H t = some (.tup [.str "menu", a, b]) ∧ SnV H a l ∧ SnV H b r
  | v, .trade k p g => ∃ t m a b, v = .ref t ∧ H t = some (.tup [.str "trade", m, a, b]) ∧ ModeV H m k ∧ SnV H a p ∧ SnV H b g
theorem SnV.ts {H H' : Hp} (e : TS H H') : ∀ {s : Sn} {v : V}, SnV H v s → SnV H' v s
  | .word n, v, ⟨t, z, h1, h2, h3⟩ => ⟨t, z, h1, e _ _ h2, h3⟩
  | .menu l r, v, ⟨t, a, b, h1, h2, h3, h4⟩ => ⟨t, a, b, h1, e _ _ h2, h3.ts e, h4.ts e⟩
  | .trade k p g, v, ⟨t, m, a, b, h1, h2, h5, h3, h4⟩ => ⟨t, m, a, b, h1, e _ _ h2, h5.ts e, h3.ts e, h4.ts e⟩
theorem SnV.ref {H : Hp} {v : V} {s : Sn} (h : SnV H v s) : ∃ t, v = .ref t := by
  cases s with
  | word => obtain ⟨t, z, h, _⟩ := h; exact ⟨t, h⟩
  | menu => obtain ⟨t, _, _, h, _⟩ := h; exact ⟨t, h⟩
  | trade => obtain ⟨t, _, _, _, h, _⟩ := h; exact ⟨t, h⟩
end
theorem sg_lp : (Str.ofString "(") = sg 40 := by decide +kernel
theorem sg_rp : (Str.ofString ")") = sg 41 := by decide +kernel
theorem l_join {X : Cx} {st : Stmt} {rest : List Stmt} {C : _} {σ : L2.St} {H : Hp} (Pm : L2.St → Hp → Prop) (h1 : ∀ σ H, Pm σ H → wL X rest C σ H) (h2 : (∀ σ H, Pm σ H → wL X rest C σ H) → wL X (st :: rest) C σ H) : wL X (st :: rest) C σ H := h2 h1
theorem take_snc {α : Type} {l : List α} {k : Nat} {x : α} (h : l[k]? = some x) : l.take (k + 1) = l.take k ++ [x] := by
  rw [List.take_add_one, h]
  rfl
theorem at0 {a : V} {l : List V} : atI (a :: l) 0 = some a := atI_nat (j := 0) rfl
theorem at1 {a b : V} {l : List V} : atI (a :: b :: l) 1 = some b := atI_nat (j := 1) rfl
theorem at2 {a b c : V} {l : List V} : atI (a :: b :: c :: l) 2 = some c := atI_nat (j := 2) rfl
theorem at3 {a b c d : V} {l : List V} : atI (a :: b :: c :: d :: l) 3 = some d := atI_nat (j := 3) rfl
theorem cs_app (x y : Str) : cs (x ++ y) = cs x ++ cs y := Array.toList_append ..
theorem app_len (x y : Str) : (x ++ y).length = x.length + y.length := by rw [len_cs, cs_app, List.length_append, ← len_cs, ← len_cs]
theorem cs_num {u : Int} (h : 0 ≤ u) : cs (toString u : Str) = TL.numL u.toNat := by
  obtain ⟨n, rfl⟩ := Int.eq_ofNat_of_zero_le h
  exact TL.tl_num n
theorem log_9 {d : Int} (h0 : 0 ≤ d) (h1 : d < 1000000000) : d.natAbs.log2 < 1920 := by
  have h : d.natAbs < 2 ^ 30 := by omega
  rcases Nat.eq_zero_or_pos d.natAbs with z | z
  · rw [z]; decide
  · have := (Nat.log2_lt (by omega)).mpr h
    omega
theorem num_len {u : Int} (h0 : 0 ≤ u) (h1 : u < 1000000000) : (TL.numL u.toNat).length ≤ 9 := TL.numL_len (by decide) (by omega)
theorem empty_app (x : Str) : Str.empty ++ x = x := cs_ext (by rw [cs_app]; rfl)
/-- nodes -/
def nod : Sn → Nat
  | .word _ => 1
  | .menu l r => nod l + nod r + 1
  | .trade _ p g => nod p + nod g + 1
def dep : Sn → Nat
  | .word _ => 0
  | .menu l r => max (dep l) (dep r) + 1
  | .trade _ p g => max (dep p) (dep g) + 1
section
variable {P : Program} {w : World} {K : PySem.W.Frag} {mg : Str → Option Value} {base : Heap} {C CT CH : Addr}
theorem o_addS {X : Cx} {H : Hp} {Q : VK} {x y : Str} (hz : x.length + y.length ≤ 1000000) (q : Q (.str (x ++ y)) H) : wB X .Add (.str x) (.str y) H Q := b_of op_add_str ⟨x, y, rfl, rfl, by show _ ≤ 2 ^ 24; omega, q⟩
end
abbrev sVs (l : List Str) : List V := l.map V.str
theorem sVs_at {ns : List Str} {d : Int} (h0 : 0 ≤ d) (h1 : d < ns.length) : ∃ z, z ∈ ns ∧ atI (sVs ns) d = some (.str z) := by
  obtain ⟨j, rfl⟩ := Int.eq_ofNat_of_zero_le h0
  have hj : j < ns.length := by omega
  exact ⟨ns[j], List.getElem_mem hj, atI_nat (by simp [hj])⟩
theorem PoolAt.up {H H' : Hp} {p : Addr} (h : PoolAt H p) (e : Same H H') : PoolAt H' p := let ⟨a, b, c, h⟩ := h; ⟨a, b, c, e _ _ h⟩
theorem cut_hi (z : Str) (j : Nat) : cs (cutS z none (some (j : Int))) = (cs z).take j := by
  unfold cutS
  rw [HT.sIx_nat, HT.sIx_none]
  show ((cs z).drop 0).take (min j z.length - 0) = _
  rw [List.drop_zero, Nat.sub_zero, len_cs]
  by_cases h : j ≤ (cs z).length
  · rw [Nat.min_eq_left h]
  · rw [Nat.min_eq_right (by omega), List.take_length, List.take_of_length_le (by omega)]
theorem cut_lo (z : Str) (j : Nat) : cs (cutS z (some (j : Int)) none) = (cs z).drop j := by
  unfold cutS
  rw [HT.sIx_nat, HT.sIx_none]
  show ((cs z).drop (min j z.length)).take (z.length - min j z.length) = _
  rw [len_cs]
  by_cases h : j ≤ (cs z).length
  · rw [Nat.min_eq_left h, List.take_of_length_le (by simp)]
  · rw [Nat.min_eq_right (by omega), Nat.sub_self, List.take_zero, List.drop_eq_nil_of_le (by omega)]
def okN (z : Str) : Prop := nameB (cs z) = true ∧ z.length ≤ 12
/-- the codes of a name -/
def Nm (l : List Nat) : Prop := (∃ c t, l = c :: t ∧ let1 c = true) ∧ (∀ x ∈ l, alnum x = true) ∧ l.length ≤ 12
theorem Nm.b {l : List Nat} (h : Nm l) : nameB l = true := by
  obtain ⟨⟨c, t, rfl, hc⟩, ha, hl⟩ := h
  unfold nameB
  have h2 : ((c :: t).all fun c => let1 c || dig1 c) = true := by
    rw [List.all_eq_true]
    exact fun x hx => ha x hx
  rw [h2]
  simp only [List.head?_cons, Option.map_some, Option.getD_some, hc, List.length_cons] at hl ⊢
  simp
  omega
theorem Nm.ok {z : Str} (h : Nm (cs z)) : okN z := ⟨h.b, by rw [len_cs]; exact h.2.2⟩
theorem okN.nm {z : Str} (h : okN z) : Nm (cs z) := by
  obtain ⟨h, hl⟩ := h
  rw [len_cs] at hl
  have h : nameB (cs z) = true := h
  generalize cs z = l at *
  unfold nameB at h
  simp only [Bool.and_eq_true, decide_eq_true_eq, List.all_eq_true] at h
  obtain ⟨⟨h1, _⟩, h3, h4⟩ := h
  cases l with
  | nil => simp at h1
  | cons c t => exact ⟨⟨c, t, rfl, by simpa using h3⟩, h4, hl⟩
theorem Nm.len {l : List Nat} (h : Nm l) : 1 ≤ l.length := by
  obtain ⟨⟨c, t, rfl, _⟩, _⟩ := h
  simp
theorem ok1_of {c : Nat} (h : let1 c = true) : alnum c = true := by unfold alnum; rw [h]; rfl
theorem Nm.put {l : List Nat} {c : Nat} {j : Nat} (h : Nm l) (hc : let1 c = true) (hj : j < l.length) : Nm (l.take j ++ [c] ++ l.drop (j + 1)) := by
  obtain ⟨⟨a, t, rfl, ha⟩, hall, hl⟩ := h
  refine ⟨?_, fun x hx => ?_, ?_⟩
  · cases j with
    | zero => exact ⟨c, _, rfl, hc⟩
    | succ j => exact ⟨a, _, rfl, ha⟩
  · simp only [List.mem_append, List.mem_singleton] at hx
    rcases hx with (h | h) | h
    · exact hall x (List.mem_of_mem_take h)
    · subst h; exact ok1_of hc
    · exact hall x (List.mem_of_mem_drop h)
  · simp only [List.length_append, List.length_take, List.length_drop, List.length_cons, List.length_nil] at *
    omega
theorem Nm.more {l : List Nat} {c : Nat} (h : Nm l) (hc : alnum c = true) (hl : l.length < 12) : Nm (l ++ [c]) := by
  obtain ⟨⟨a, t, rfl, ha⟩, hall, _⟩ := h
  refine ⟨⟨a, t ++ [c], rfl, ha⟩, fun x hx => ?_, by simp only [List.length_append, List.length_cons, List.length_nil] at *; omega⟩
  rcases List.mem_append.mp hx with h | h
  · exact hall x h
  · simp only [List.mem_singleton] at h; subst h; exact hc
theorem Nm.cut {l : List Nat} {j : Nat} (h : Nm l) (hj : 1 ≤ j) : Nm (l.take j) := by
  obtain ⟨⟨a, t, rfl, ha⟩, hall, hl⟩ := h
  obtain ⟨i, rfl⟩ : ∃ i, j = i + 1 := ⟨j - 1, by omega⟩
  exact ⟨⟨a, t.take i, rfl, ha⟩, fun x hx => hall x (List.mem_of_mem_take hx), by simp only [List.length_take]; omega⟩
theorem Nm.one {c : Nat} (hc : let1 c = true) : Nm [c] := ⟨⟨c, [], rfl, hc⟩, fun x hx => by simp only [List.mem_singleton] at hx; subst hx; exact ok1_of hc, by simp⟩
theorem letters_cs : cs (Str.ofString "abcdefghijklmnopqrstuvwxyz") = List.range' 97 26 := by decide +kernel
theorem digits_cs : cs (Str.ofString "0123456789") = List.range' 48 10 := by decide +kernel
theorem let1_of {c : Nat} (h1 : 97 ≤ c) (h2 : c ≤ 122) : let1 c = true := by unfold let1; simp [h1, h2]
theorem dig1_of {c : Nat} (h1 : 48 ≤ c) (h2 : c ≤ 57) : dig1 c = true := by unfold dig1; simp [h1, h2]
theorem letter_at {d : Int} (h0 : 0 ≤ d) (h1 : d < 26) : ∃ c, atI (cs (Str.ofString "abcdefghijklmnopqrstuvwxyz")) d = some c ∧ let1 c = true := by
  obtain ⟨j, rfl⟩ := Int.eq_ofNat_of_zero_le h0
  refine ⟨97 + j, atI_nat ?_, let1_of (by omega) (by omega)⟩
  rw [letters_cs, List.getElem?_range' (by omega)]
  simp
theorem sign_at {d : Int} (h0 : 0 ≤ d) (h1 : d < 36) : ∃ c, atI (cs (Str.ofString "abcdefghijklmnopqrstuvwxyz" ++ Str.ofString "0123456789")) d = some c ∧ alnum c = true := by
  obtain ⟨j, rfl⟩ := Int.eq_ofNat_of_zero_le h0
  rw [cs_app, letters_cs, digits_cs]
  by_cases hj : j < 26
  · refine ⟨97 + j, atI_nat ?_, ok1_of (let1_of (by omega) (by omega))⟩
    rw [List.getElem?_append_left (by simpa using hj), List.getElem?_range' (by omega)]
    simp
  · refine ⟨48 + (j - 26), atI_nat ?_, ?_⟩
    · rw [List.getElem?_append_right (by simp; omega), List.getElem?_range' (by simp; omega)]
      simp
    · unfold alnum
      rw [dig1_of (by omega) (by omega)]
      simp
section
variable {P : Program} {w : World} {K : PySem.W.Frag} {mg : Str → Option Value} {base : Heap}
/-- a name of so many signs -/
def NmE (z : Str) (n : Nat) : Prop := Nm (cs z) ∧ (cs z).length = n
/-- the last row of the body under the test -/
def lastOf (b : List Stmt) : Stmt := match b.getD 3 (.Pass ⟨0, 0, 0, 0⟩) with
  | .If _ a _ _ => a.getD 4 (.Pass ⟨0, 0, 0, 0⟩)
  | _ => .Pass ⟨0, 0, 0, 0⟩
def spLName : Sp := fun vs H Q _ => ∃ a l ns, vs = [.ref a, .ref l] ∧ PoolAt H a ∧ l ≠ a ∧ H l = some (.lst (sVs ns)) ∧ ns.length ≤ 100 ∧ (∀ z ∈ ns, okN z) ∧ ∀ z H', But a H H' → PoolAt H' a → okN z → Q (.str z) H'
theorem ok_lname (T : Top K mg "_law_name" s_name) (mLen : mg "len" = none) (mMax : mg "max" = none) (mR : mg "range" = none) (F : Fn P w K mg base 1 "_law_next" spNext) : Fn P w K mg base 2 "_law_name" spLName := by
  refine fn_ok T sc_name so_name (fun vs H Q E h => by obtain ⟨a, l, ns, rfl, _⟩ := h; rfl) (fun _ _ _ _ _ _ us hl => match us, hl with | [_, _], _ => rfl) fun f cdv A outer s H vs Q E hr h nd => ?_
  obtain ⟨a, l, ns, rfl, hp, hla, hl, hn, hok, q⟩ := h
  walk_at "sts"
  refine o_addS (by decide +kernel) ?_
  walk_at "sts"
  refine e_call (by exact F) (by exact hr) (by decide) ?_
  walk_at "sts"
  refine ⟨a, 6, rfl, by decide, by decide, hp, fun d H1 d0 d1 b1 p1 => ?_⟩
  have hl1 := b1 l _ hla hl
  -- a new one
  have new : ∀ σ, σ = [some (V.ref a), some (.ref l), some (.str (Str.ofString "abcdefghijklmnopqrstuvwxyz")), some (.str (Str.ofString "abcdefghijklmnopqrstuvwxyz" ++ Str.ofString "0123456789")), some (.int d), none, none, none] →
      wL (cxOf CX0 P w K mg base N_name (Str.ofString "_law_name") (defScope s_name) f cdv A outer s H E).nox ((defBody s_name).drop 4) { nx := fun _ H' => Q .non H', rt := Q } σ H1 := by
    rintro σ rfl
    show wL _ (_ :: _) _ _ _
    walk_at "sts"
    refine e_call (by exact F) (by exact hr) (by decide) ?_
    walk_at "sts"
    refine ⟨a, 26, rfl, by decide, by decide, p1, fun d2 H2 e0 e1 b2 p2 => ?_⟩
    walk_at "sts"
    obtain ⟨c, hc, hc1⟩ := letter_at e0 e1
    refine ix_s (by decide +kernel) hc ?_
    walk_at "sts"
    refine s_forR (by assumption) ?_
    walk_at "sts"
    refine ⟨by show 6 ≤ sizeLine; decide, fun r H3 e3 nr hr3 => ?_⟩
    walk_at "sts"
    refine e_call (by exact F) (by exact hr) (by decide) ?_
    walk_at "sts"
    refine ⟨a, 6, rfl, by decide, by decide, p2.up e3, fun d4 H4 f0 f1 b4 p4 => ?_⟩
    have ra : r ≠ a := fun e => by subst e; obtain ⟨_, _, _, p2⟩ := p2; rw [p2] at nr; cases nr
    obtain ⟨m, hm, hm2⟩ : ∃ m : Nat, atI ([.int 0, .int 0, .int 1, .int 2, .int 5, .int 11] : List V) d4 = some (.int m) ∧ m ≤ 11 := by
      obtain ⟨j, rfl⟩ := Int.eq_ofNat_of_zero_le f0
      match j, f1 with
      | 0, _ => exact ⟨0, rfl, by decide⟩
      | 1, _ => exact ⟨0, rfl, by decide⟩
      | 2, _ => exact ⟨1, rfl, by decide⟩
      | 3, _ => exact ⟨2, rfl, by decide⟩
      | 4, _ => exact ⟨5, rfl, by decide⟩
      | 5, _ => exact ⟨11, rfl, by decide⟩
    refine ix_l (by exact SqL.of (b4 r _ ra hr3)) hm ?_
    refine ⟨m, rfl, by omega, fun i σ H' => ∃ z y, σ = [some (V.ref a), some (.ref l), some (.str (Str.ofString "abcdefghijklmnopqrstuvwxyz")), some (.str (Str.ofString "abcdefghijklmnopqrstuvwxyz" ++ Str.ofString "0123456789")), some (.int d), some (.str z), none, y] ∧ But a H H' ∧ PoolAt H' a ∧ NmE z (i + 1), ⟨sg c, _, rfl, ((b1.trans b2).trans (But.of e3)).trans b4, p4, Nm.one hc1, rfl⟩, fun i σ H5 hi hW => ?_, fun σ H5 hW => ?_⟩
    · obtain ⟨z, y, rfl, b5, p5, hz, hzl⟩ := hW
      walk_at "sts"
      refine e_call (by exact F) (by exact hr) (by decide) ?_
      walk_at "sts"
      refine ⟨a, 36, rfl, by decide, by decide, p5, fun d6 H6 g0 g1 b6 p6 => ?_⟩
      walk_at "sts"
      obtain ⟨c6, hc6, hk6⟩ := sign_at g0 g1
      refine ix_s (by decide +kernel) hc6 ?_
      have hz12 := hz.2.2
      refine o_addS (by rw [len_cs, len_cs]; show (cs z).length + 1 ≤ 1000000; omega) ?_
      walk_at "sts"
      have e7 : cs (z ++ sg c6) = cs z ++ [c6] := cs_app _ _
      refine ⟨z ++ sg c6, _, rfl, b5.trans b6, p6, ?_, ?_⟩
      · rw [e7]
        exact hz.more hk6 (by rw [hzl]; omega)
      · rw [e7, List.length_append, hzl]
        rfl
    · obtain ⟨z, y, rfl, b5, p5, hz, hzl⟩ := hW
      walk_at "sts"
      exact q z H5 b5 p5 hz.ok
  refine l_cons (s_if (t_w (w_and (t_tru ?_))))
  walk_at "sts"
  refine ⟨_, tru_l hl1, ?_⟩
  by_cases hns : ns = []
  · subst hns
    refine ite_f rfl ?_
    exact iteF (l_nil (new _ rfl))
  · have hpos : 0 < ns.length := List.length_pos_iff.mpr hns
    refine ite_t (by cases ns with | nil => exact absurd rfl hns | cons x xs => rfl) ?_
    walk_at "sts"
    refine if2 (fun h3 => ?_) (fun h3 => l_nil (new _ rfl))
    walk_at "sts"
    refine e_call (by exact F) (by exact hr) (by decide) ?_
    walk_at "sts"
    refine c_lenL (by exact SqL.of hl1) ?_
    rw [show (sVs ns).length = ns.length by simp [sVs]]
    walk_at "sts"
    refine ⟨a, _, rfl, by omega, by omega, p1, fun d2 H2 e0 e1 b2 p2 => ?_⟩
    obtain ⟨z, hz, hat⟩ := sVs_at e0 e1
    have hnz := (hok z hz).nm
    have hzl : z.length ≤ 12 := (hok z hz).2
    have hz1 := hnz.len
    have hzs : z.length ≤ sizeLine := by show z.length ≤ 2 ^ 24; omega
    have elen := len_cs z
    refine ix_l (by exact SqL.of (b2 l _ hla hl1)) hat ?_
    walk_at "sts"
    refine e_call (by exact F) (by exact hr) (by decide) ?_
    walk_at "sts"
    refine c_lenS hzs ?_
    walk_at "sts"
    refine ⟨a, _, rfl, by omega, by omega, p2, fun d3 H3 f0 f1 b3 p3 => ?_⟩
    obtain ⟨j, rfl⟩ := Int.eq_ofNat_of_zero_le f0
    have hj : j < (cs z).length := by omega
    have b13 := (b1.trans b2).trans b3
    walk_at "sts"
    refine if2 (fun h0 => ?_) (fun h0 => ?_)
    · walk_at "sts"
      refine e_slL1 sl_str ?_
      walk_at "sts"
      refine ⟨hzs, ?_⟩
      walk_at "sts"
      refine e_call (by exact F) (by exact hr) (by decide) ?_
      walk_at "sts"
      refine ⟨a, 26, rfl, by decide, by decide, p3, fun d4 H4 g0 g1 b4 p4 => ?_⟩
      obtain ⟨c, hc, hc1⟩ := letter_at g0 g1
      refine ix_s (by decide +kernel) hc ?_
      have e1' := cut_hi z j
      refine o_addS (by rw [len_cs, len_cs, e1', List.length_take]; show min j _ + 1 ≤ 1000000; have := Nat.min_le_left j (cs z).length; omega) ?_
      refine e_slL0 sl_str ?_
      walk_at "sts"
      refine ⟨hzs, ?_⟩
      have e2' := cut_lo z (j + 1)
      rw [show ((j : Int) + 1) = ((j + 1 : Nat) : Int) by omega]
      have e3' : cs (cutS z none (some (j : Int)) ++ sg c) = (cs z).take j ++ [c] := by rw [cs_app, e1']
      refine o_addS (by rw [len_cs, len_cs, e3', e2']; simp only [List.length_append, List.length_take, List.length_drop, List.length_cons, List.length_nil]; omega) ?_
      refine q _ H4 (b13.trans b4) p4 (Nm.ok ?_)
      rw [cs_app, e3', e2']
      exact hnz.put hc1 hj
    · have tl : ∀ σ, σ = [some (V.ref a), some (.ref l), some (.str (Str.ofString "abcdefghijklmnopqrstuvwxyz")), some (.str (Str.ofString "abcdefghijklmnopqrstuvwxyz" ++ Str.ofString "0123456789")), some (.int d), some (.str z), some (.int j), none] → wL (cxOf CX0 P w K mg base N_name (Str.ofString "_law_name") (defScope s_name) f cdv A outer s H E).nox [lastOf (defBody s_name)] { nx := fun σ' H' => wL (cxOf CX0 P w K mg base N_name (Str.ofString "_law_name") (defScope s_name) f cdv A outer s H E).nox ((defBody s_name).drop 4) { nx := fun _ H' => Q .non H', rt := Q } σ' H', rt := Q } σ H3 := by
        rintro σ rfl
        show wL _ (_ :: _) _ _ _
        refine l_cons (s_ret (e_slL1 sl_str ?_))
        walk_at "sts"
        refine ⟨hzs, ?_⟩
        refine q _ H3 b13 p3 (Nm.ok ?_)
        rw [show (if (j : Int) > 1 then (j : Int) else 1) = ((max 1 j : Nat) : Int) by split <;> omega, cut_hi]
        exact hnz.cut (Nat.le_max_left 1 j)
      refine l_nil ?_
      refine l_cons (s_if (t_w (w_and ?_)))
      walk_at "sts"
      refine if2 (fun h1 => ?_) (fun h1 => l_nil (tl _ rfl))
      walk_at "sts"
      refine c_lenS hzs ?_
      walk_at "sts"
      refine if2 (fun h2 => ?_) (fun h2 => l_nil (tl _ rfl))
      walk_at "sts"
      refine e_call (by exact F) (by exact hr) (by decide) ?_
      walk_at "sts"
      refine ⟨a, 36, rfl, by decide, by decide, p3, fun d4 H4 g0 g1 b4 p4 => ?_⟩
      walk_at "sts"
      obtain ⟨c, hc, hc1⟩ := sign_at g0 g1
      refine ix_s (by decide +kernel) hc ?_
      refine o_addS (by rw [len_cs, len_cs]; show (cs z).length + 1 ≤ 1000000; omega) ?_
      refine q _ H4 (b13.trans b4) p4 (Nm.ok ?_)
      rw [cs_app]
      exact hnz.more hc1 (by omega)
end




def tagS : Sn → Str
  | .word _ => "word"
  | .menu _ _ => "menu"
  | .trade _ _ _ => "trade"
theorem SnV.tag {H : Hp} {v : V} {s : Sn} (h : SnV H v s) : ∃ t xs, v = .ref t ∧ H t = some (.tup (.str (tagS s) :: xs)) := by
  cases s with
  | word => obtain ⟨t, z, h1, h2, _⟩ := h; exact ⟨t, _, h1, h2⟩
  | menu => obtain ⟨t, _, _, h1, h2, _⟩ := h; exact ⟨t, _, h1, h2⟩
  | trade => obtain ⟨t, _, _, _, h1, h2, _⟩ := h; exact ⟨t, _, h1, h2⟩
theorem mw : ¬ (("menu" : Str) = "word") := by decide +kernel
theorem mt' : ¬ (("menu" : Str) = "trade") := by decide +kernel
theorem tw : ¬ (("trade" : Str) = "word") := by decide +kernel
theorem tm : ¬ (("trade" : Str) = "menu") := by decide +kernel
theorem wt : ¬ (("word" : Str) = "trade") := by decide +kernel
theorem wm : ¬ (("word" : Str) = "menu") := by decide +kernel
section
variable {P : Program} {w : World} {K : PySem.W.Frag} {mg : Str → Option Value} {base : Heap} {C CT CH : Addr}
theorem o_nePS {X : Cx} {H : Hp} {Q : VK} {n : Nat} {a : Addr} {u v : Int} {z : Str} (hr : Room n X.A) (h : H a = some (.tup [.int u, .int v])) (hz : SeqAt.shaped (.str z) = true) (q : Q (.bl true) H) : wK X .NotEq (.ref a) (.str z) H Q :=
  o_neD hr (.tup (SqT.of h) (.cons (.int u) (.cons (.int v) .nil))) (.str z) rfl hz q
end
theorem encl_len (b : Bool) (t : List Nat) : (encl b t).length ≤ t.length + 2 := by
  unfold encl
  split
  · simp
  · omega
theorem rmT_len {m : Pk} (h : okK m) : (rmT m).length ≤ 22 := by
  rcases m with _ | ⟨u, d⟩
  · exact Nat.zero_le _
  · obtain ⟨h1, h2, h3, h4⟩ := h
    have a := num_len (u := u) (by omega) h2
    have b := num_len h3 h4
    simp only [rmT, List.length_cons, List.length_append, List.length_nil]
    omega
theorem tx0_len : ∀ {s : Sn}, okS s → (tx0 s).length + 2 ≤ 40 * nod s
  | .word n, h => by have := (name_parts h).2.1; show n.length + 2 ≤ 40; omega
  | .menu a b, h => by
    have h1 := tx0_len h.1
    have h2 := tx0_len h.2
    have e1 := encl_len (decide (mine a < 1)) (tx0 a)
    have e2 := encl_len (decide (mine b < 2)) (tx0 b)
    simp only [tx0, nod, List.length_append, List.length_cons, List.length_nil]
    omega
  | .trade m p g, h => by
    have h1 := tx0_len h.2.1
    have h2 := tx0_len h.2.2
    have e1 := encl_len (decide (mine p < 1)) (tx0 p)
    have e2 := rmT_len h.1
    simp only [tx0, nod, List.length_append, List.length_cons, List.length_nil]
    omega
theorem tx_len {s : Sn} (h : okS s) (k : Nat) : (tx s k).length ≤ 40 * nod s := by
  have := tx0_len h
  have := encl_len (decide (mine s < k)) (tx0 s)
  unfold tx
  omega
section
variable {P : Program} {w : World} {K : PySem.W.Frag} {mg : Str → Option Value} {base : Heap} {C CT CH : Addr}
def spFk : Sp := fun vs H Q _ => ∃ t u d, vs = [.ref t] ∧ H t = some (.tup [.int u, .int d]) ∧ okK (some (u, d)) ∧ ∀ z, cs z = 91 :: (TL.numL u.toNat ++ 47 :: (TL.numL d.toNat ++ [93])) → Q (.str z) H
theorem ok_fk (T : Top K mg "format_kind" s_format_kind) : Fn P w K mg base 1 "format_kind" spFk := by
  refine fn_ok T sc_format_kind so_format_kind (fun vs H Q E h => by obtain ⟨t, u, d, rfl, _⟩ := h; rfl) (fun _ _ _ _ _ _ us hl => match us, hl with | [_], _ => rfl) fun f cdv A outer s H vs Q E hr h nd => ?_
  obtain ⟨t, u, d, rfl, ht, ⟨u1, u9, d0, d9⟩, q⟩ := h
  have cu := cs_num (u := u) (by omega)
  have cd := cs_num (u := d) d0
  have lu := num_len (u := u) (by omega) u9
  have ld := num_len d0 d9
  refine l_cons (s_if (t_cmp (e_var (e_str (o_eqPS (by exact hr) ht once_shaped ⟨_, rfl, iteF (l_nil ?_)⟩)))))
  refine l_cons (s_ret (e_js ?_))
  have lb : (Str.ofString "[").length = 1 := by decide +kernel
  have ls : (Str.ofString "/").length = 1 := by decide +kernel
  have lr : (Str.ofString "]").length = 1 := by decide +kernel
  have lu' : (toString u : Str).length ≤ 9 := by rw [len_cs, cu]; exact lu
  have ld' : (toString d : Str).length ≤ 9 := by rw [len_cs, cd]; exact ld
  refine e_str ⟨_, rfl, by rw [empty_app, lb]; decide, ?_⟩
  refine e_fmt (e_ix (e_var (e_int (ix_t (by exact SqT.of ht) at0 (.inr ⟨u, rfl, log_9 (by omega) u9, _, rfl, ?_, ?_⟩)))))
  · rw [empty_app, app_len, lb]; show _ ≤ 2 ^ 24; omega
  refine e_str ⟨_, rfl, ?_, ?_⟩
  · rw [empty_app, app_len, app_len, lb, ls]; show _ ≤ 2 ^ 24; omega
  refine e_fmt (e_ix (e_var (e_int (ix_t (by exact SqT.of ht) at1 (.inr ⟨d, rfl, log_9 d0 d9, _, rfl, ?_, ?_⟩)))))
  · rw [empty_app, app_len, app_len, app_len, lb, ls]; show _ ≤ 2 ^ 24; omega
  refine e_str ⟨_, rfl, ?_, ?_⟩
  · rw [empty_app, app_len, app_len, app_len, app_len, lb, ls, lr]; show _ ≤ 2 ^ 24; omega
  refine q _ ?_
  rw [empty_app, cs_app, cs_app, cs_app, cs_app, cu, cd, sg_br, sg_sl, sg_rb]
  show [91] ++ TL.numL u.toNat ++ [47] ++ TL.numL d.toNat ++ [93] = _
  simp
def spEn : Sp := fun vs H Q _ => ∃ x b, vs = [.str x, .bl b] ∧ x.length ≤ 100000 ∧ ∀ z, cs z = encl b (cs x) → Q (.str z) H
theorem ok_en (T : Top K mg "enclosed" s_enclosed) : Fn P w K mg base 1 "enclosed" spEn := by
  refine fn_ok T sc_enclosed so_enclosed (fun vs H Q E h => by obtain ⟨x, b, rfl, _⟩ := h; rfl) (fun _ _ _ _ _ _ us hl => match us, hl with | [_, _], _ => rfl) fun f cdv A outer s H vs Q E hr h nd => ?_
  obtain ⟨x, b, rfl, hx, q⟩ := h
  refine l_cons (s_ret (e_ifExp (t_val (e_var ⟨b, rfl, ?_⟩))))
  cases b with
  | false => exact iteF (e_var (q x rfl))
  | true =>
    have lb : (Str.ofString "(").length = 1 := by decide +kernel
    have lr : (Str.ofString ")").length = 1 := by decide +kernel
    refine iteT (e_js ?_)
    refine e_str ⟨_, rfl, by rw [empty_app, lb]; decide, ?_⟩
    refine e_fmt (e_var (.inl ⟨x, rfl, by show _ ≤ 2 ^ 24; omega, x, rfl, ?_, ?_⟩))
    · rw [empty_app, app_len, lb]; show _ ≤ 2 ^ 24; omega
    refine e_str ⟨_, rfl, ?_, ?_⟩
    · rw [empty_app, app_len, app_len, lb, lr]; show _ ≤ 2 ^ 24; omega
    refine q _ ?_
    rw [empty_app, cs_app, cs_app, sg_lp, sg_rp]
    show [40] ++ cs x ++ [41] = 40 :: (cs x ++ [41])
    simp
end
theorem tag_trade (s : Sn) : decide (tagS s = "trade") = decide (mine s < 1) := by
  cases s with
  | word => rw [decide_eq_false (show ¬ tagS (.word _) = "trade" from wt)]; rfl
  | menu => rw [decide_eq_false (show ¬ tagS (.menu _ _) = "trade" from mt')]; rfl
  | trade => rw [decide_eq_true (show tagS (.trade _ _ _) = "trade" from rfl)]; rfl
theorem tag_word (s : Sn) : (!decide (tagS s = "word")) = decide (mine s < 2) := by
  cases s with
  | word => rw [decide_eq_true (show tagS (.word _) = "word" from rfl)]; rfl
  | menu => rw [decide_eq_false (show ¬ tagS (.menu _ _) = "word" from mw)]; rfl
  | trade => rw [decide_eq_false (show ¬ tagS (.trade _ _ _) = "word" from tw)]; rfl
theorem le24 {z : Str} (h : (cs z).length ≤ 1000000) : z.length ≤ sizeLine := by rw [len_cs]; show _ ≤ 2 ^ 24; omega
theorem cs_am : cs (Str.ofString " & ") = [32, 38, 32] := by decide +kernel
theorem cs_gt3 : cs (Str.ofString " > ") = [32, 62, 32] := by decide +kernel
theorem cs_sp : cs (Str.ofString " ") = [32] := by decide +kernel
theorem cs_sb : cs (Str.ofString " [") = [32, 91] := by decide +kernel
section
variable {P : Program} {w : World} {K : PySem.W.Frag} {mg : Str → Option Value} {base : Heap} {C CT CH : Addr}
def spFmt (n : Nat) : Sp := fun vs H Q _ => ∃ v s, vs = [v] ∧ SnV H v s ∧ okS s ∧ dep s ≤ n ∧ nod s ≤ 2000 ∧ ∀ z, cs z = tx0 s → Q (.str z) H
theorem ok_fmtS (n : Nat) (T : Top K mg "format_sentence" s_format_sentence) (FE : Fn P w K mg base 1 "enclosed" spEn) (FK : Fn P w K mg base 1 "format_kind" spFk) (F : ∀ m, n = m + 1 → Fn P w K mg base (m + 2) "format_sentence" (spFmt m)) : Fn P w K mg base (n + 2) "format_sentence" (spFmt n) := by
  refine fn_ok T sc_format_sentence so_format_sentence (fun vs H Q E h => by obtain ⟨v, s, rfl, _⟩ := h; rfl) (fun _ _ _ _ _ _ us hl => match us, hl with | [_], _ => rfl) fun f cdv A outer s H vs Q E hr h nd => ?_
  obtain ⟨v, s, rfl, hv, ho, hd, hn, q⟩ := h
  cases s with
  | word nm =>
    obtain ⟨t, z, rfl, ht, hz⟩ := hv
    refine l_cons (s_if (t_cmp (e_ix (e_var (e_int (ix_t (by exact SqT.of ht) at0 (e_str (o_eqS ⟨_, rfl, ite_t (by simp) ?_⟩))))))))
    refine l_cons (s_ret (e_ix (e_var (e_int (ix_t (by exact SqT.of ht) at1 (q z hz))))))
  | menu l r =>
    obtain ⟨t, a, b, rfl, ht, ha, hb⟩ := hv
    obtain ⟨m, rfl⟩ : ∃ m, n = m + 1 := ⟨n - 1, by simp only [dep] at hd; omega⟩
    simp only [dep] at hd
    simp only [nod] at hn
    have F0 := F m rfl
    obtain ⟨ta, xa, ea, hta⟩ := ha.tag
    obtain ⟨tb, xb, eb, htb⟩ := hb.tag
    refine l_cons (s_if (t_cmp (e_ix (e_var (e_int (ix_t (by exact SqT.of ht) at0 (e_str (o_eqS ⟨_, rfl, ite_f (decide_eq_false mw) (l_nil ?_)⟩))))))))
    refine l_cons (s_if (t_cmp (e_ix (e_var (e_int (ix_t (by exact SqT.of ht) at0 (e_str (o_eqS ⟨_, rfl, ite_t (by simp) ?_⟩))))))))
    refine l_cons (s_set (e_call (by exact FE) (by exact hr) (by omega) ?_))
    refine a_cons (e_call (by exact F0) (by exact hr) (by omega) ?_)
    refine a_cons (e_ix (e_var (e_int (ix_t (by exact SqT.of ht) at1 (a_nil ?_)))))
    refine ⟨a, l, rfl, ha, ho.1, by omega, by omega, fun z1 hz1 => ?_⟩
    refine a_cons (e_cmp (e_ix (e_ix (e_var (e_int (ix_t (by exact SqT.of ht) at1 (e_int ?_)))))))
    subst ea
    refine ix_t (by exact SqT.of hta) at0 (e_str (o_eqS (a_nil ?_)))
    rw [tag_trade]
    have l1 := tx0_len ho.1
    have l2 := tx0_len ho.2
    refine ⟨z1, _, rfl, by rw [len_cs, hz1]; omega, fun w1 hw1 => ?_⟩
    show wL _ _ _ [some (.ref t), some (.str w1), none, none, none] _
    refine l_cons (s_set (e_call (by exact FE) (by exact hr) (by omega) ?_))
    refine a_cons (e_call (by exact F0) (by exact hr) (by omega) ?_)
    refine a_cons (e_ix (e_var (e_int (ix_t (by exact SqT.of ht) at2 (a_nil ?_)))))
    refine ⟨b, r, rfl, hb, ho.2, by omega, by omega, fun z2 hz2 => ?_⟩
    refine a_cons (e_cmp (e_ix (e_ix (e_var (e_int (ix_t (by exact SqT.of ht) at2 (e_int ?_)))))))
    subst eb
    refine ix_t (by exact SqT.of htb) at0 (e_str (o_neS (a_nil ?_)))
    rw [tag_word]
    refine ⟨z2, _, rfl, by rw [len_cs, hz2]; omega, fun w2 hw2 => ?_⟩
    show wL _ _ _ [some (.ref t), some (.str w1), some (.str w2), none, none] _
    rw [hz1] at hw1
    rw [hz2] at hw2
    have e1 := encl_len (decide (mine l < 1)) (tx0 l)
    have e2 := encl_len (decide (mine r < 2)) (tx0 r)
    rw [← hw1] at e1
    rw [← hw2] at e2
    refine l_cons (s_ret (e_js ?_))
    refine e_fmt (e_var (.inl ⟨w1, rfl, le24 (by omega), w1, rfl, by rw [empty_app]; exact le24 (by omega), ?_⟩))
    refine e_str ⟨_, rfl, by rw [empty_app]; exact le24 (by rw [cs_app, cs_am, List.length_append]; show _ + 3 ≤ _; omega), ?_⟩
    refine e_fmt (e_var (.inl ⟨w2, rfl, le24 (by omega), w2, rfl, by rw [empty_app]; exact le24 (by rw [cs_app, cs_app, cs_am, List.length_append, List.length_append]; show _ + 3 + _ ≤ _; omega), ?_⟩))
    refine q _ ?_
    rw [empty_app, cs_app, cs_app, cs_am, hw1, hw2]
    rfl
  | trade k l r =>
    obtain ⟨t, md, a, b, rfl, ht, hm, ha, hb⟩ := hv
    obtain ⟨m, rfl⟩ : ∃ m, n = m + 1 := ⟨n - 1, by simp only [dep] at hd; omega⟩
    simp only [dep] at hd
    simp only [nod] at hn
    have F0 := F m rfl
    obtain ⟨ok, ol, or⟩ := ho
    obtain ⟨ta, xa, ea, hta⟩ := ha.tag
    refine l_cons (s_if (t_cmp (e_ix (e_var (e_int (ix_t (by exact SqT.of ht) at0 (e_str (o_eqS ⟨_, rfl, ite_f (decide_eq_false tw) (l_nil ?_)⟩))))))))
    refine l_cons (s_if (t_cmp (e_ix (e_var (e_int (ix_t (by exact SqT.of ht) at0 (e_str (o_eqS ⟨_, rfl, ite_f (decide_eq_false tm) (l_nil ?_)⟩))))))))
    refine l_cons (s_set (e_call (by exact FE) (by exact hr) (by omega) ?_))
    refine a_cons (e_call (by exact F0) (by exact hr) (by omega) ?_)
    refine a_cons (e_ix (e_var (e_int (ix_t (by exact SqT.of ht) at2 (a_nil ?_)))))
    refine ⟨a, l, rfl, ha, ol, by omega, by omega, fun z1 hz1 => ?_⟩
    refine a_cons (e_cmp (e_ix (e_ix (e_var (e_int (ix_t (by exact SqT.of ht) at2 (e_int ?_)))))))
    subst ea
    refine ix_t (by exact SqT.of hta) at0 (e_str (o_eqS (a_nil ?_)))
    rw [tag_trade]
    have l1 := tx0_len ol
    have l2 := tx0_len or
    refine ⟨z1, _, rfl, by rw [len_cs, hz1]; omega, fun w1 hw1 => ?_⟩
    show wL _ _ _ [some (.ref t), none, none, some (.str w1), none] _
    rw [hz1] at hw1
    refine l_cons (s_set (e_call (by exact F0) (by exact hr) (by omega) ?_))
    refine a_cons (e_ix (e_var (e_int (ix_t (by exact SqT.of ht) at3 (a_nil ?_)))))
    refine ⟨b, r, rfl, hb, or, by omega, by omega, fun w2 hw2 => ?_⟩
    show wL _ _ _ [some (.ref t), none, none, some (.str w1), some (.str w2)] _
    have e1 := encl_len (decide (mine l < 1)) (tx0 l)
    rw [← hw1] at e1
    have e2 : (cs w2).length + 2 ≤ 40 * nod r := by rw [hw2]; exact l2
    refine l_cons (s_if (t_cmp (e_ix (e_var (e_int (ix_t (by exact SqT.of ht) at1 (e_str ?_)))))))
    rcases k with _ | ⟨u, d⟩
    · obtain rfl : md = .str "once" := hm
      refine o_eqS ⟨_, rfl, ite_t (by simp) ?_⟩
      refine l_cons (s_ret (e_js ?_))
      refine e_fmt (e_var (.inl ⟨w1, rfl, le24 (by omega), w1, rfl, by rw [empty_app]; exact le24 (by omega), ?_⟩))
      refine e_str ⟨_, rfl, by rw [empty_app]; exact le24 (by rw [cs_app, cs_gt3, List.length_append]; show _ + 3 ≤ _; omega), ?_⟩
      refine e_fmt (e_var (.inl ⟨w2, rfl, le24 (by omega), w2, rfl, by rw [empty_app]; exact le24 (by rw [cs_app, cs_app, cs_gt3, List.length_append, List.length_append]; show _ + 3 + _ ≤ _; omega), ?_⟩))
      refine q _ ?_
      rw [empty_app, cs_app, cs_app, cs_gt3, hw1, hw2]
      show _ = encl (decide (mine l < 1)) (tx0 l) ++ rmT none ++ [32, 62, 32] ++ tx0 r
      simp [rmT]
    · obtain ⟨tk, rfl, htk⟩ := hm
      refine o_eqPS (by exact hr) htk once_shaped ⟨_, rfl, iteF (l_nil ?_)⟩
      have hk9 := rmT_len (m := some (u, d)) ok
      refine l_cons (s_ret (e_js ?_))
      refine e_fmt (e_var (.inl ⟨w1, rfl, le24 (by omega), w1, rfl, by rw [empty_app]; exact le24 (by omega), ?_⟩))
      refine e_str ⟨_, rfl, by rw [empty_app]; exact le24 (by rw [cs_app, cs_sp, List.length_append]; show _ + 1 ≤ _; omega), ?_⟩
      refine e_fmt (e_call (by exact FK) (by exact hr) (by omega) ?_)
      refine a_cons (e_ix (e_var (e_int (ix_t (by exact SqT.of ht) at1 (a_nil ?_)))))
      refine ⟨tk, u, d, rfl, htk, ok, fun w3 hw3 => ?_⟩
      have e3 : (cs w3).length + 1 ≤ 22 := by
        rw [hw3]
        exact hk9
      refine .inl ⟨w3, rfl, le24 (by omega), w3, rfl, by rw [empty_app]; exact le24 (by rw [cs_app, cs_app, cs_sp, List.length_append, List.length_append]; show _ + 1 + _ ≤ _; omega), ?_⟩
      refine e_str ⟨_, rfl, by rw [empty_app]; exact le24 (by rw [cs_app, cs_app, cs_app, cs_sp, cs_gt3, List.length_append, List.length_append, List.length_append]; show _ + 1 + _ + 3 ≤ _; omega), ?_⟩
      refine e_fmt (e_var (.inl ⟨w2, rfl, le24 (by omega), w2, rfl, by rw [empty_app]; exact le24 (by rw [cs_app, cs_app, cs_app, cs_app, cs_sp, cs_gt3, List.length_append, List.length_append, List.length_append, List.length_append]; show _ + 1 + _ + 3 + _ ≤ _; omega), ?_⟩))
      refine q _ ?_
      rw [empty_app, cs_app, cs_app, cs_app, cs_app, cs_sp, cs_gt3, hw1, hw2, hw3]
      show _ = encl (decide (mine l < 1)) (tx0 l) ++ rmT (some (u, d)) ++ [32, 62, 32] ++ tx0 r
      simp [rmT]
theorem ok_fmt (T : Top K mg "format_sentence" s_format_sentence) (FE : Fn P w K mg base 1 "enclosed" spEn) (FK : Fn P w K mg base 1 "format_kind" spFk) : ∀ n, Fn P w K mg base (n + 2) "format_sentence" (spFmt n)
  | 0 => ok_fmtS 0 T FE FK fun m h => by cases h
  | n + 1 => ok_fmtS (n + 1) T FE FK fun m h => by cases h; exact ok_fmt T FE FK n
end

section
variable {P : Program} {w : World} {K : PySem.W.Frag} {mg : Str → Option Value} {base : Heap} {C CT CH : Addr}
def spTx (n : Nat) : Sp := fun vs H Q _ => ∃ v s k, vs = [v, .int ((k : Nat) : Int)] ∧ SnV H v s ∧ okS s ∧ dep s ≤ n ∧ nod s ≤ 2000 ∧ k ≤ 2 ∧ ∀ z, cs z = tx s k → Q (.str z) H
theorem ok_txS (n : Nat) (T : Top K mg "_law_text" s_text) (mS : mg "str" = none) (F : ∀ m, n = m + 1 → Fn P w K mg base (m + 1) "_law_text" (spTx m)) : Fn P w K mg base (n + 1) "_law_text" (spTx n) := by
  refine fn_ok T sc_text so_text (fun vs H Q E h => by obtain ⟨v, s, k, rfl, _⟩ := h; rfl) (fun _ _ _ _ _ _ us hl => match us, hl with | [_, _], _ => rfl) fun f cdv A outer s H vs Q E hr h nd => ?_
  obtain ⟨v, s, k, rfl, hv, ho, hd, hn, hk, q⟩ := h
  cases s with
  | word nm =>
    obtain ⟨t, z, rfl, ht, hz⟩ := hv
    refine l_cons (s_if (t_cmp (e_ix (e_var (e_int (ix_t (by exact SqT.of ht) at0 (e_str (o_eqS ⟨_, rfl, ite_t (by simp) ?_⟩))))))))
    refine l_cons (s_ret (e_ix (e_var (e_int (ix_t (by exact SqT.of ht) at1 (q z ?_))))))
    rw [hz]
    show nm = encl (decide (2 < k)) nm
    rw [decide_eq_false (by omega)]
    rfl
  | menu l r =>
    obtain ⟨t, a, b, rfl, ht, ha, hb⟩ := hv
    obtain ⟨m, rfl⟩ : ∃ m, n = m + 1 := ⟨n - 1, by simp only [dep] at hd; omega⟩
    have l0 := tx0_len ho
    simp only [dep] at hd
    simp only [nod] at hn l0
    have F0 := F m rfl
    refine l_cons (s_if (t_cmp (e_ix (e_var (e_int (ix_t (by exact SqT.of ht) at0 (e_str (o_eqS ⟨_, rfl, ite_f (decide_eq_false mw) (l_nil ?_)⟩))))))))
    refine l_cons (s_set (e_int ?_))
    refine l_cons (s_if (t_cmp (e_ix (e_var (e_int (ix_t (by exact SqT.of ht) at0 (e_str (o_eqS ⟨_, rfl, ite_t (by simp) ?_⟩))))))))
    refine l_cons (s_set (e_int ?_))
    refine l_cons (s_set (e_bin (e_bin (e_call (by exact F0) (by exact hr) (by omega) ?_))))
    refine a_cons (e_ix (e_var (e_int (ix_t (by exact SqT.of ht) at1 (a_cons (e_int (a_nil ?_)))))))
    refine ⟨a, l, 1, rfl, ha, ho.1, by omega, by omega, by decide, fun z1 hz1 => ?_⟩
    have l1 := tx_len ho.1 1
    have l2 := tx_len ho.2 2
    have la : (Str.ofString " & ").length = 3 := by rw [len_cs, cs_am]; rfl
    have lz1 : z1.length ≤ 40 * nod l := by rw [len_cs, hz1]; exact l1
    refine e_str (o_addS (by omega) ?_)
    refine e_call (by exact F0) (by exact hr) (by omega) ?_
    refine a_cons (e_ix (e_var (e_int (ix_t (by exact SqT.of ht) at2 (a_cons (e_int (a_nil ?_)))))))
    refine ⟨b, r, 2, rfl, hb, ho.2, by omega, by omega, by decide, fun z2 hz2 => ?_⟩
    have lz2 : z2.length ≤ 40 * nod r := by rw [len_cs, hz2]; exact l2
    refine o_addS (by rw [app_len]; omega) (l_nil ?_)
    have hz : cs (z1 ++ Str.ofString " & " ++ z2) = tx0 (.menu l r) := by
      rw [cs_app, cs_app, cs_am, hz1, hz2]
      rfl
    generalize z1 ++ Str.ofString " & " ++ z2 = zt at hz
    show wL _ _ _ [some (.ref t), some (.int (k : Int)), some (.int 1), some (.str zt), none] _
    refine l_cons (s_if (t_cmp (e_var (e_var (o_lt ⟨_, rfl, ?_⟩)))))
    refine if2 (fun h => ?_) (fun h => ?_)
    · have lb : (Str.ofString "(").length = 1 := by decide +kernel
      have lc : (Str.ofString ")").length = 1 := by decide +kernel
      have lzt : zt.length ≤ 80000 := by rw [len_cs, hz]; omega
      refine l_cons (s_ret (e_bin (e_bin (e_str (e_var ?_)))))
      refine o_addS (by omega) (e_str ?_)
      refine o_addS (by rw [app_len]; omega) (q _ ?_)
      rw [cs_app, cs_app, sg_lp, sg_rp, hz]
      show [40] ++ tx0 _ ++ [41] = encl (decide (1 < k)) _
      rw [decide_eq_true (by omega)]
      show _ = 40 :: (tx0 _ ++ [41])
      simp
    · refine l_nil (l_cons (s_ret (e_var (q _ ?_))))
      rw [hz]
      show _ = encl (decide (1 < k)) _
      rw [decide_eq_false (by omega)]
      rfl
  | trade kd l r =>
    obtain ⟨t, md, a, b, rfl, ht, hm, ha, hb⟩ := hv
    obtain ⟨m, rfl⟩ : ∃ m, n = m + 1 := ⟨n - 1, by simp only [dep] at hd; omega⟩
    have l0 := tx0_len ho
    simp only [dep] at hd
    simp only [nod] at hn l0
    have F0 := F m rfl
    obtain ⟨ok, ol, or⟩ := ho
    have hk9 := rmT_len ok
    refine l_cons (s_if (t_cmp (e_ix (e_var (e_int (ix_t (by exact SqT.of ht) at0 (e_str (o_eqS ⟨_, rfl, ite_f (decide_eq_false tw) (l_nil ?_)⟩))))))))
    refine l_cons (s_set (e_int ?_))
    refine l_cons (s_if (t_cmp (e_ix (e_var (e_int (ix_t (by exact SqT.of ht) at0 (e_str (o_eqS ⟨_, rfl, ite_f (decide_eq_false tm) ?_⟩))))))))
    refine l_cons (s_set (e_str ?_))
    refine l_join (fun σ H' => ∃ zr, σ = [some (.ref t), some (.int (k : Int)), some (.int 0), none, some (.str zr)] ∧ H' = H ∧ cs zr = rmT kd) (fun σ H' hA => ?_) (fun go => ?_)
    · obtain ⟨zr, rfl, rfl, hzr⟩ := hA
      refine l_cons (s_set (e_bin (e_bin (e_bin (e_call (by exact F0) (by exact hr) (by omega) ?_)))))
      refine a_cons (e_ix (e_var (e_int (ix_t (by exact SqT.of ht) at2 (a_cons (e_int (a_nil ?_)))))))
      refine ⟨a, l, 1, rfl, ha, ol, by omega, by omega, by decide, fun z1 hz1 => ?_⟩
      have l1 := tx_len ol 1
      have l2 := tx_len or 0
      have la : (Str.ofString " > ").length = 3 := by rw [len_cs, cs_gt3]; rfl
      have lz1 : z1.length ≤ 40 * nod l := by rw [len_cs, hz1]; exact l1
      have lzr : zr.length ≤ 22 := by rw [len_cs, hzr]; exact hk9
      refine e_var ?_
      refine o_addS (by omega) (e_str ?_)
      refine o_addS (by rw [app_len]; omega) ?_
      refine e_call (by exact F0) (by exact hr) (by omega) ?_
      refine a_cons (e_ix (e_var (e_int (ix_t (by exact SqT.of ht) at3 (a_cons (e_int (a_nil ?_)))))))
      refine ⟨b, r, 0, rfl, hb, or, by omega, by omega, by decide, fun z2 hz2 => ?_⟩
      have lz2 : z2.length ≤ 40 * nod r := by rw [len_cs, hz2]; exact l2
      refine o_addS (by rw [app_len, app_len]; omega) (l_nil ?_)
      have hz : cs (z1 ++ zr ++ Str.ofString " > " ++ z2) = tx0 (.trade kd l r) := by
        rw [cs_app, cs_app, cs_app, cs_gt3, hz1, hzr, hz2, tx_0]
        rfl
      generalize z1 ++ zr ++ Str.ofString " > " ++ z2 = zt at hz
      show wL _ _ _ [some (.ref t), some (.int (k : Int)), some (.int 0), some (.str zt), some (.str zr)] _
      refine l_cons (s_if (t_cmp (e_var (e_var (o_lt ⟨_, rfl, ?_⟩)))))
      refine if2 (fun h => ?_) (fun h => ?_)
      · have lb : (Str.ofString "(").length = 1 := by decide +kernel
        have lc : (Str.ofString ")").length = 1 := by decide +kernel
        have lzt : zt.length ≤ 80000 := by rw [len_cs, hz]; omega
        refine l_cons (s_ret (e_bin (e_bin (e_str (e_var ?_)))))
        refine o_addS (by omega) (e_str ?_)
        refine o_addS (by rw [app_len]; omega) (q _ ?_)
        rw [cs_app, cs_app, sg_lp, sg_rp, hz]
        show [40] ++ tx0 _ ++ [41] = encl (decide (0 < k)) _
        rw [decide_eq_true (by omega)]
        show _ = 40 :: (tx0 _ ++ [41])
        simp
      · refine l_nil (l_cons (s_ret (e_var (q _ ?_))))
        rw [hz]
        show _ = encl (decide (0 < k)) _
        rw [decide_eq_false (by omega)]
        rfl
    · refine l_cons (s_if (t_cmp (e_ix (e_var (e_int (ix_t (by exact SqT.of ht) at1 (e_str ?_)))))))
      rcases kd with _ | ⟨u, d⟩
      · obtain rfl : md = .str "once" := hm
        refine o_neS ⟨_, rfl, ite_f (by simp) (l_nil (go _ H ⟨_, rfl, rfl, ?_⟩))⟩
        show cs (Str.ofString "") = []
        decide +kernel
      · obtain ⟨tk, rfl, htk⟩ := hm
        obtain ⟨u1, u9, d0, d9⟩ := ok
        have cu := cs_num (u := u) (by omega)
        have cd := cs_num (u := d) d0
        have lu := num_len (u := u) (by omega) u9
        have ld := num_len d0 d9
        have lu' : (toString u : Str).length ≤ 9 := by rw [len_cs, cu]; exact lu
        have ld' : (toString d : Str).length ≤ 9 := by rw [len_cs, cd]; exact ld
        have lb : (Str.ofString " [").length = 2 := by decide +kernel
        have ls : (Str.ofString "/").length = 1 := by decide +kernel
        have lr : (Str.ofString "]").length = 1 := by decide +kernel
        refine o_nePS (by exact hr) htk once_shaped ⟨_, rfl, iteT ?_⟩
        refine l_cons (s_set (e_bin (e_bin (e_bin (e_bin (e_str (e_callTy (x := "str") (by assumption) b_str ?_)))))))
        refine a_cons (e_ix (e_ix (e_var (e_int (ix_t (by exact SqT.of ht) at1 (e_int (ix_t (by exact SqT.of htk) at0 (a_nil ?_))))))))
        refine c_strI (log_9 (by omega) u9) ?_
        refine o_addS (by omega) (e_str ?_)
        refine o_addS (by rw [app_len]; omega) ?_
        refine e_callTy (x := "str") (by assumption) b_str ?_
        refine a_cons (e_ix (e_ix (e_var (e_int (ix_t (by exact SqT.of ht) at1 (e_int (ix_t (by exact SqT.of htk) at1 (a_nil ?_))))))))
        refine c_strI (log_9 d0 d9) ?_
        refine o_addS (by rw [app_len, app_len]; omega) (e_str ?_)
        refine o_addS (by rw [app_len, app_len, app_len]; omega) ?_
        refine l_nil (go _ H ⟨_, rfl, rfl, ?_⟩)
        rw [cs_app, cs_app, cs_app, cs_app, cs_sb, cu, cd, sg_sl, sg_rb]
        show [32, 91] ++ TL.numL u.toNat ++ [47] ++ TL.numL d.toNat ++ [93] = _
        simp [rmT]
theorem ok_tx (T : Top K mg "_law_text" s_text) (mS : mg "str" = none) : ∀ n, Fn P w K mg base (n + 1) "_law_text" (spTx n)
  | 0 => ok_txS 0 T mS fun m h => by cases h
  | n + 1 => ok_txS (n + 1) T mS fun m h => by cases h; exact ok_tx T mS n
end




theorem none_but {p l : Addr} {H H' : Hp} (b : But p H H') (hl : l ≠ p) (n : H' l = none) : H l = none := by
  cases hz : H l with
  | none => rfl
  | some o => rw [b l o hl hz] at n; cases n
theorem no_pool2 {H : Hp} {p l : Addr} (hp : PoolAt H p) (n : H l = none) : l ≠ p := fun e => by
  subst e
  obtain ⟨a, b, c, h⟩ := hp
  rw [h] at n
  cases n
theorem PoolAt.at {H H' : Hp} {p : Addr} (h : PoolAt H p) (e : ∀ o, H p = some o → H' p = some o) : PoolAt H' p := by
  obtain ⟨a, b, c, h⟩ := h
  exact ⟨a, b, c, e _ h⟩
section
variable {P : Program} {w : World} {K : PySem.W.Frag} {mg : Str → Option Value} {base : Heap}
def spMode : Sp := fun vs H Q _ => ∃ a, vs = [.ref a] ∧ PoolAt H a ∧ ∀ m k H', But a H H' → PoolAt H' a → ModeV H' m k → okK k → Q m H'
theorem ok_mode (T : Top K mg "_law_mode" s_mode) (F : Fn P w K mg base 1 "_law_next" spNext) : Fn P w K mg base 2 "_law_mode" spMode := by
  refine fn_ok T sc_mode so_mode (fun vs H Q E h => by obtain ⟨a, rfl, _⟩ := h; rfl) (fun _ _ _ _ _ _ us hl => match us, hl with | [_], _ => rfl) fun f cdv A outer s H vs Q E hr h nd => ?_
  obtain ⟨a, rfl, hp, q⟩ := h
  walk_at "sts"
  refine e_call (by exact F) (by exact hr) (by decide) ?_
  walk_at "sts"
  refine ⟨a, 4, rfl, by decide, by decide, hp, fun d H1 d0 d1 b1 p1 => ?_⟩
  walk_at "sts"
  refine if2 (fun _ => ?_) (fun _ => l_nil ?_)
  · walk_at "sts"
    exact q _ none H1 b1 p1 rfl trivial
  walk_at "sts"
  refine if2 (fun _ => ?_) (fun _ => l_nil ?_)
  · walk_at "sts"
    refine e_call (by exact F) (by exact hr) (by decide) ?_
    walk_at "sts"
    refine ⟨a, 2, rfl, by decide, by decide, p1, fun d2 H2 e0 e1 b2 p2 => ?_⟩
    walk_at "sts"
    refine e_call (by exact F) (by exact hr) (by decide) ?_
    walk_at "sts"
    refine ⟨a, 2, rfl, by decide, by decide, p2, fun d3 H3 f0 f1 b3 p3 => ?_⟩
    walk_at "sts"
    exact ⟨by show 2 ≤ sizeLine; decide, fun t H4 e4 _ ht => q _ (some (9 + d2, d3)) H4 (((b1.trans b2).trans b3).trans (But.of e4)) (p3.up e4) ⟨t, rfl, ht⟩ ⟨by omega, by omega, f0, by omega⟩⟩
  · walk_at "sts"
    refine e_call (by exact F) (by exact hr) (by decide) ?_
    walk_at "sts"
    refine ⟨a, 50, rfl, by decide, by decide, p1, fun d2 H2 e0 e1 b2 p2 => ?_⟩
    walk_at "sts"
    refine e_call (by exact F) (by exact hr) (by decide) ?_
    walk_at "sts"
    refine ⟨a, 51, rfl, by decide, by decide, p2, fun d3 H3 f0 f1 b3 p3 => ?_⟩
    walk_at "sts"
    exact ⟨by show 2 ≤ sizeLine; decide, fun t H4 e4 _ ht => q _ (some (1 + d2, d3)) H4 (((b1.trans b2).trans b3).trans (But.of e4)) (p3.up e4) ⟨t, rfl, ht⟩ ⟨by omega, by omega, f0, by omega⟩⟩
/-- the suite of a test -/
def ifA (b : List Stmt) (i : Nat) : List Stmt := match b.getD i (.Pass ⟨0, 0, 0, 0⟩) with
  | .If _ a _ _ => a
  | _ => []
theorem word_at {d : Int} (h0 : 0 ≤ d) (h1 : d < 3) : ∃ z : Str, atI [V.str "a", .str "b2", .str "a1"] d = some (.str z) ∧ okN z := by
  obtain ⟨j, rfl⟩ := Int.eq_ofNat_of_zero_le h0
  have hj : j < 3 := by omega
  match j, hj with
  | 0, _ => exact ⟨"a", atI_nat (j := 0) rfl, by constructor <;> decide +kernel⟩
  | 1, _ => exact ⟨"b2", atI_nat (j := 1) rfl, by constructor <;> decide +kernel⟩
  | 2, _ => exact ⟨"a1", atI_nat (j := 2) rfl, by constructor <;> decide +kernel⟩
def spDeep (n : Nat) : Sp := fun vs H Q _ => ∃ a, ∃ d : Nat, vs = [.ref a, .int d] ∧ PoolAt H a ∧ d ≤ n ∧ ∀ v s H', But a H H' → PoolAt H' a → SnV H' v s → okS s → dep s ≤ d → nod s < 2 ^ (d + 1) → Q v H'
theorem ok_deepS (n : Nat) (T : Top K mg "_law_deep" s_deep) (FX : Fn P w K mg base 1 "_law_next" spNext) (FM : Fn P w K mg base 2 "_law_mode" spMode) (F : ∀ m, n = m + 1 → Fn P w K mg base (m + 3) "_law_deep" (spDeep m)) : Fn P w K mg base (n + 3) "_law_deep" (spDeep n) := by
  refine fn_ok T sc_deep so_deep (fun vs H Q E h => by obtain ⟨a, d, rfl, _⟩ := h; rfl) (fun _ _ _ _ _ _ us hl => match us, hl with | [_, _], _ => rfl) fun f cdv A outer s H vs Q E hr h nd => ?_
  obtain ⟨a, d, rfl, hp, hdn, q⟩ := h
  walk_at "sts"
  refine e_call (by exact FX) (by exact hr) (by omega) ?_
  walk_at "sts"
  refine ⟨a, 5, rfl, by decide, by decide, hp, fun d1 H1 d10 d11 b1 p1 => ?_⟩
  have leaf : ∀ σ, σ = [some (V.ref a), some (.int d), some (.int d1), none, none] → wL (cxOf CX0 P w K mg base N_deep (Str.ofString "_law_deep") (defScope s_deep) f cdv A outer s H E).nox (ifA (defBody s_deep) 1) { nx := fun σ' H' => wL (cxOf CX0 P w K mg base N_deep (Str.ofString "_law_deep") (defScope s_deep) f cdv A outer s H E).nox ((defBody s_deep).drop 2) { nx := fun _ H' => Q .non H', rt := Q } σ' H', rt := Q } σ H1 := by
    rintro σ rfl
    show wL _ (_ :: _) _ _ _
    refine l_cons (s_ret (e_tup (a_cons (e_str (a_cons (e_ix (e_lst ?_)))))))
    refine a_cons (e_str (a_cons (e_str (a_cons (e_str (a_nil ⟨by show 3 ≤ sizeLine; decide, fun sl H2 e2 n2 h2 => ?_⟩))))))
    have ns := no_pool2 p1 n2
    refine e_call (by exact FX) (by exact hr) (by omega) ?_
    refine a_cons (e_var (a_cons (e_int (a_nil ⟨a, 3, rfl, by decide, by decide, p1.up e2, fun d3 H3 f0 f1 b3 p3 => ?_⟩))))
    obtain ⟨z, hat, hz⟩ := word_at f0 f1
    refine ix_l (by exact SqL.of (b3 _ _ ns h2)) hat (a_nil ⟨by show 2 ≤ sizeLine; decide, fun t H4 e4 _ ht => ?_⟩)
    exact q _ (.word (cs z)) H4 (((b1.trans (But.of e2)).trans b3).trans (But.of e4)) (p3.up e4) ⟨t, z, rfl, ht, rfl⟩ hz.1 (Nat.zero_le _) (by show 1 < 2 ^ (d + 1); rw [Nat.pow_succ]; have := Nat.one_le_two_pow (n := d); omega)
  walk_at "sts"
  refine if2 (fun h0 => leaf _ rfl) (fun h0 => ?_)
  refine w_or1 (t_cmp ?_)
  walk_at "sts"
  refine if2 (fun h1 => leaf _ rfl) (fun h1 => l_nil ?_)
  obtain ⟨m, rfl⟩ : ∃ m, n = m + 1 := ⟨n - 1, by omega⟩
  obtain ⟨i, rfl⟩ : ∃ i, d = i + 1 := ⟨d - 1, by omega⟩
  have F0 := F m rfl
  have ei : ((i + 1 : Nat) : Int) - 1 = (i : Int) := by omega
  walk_at "sts"
  refine e_call (by exact F0) (by exact hr) (by omega) ?_
  walk_at "sts"
  rw [ei]
  refine ⟨a, i, rfl, p1, by omega, fun v1 s1 H2 b2 p2 g1 o1 dd1 r1 => ?_⟩
  walk_at "sts"
  refine e_call (by exact F0) (by exact hr) (by omega) ?_
  walk_at "sts"
  rw [ei]
  refine ⟨a, i, rfl, p2, by omega, fun v2 s2 H3 b3 p3 g2 o2 dd2 r2 => ?_⟩
  replace g1 := g1.ts (p2.ts b3)
  have b13 := (b1.trans b2).trans b3
  have hpow : nod s1 + nod s2 + 1 < 2 ^ (i + 1 + 1) := by rw [Nat.pow_succ]; omega
  walk_at "sts"
  refine if2 (fun h4 => ?_) (fun h4 => l_nil ?_)
  · walk_at "sts"
    refine ⟨by show 3 ≤ sizeLine; decide, fun t H4 e4 _ ht => ?_⟩
    exact q _ (.menu s1 s2) H4 (b13.trans (But.of e4)) (p3.up e4) ⟨t, v1, v2, rfl, ht, g1.ts (Same.ts e4), g2.ts (Same.ts e4)⟩ ⟨o1, o2⟩ (by show max (dep s1) (dep s2) + 1 ≤ _; omega) hpow
  · walk_at "sts"
    refine e_call (by exact FM) (by exact hr) (by omega) ?_
    walk_at "sts"
    refine ⟨p3, fun md k H4 b4 p4 hm hk => ?_⟩
    walk_at "sts"
    refine ⟨by show 4 ≤ sizeLine; decide, fun t H5 e5 _ ht => ?_⟩
    exact q _ (.trade k s1 s2) H5 ((b13.trans b4).trans (But.of e5)) (p4.up e5) ⟨t, md, v1, v2, rfl, ht, hm.ts (Same.ts e5), (g1.ts (p3.ts b4)).ts (Same.ts e5), (g2.ts (p3.ts b4)).ts (Same.ts e5)⟩ ⟨hk, o1, o2⟩ (by show max (dep s1) (dep s2) + 1 ≤ _; omega) hpow
theorem ok_deep (T : Top K mg "_law_deep" s_deep) (FX : Fn P w K mg base 1 "_law_next" spNext) (FM : Fn P w K mg base 2 "_law_mode" spMode) : ∀ n, Fn P w K mg base (n + 3) "_law_deep" (spDeep n)
  | 0 => ok_deepS 0 T FX FM fun m h => by cases h
  | n + 1 => ok_deepS (n + 1) T FX FM fun m h => by cases h; exact ok_deep T FX FM n
end



theorem pig : ∀ (xs ys : List (List Nat)), xs.Nodup → (∀ x ∈ xs, x ∈ ys) → xs.length ≤ ys.length
  | [], ys, _, _ => Nat.zero_le _
  | x :: xs, ys, nd, h => by
    have hx := h x List.mem_cons_self
    rw [List.nodup_cons] at nd
    have := pig xs (ys.erase x) nd.2 fun y hy => (List.mem_erase_of_ne (fun e => by subst e; exact nd.1 hy)).mpr (h y (List.mem_cons_of_mem _ hy))
    rw [List.length_erase_of_mem hx] at this
    have := List.length_pos_of_mem hx
    rw [List.length_cons]
    omega
/-- q0z, q1z .. -/
def cand (k : Nat) : List Nat := 113 :: (TL.numL k ++ [122])
theorem cand_nd : ((List.range 39).map cand).Nodup := by decide +kernel
theorem cand_ok {k : Nat} (h : k < 40) : nameB (cand k) = true ∧ (cand k).length ≤ 12 := by
  have : ∀ k, k < 40 → nameB (cand k) = true ∧ (cand k).length ≤ 12 := by decide +kernel
  exact this k h
theorem first_ix {z : Str} : ∀ {zs : List Str}, z ∈ zs → ∃ j : Nat, zs[j]? = some z ∧ ∀ m : Nat, m < j → zs[m]? ≠ some z
  | [], h => by cases h
  | y :: zs, h => by
    by_cases e : y = z
    · exact ⟨0, by rw [e]; rfl, fun m hm => by omega⟩
    · have h2 : z ∈ zs := by
        rcases List.mem_cons.mp h with h | h
        · exact absurd h.symm e
        · exact h
      obtain ⟨j, h3, h4⟩ := first_ix h2
      refine ⟨j + 1, h3, fun m hm => ?_⟩
      cases m with
      | zero => simpa using e
      | succ m => exact h4 m (by omega)
section
variable {P : Program} {w : World} {K : PySem.W.Frag} {mg : Str → Option Value} {base : Heap} {C CT CH : Addr}
def spFresh : Sp := fun vs H Q _ => ∃ a l ns, vs = [.ref a, .ref l] ∧ PoolAt H a ∧ l ≠ a ∧ H l = some (.lst (sVs ns)) ∧ ns.length ≤ 20 ∧ (∀ z ∈ ns, okN z) ∧ ∀ z H', But a H H' → PoolAt H' a → okN z → z ∉ ns → Q (.str z) H'
theorem ok_fresh (T : Top K mg "_law_fresh" s_fresh) (mR : mg "range" = none) (mS : mg "str" = none) (FN : Fn P w K mg base 2 "_law_name" spLName) : Fn P w K mg base 3 "_law_fresh" spFresh := by
  refine fn_ok T sc_fresh so_fresh (fun vs H Q E h => by obtain ⟨a, l, ns, rfl, _⟩ := h; rfl) (fun _ _ _ _ _ _ us hl => match us, hl with | [_, _], _ => rfl) fun f cdv A outer s H vs Q E hr h nd => ?_
  obtain ⟨a, l, ns, rfl, hp, hla, hl, hn, hok, q⟩ := h
  refine l_cons (s_set (e_call (by exact FN) (by exact hr) (by decide) ?_))
  refine a_cons (e_var (a_cons (e_var (a_nil ⟨a, l, ns, rfl, hp, hla, hl, by omega, hok, fun z0 H1 b1 p1 hz0 => ?_⟩))))
  have hl1 := b1 l _ hla hl
  show wL _ _ _ [some (.ref a), some (.ref l), some (.str z0), none] _
  refine l_join (fun σ H' => ∃ z x3, σ = [some (.ref a), some (.ref l), some (.str z), x3] ∧ H' = H1 ∧ okN z ∧ z ∉ ns) (fun σ H' hA => ?_) (fun go => ?_)
  · obtain ⟨z, x3, rfl, rfl, hz, hzn⟩ := hA
    exact l_cons (s_ret (e_var (q z H' b1 p1 hz hzn)))
  refine l_cons (s_forR (by assumption) (e_int ?_))
  refine ⟨40, rfl, by decide, fun k σ H' => ∃ z x3, σ = [some (.ref a), some (.ref l), some (.str z), x3] ∧ H' = H1 ∧ okN z ∧ (0 < k → cs z = cand (k - 1)) ∧ ∀ j, j + 1 < k → cand j ∈ ns.map cs, ⟨z0, none, rfl, rfl, hz0, fun h => (Nat.lt_irrefl 0 h).elim, fun j hj => by omega⟩, ?_, ?_⟩
  · rintro k σ H' hk ⟨z, x3, rfl, rfl, hz, hzk, hall⟩
    show wL _ _ _ [some (.ref a), some (.ref l), some (.str z), some (.int (k : Int))] _
    refine l_cons (s_if (t_cmp (e_var (e_var (o_nin (SqL.of hl1) rfl (Wk.flat_strs ns) ⟨_, rfl, ?_⟩)))))
    rw [inV_str]
    by_cases hzn : z ∈ ns
    · rw [decide_eq_true hzn]
      refine ite_f rfl (l_nil ?_)
      have cu := cs_num (u := (k : Int)) (by omega)
      have ck := cand_ok hk
      have e1 : (Str.ofString "q").length = 1 := by decide +kernel
      have e2 : (Str.ofString "z").length = 1 := by decide +kernel
      have lk : (TL.numL k).length + 2 = (cand k).length := by unfold cand; simp
      have lu' : (toString (k : Int) : Str).length ≤ 10 := by rw [len_cs, cu, Int.toNat_natCast]; omega
      refine l_cons (s_set (e_bin (e_bin (e_str (e_callTy (x := "str") (by assumption) b_str ?_)))))
      have hlog := log_9 (d := (k : Int)) (by omega) (by omega)
      refine a_cons (e_var (a_nil (c_strI hlog ?_)))
      refine o_addS (by omega) ?_
      refine e_str ?_
      refine o_addS (by rw [app_len]; omega) ?_
      refine l_nil ?_
      have hc : cs (Str.ofString "q" ++ toString (k : Int) ++ Str.ofString "z") = cand k := by
        rw [cs_app, cs_app, cu, Int.toNat_natCast, show cs (Str.ofString "q") = [113] by decide +kernel, show cs (Str.ofString "z") = [122] by decide +kernel]
        rfl
      generalize Str.ofString "q" ++ toString (k : Int) ++ Str.ofString "z" = z2 at hc
      refine ⟨z2, _, rfl, rfl, ⟨by rw [hc]; exact ck.1, by rw [len_cs, hc]; exact ck.2⟩, fun _ => by rw [hc]; rfl, fun j hj => ?_⟩
      by_cases hjk : j + 1 < k
      · exact hall j hjk
      · have : j = k - 1 := by omega
        rw [this, ← hzk (by omega)]
        exact List.mem_map.mpr ⟨z, hzn, rfl⟩
    · rw [decide_eq_false hzn]
      exact ite_t rfl (l_cons (s_brk (go _ _ ⟨z, _, rfl, rfl, hz, hzn⟩)))
  · rintro σ H' ⟨z, x3, rfl, rfl, hz, hzk, hall⟩
    have := pig ((List.range 39).map cand) (ns.map cs) cand_nd fun x hx => by
      obtain ⟨j, hj, rfl⟩ := List.mem_map.mp hx
      exact hall j (by have := List.mem_range.mp hj; omega)
    simp only [List.length_map, List.length_range] at this
    omega
end



/-! ### rows as data -/
inductive Atm where
  | non
  | bl (b : Bool)
  | int (i : Int)
  | str (z : Str)
def Atm.v : Atm → V
  | .non => .non
  | .bl b => .bl b
  | .int i => .int i
  | .str z => .str z
/-- what may stand in the place of a kind -/
inductive Md where
  | at (a : Atm)
  | tup (l : List Atm)
def MdV (H : Hp) (v : V) : Md → Prop
  | .at a => v = a.v
  | .tup l => ∃ t, v = .ref t ∧ H t = some (.tup (l.map Atm.v))
theorem MdV.ts {H H' : Hp} (e : TS H H') {v : V} {m : Md} (h : MdV H v m) : MdV H' v m := by
  cases m with
  | «at» a => exact h
  | tup l => obtain ⟨t, h1, h2⟩ := h; exact ⟨t, h1, e _ _ h2⟩
def mdP : Pk → Md
  | none => .at (.str "once")
  | some (u, d) => .tup [.int u, .int d]
theorem mdV_of {H : Hp} {v : V} {k : Pk} (h : ModeV H v k) : MdV H v (mdP k) := by
  rcases k with _ | ⟨u, d⟩
  · exact h
  · obtain ⟨t, h1, h2⟩ := h
    exact ⟨t, h1, h2⟩
theorem modeV_of {H : Hp} {v : V} {k : Pk} (h : MdV H v (mdP k)) : ModeV H v k := by
  rcases k with _ | ⟨u, d⟩
  · exact h
  · obtain ⟨t, h1, h2⟩ := h
    exact ⟨t, h1, h2⟩
def numB (l : Int) : Atm → Bool
  | .int i => decide (l ≤ i)
  | _ => false
def goodM : Md → Bool
  | .at (.str z) => decide (z = "once")
  | .at _ => false
  | .tup [x, y] => numB 1 x && numB 0 y
  | .tup _ => false
theorem goodM_P {k : Pk} (h : okK k) : goodM (mdP k) = true := by
  rcases k with _ | ⟨u, d⟩
  · show decide (("once" : Str) = "once") = true
    simp
  · obtain ⟨h1, _, h3, _⟩ := h
    show (decide (1 ≤ u) && decide (0 ≤ d)) = true
    rw [decide_eq_true h1, decide_eq_true h3]
    rfl
theorem isW_atm {K : PySem.W.Frag} {H : Hp} (l : Int) (a : Atm) : IsW K H a.v l (numB l a) := by
  cases a with
  | non => exact .inr ⟨rfl, .inr ⟨_, .base .non, kb_non_int⟩⟩
  | bl b => exact .inr ⟨rfl, .inl ⟨b, rfl⟩⟩
  | int i => exact .inl ⟨i, rfl, rfl⟩
  | str z => exact .inr ⟨rfl, .inr ⟨_, .base (.str _), kb_str_int⟩⟩
theorem kindV_md {K : PySem.W.Frag} {H : Hp} {v : V} {m : Md} (h : MdV H v m) : KindV K H v (goodM m) := by
  cases m with
  | «at» a =>
    obtain rfl : v = a.v := h
    cases a with
    | non => exact .inr (.inr ⟨rfl, _, .base .non, kb_non_tuple, kb_non_str⟩)
    | bl b => exact .inr (.inr ⟨rfl, _, .base (.bl _), kb_bool_tuple, kb_bool_str⟩)
    | int i => exact .inr (.inr ⟨rfl, _, .base (.int _), kb_int_tuple, kb_int_str⟩)
    | str z => exact .inr (.inl ⟨z, rfl, rfl⟩)
  | tup l =>
    obtain ⟨t, rfl, ht⟩ := h
    match l, ht with
    | [], ht => exact .inl ⟨t, _, rfl, ht, .inl ⟨by simp, rfl⟩⟩
    | [x], ht => exact .inl ⟨t, _, rfl, ht, .inl ⟨by simp, rfl⟩⟩
    | [x, y], ht => exact .inl ⟨t, _, rfl, ht, .inr ⟨x.v, y.v, numB 1 x, numB 0 y, rfl, isW_atm 1 x, isW_atm 0 y, rfl⟩⟩
    | x :: y :: z :: r, ht => exact .inl ⟨t, _, rfl, ht, .inl ⟨by simp; omega, rfl⟩⟩
/-! ### lists that go together -/
theorem each_get {α β : Type} {R : α → β → Prop} : ∀ {vs : List α} {xs : List β} {i : Nat} {v : α}, PySem.W.EachIs R vs xs → vs[i]? = some v → ∃ x, xs[i]? = some x ∧ R v x
  | _, _, i, v, .nil, e => by simp at e
  | _, _, 0, v, .cons h _, e => by cases e; exact ⟨_, rfl, h⟩
  | _, _, i + 1, v, .cons _ r, e => each_get (i := i) r e
theorem each_app {α β : Type} {R : α → β → Prop} {us : List α} {ys : List β} (h2 : PySem.W.EachIs R us ys) : ∀ {vs : List α} {xs : List β}, PySem.W.EachIs R vs xs → PySem.W.EachIs R (vs ++ us) (xs ++ ys)
  | _, _, .nil => h2
  | _, _, .cons h r => .cons h (each_app h2 r)
theorem each_one {α β : Type} {R : α → β → Prop} {v : α} {x : β} (h : R v x) : PySem.W.EachIs R [v] [x] := .cons h .nil
theorem each_rev {α β : Type} {R : α → β → Prop} : ∀ {vs : List α} {xs : List β}, PySem.W.EachIs R vs xs → PySem.W.EachIs R vs.reverse xs.reverse
  | _, _, .nil => .nil
  | _, _, .cons h r => by
    rw [List.reverse_cons, List.reverse_cons]
    exact each_app (each_one h) (each_rev r)
theorem each_take {α β : Type} {R : α → β → Prop} : ∀ {vs : List α} {xs : List β} (n : Nat), PySem.W.EachIs R vs xs → PySem.W.EachIs R (vs.take n) (xs.take n)
  | _, _, 0, h => by rw [List.take_zero, List.take_zero]; exact .nil
  | _, _, n + 1, .nil => .nil
  | _, _, n + 1, .cons h r => .cons h (each_take n r)
theorem each_drop {α β : Type} {R : α → β → Prop} : ∀ {vs : List α} {xs : List β} (n : Nat), PySem.W.EachIs R vs xs → PySem.W.EachIs R (vs.drop n) (xs.drop n)
  | _, _, 0, h => h
  | _, _, n + 1, .nil => .nil
  | _, _, n + 1, .cons h r => each_drop n r
theorem each_set {α β : Type} {R : α → β → Prop} {v : α} {x : β} (hv : R v x) : ∀ {vs : List α} {xs : List β} (n : Nat), PySem.W.EachIs R vs xs → PySem.W.EachIs R (vs.set n v) (xs.set n x)
  | _, _, _, .nil => .nil
  | _, _, 0, .cons h r => .cons hv r
  | _, _, n + 1, .cons h r => .cons h (each_set hv n r)
theorem each_map' {α β γ : Type} {R : α → β → Prop} {S : α → γ → Prop} (f : β → γ) (h : ∀ a b, R a b → S a (f b)) : ∀ {vs : List α} {xs : List β}, PySem.W.EachIs R vs xs → PySem.W.EachIs S vs (xs.map f)
  | _, _, .nil => .nil
  | _, _, .cons a r => .cons (h _ _ a) (each_map' f h r)
abbrev Rw := Str × Md × Sn
def RowV (H : Hp) (v : V) (r : Rw) : Prop := ∃ t m x, v = .ref t ∧ H t = some (.tup [.str r.1, m, x]) ∧ MdV H m r.2.1 ∧ SnV H x r.2.2
theorem RowV.ts {H H' : Hp} (e : TS H H') {v : V} {r : Rw} : RowV H v r → RowV H' v r := fun ⟨t, m, x, h1, h2, h3, h4⟩ => ⟨t, m, x, h1, e _ _ h2, h3.ts e, SnV.ts e h4⟩
abbrev RowsV (H : Hp) : List V → List Rw → Prop := PySem.W.EachIs (RowV H)
theorem rows_ts {H H' : Hp} (e : TS H H') {vs : List V} {rs : List Rw} (h : RowsV H vs rs) : RowsV H' vs rs := h.mono fun _ _ z => z.ts e
def ClV (H : Hp) (v : V) (rs : List Rw) (s : Sn) : Prop := ∃ t th g vs, v = .ref t ∧ H t = some (.tup [.ref th, g]) ∧ H th = some (.tup vs) ∧ RowsV H vs rs ∧ SnV H g s
theorem ClV.ts {H H' : Hp} (e : TS H H') {v : V} {rs : List Rw} {s : Sn} : ClV H v rs s → ClV H' v rs s := fun ⟨t, th, g, vs, h1, h2, h3, h4, h5⟩ => ⟨t, th, g, vs, h1, e _ _ h2, e _ _ h3, rows_ts e h4, SnV.ts e h5⟩
/-- sentences that are drawn -/
def SnOk (s : Sn) : Prop := okS s ∧ dep s ≤ 2 ∧ nod s < 8
/-- rows that are drawn -/
def RwOk (r : Rw) : Prop := okN r.1 ∧ (∃ k, r.2.1 = mdP k ∧ okK k) ∧ SnOk r.2.2
/-- .. or spoilt -/
def RwMay (r : Rw) : Prop := r.1.length ≤ 20 ∧ SnOk r.2.2
theorem RwOk.may {r : Rw} (h : RwOk r) : RwMay r := ⟨by have := h.1.2; omega, h.2.2⟩
/-- the first fault -/
inductive Flt where
  | name (z : Str)
  | kind (m : Md)
  | taken (z : Str)
def due : List Str → List Rw → Option Flt
  | _, [] => none
  | tk, r :: rs => if nameB (cs r.1) = false then some (.name r.1) else if goodM r.2.1 = false then some (.kind r.2.1) else if r.1 ∈ tk then some (.taken r.1) else due (tk ++ [r.1]) rs
theorem due_cons (tk : List Str) (r : Rw) (rs : List Rw) : due tk (r :: rs) = if nameB (cs r.1) = false then some (.name r.1) else if goodM r.2.1 = false then some (.kind r.2.1) else if r.1 ∈ tk then some (.taken r.1) else due (tk ++ [r.1]) rs := rfl
theorem due_ok : ∀ {rs : List Rw} {tk : List Str}, (∀ r ∈ rs, RwOk r) → (rs.map (·.1)).Nodup → (∀ r ∈ rs, r.1 ∉ tk) → due tk rs = none
  | [], _, _, _, _ => rfl
  | r :: rs, tk, h, nd, ht => by
    obtain ⟨h1, ⟨k, hk, hkk⟩, _⟩ := h r List.mem_cons_self
    rw [List.map_cons, List.nodup_cons] at nd
    rw [due_cons, if_neg (by rw [h1.1]; decide), if_neg (by rw [hk, goodM_P hkk]; decide), if_neg (ht r List.mem_cons_self)]
    refine due_ok (fun x hx => h x (List.mem_cons_of_mem _ hx)) nd.2 fun x hx hm => ?_
    rcases List.mem_append.mp hm with hm | hm
    · exact ht x (List.mem_cons_of_mem _ hx) hm
    · rw [List.mem_singleton] at hm
      exact nd.1 (List.mem_map.mpr ⟨x, hx, hm⟩)



section
variable {P : Program} {w : World} {K : PySem.W.Frag} {mg : Str → Option Value} {base : Heap} {CN CK CM CU : Addr}
theorem ok_erN {C : Addr} (T : TopM K C "__init__" "BadName.__init__" s_BadName___init) (O : OexC K C) (no : PySem.W.findIn K (.ref C) "name" = some none) (hm : mg "BadName" = some (.ref C)) : Er P w K mg base "BadName" C "name" := by
  obtain ⟨f, fd, F, hb, hf, hi, hk⟩ := me_ok (P := P) (w := w) (mg := mg) (base := base) (k := 0) (sp := sp1 C "name") T sc_BadName___init so_BadName___init (fun vs H Q E h => by obtain ⟨a, v, rfl, _⟩ := h; rfl) (fun _ _ _ _ _ _ us hl => match us, hl with | [_, _], _ => rfl) fun f cdv A outer s H vs Q E hr h nd => by
    obtain ⟨a, v, rfl, ha, q⟩ := h
    refine l_cons (s_ost ?_)
    walk_at "sts"
    refine ⟨a, C, rfl, O, no, ha, fun dx nd ne => ?_⟩
    refine l_nil ?_
    exact q dx nd ne
  exact ⟨O, hm, f, fd, _, F, hf, beq_iff_eq.mp hi, hb⟩
theorem ok_erM {C : Addr} (T : TopM K C "__init__" "NameTaken.__init__" s_NameTaken___init) (O : OexC K C) (no : PySem.W.findIn K (.ref C) "name" = some none) (hm : mg "NameTaken" = some (.ref C)) : Er P w K mg base "NameTaken" C "name" := by
  obtain ⟨f, fd, F, hb, hf, hi, hk⟩ := me_ok (P := P) (w := w) (mg := mg) (base := base) (k := 0) (sp := sp1 C "name") T sc_NameTaken___init so_NameTaken___init (fun vs H Q E h => by obtain ⟨a, v, rfl, _⟩ := h; rfl) (fun _ _ _ _ _ _ us hl => match us, hl with | [_, _], _ => rfl) fun f cdv A outer s H vs Q E hr h nd => by
    obtain ⟨a, v, rfl, ha, q⟩ := h
    refine l_cons (s_ost ?_)
    walk_at "sts"
    refine ⟨a, C, rfl, O, no, ha, fun dx nd ne => ?_⟩
    refine l_nil ?_
    exact q dx nd ne
  exact ⟨O, hm, f, fd, _, F, hf, beq_iff_eq.mp hi, hb⟩
theorem ok_erU {C : Addr} (T : TopM K C "__init__" "UnknownName.__init__" s_UnknownName___init) (O : OexC K C) (no : PySem.W.findIn K (.ref C) "name" = some none) (hm : mg "UnknownName" = some (.ref C)) : Er P w K mg base "UnknownName" C "name" := by
  obtain ⟨f, fd, F, hb, hf, hi, hk⟩ := me_ok (P := P) (w := w) (mg := mg) (base := base) (k := 0) (sp := sp1 C "name") T sc_UnknownName___init so_UnknownName___init (fun vs H Q E h => by obtain ⟨a, v, rfl, _⟩ := h; rfl) (fun _ _ _ _ _ _ us hl => match us, hl with | [_, _], _ => rfl) fun f cdv A outer s H vs Q E hr h nd => by
    obtain ⟨a, v, rfl, ha, q⟩ := h
    refine l_cons (s_ost ?_)
    walk_at "sts"
    refine ⟨a, C, rfl, O, no, ha, fun dx nd ne => ?_⟩
    refine l_nil ?_
    exact q dx nd ne
  exact ⟨O, hm, f, fd, _, F, hf, beq_iff_eq.mp hi, hb⟩
theorem ok_erK {C : Addr} (T : TopM K C "__init__" "BadKind.__init__" s_BadKind___init) (O : OexC K C) (no : PySem.W.findIn K (.ref C) "kind" = some none) (hm : mg "BadKind" = some (.ref C)) : Er P w K mg base "BadKind" C "kind" := by
  obtain ⟨f, fd, F, hb, hf, hi, hk⟩ := me_ok (P := P) (w := w) (mg := mg) (base := base) (k := 0) (sp := sp1 C "kind") T sc_BadKind___init so_BadKind___init (fun vs H Q E h => by obtain ⟨a, v, rfl, _⟩ := h; rfl) (fun _ _ _ _ _ _ us hl => match us, hl with | [_, _], _ => rfl) fun f cdv A outer s H vs Q E hr h nd => by
    obtain ⟨a, v, rfl, ha, q⟩ := h
    refine l_cons (s_ost ?_)
    walk_at "sts"
    refine ⟨a, C, rfl, O, no, ha, fun dx nd ne => ?_⟩
    refine l_nil ?_
    exact q dx nd ne
  exact ⟨O, hm, f, fd, _, F, hf, beq_iff_eq.mp hi, hb⟩
/-- what is raised for a fault -/
def RaV (CN CK CM : Addr) (E : XK) (H : Hp) : Flt → Prop
  | .name z => ∀ d H', Same H H' → H' d = some (.xd [("name", .str z)]) → E (.ref CN) (some d) H'
  | .kind m => ∀ d H' v, Same H H' → H' d = some (.xd [("kind", v)]) → MdV H' v m → E (.ref CK) (some d) H'
  | .taken z => ∀ d H', Same H H' → H' d = some (.xd [("name", .str z)]) → E (.ref CM) (some d) H'
theorem RaV.up {E : XK} {H H1 : Hp} (s : Same H H1) {f : Flt} (h : RaV CN CK CM E H f) : RaV CN CK CM E H1 f := by
  cases f with
  | name z => exact fun d H' e h1 => h d H' (s.trans e) h1
  | kind m => exact fun d H' v e h1 h2 => h d H' v (s.trans e) h1 h2
  | taken z => exact fun d H' e h1 => h d H' (s.trans e) h1
def SideV (K : PySem.W.Frag) (H : Hp) (v : V) (rs : List Rw) : Prop := ∃ (c : Side) (a : Addr) (vs : List V), v = .ref a ∧ (∀ H', Same H H' → c.sq K H' a vs) ∧ RowsV H vs rs
theorem SideV.l {K : PySem.W.Frag} {H : Hp} {a : Addr} {vs : List V} {rs : List Rw} (h : H a = some (.lst vs)) (r : RowsV H vs rs) : SideV K H (.ref a) rs := ⟨.l, a, vs, rfl, fun H' e => SqL.of (e _ _ h), r⟩
theorem SideV.t {K : PySem.W.Frag} {H : Hp} {a : Addr} {vs : List V} {rs : List Rw} (h : H a = some (.tup vs)) (r : RowsV H vs rs) : SideV K H (.ref a) rs := ⟨.t, a, vs, rfl, fun H' e => SqT.of (e _ _ h), r⟩
def Few (rs : List Rw) : Prop := rs.length ≤ 50 ∧ ∀ r ∈ rs, r.1.length ≤ 20
def spMake (K : PySem.W.Frag) (CN CK CM : Addr) : Sp := fun vs H Q E => ∃ v g rs, vs = [v, g] ∧ SideV K H v rs ∧ Few rs ∧
  (due [] rs = none → ∀ (t th : Addr) ys H', Same H H' → H' t = some (.tup [.ref th, g]) → H' th = some (.tup ys) → RowsV H' ys rs → Q (.ref t) H') ∧ ∀ f, due [] rs = some f → RaV CN CK CM E H f
theorem ok_make (T : Top K mg "make_claim" s_make_claim) (mT : mg "tuple" = none) (FN : Fn P w K mg base 2 "is_name" spNm) (FK : Fn P w K mg base 2 "is_kind" (spKi K)) (RN : Er P w K mg base "BadName" CN "name") (RK : Er P w K mg base "BadKind" CK "kind") (RM : Er P w K mg base "NameTaken" CM "name") :
    FnN P w K mg base 3 "make_claim" (spMake K CN CK CM) := by
  refine fn_okN T sc_make_claim so_make_claim (fun vs H Q E h => by obtain ⟨v, g, rs, rfl, _⟩ := h; rfl) (fun _ _ _ _ _ _ us hl => match us, hl with | [_, _], _ => rfl) fun f cdv A outer s H vs Q E hr h nd tk => ?_
  obtain ⟨v, g, rs, rfl, ⟨c, a, vs, rfl, hsq, hrs⟩, ⟨hl, hn⟩, q1, q2⟩ := h
  have lvs := hrs.length
  refine l_cons (s_set (e_lst (a_nil ⟨by show 0 ≤ sizeLine; decide, fun md H1 e1 n1 h1 => ?_⟩)))
  show wL _ _ _ [some (.ref a), some g, some (.ref md), none, none, none, none] _
  refine l_cons (s_set (e_lst (a_nil ⟨by show 0 ≤ sizeLine; decide, fun tl H2 e2 n2 h2 => ?_⟩)))
  have ntm : tl ≠ md := fun e => by subst e; rw [h1] at n2; cases n2
  have n02 : H tl = none := none_of e1 n2
  show wL _ _ _ [some (.ref a), some g, some (.ref md), some (.ref tl), none, none, none] _
  refine l_cons (s_forQ3 c (e_var ?_))
  refine ⟨a, vs, rfl, hsq _ (e1.trans e2), fun n σ H' => ∃ ys x4 x5 x6, σ = [some (.ref a), some g, some (.ref md), some (.ref tl), x4, x5, x6] ∧ H' md = some (.lst ys) ∧ RowsV H' ys (rs.take n) ∧ H' tl = some (.lst (sVs ((rs.take n).map (·.1)))) ∧ Same H H' ∧ due [] rs = due ((rs.take n).map (·.1)) (rs.drop n),
    ⟨[], none, none, none, rfl, e2 _ _ h1, .nil, h2, e1.trans e2, rfl⟩, ?_, ?_, ?_⟩
  · rintro n σ H' _ ⟨ys, x4, x5, x6, rfl, _, _, _, e, _⟩
    exact hsq _ e
  · rintro n u σ H3 hu ⟨ys, x4, x5, x6, rfl, hmd, hys, htl, e3, hdue⟩
    obtain ⟨r, hr', t, m, x, rfl, ht, hm, hx⟩ := each_get hrs hu
    have ht3 := e3 _ _ ht
    refine ⟨t, _, _, _, rfl, SqT.of ht3, ?_⟩
    have hmem := List.mem_of_getElem? hr'
    have hnl := hn r hmem
    have hlt : n < rs.length := (List.getElem?_eq_some_iff.mp hr').1
    have hdr : rs.drop n = r :: rs.drop (n + 1) := by
      rw [List.drop_eq_getElem_cons hlt]
      congr 1
      have := (List.getElem?_eq_some_iff.mp hr').2
      exact this
    rw [hdr, due_cons] at hdue
    have lys : ys.length ≤ 50 := by rw [hys.length, List.length_take]; omega
    show wL _ _ _ [some (.ref a), some g, some (.ref md), some (.ref tl), some (.str r.1), some m, some x] _
    refine l_cons (s_if (t_not (t_val (e_call (by exact FN) (by exact hr) (by decide) ?_))))
    refine a_cons (e_var (a_nil ⟨r.1, rfl, by show r.1.length ≤ 2 ^ 24; omega, ?_⟩))
    cases hb : nameB (cs r.1) with
    | false =>
      rw [if_pos hb] at hdue
      refine ⟨_, rfl, ite_t rfl ?_⟩
      refine l_cons (s_raiseN (by exact RN) (by exact tk) (by exact hr) (by decide) (e_var fun d H4 e4 n4 h4 => ?_))
      exact q2 _ hdue d H4 (e3.trans e4) h4
    | true =>
      rw [if_neg (by rw [hb]; decide)] at hdue
      refine ⟨_, rfl, ite_f rfl (l_nil ?_)⟩
      have hm3 := hm.ts (Same.ts e3)
      refine l_cons (s_if (t_not (t_val (e_call (by exact FK) (by exact hr) (by decide) ?_))))
      refine a_cons (e_var (a_nil ⟨m, goodM r.2.1, rfl, kindV_md hm3, ?_⟩))
      cases hk : goodM r.2.1 with
      | false =>
        rw [if_pos hk] at hdue
        refine ⟨_, rfl, ite_t rfl ?_⟩
        refine l_cons (s_raiseN (by exact RK) (by exact tk) (by exact hr) (by decide) (e_var fun d H4 e4 n4 h4 => ?_))
        exact q2 _ hdue d H4 m (e3.trans e4) h4 (hm3.ts (Same.ts e4))
      | true =>
        rw [if_neg (by rw [hk]; decide)] at hdue
        refine ⟨_, rfl, ite_f rfl (l_nil ?_)⟩
        refine l_cons (s_if (t_cmp (e_var (e_var (o_in (SqL.of htl) rfl (Wk.flat_strs _) ⟨_, rfl, ?_⟩)))))
        rw [inV_str]
        by_cases hin : r.1 ∈ (rs.take n).map (·.1)
        · rw [if_pos hin] at hdue
          rw [decide_eq_true hin]
          refine iteT ?_
          refine l_cons (s_raiseN (by exact RM) (by exact tk) (by exact hr) (by decide) (e_var fun d H4 e4 n4 h4 => ?_))
          exact q2 _ hdue d H4 (e3.trans e4) h4
        · rw [if_neg hin] at hdue
          rw [decide_eq_false hin]
          refine iteF (l_nil ?_)
          have e31 : (rs.take n).length ≤ 50 := by rw [List.length_take]; omega
          refine l_cons (s_expr (e_app (e_var ⟨tl, _, rfl, SqL.of htl, e_var ⟨_, htl, by rw [List.length_map, List.length_map]; show _ < 2 ^ 24; omega, ?_⟩⟩)))
          have k34 : ∀ b o, b ≠ tl → H3 b = some o → upd H3 tl (.lst (sVs ((rs.take n).map (·.1)) ++ [.str r.1])) b = some o := fun b o hb h => by rw [upd_ne hb]; exact h
          have t4 : upd H3 tl (.lst (sVs ((rs.take n).map (·.1)) ++ [.str r.1])) tl = some (.lst (sVs ((rs.take (n + 1)).map (·.1)))) := by
            rw [upd_same, take_snc hr']
            simp
          have ts4 : TS H3 (upd H3 tl (.lst (sVs ((rs.take n).map (·.1)) ++ [.str r.1]))) := TS.upd htl
          have s4 : Same H (upd H3 tl (.lst (sVs ((rs.take n).map (·.1)) ++ [.str r.1]))) := fun b o hb => by rw [upd_ne (ne_of_none hb n02)]; exact e3 _ _ hb
          generalize upd H3 tl (.lst (sVs ((rs.take n).map (·.1)) ++ [.str r.1])) = H4 at k34 t4 ts4 s4
          have hmd4 := k34 _ _ ntm.symm hmd
          refine l_cons (s_expr (e_app (e_var ⟨md, _, rfl, SqL.of hmd4, ?_⟩)))
          refine e_tup (a_cons (e_var (a_cons (e_var (a_cons (e_var (a_nil ⟨by show 3 ≤ sizeLine; decide, fun p H5 e5 n5 h5 => ?_⟩)))))))
          refine ⟨ys, e5 _ _ hmd4, by show _ < 2 ^ 24; omega, l_nil ?_⟩
          have hmd5 := e5 _ _ hmd4
          have ts6 : TS H5 (upd H5 md (.lst (ys ++ [.ref p]))) := TS.upd hmd5
          have tsA : TS H3 (upd H5 md (.lst (ys ++ [.ref p]))) := (ts4.trans (Same.ts e5)).trans ts6
          refine ⟨ys ++ [.ref p], _, _, _, rfl, upd_same, ?_, by rw [upd_ne ntm]; exact e5 _ _ t4, fun b o hb => ?_, ?_⟩
          · rw [take_snc hr']
            refine each_app (each_one ⟨p, m, x, rfl, ts6 _ _ h5, (hm3.ts tsA), SnV.ts ((Same.ts e3).trans tsA) hx⟩) (rows_ts tsA hys)
          · rw [upd_ne (ne_of_none hb n1)]
            exact e5 _ _ (s4 _ _ hb)
          · rw [hdue, take_snc hr']
            simp
  · rintro σ H3 ⟨ys, x4, x5, x6, rfl, hmd, hys, htl, e3, hdue⟩
    rw [lvs, List.drop_length] at hdue
    rw [lvs, List.take_length] at hys
    refine l_cons (s_ret (e_tup (a_cons (e_callTy (x := "tuple") (by assumption) b_tuple (a_cons (e_var (a_nil (c_tupL (SqL.of hmd) fun tv H4 e4 _ h4 => ?_))))))))
    refine a_cons (e_var (a_nil ⟨by show 2 ≤ sizeLine; decide, fun t H5 e5 _ h5 => ?_⟩))
    exact q1 hdue t tv ys H5 ((e3.trans e4).trans e5) h5 (e5 _ _ h4) (rows_ts (Same.ts (e4.trans e5)) hys)
end



section
variable {P : Program} {w : World} {K : PySem.W.Frag} {mg : Str → Option Value} {base : Heap} {CN CK CM CU : Addr}
/-- no row bears the name -/
def NoNm (z : Str) (rs : List Rw) : Prop := ∀ r ∈ rs, r.1 ≠ z
def RaU (CU : Addr) (E : XK) (H : Hp) (z : Str) : Prop := ∀ d H', Same H H' → H' d = some (.xd [("name", .str z)]) → E (.ref CU) (some d) H'
def spHold (CU : Addr) : Sp := fun vs H Q E => ∃ v z rs s, vs = [v, .str z] ∧ ClV H v rs s ∧
  (∀ (n : Nat) r, rs[n]? = some r → NoNm z (rs.take n) → r.1 = z → ∀ t m x H', Same H H' → H' t = some (.tup [m, x]) → MdV H' m r.2.1 → SnV H' x r.2.2 → Q (.ref t) H') ∧ (NoNm z rs → RaU CU E H z)
theorem ok_hold (T : Top K mg "hold_of" s_hold_of) (RU : Er P w K mg base "UnknownName" CU "name") : FnN P w K mg base 3 "hold_of" (spHold CU) := by
  refine fn_okN T sc_hold_of so_hold_of (fun vs H Q E h => by obtain ⟨v, z, rs, s, rfl, _⟩ := h; rfl) (fun _ _ _ _ _ _ us hl => match us, hl with | [_, _], _ => rfl) fun f cdv A outer s H vs Q E hr h nd tk => ?_
  obtain ⟨v, z, rs, s, rfl, ⟨tc, th, g, vs, rfl, htc, hth, hrs, hg⟩, q1, q2⟩ := h
  have lvs := hrs.length
  refine l_cons (s_forQ3 .t (e_ix (e_var (e_int (ix_t (by exact SqT.of htc) at0 ?_)))))
  refine ⟨th, vs, rfl, SqT.of hth, fun n σ H' => ∃ x2 x3 x4, σ = [some (.ref tc), some (.str z), x2, x3, x4] ∧ H' = H ∧ NoNm z (rs.take n), ⟨none, none, none, rfl, rfl, fun r hr => by cases hr⟩, ?_, ?_, ?_⟩
  · rintro n σ H' _ ⟨_, _, _, _, rfl, _⟩
    exact SqT.of hth
  · rintro n u σ H' hu ⟨x2, x3, x4, rfl, rfl, hno⟩
    obtain ⟨r, hr', t, m, x, rfl, ht, hm, hx⟩ := each_get hrs hu
    refine ⟨t, _, _, _, rfl, SqT.of ht, ?_⟩
    show wL _ _ _ [some (.ref tc), some (.str z), some (.str r.1), some m, some x] _
    refine l_cons (s_if (t_cmp (e_var (e_var (o_eqS ⟨_, rfl, ?_⟩)))))
    by_cases he : r.1 = z
    · rw [decide_eq_true he]
      refine iteT (l_cons (s_ret (e_tup (a_cons (e_var (a_cons (e_var (a_nil ⟨by show 2 ≤ sizeLine; decide, fun p H5 e5 n5 h5 => ?_⟩))))))))
      exact q1 n r hr' hno he p m x H5 e5 h5 (hm.ts (Same.ts e5)) (SnV.ts (Same.ts e5) hx)
    · rw [decide_eq_false he]
      refine iteF (l_nil (l_nil ⟨_, _, _, rfl, rfl, fun r2 h2 => ?_⟩))
      rw [take_snc hr'] at h2
      rcases List.mem_append.mp h2 with h2 | h2
      · exact hno r2 h2
      · rw [List.mem_singleton.mp h2]; exact he
  · rintro σ H' ⟨x2, x3, x4, rfl, rfl, hno⟩
    rw [lvs, List.take_length] at hno
    exact l_cons (s_raiseN (by exact RU) (by exact tk) (by exact hr) (by decide) (e_var fun d H4 e4 n4 h4 => q2 hno d H4 e4 h4))
def spWith (CN CK CM : Addr) : Sp := fun vs H Q E => ∃ v z m x rs s md sn, vs = [v, .str z, m, x] ∧ ClV H v rs s ∧ MdV H m md ∧ SnV H x sn ∧ Few (rs ++ [(z, md, sn)]) ∧
  (due [] (rs ++ [(z, md, sn)]) = none → ∀ v' H', Same H H' → ClV H' v' (rs ++ [(z, md, sn)]) s → Q v' H') ∧ ∀ f, due [] (rs ++ [(z, md, sn)]) = some f → RaV CN CK CM E H f
theorem ok_with (T : Top K mg "with_hold" s_with_hold) (F : FnN P w K mg base 3 "make_claim" (spMake K CN CK CM)) : FnN P w K mg base 4 "with_hold" (spWith CN CK CM) := by
  refine fn_okN T sc_with_hold so_with_hold (fun vs H Q E h => by obtain ⟨v, z, m, x, rs, s, md, sn, rfl, _⟩ := h; rfl) (fun _ _ _ _ _ _ us hl => match us, hl with | [_, _, _, _], _ => rfl) fun f cdv A outer s H vs Q E hr h nd tk => ?_
  obtain ⟨v, z, m, x, rs, s, md, sn, rfl, ⟨tc, th, g, vs, rfl, htc, hth, hrs, hg⟩, hm, hx, hf, q1, q2⟩ := h
  have lvs := hrs.length
  have hl := hf.1
  rw [List.length_append] at hl
  refine l_cons (s_tup2 (e_var ⟨tc, _, _, rfl, SqT.of htc, ?_⟩))
  show wL _ _ _ [some (.ref tc), some (.str z), some m, some x, some (.ref th), some g] _
  refine l_cons (s_ret (e_callN (by exact F) (by exact tk) (by exact hr) (by decide) ?_))
  refine a_cons (e_bin (e_var (e_tup (a_cons (e_tup ?_)))))
  refine a_cons (e_var (a_cons (e_var (a_cons (e_var (a_nil ⟨by show 3 ≤ sizeLine; decide, fun p H1 e1 n1 h1 => ?_⟩))))))
  refine a_nil ⟨by show 1 ≤ sizeLine; decide, fun p2 H2 e2 n2 h2 => ?_⟩
  refine o_catA (e2 _ _ (e1 _ _ hth)) h2 (by rw [lvs]; simp; omega) fun t H3 e3 h3 => a_cons (e_var (a_nil ?_))
  have e03 := (e1.trans e2).trans e3
  refine ⟨.ref t, g, rs ++ [(z, md, sn)], rfl, SideV.t h3 (each_app (each_one ⟨p, m, x, rfl, e3 _ _ (e2 _ _ h1), hm.ts (Same.ts e03), SnV.ts (Same.ts e03) hx⟩) (rows_ts (Same.ts e03) hrs)), hf, fun hd t' th' ys H' e' ht' hth' hys => ?_, fun f hd => (q2 f hd).up e03⟩
  exact q1 hd _ H' (e03.trans e') ⟨t', th', g, ys, rfl, ht', hth', hys, SnV.ts (Same.ts (e03.trans e')) hg⟩
def spWo (CU : Addr) : Sp := fun vs H Q E => ∃ v z rs s, vs = [v, .str z] ∧ ClV H v rs s ∧ rs.length ≤ 50 ∧
  (¬ NoNm z rs → ∀ v' H', Same H H' → ClV H' v' (rs.filter fun r => !decide (r.1 = z)) s → Q v' H') ∧ (NoNm z rs → RaU CU E H z)
theorem filter_all {z : Str} {rs : List Rw} (h : NoNm z rs) : (rs.filter fun r => !decide (r.1 = z)) = rs := List.filter_eq_self.mpr fun r hr => by simp [h r hr]
theorem filter_lt {z : Str} {rs : List Rw} (h : ¬ NoNm z rs) : (rs.filter fun r => !decide (r.1 = z)).length ≠ rs.length := fun e => h fun r hr he => by
  have := (List.length_filter_eq_length_iff.mp e) r hr
  simp [he] at this
theorem ok_wo (T : Top K mg "without_hold" s_without_hold) (mT : mg "tuple" = none) (mL : mg "len" = none) (RU : Er P w K mg base "UnknownName" CU "name") : FnN P w K mg base 3 "without_hold" (spWo CU) := by
  refine fn_okNC T sc_without_hold so_without_hold (fun vs H Q E h => by obtain ⟨v, z, rs, s, rfl, _⟩ := h; rfl) (fun _ _ _ _ _ _ us hl => match us, hl with | [_, _], _ => rfl) fun f cdv A outer s H vs Q E hr h nd tk => ?_
  obtain ⟨v, z, rs, s, rfl, ⟨tc, th, g, vs, rfl, htc, hth, hrs, hg⟩, hl, q1, q2⟩ := h
  have lvs := hrs.length
  refine l_cons (s_tup2 (e_var ⟨tc, _, _, rfl, SqT.of htc, ?_⟩))
  show wL _ _ _ [some (.ref tc), some (.str z), some (.ref th), some g, none, none] _
  refine l_cons (s_set (e_callTy (x := "tuple") (by assumption) b_tuple (a_cons (e_lcTf (by exact bk_without_hold0) (e_var ⟨th, vs, rfl, SqT.of hth, fun D nD => ?_⟩)))))
  refine ⟨fun k H' => ∃ ys, H' D = some (.lst ys) ∧ RowsV H' ys ((rs.take k).filter fun r => !decide (r.1 = z)) ∧ Same H H' ∧ ys.length ≤ k, ⟨[], upd_same, .nil, fun b o hb => by rw [upd_ne (ne_of_none hb nD)]; exact hb, Nat.le_refl _⟩, fun k H' _ ⟨_, _, _, e, _⟩ => SqT.of (e _ _ hth), ?_, ?_⟩
  · rintro k u H2 hu ⟨ys, hD, hys, e2, ly⟩
    obtain ⟨r, hr', t, m, x, rfl, ht, hm, hx⟩ := each_get hrs hu
    have hlt : k < vs.length := (List.getElem?_eq_some_iff.mp hu).1
    intro s0 H0 C cl fp I0
    refine t_cmp (e_ix (b_var (e_int (ix_t (by exact SqT.of (e2 _ _ ht)) at0 (b_var (o_neS ⟨_, rfl, ?_⟩))))))
    have hrow : RowV H2 (.ref t) r := ⟨t, m, x, rfl, e2 _ _ ht, hm.ts (Same.ts e2), SnV.ts (Same.ts e2) hx⟩
    by_cases he : r.1 = z
    · rw [decide_eq_true he]
      refine iteF ⟨ys, hD, ?_, e2, by omega⟩
      rw [take_snc hr', List.filter_append]
      simp only [List.filter_cons, List.filter_nil, decide_eq_true he, Bool.not_true, Bool.false_eq_true, if_false, List.append_nil]
      exact hys
    · rw [decide_eq_false he]
      refine iteT fun s0 H0 C cl fp I0 => b_var ⟨ys, hD, by show _ < 2 ^ 24; omega, ?_⟩
      have ts : TS H2 (upd H2 D (.lst (ys ++ [.ref t]))) := TS.upd hD
      refine ⟨ys ++ [.ref t], upd_same, ?_, fun b o hb => by rw [upd_ne (ne_of_none hb nD)]; exact e2 _ _ hb, by simp; omega⟩
      rw [take_snc hr', List.filter_append]
      simp only [List.filter_cons, List.filter_nil, decide_eq_false he, Bool.not_false, if_true]
      exact each_app (each_one (hrow.ts ts)) (rows_ts ts hys)
  rintro H2 ⟨ys, hD, hys, e2, ly⟩
  rw [lvs, List.take_length] at hys
  refine a_nil (c_tupL (SqL.of hD) fun tv H3 e3 _ h3 => ?_)
  have hys3 := rows_ts (Same.ts e3) hys
  have e03 := e2.trans e3
  show wL _ _ _ [some (.ref tc), some (.str z), some (.ref th), some g, some (.ref tv), none] _
  refine l_cons (s_if (t_cmp (e_callB (x := "len") (by assumption) b_len (a_cons (e_var (a_nil (c_lenT (SqT.of h3) ?_)))))))
  refine e_callB (x := "len") (by assumption) b_len (a_cons (e_var (a_nil (c_lenT (SqT.of (e03 _ _ hth)) ?_))))
  refine o_eqI ⟨_, rfl, ?_⟩
  rw [hys3.length, lvs]
  by_cases hn : NoNm z rs
  · rw [filter_all hn]
    refine ite_t (by simp) (l_cons (s_raiseN (by exact RU) (by exact tk) (by exact hr) (by decide) (e_var fun d H4 e4 n4 h4 => q2 hn d H4 (e03.trans e4) h4)))
  · have := filter_lt hn
    refine ite_f (by simp; omega) (l_nil (l_cons (s_ret (e_tup (a_cons (e_var (a_cons (e_var (a_nil ⟨by show 2 ≤ sizeLine; decide, fun t H4 e4 n4 h4 => ?_⟩)))))))))
    exact q1 hn _ H4 (e03.trans e4) ⟨t, tv, g, ys, rfl, h4, e4 _ _ h3, rows_ts (Same.ts e4) hys3, SnV.ts (Same.ts (e03.trans e4)) hg⟩
end



/-! ### keys -/
theorem ModeV.inj {H : Hp} {v : V} {k l : Pk} (h1 : ModeV H v k) (h2 : ModeV H v l) : k = l := by
  rcases k with _ | ⟨a, b⟩ <;> rcases l with _ | ⟨c, d⟩
  · rfl
  · obtain rfl : v = .str "once" := h1
    obtain ⟨t, h, _⟩ := h2
    cases h
  · obtain rfl : v = .str "once" := h2
    obtain ⟨t, h, _⟩ := h1
    cases h
  · obtain ⟨t, rfl, ht⟩ := h1
    obtain ⟨t', e, ht'⟩ := h2
    cases e
    rw [ht] at ht'
    simp only [Option.some.injEq, HO.tup.injEq, List.cons.injEq, L2.V.int.injEq, and_true] at ht'
    rw [ht'.1, ht'.2]
theorem SnV.inj {H : Hp} : ∀ {s u : Sn} {v : V}, SnV H v s → SnV H v u → s = u
  | .word n, u, v, ⟨t, z, e, ht, hz⟩, h2 => by
    subst e
    cases u with
    | word m =>
      obtain ⟨t', z', e', ht', hz'⟩ := h2
      cases e'
      rw [ht] at ht'
      simp only [Option.some.injEq, HO.tup.injEq, List.cons.injEq, L2.V.str.injEq, and_true, true_and] at ht'
      rw [← hz, ← hz', ht']
    | menu =>
      obtain ⟨t', a, b, e', ht', _⟩ := h2
      cases e'
      rw [ht] at ht'
      simp at ht'
    | trade =>
      obtain ⟨t', a, b, c, e', ht', _⟩ := h2
      cases e'
      rw [ht] at ht'
      simp at ht'
  | .menu l r, u, v, ⟨t, a, b, e, ht, ha, hb⟩, h2 => by
    subst e
    cases u with
    | word m =>
      obtain ⟨t', z', e', ht', hz'⟩ := h2
      cases e'
      rw [ht] at ht'
      simp at ht'
    | menu =>
      obtain ⟨t', a', b', e', ht', ha', hb'⟩ := h2
      cases e'
      rw [ht] at ht'
      simp only [Option.some.injEq, HO.tup.injEq, List.cons.injEq, and_true, true_and] at ht'
      obtain ⟨rfl, rfl⟩ := ht'
      rw [ha.inj ha', hb.inj hb']
    | trade =>
      obtain ⟨t', a', b', c, e', ht', _⟩ := h2
      cases e'
      rw [ht] at ht'
      simp at ht'
  | .trade k l r, u, v, ⟨t, m, a, b, e, ht, hm, ha, hb⟩, h2 => by
    subst e
    cases u with
    | word m =>
      obtain ⟨t', z', e', ht', hz'⟩ := h2
      cases e'
      rw [ht] at ht'
      simp at ht'
    | menu =>
      obtain ⟨t', a', b', e', ht', ha', hb'⟩ := h2
      cases e'
      rw [ht] at ht'
      simp at ht'
    | trade =>
      obtain ⟨t', m', a', b', e', ht', hm', ha', hb'⟩ := h2
      cases e'
      rw [ht] at ht'
      simp only [Option.some.injEq, HO.tup.injEq, List.cons.injEq, and_true, true_and] at ht'
      obtain ⟨rfl, rfl, rfl⟩ := ht'
      rw [ha.inj ha', hb.inj hb', hm.inj hm']
abbrev Pr := Pk × Sn
def PairV (H : Hp) (v : V) (p : Pr) : Prop := ∃ t m x, v = .ref t ∧ H t = some (.tup [m, x]) ∧ ModeV H m p.1 ∧ SnV H x p.2
theorem PairV.ts {H H' : Hp} (e : TS H H') {v : V} {p : Pr} : PairV H v p → PairV H' v p := fun ⟨t, m, x, h1, h2, h3, h4⟩ => ⟨t, m, x, h1, e _ _ h2, h3.ts e, SnV.ts e h4⟩
theorem PairV.inj {H : Hp} {v : V} {p q : Pr} (h1 : PairV H v p) (h2 : PairV H v q) : p = q := by
  obtain ⟨t, m, x, rfl, ht, hm, hx⟩ := h1
  obtain ⟨t', m', x', e, ht', hm', hx'⟩ := h2
  cases e
  rw [ht] at ht'
  simp only [Option.some.injEq, HO.tup.injEq, List.cons.injEq, and_true] at ht'
  obtain ⟨rfl, rfl⟩ := ht'
  exact Prod.ext (hm.inj hm') (hx.inj hx')
def txS (s : Sn) : Str := ⟨(tx0 s).toArray⟩
theorem cs_txS (s : Sn) : cs (txS s) = tx0 s := by simp [cs, txS]
def keyP (p : Pr) : K4 := match p.1 with
  | none => (txS p.2, 0, 0, 0)
  | some (u, d) => (txS p.2, 1, u, d)
def PrOk (p : Pr) : Prop := okK p.1 ∧ SnOk p.2
theorem keyP_inj {p q : Pr} (hp : PrOk p) (hq : PrOk q) (h : keyP p = keyP q) : p = q := by
  have hs : ∀ {s u : Sn}, okS s → okS u → txS s = txS u → s = u := fun {s u} h1 h2 e => by
    have e2 : tx0 s = tx0 u := by rw [← cs_txS, ← cs_txS, e]
    have r1 := tx_reads h1
    rw [e2] at r1
    have := r1.det (tx_reads h2)
    injection this
  obtain ⟨k, s⟩ := p
  obtain ⟨l, u⟩ := q
  rcases k with _ | ⟨a, b⟩ <;> rcases l with _ | ⟨c, d⟩
  · have := congrArg (·.1) h
    have e : s = u := hs hp.2.1 hq.2.1 this
    rw [e]
  · have := congrArg (·.2.1) h
    exact absurd this (by show ¬ ((0 : Int) = 1); decide)
  · have := congrArg (·.2.1) h
    exact absurd this (by show ¬ ((1 : Int) = 0); decide)
  · have h1 := congrArg (·.1) h
    have h2 : a = c := congrArg (·.2.2.1) h
    have h3 : b = d := congrArg (·.2.2.2) h
    have e : s = u := hs hp.2.1 hq.2.1 h1
    rw [e, h2, h3]
def leP : Pr → Pr → Bool := PySem.W.dataLe false fun p => (keyP p).d
theorem toks4 (a b : K4) (h : PySem.W.keyToks a.d = PySem.W.keyToks b.d) : a = b := by
  obtain ⟨x, i, j, k⟩ := a
  obtain ⟨y, l, m, n⟩ := b
  simp only [K4.d, PySem.W.keyToks, PySem.W.keyToksAll, List.cons_append, List.nil_append, List.cons.injEq, Sum.inl.injEq, Sum.inr.injEq, true_and, and_true] at h
  obtain ⟨h1, h2, h3, h4⟩ := h
  rw [cs_ext h1, h2, h3, h4]
theorem leP_anti {p q : Pr} (hp : PrOk p) (hq : PrOk q) (h1 : leP p q = true) (h2 : leP q p = true) : p = q := by
  refine keyP_inj hp hq (toks4 _ _ ?_)
  have e1 : PyProof.Rows.lexLt PyProof.Rows.itemOrd (PySem.W.keyToks (keyP q).d) (PySem.W.keyToks (keyP p).d) = false := by
    have : (!PyProof.Rows.lexLt PyProof.Rows.itemOrd (PySem.W.keyToks (keyP q).d) (PySem.W.keyToks (keyP p).d)) = true := h1
    simpa using this
  have e2 : PyProof.Rows.lexLt PyProof.Rows.itemOrd (PySem.W.keyToks (keyP p).d) (PySem.W.keyToks (keyP q).d) = false := by
    have : (!PyProof.Rows.lexLt PyProof.Rows.itemOrd (PySem.W.keyToks (keyP p).d) (PySem.W.keyToks (keyP q).d)) = true := h2
    simpa using this
  exact PyProof.Rows.lex_total _ _ e2 e1
theorem leP_total : PySem.W.TotalLe leP := by unfold leP PySem.W.dataLe; exact PySem.W.sortLe_total _ _ _
theorem sort_perm {ps qs : List Pr} (h : ps.Perm qs) (ok : ∀ p ∈ ps, PrOk p) : ps.mergeSort leP = qs.mergeSort leP := by
  have p1 := List.mergeSort_perm ps leP
  have p2 := List.mergeSort_perm qs leP
  refine List.Perm.eq_of_pairwise (le := fun a b => leP a b = true) (fun a b ha hb h1 h2 => ?_) (PySem.W.sort_pairwise leP_total _) (PySem.W.sort_pairwise leP_total _) ((p1.trans h).trans p2.symm)
  exact leP_anti (ok a (p1.mem_iff.mp ha)) (ok b (h.mem_iff.mpr (p2.mem_iff.mp hb))) h1 h2
open Classical in
noncomputable def kf (H : Hp) (v : V) : K4 := if h : ∃ p, PairV H v p then keyP (Classical.choose h) else (⟨#[]⟩, 0, 0, 0)
theorem kf_eq {H : Hp} {v : V} {p : Pr} (h : PairV H v p) : kf H v = keyP p := by
  have h' : ∃ p, PairV H v p := ⟨p, h⟩
  unfold kf
  rw [dif_pos h', (Classical.choose_spec h').inj h]
theorem sorted_each {H : Hp} {vs : List V} {ps : List Pr} (h : PySem.W.EachIs (PairV H) vs ps) : PySem.W.EachIs (PairV H) (vs.mergeSort (leK (kf H))) (ps.mergeSort leP) := by
  refine PySem.W.sort_each h fun a ha b hb => ?_
  have e1 := kf_eq (h.zip a ha)
  have e2 := kf_eq (h.zip b hb)
  show (!PyProof.Rows.lexLt PyProof.Rows.itemOrd (PySem.W.keyToks (kf H b.1).d) (PySem.W.keyToks (kf H a.1).d)) = (!PyProof.Rows.lexLt PyProof.Rows.itemOrd (PySem.W.keyToks (keyP b.2).d) (PySem.W.keyToks (keyP a.2).d))
  rw [e1, e2]
section
variable {P : Program} {w : World} {K : PySem.W.Frag} {mg : Str → Option Value} {base : Heap} {CN CK CM CU : Addr}
def spKey : Sp := fun vs H Q _ => ∃ v p, vs = [v] ∧ PairV H v p ∧ PrOk p ∧ ∀ w H', Same H H' → KeyV H' w (keyP p) → Q w H'
theorem ok_po (T : Top K mg "pair_order" s_pair_order) (F : Fn P w K mg base 4 "format_sentence" (spFmt 2)) : Fn P w K mg base 5 "pair_order" spKey := by
  refine fn_ok T sc_pair_order so_pair_order (fun vs H Q E h => by obtain ⟨v, p, rfl, _⟩ := h; rfl) (fun _ _ _ _ _ _ us hl => match us, hl with | [_], _ => rfl) fun f cdv A outer s H vs Q E hr h nd => ?_
  obtain ⟨v, ⟨k, s⟩, rfl, ⟨t, m, x, rfl, ht, hm, hx⟩, ⟨hk, hs⟩, q⟩ := h
  refine l_cons (s_tup2 (e_var ⟨t, _, _, rfl, SqT.of ht, ?_⟩))
  show wL _ _ _ [some (.ref t), some m, some x] _
  refine l_cons (s_if (t_cmp (e_var (e_str ?_))))
  rcases k with _ | ⟨u, d⟩
  · obtain rfl : m = .str "once" := hm
    refine o_eqS ⟨_, rfl, ite_t (by simp) ?_⟩
    refine l_cons (s_ret (e_tup (a_cons (e_call (by exact F) (by exact hr) (by decide) ?_))))
    refine a_cons (e_var (a_nil ⟨x, s, rfl, hx, hs.1, hs.2.1, by have : nod s < 8 := hs.2.2; omega, fun z hz => ?_⟩))
    obtain rfl : z = txS s := cs_ext (by rw [hz, cs_txS])
    refine a_cons (e_int (a_cons (e_int (a_cons (e_int (a_nil ⟨by show 4 ≤ sizeLine; decide, fun p H1 e1 n1 h1 => ?_⟩))))))
    exact q _ H1 e1 ⟨p, rfl, h1⟩
  · obtain ⟨tm, rfl, htm⟩ := hm
    refine o_eqPS (by exact hr) htm once_shaped ⟨_, rfl, iteF (l_nil ?_)⟩
    refine l_cons (s_ret (e_tup (a_cons (e_call (by exact F) (by exact hr) (by decide) ?_))))
    refine a_cons (e_var (a_nil ⟨x, s, rfl, hx, hs.1, hs.2.1, by have : nod s < 8 := hs.2.2; omega, fun z hz => ?_⟩))
    obtain rfl : z = txS s := cs_ext (by rw [hz, cs_txS])
    refine a_cons (e_int (a_cons (e_ix (e_var (e_int (ix_t (by exact SqT.of htm) at0 ?_))))))
    refine a_cons (e_ix (e_var (e_int (ix_t (by exact SqT.of htm) at1 (a_nil ⟨by show 4 ≤ sizeLine; decide, fun p H1 e1 n1 h1 => ?_⟩)))))
    exact q _ H1 e1 ⟨p, rfl, h1⟩
theorem ok_lkey (T : Top K mg "_law_key" s_key) (F : Fn P w K mg base 3 "_law_text" (spTx 2)) : Fn P w K mg base 5 "_law_key" spKey := by
  refine fn_ok T sc_key so_key (fun vs H Q E h => by obtain ⟨v, p, rfl, _⟩ := h; rfl) (fun _ _ _ _ _ _ us hl => match us, hl with | [_], _ => rfl) fun f cdv A outer s H vs Q E hr h nd => ?_
  obtain ⟨v, ⟨k, s⟩, rfl, ⟨t, m, x, rfl, ht, hm, hx⟩, ⟨hk, hs⟩, q⟩ := h
  refine l_cons (s_if (t_cmp (e_ix (e_var (e_int (ix_t (by exact SqT.of ht) at0 (e_str ?_)))))))
  rcases k with _ | ⟨u, d⟩
  · obtain rfl : m = .str "once" := hm
    refine o_eqS ⟨_, rfl, ite_t (by simp) ?_⟩
    refine l_cons (s_ret (e_tup (a_cons (e_call (by exact F) (by exact hr) (by decide) ?_))))
    refine a_cons (e_ix (e_var (e_int (ix_t (by exact SqT.of ht) at1 (a_cons (e_int (a_nil ?_)))))))
    refine ⟨x, s, 0, rfl, hx, hs.1, hs.2.1, by have : nod s < 8 := hs.2.2; omega, by decide, fun z hz => ?_⟩
    obtain rfl : z = txS s := cs_ext (by rw [hz, cs_txS, tx_0])
    refine a_cons (e_int (a_cons (e_int (a_cons (e_int (a_nil ⟨by show 4 ≤ sizeLine; decide, fun p H1 e1 n1 h1 => ?_⟩))))))
    exact q _ H1 e1 ⟨p, rfl, h1⟩
  · obtain ⟨tm, rfl, htm⟩ := hm
    refine o_eqPS (by exact hr) htm once_shaped ⟨_, rfl, iteF (l_nil ?_)⟩
    refine l_cons (s_ret (e_tup (a_cons (e_call (by exact F) (by exact hr) (by decide) ?_))))
    refine a_cons (e_ix (e_var (e_int (ix_t (by exact SqT.of ht) at1 (a_cons (e_int (a_nil ?_)))))))
    refine ⟨x, s, 0, rfl, hx, hs.1, hs.2.1, by have : nod s < 8 := hs.2.2; omega, by decide, fun z hz => ?_⟩
    obtain rfl : z = txS s := cs_ext (by rw [hz, cs_txS, tx_0])
    refine a_cons (e_int (a_cons (e_ix (e_ix (e_var (e_int (ix_t (by exact SqT.of ht) at0 (e_int (ix_t (by exact SqT.of htm) at0 ?_)))))))))
    refine a_cons (e_ix (e_ix (e_var (e_int (ix_t (by exact SqT.of ht) at0 (e_int (ix_t (by exact SqT.of htm) at1 (a_nil ⟨by show 4 ≤ sizeLine; decide, fun p H1 e1 n1 h1 => ?_⟩))))))))
    exact q _ H1 e1 ⟨p, rfl, h1⟩
end



/-! ### bare claims -/
abbrev Gd := Str × Pk × Sn
def toRw (g : Gd) : Rw := (g.1, mdP g.2.1, g.2.2)
def GdOk (g : Gd) : Prop := okN g.1 ∧ PrOk g.2
theorem GdOk.rw {g : Gd} (h : GdOk g) : RwOk (toRw g) := ⟨h.1, ⟨g.2.1, rfl, h.2.1⟩, h.2.2⟩
def BcV (H : Hp) (v : V) (ps : List Pr) (s : Sn) : Prop := ∃ t th g vs, v = .ref t ∧ H t = some (.tup [.ref th, g]) ∧ H th = some (.tup vs) ∧ PySem.W.EachIs (PairV H) vs ps ∧ SnV H g s
theorem pairs_ts {H H' : Hp} (e : TS H H') {vs : List V} {ps : List Pr} (h : PySem.W.EachIs (PairV H) vs ps) : PySem.W.EachIs (PairV H') vs ps := h.mono fun _ _ z => z.ts e
theorem BcV.ts {H H' : Hp} (e : TS H H') {v : V} {ps : List Pr} {s : Sn} : BcV H v ps s → BcV H' v ps s := fun ⟨t, th, g, vs, h1, h2, h3, h4, h5⟩ => ⟨t, th, g, vs, h1, e _ _ h2, e _ _ h3, pairs_ts e h4, SnV.ts e h5⟩
theorem key_one {P : Program} {w : World} {K : PySem.W.Frag} {mg : Str → Option Value} {base : Heap} {n : Nat} {f : Addr} {fd : FuncData} {ps : List Str} (F : FnOk P w K mg base CX0 n f fd ps spKey) : ∃ pr, ps = [pr] := by
  have h := F.len [.ref 0] (fun a => if a = 0 then some (.tup [.str "once", .ref 1]) else some (.tup [.str "word", .str "a"])) (fun _ _ => True) E0
    ⟨.ref 0, (none, .word (cs "a")), rfl, ⟨0, .str "once", .ref 1, rfl, if_pos rfl, rfl, 1, "a", rfl, if_neg (by decide), rfl⟩, ⟨trivial, by show okNm (cs "a"); unfold okNm; decide +kernel, Nat.zero_le _, by show 1 < 8; decide⟩, fun _ _ _ _ => trivial⟩
  match ps, h with
  | [pr], _ => exact ⟨pr, rfl⟩
section
variable {P : Program} {w : World} {K : PySem.W.Frag} {mg : Str → Option Value} {base : Heap} {CN CK CM CU : Addr}
def spBare : Sp := fun vs H Q _ => ∃ (v : V) (gs : List Gd) (s : Sn), vs = [v] ∧ ClV H v (gs.map toRw) s ∧ (∀ g ∈ gs, GdOk g) ∧ gs.length ≤ 50 ∧ ∀ v' H', Same H H' → BcV H' v' ((gs.map (·.2)).mergeSort leP) s → Q v' H'
theorem ok_bare (T : Top K mg "bare_claim" s_bare_claim) (mT : mg "tuple" = none) (mS : mg "sorted" = none) (F : Fn P w K mg base 5 "pair_order" spKey) : Fn P w K mg base 8 "bare_claim" spBare := by
  refine fn_okC T sc_bare_claim so_bare_claim (fun vs H Q E h => by obtain ⟨v, gs, s, rfl, _⟩ := h; rfl) (fun _ _ _ _ _ _ us hl => match us, hl with | [_], _ => rfl) fun f cdv A outer s H vs Q E hr h nd => ?_
  obtain ⟨v, gs, s, rfl, ⟨tc, th, g, vs, rfl, htc, hth, hrs, hg⟩, hok, hl, q⟩ := h
  have lvs := hrs.length
  rw [List.length_map] at lvs
  refine l_cons (s_tup2 (e_var ⟨tc, _, _, rfl, SqT.of htc, ?_⟩))
  show wL _ _ _ [some (.ref tc), some (.ref th), some g, none, none, none, none] _
  refine l_cons (s_lcT3 (by exact bk_bare_claim0) (e_var ⟨th, vs, rfl, SqT.of hth, fun D nD => ?_⟩))
  refine ⟨fun k H' => ∃ ys, H' D = some (.lst ys) ∧ PySem.W.EachIs (PairV H') ys ((gs.take k).map (·.2)) ∧ Same H H', ⟨[], upd_same, .nil, fun b o hb => by rw [upd_ne (ne_of_none hb nD)]; exact hb⟩, fun k H' _ ⟨_, _, _, e⟩ => SqT.of (e _ _ hth), ?_, ?_⟩
  · rintro k u H2 hu ⟨ys, hD, hys, e2⟩
    obtain ⟨r, hr', t, m, x, rfl, ht, hm, hx⟩ := each_get hrs hu
    rw [List.getElem?_map] at hr'
    obtain ⟨gd, hgd, rfl⟩ := Option.map_eq_some_iff.mp hr'
    have hlt : k < gs.length := (List.getElem?_eq_some_iff.mp hgd).1
    have lys := hys.length
    rw [List.length_map, List.length_take] at lys
    refine ⟨t, _, m, x, rfl, SqT.of (e2 _ _ ht), fun s0 H0 C cl fp I0 => ?_⟩
    refine e_tup (a_cons (b_var (a_cons (b_var (a_nil ⟨by show 2 ≤ sizeLine; decide, fun p H3 e3 n3 h3 => ?_⟩)))))
    refine ⟨ys, e3 _ _ hD, by show _ < 2 ^ 24; omega, ?_⟩
    have ts : TS H3 (upd H3 D (.lst (ys ++ [.ref p]))) := TS.upd (e3 _ _ hD)
    have tsA := (Same.ts (e2.trans e3)).trans ts
    refine ⟨ys ++ [.ref p], upd_same, ?_, fun b o hb => by rw [upd_ne (ne_of_none hb nD)]; exact e3 _ _ (e2 _ _ hb)⟩
    rw [take_snc hgd, List.map_append]
    exact each_app (each_one ⟨p, m, x, rfl, ts _ _ h3, (modeV_of (hm.ts tsA)), SnV.ts tsA hx⟩) (pairs_ts ((Same.ts e3).trans ts) hys)
  rintro H2 ⟨ys, hD, hys, e2⟩
  rw [lvs, List.take_length] at hys
  show wL _ _ _ [some (.ref tc), some (.ref th), some g, some (.ref D), none, none, none] _
  refine l_cons (s_ret (e_tup (a_cons (e_callTy (x := "tuple") (by assumption) b_tuple (a_cons ?_)))))
  refine e_sortF (by assumption) (by exact F) (fun f fd ps h => key_one h) (by exact hr) (by decide) (e_var ⟨D, ys, kf H2, rfl, SqL.of hD, fun x hx H3 e3 => ?_, fun p H3 e3 n3 h3 => ?_⟩)
  · obtain ⟨pr, hp, hxp⟩ := hys.left x hx
    have hxok : PrOk pr := by
      obtain ⟨gd, hgd, rfl⟩ := List.mem_map.mp hp
      exact (hok gd hgd).2
    exact ⟨x, pr, rfl, hxp.ts (Same.ts e3), hxok, fun w H' e kv => ⟨e, by rw [kf_eq hxp]; exact kv⟩⟩
  · have hso := pairs_ts (Same.ts e3) (sorted_each hys)
    refine a_nil (c_tupL (SqL.of h3) fun tv H4 e4 _ h4 => a_cons (e_var (a_nil ⟨by show 2 ≤ sizeLine; decide, fun t H5 e5 _ h5 => ?_⟩)))
    have e25 := (e3.trans e4).trans e5
    exact q _ H5 (e2.trans e25) ⟨t, tv, g, _, rfl, h5, e5 _ _ h4, pairs_ts (Same.ts (e4.trans e5)) hso, SnV.ts (Same.ts (e2.trans e25)) hg⟩
end



/-! ### the same data -/
def Eqv (K : PySem.W.Frag) (H : Hp) : Nat → V → V → Prop
  | n, u, v => (u = .non ∧ v = .non) ∨ (∃ b, u = .bl b ∧ v = .bl b) ∨ (∃ i, u = .int i ∧ v = .int i) ∨ (∃ x, u = .str x ∧ v = .str x) ∨ match n with
    | 0 => False
    | m + 1 => ∃ (c : Side) (t r : Addr) (xs ys : List V), u = .ref t ∧ v = .ref r ∧ (match c with
      | .l => H t = some (.lst xs) ∧ H r = some (.lst ys)
      | .t => H t = some (.tup xs) ∧ H r = some (.tup ys)) ∧ xs.length = ys.length ∧ ys.length ≤ 100000 ∧ ∀ (i : Nat) x y, xs[i]? = some x → ys[i]? = some y → Eqv K H m x y
section
variable {K : PySem.W.Frag}
theorem eqv_non {H : Hp} (n : Nat) : Eqv K H n .non .non := by unfold Eqv; exact .inl ⟨rfl, rfl⟩
theorem eqv_str {H : Hp} (n : Nat) (x : Str) : Eqv K H n (.str x) (.str x) := by unfold Eqv; exact .inr (.inr (.inr (.inl ⟨x, rfl, rfl⟩)))
theorem eqv_int {H : Hp} (n : Nat) (x : Int) : Eqv K H n (.int x) (.int x) := by unfold Eqv; exact .inr (.inr (.inl ⟨x, rfl, rfl⟩))
theorem eqv_bl {H : Hp} (n : Nat) (x : Bool) : Eqv K H n (.bl x) (.bl x) := by unfold Eqv; exact .inr (.inl ⟨x, rfl, rfl⟩)
theorem Eqv.up {H : Hp} : ∀ {n : Nat} {u v : V}, Eqv K H n u v → Eqv K H (n + 1) u v := by
  intro n
  induction n with
  | zero =>
    intro u v h
    unfold Eqv at h ⊢
    rcases h with h | h | h | h | h
    · exact .inl h
    · exact .inr (.inl h)
    · exact .inr (.inr (.inl h))
    · exact .inr (.inr (.inr (.inl h)))
    · exact h.elim
  | succ n ih =>
    intro u v h
    unfold Eqv at h ⊢
    rcases h with h | h | h | h | ⟨c, t, r, xs, ys, h1, h2, h3, h4, h5, h6⟩
    · exact .inl h
    · exact .inr (.inl h)
    · exact .inr (.inr (.inl h))
    · exact .inr (.inr (.inr (.inl h)))
    · exact .inr (.inr (.inr (.inr ⟨c, t, r, xs, ys, h1, h2, h3, h4, h5, fun i x y hx hy => ih (h6 i x y hx hy)⟩)))
theorem eqv_tup {H : Hp} (n : Nat) {t r : Addr} {xs ys : List V} (h1 : H t = some (.tup xs)) (h2 : H r = some (.tup ys)) (hl : xs.length = ys.length) (hm : ys.length ≤ 100000) (h : ∀ (i : Nat) x y, xs[i]? = some x → ys[i]? = some y → Eqv K H n x y) : Eqv K H (n + 1) (.ref t) (.ref r) := by
  unfold Eqv
  exact .inr (.inr (.inr (.inr ⟨.t, t, r, xs, ys, rfl, rfl, ⟨h1, h2⟩, hl, hm, h⟩)))
theorem eqv_lst {H : Hp} (n : Nat) {t r : Addr} {xs ys : List V} (h1 : H t = some (.lst xs)) (h2 : H r = some (.lst ys)) (hl : xs.length = ys.length) (hm : ys.length ≤ 100000) (h : ∀ (i : Nat) x y, xs[i]? = some x → ys[i]? = some y → Eqv K H n x y) : Eqv K H (n + 1) (.ref t) (.ref r) := by
  unfold Eqv
  exact .inr (.inr (.inr (.inr ⟨.l, t, r, xs, ys, rfl, rfl, ⟨h1, h2⟩, hl, hm, h⟩)))
theorem eqv_2 {H : Hp} (n : Nat) {t r : Addr} {a b c d : V} (h1 : H t = some (.tup [a, b])) (h2 : H r = some (.tup [c, d])) (e1 : Eqv K H n a c) (e2 : Eqv K H n b d) : Eqv K H (n + 1) (.ref t) (.ref r) :=
  eqv_tup n h1 h2 rfl (by show 2 ≤ 100000; decide) fun i x y hx hy => by
    match i, hx, hy with
    | 0, hx, hy => cases hx; cases hy; exact e1
    | 1, hx, hy => cases hx; cases hy; exact e2
theorem eqv_3 {H : Hp} (n : Nat) {t r : Addr} {a b e c d f : V} (h1 : H t = some (.tup [a, b, e])) (h2 : H r = some (.tup [c, d, f])) (e1 : Eqv K H n a c) (e2 : Eqv K H n b d) (e3 : Eqv K H n e f) : Eqv K H (n + 1) (.ref t) (.ref r) :=
  eqv_tup n h1 h2 rfl (by show 3 ≤ 100000; decide) fun i x y hx hy => by
    match i, hx, hy with
    | 0, hx, hy => cases hx; cases hy; exact e1
    | 1, hx, hy => cases hx; cases hy; exact e2
    | 2, hx, hy => cases hx; cases hy; exact e3
theorem eqv_4 {H : Hp} (n : Nat) {t r : Addr} {a b e g c d f k : V} (h1 : H t = some (.tup [a, b, e, g])) (h2 : H r = some (.tup [c, d, f, k])) (e1 : Eqv K H n a c) (e2 : Eqv K H n b d) (e3 : Eqv K H n e f) (e4 : Eqv K H n g k) : Eqv K H (n + 1) (.ref t) (.ref r) :=
  eqv_tup n h1 h2 rfl (by show 4 ≤ 100000; decide) fun i x y hx hy => by
    match i, hx, hy with
    | 0, hx, hy => cases hx; cases hy; exact e1
    | 1, hx, hy => cases hx; cases hy; exact e2
    | 2, hx, hy => cases hx; cases hy; exact e3
    | 3, hx, hy => cases hx; cases hy; exact e4
theorem eqv_atm {H : Hp} (n : Nat) (a : Atm) : Eqv K H n a.v a.v := by
  cases a with
  | non => exact eqv_non n
  | bl b => exact eqv_bl n b
  | int i => exact eqv_int n i
  | str z => exact eqv_str n z
theorem eqv_md {H : Hp} (n : Nat) {x y : V} {m : Md} (h1 : MdV H x m) (h2 : MdV H y m) (hl : ∀ l, m = .tup l → l.length ≤ 100) : Eqv K H (n + 1) x y := by
  cases m with
  | «at» a =>
    obtain rfl : x = a.v := h1
    obtain rfl : y = a.v := h2
    exact eqv_atm _ a
  | tup l =>
    obtain ⟨t, rfl, ht⟩ := h1
    obtain ⟨r, rfl, hr⟩ := h2
    have := hl l rfl
    refine eqv_tup n ht hr rfl (by rw [List.length_map]; omega) fun i x y hx hy => ?_
    rw [hx] at hy
    cases hy
    rw [List.getElem?_map] at hx
    obtain ⟨a, _, rfl⟩ := Option.map_eq_some_iff.mp hx
    exact eqv_atm n a
theorem eqv_mode {H : Hp} (n : Nat) {x y : V} {k : Pk} (h1 : ModeV H x k) (h2 : ModeV H y k) : Eqv K H (n + 1) x y := by
  rcases k with _ | ⟨a, b⟩
  · obtain rfl : x = .str "once" := h1
    obtain rfl : y = .str "once" := h2
    exact eqv_str _ _
  · obtain ⟨t, rfl, ht⟩ := h1
    obtain ⟨r, rfl, hr⟩ := h2
    exact eqv_2 n ht hr (eqv_int _ _) (eqv_int _ _)
theorem eqv_sn {H : Hp} : ∀ {s : Sn} {n : Nat} {u v : V}, SnV H u s → SnV H v s → dep s ≤ n → Eqv K H (n + 2) u v
  | .word z, n, u, v, ⟨t, x, e1, h1, c1⟩, ⟨r, y, e2, h2, c2⟩, _ => by
    subst e1 e2
    obtain rfl : x = y := cs_ext (c1.trans c2.symm)
    exact eqv_2 _ h1 h2 (eqv_str _ _) (eqv_str _ _)
  | .menu l r, 0, u, v, _, _, hd => by simp only [dep] at hd; omega
  | .menu l r, n + 1, u, v, ⟨t, a, b, e1, h1, ha, hb⟩, ⟨t', c, d, e2, h2, hc, hd'⟩, hd => by
    subst e1 e2
    simp only [dep] at hd
    exact eqv_3 _ h1 h2 (eqv_str _ _) (eqv_sn ha hc (by omega)) (eqv_sn hb hd' (by omega))
  | .trade k p g, 0, u, v, _, _, hd => by simp only [dep] at hd; omega
  | .trade k p g, n + 1, u, v, ⟨t, m, a, b, e1, h1, hm, ha, hb⟩, ⟨t', m', c, d, e2, h2, hm', hc, hd'⟩, hd => by
    subst e1 e2
    simp only [dep] at hd
    exact eqv_4 _ h1 h2 (eqv_str _ _) (eqv_mode _ hm hm') (eqv_sn ha hc (by omega)) (eqv_sn hb hd' (by omega))
/-- short odd kinds -/
def MdS (m : Md) : Prop := ∀ l, m = .tup l → l.length ≤ 100
theorem mdS_P (k : Pk) : MdS (mdP k) := fun l h => by
  rcases k with _ | ⟨u, d⟩
  · cases h
  · cases h; show 2 ≤ 100; decide
theorem eqv_row {H : Hp} {x y : V} {r : Rw} (h1 : RowV H x r) (h2 : RowV H y r) (hd : dep r.2.2 ≤ 2) (hm : MdS r.2.1) : Eqv K H 5 x y := by
  obtain ⟨t, m, a, rfl, ht, hm1, hs⟩ := h1
  obtain ⟨t', m', a', rfl, ht', hm2, hs'⟩ := h2
  exact eqv_3 4 ht ht' (eqv_str _ _) (eqv_md 3 hm1 hm2 hm) (eqv_sn hs hs' hd)
theorem each_two {α : Type} {R : V → α → Prop} : ∀ {vs ws : List V} {xs : List α} {i : Nat} {v w : V}, PySem.W.EachIs R vs xs → PySem.W.EachIs R ws xs → vs[i]? = some v → ws[i]? = some w → ∃ x ∈ xs, R v x ∧ R w x
  | _, _, _, i, v, w, .nil, .nil, e, _ => by simp at e
  | _, _, _, 0, v, w, .cons h _, .cons h' _, e, e' => by cases e; cases e'; exact ⟨_, List.mem_cons_self, h, h'⟩
  | _, _, _, i + 1, v, w, .cons _ r, .cons _ r', e, e' => by
    obtain ⟨x, hx, z⟩ := each_two (i := i) r r' e e'
    exact ⟨x, List.mem_cons_of_mem _ hx, z⟩
/-- rows whose data can be compared -/
def RwC (rs : List Rw) : Prop := rs.length ≤ 100 ∧ ∀ r ∈ rs, dep r.2.2 ≤ 2 ∧ MdS r.2.1
theorem eqv_rows {H : Hp} {t t' : Addr} {vs ws : List V} {rs : List Rw} (h1 : H t = some (.tup vs)) (h2 : H t' = some (.tup ws)) (e1 : RowsV H vs rs) (e2 : RowsV H ws rs) (hc : RwC rs) : Eqv K H 6 (.ref t) (.ref t') :=
  eqv_tup 5 h1 h2 (e1.length.trans e2.length.symm) (by have := hc.1; rw [e2.length]; omega) fun i x y hx hy => by
    obtain ⟨r, hr, a, b⟩ := each_two e1 e2 hx hy
    exact eqv_row a b (hc.2 r hr).1 (hc.2 r hr).2
theorem eqv_rowsL {H : Hp} {t t' : Addr} {vs ws : List V} {rs : List Rw} (h1 : H t = some (.lst vs)) (h2 : H t' = some (.lst ws)) (e1 : RowsV H vs rs) (e2 : RowsV H ws rs) (hc : RwC rs) : Eqv K H 6 (.ref t) (.ref t') :=
  eqv_lst 5 h1 h2 (e1.length.trans e2.length.symm) (by have := hc.1; rw [e2.length]; omega) fun i x y hx hy => by
    obtain ⟨r, hr, a, b⟩ := each_two e1 e2 hx hy
    exact eqv_row a b (hc.2 r hr).1 (hc.2 r hr).2
theorem eqv_cl {H : Hp} {x y : V} {rs : List Rw} {s : Sn} (h1 : ClV H x rs s) (h2 : ClV H y rs s) (hc : RwC rs) (hd : dep s ≤ 2) : Eqv K H 7 x y := by
  obtain ⟨t, th, g, vs, rfl, ht, hth, hds, hg⟩ := h1
  obtain ⟨t', th', g', vs', rfl, ht', hth', hds', hg'⟩ := h2
  exact eqv_2 6 ht ht' (eqv_rows hth hth' hds hds' hc) (eqv_sn (n := 4) hg hg' (by omega))
theorem eqv_bc {H : Hp} {x y : V} {ps : List Pr} {s : Sn} (h1 : BcV H x ps s) (h2 : BcV H y ps s) (hc : ∀ p ∈ ps, PrOk p) (hl : ps.length ≤ 100) (hd : dep s ≤ 2) : Eqv K H 7 x y := by
  obtain ⟨t, th, g, vs, rfl, ht, hth, hds, hg⟩ := h1
  obtain ⟨t', th', g', vs', rfl, ht', hth', hds', hg'⟩ := h2
  refine eqv_2 6 ht ht' (eqv_tup 5 hth hth' (hds.length.trans hds'.length.symm) (by rw [hds'.length]; omega) fun i x y hx hy => ?_) (eqv_sn (n := 4) hg hg' (by omega))
  obtain ⟨p, hp, ⟨t1, m1, x1, rfl, h1, hm1, hx1⟩, ⟨t2, m2, x2, rfl, h2, hm2, hx2⟩⟩ := each_two hds hds' hx hy
  exact eqv_2 4 h1 h2 (eqv_mode 3 hm1 hm2) (eqv_sn (n := 2) hx1 hx2 (hc p hp).2.2.1)
end
section
variable {P : Program} {w : World} {K : PySem.W.Frag} {mg : Str → Option Value} {base : Heap}
def spEqv (K : PySem.W.Frag) (n : Nat) : Sp := fun vs H Q _ => ∃ u v, vs = [u, v] ∧ Eqv K H n u v ∧ Q (.bl true) H
theorem ok_eqvS (n : Nat) (T : Top K mg "_law_same" s_same) (B : BOk mg) (F : ∀ m, n = m + 1 → Fn P w K mg base (m + 1) "_law_same" (spEqv K m)) : Fn P w K mg base (n + 1) "_law_same" (spEqv K n) := by
  refine fn_ok T sc_same so_same (fun vs H Q E h => by obtain ⟨u, v, rfl, _⟩ := h; rfl) (fun _ _ _ _ _ _ us hl => match us, hl with | [_, _], _ => rfl) fun f cdv A outer s H vs Q E hr h nd => ?_
  obtain ⟨u, v, rfl, hh, q⟩ := h
  obtain ⟨bi, bt, bb, bs, btu, bl, bn, br⟩ := B
  unfold Eqv at hh
  rcases hh with ⟨rfl, rfl⟩ | ⟨b, rfl, rfl⟩ | ⟨i, rfl, rfl⟩ | ⟨x, rfl, rfl⟩ | hh
  · refine l_cons (s_if (t_cmp (e_var (e_non (o_isN ⟨_, rfl, ite_t ?hn ?_⟩)))))
    case hn => simp
    refine l_cons (s_ret (e_cmp (e_var (e_non (o_isN ?_)))))
    rw [decide_eq_true rfl]
    exact q
  · refine l_cons (s_if (t_cmp (e_var (e_non (o_isN ⟨_, rfl, ite_f ?hn (l_nil ?_)⟩)))))
    case hn => simp
    walk_at "sts"
    refine c_isi ty_bl (.ty _) (kit_ty kb_bool_bool) ?_
    walk_at "sts"
    refine c_isi ty_bl (.ty _) (kit_ty kb_bool_bool) ?_
    walk_at "sts"
    rw [decide_eq_true rfl]
    exact q
  · refine l_cons (s_if (t_cmp (e_var (e_non (o_isN ⟨_, rfl, ite_f ?hn (l_nil ?_)⟩)))))
    case hn => simp
    walk_at "sts"
    refine c_isi ty_int (.ty _) (kit_ty kb_int_bool) ?_
    walk_at "sts"
    refine c_isi ty_int (.ty _) (kit_ty kb_int_int) ?_
    walk_at "sts"
    refine c_isi ty_int (.ty _) (kit_ty kb_int_int) ?_
    walk_at "sts"
    refine c_isi ty_int (.ty _) (kit_ty kb_int_bool) ?_
    walk_at "sts"
    rw [decide_eq_true rfl]
    exact q
  · refine l_cons (s_if (t_cmp (e_var (e_non (o_isN ⟨_, rfl, ite_f ?hn (l_nil ?_)⟩)))))
    case hn => simp
    walk_at "sts"
    refine c_isi ty_str (.ty _) (kit_ty kb_str_bool) ?_
    walk_at "sts"
    refine c_isi ty_str (.ty _) (kit_ty kb_str_int) ?_
    walk_at "sts"
    refine c_isi ty_str (.ty _) (kit_ty kb_str_str) ?_
    walk_at "sts"
    refine c_isi ty_str (.ty _) (kit_ty kb_str_str) ?_
    walk_at "sts"
    rw [decide_eq_true rfl]
    exact q
  · cases n with
    | zero => exact hh.elim
    | succ n =>
    obtain ⟨c, t, r, xs, ys, rfl, rfl, htr, hl, hm, hc⟩ := hh
    have F0 := F n rfl
    refine l_cons (s_if (t_cmp (e_var (e_non (o_isN ⟨_, rfl, ite_f ?hn (l_nil ?_)⟩)))))
    case hn => simp
    cases c with
    | t =>
      obtain ⟨ht, hr'⟩ : H t = some (.tup xs) ∧ H r = some (.tup ys) := htr
      walk_at "sts"
      refine c_isi (ty_tup hr') (.ty _) (kit_ty kb_tuple_bool) ?_
      walk_at "sts"
      refine c_isi (ty_tup hr') (.ty _) (kit_ty kb_tuple_int) ?_
      walk_at "sts"
      refine c_isi (ty_tup hr') (.ty _) (kit_ty kb_tuple_str) ?_
      walk_at "sts"
      refine c_isi (ty_tup hr') (.ty _) (kit_ty kb_tuple_list) ?_
      walk_at "sts"
      refine c_isi (ty_tup hr') (.ty _) (kit_ty kb_tuple_tuple) ?_
      walk_at "sts"
      refine c_isi (ty_tup ht) (.ty _) (kit_ty kb_tuple_tuple) ?_
      walk_at "sts"
      refine c_lenT (by exact SqT.of ht) ?_
      walk_at "sts"
      refine c_lenT (by exact SqT.of hr') ?_
      rw [hl]
      walk_at "sts"
      rw [decide_eq_true (rfl : (ys.length : Int) = ys.length)]
      walk_at "sts"
      refine s_forR (by assumption) ?_
      walk_at "sts"
      refine c_lenT (by exact SqT.of hr') ?_
      refine ⟨ys.length, rfl, by omega, fun i σ H' => (∃ y, σ = [some (.ref t), some (.ref r), y]) ∧ H' = H, ⟨⟨_, rfl⟩, rfl⟩, fun k σ H3 hk hW => ?_, fun σ H3 hW => ?_⟩
      · obtain ⟨⟨y, rfl⟩, rfl⟩ := hW
        have hx : xs[k]? = some xs[k] := by simp [hl, hk]
        have hy : ys[k]? = some ys[k] := by simp [hk]
        walk_at "sts"
        refine e_call (by exact F0) (by exact hr) (Nat.le_refl _) ?_
        walk_at "sts"
        refine ix_t (by exact SqT.of ht) (atI_nat hx) ?_
        walk_at "sts"
        refine ix_t (by exact SqT.of hr') (atI_nat hy) ?_
        walk_at "sts"
        refine ⟨_, _, rfl, hc k _ _ hx hy, ?_⟩
        exact ⟨_, rfl, ite_f rfl (l_nil (l_nil ⟨⟨_, rfl⟩, rfl⟩))⟩
      · obtain ⟨⟨y, rfl⟩, rfl⟩ := hW
        exact l_cons (s_ret (e_bl q))
    | l =>
      obtain ⟨ht, hr'⟩ : H t = some (.lst xs) ∧ H r = some (.lst ys) := htr
      walk_at "sts"
      refine c_isi (ty_lst hr') (.ty _) (kit_ty kb_list_bool) ?_
      walk_at "sts"
      refine c_isi (ty_lst hr') (.ty _) (kit_ty kb_list_int) ?_
      walk_at "sts"
      refine c_isi (ty_lst hr') (.ty _) (kit_ty kb_list_str) ?_
      walk_at "sts"
      refine c_isi (ty_lst hr') (.ty _) (kit_ty kb_list_list) ?_
      walk_at "sts"
      refine c_isi (ty_lst ht) (.ty _) (kit_ty kb_list_list) ?_
      walk_at "sts"
      refine c_isi (ty_lst hr') (.ty _) (kit_ty kb_list_tuple) ?_
      walk_at "sts"
      refine c_lenL (by exact SqL.of ht) ?_
      walk_at "sts"
      refine c_lenL (by exact SqL.of hr') ?_
      rw [hl]
      walk_at "sts"
      rw [decide_eq_true (rfl : (ys.length : Int) = ys.length)]
      walk_at "sts"
      refine s_forR (by assumption) ?_
      walk_at "sts"
      refine c_lenL (by exact SqL.of hr') ?_
      refine ⟨ys.length, rfl, by omega, fun i σ H' => (∃ y, σ = [some (.ref t), some (.ref r), y]) ∧ H' = H, ⟨⟨_, rfl⟩, rfl⟩, fun k σ H3 hk hW => ?_, fun σ H3 hW => ?_⟩
      · obtain ⟨⟨y, rfl⟩, rfl⟩ := hW
        have hx : xs[k]? = some xs[k] := by simp [hl, hk]
        have hy : ys[k]? = some ys[k] := by simp [hk]
        walk_at "sts"
        refine e_call (by exact F0) (by exact hr) (Nat.le_refl _) ?_
        walk_at "sts"
        refine ix_l (by exact SqL.of ht) (atI_nat hx) ?_
        walk_at "sts"
        refine ix_l (by exact SqL.of hr') (atI_nat hy) ?_
        walk_at "sts"
        refine ⟨_, _, rfl, hc k _ _ hx hy, ?_⟩
        exact ⟨_, rfl, ite_f rfl (l_nil (l_nil ⟨⟨_, rfl⟩, rfl⟩))⟩
      · obtain ⟨⟨y, rfl⟩, rfl⟩ := hW
        exact l_cons (s_ret (e_bl q))
theorem ok_eqv (T : Top K mg "_law_same" s_same) (B : BOk mg) : ∀ n, Fn P w K mg base (n + 1) "_law_same" (spEqv K n)
  | 0 => ok_eqvS 0 T B fun m h => by cases h
  | n + 1 => ok_eqvS (n + 1) T B fun m h => by cases h; exact ok_eqv T B n
end



theorem alnum_in (c : Nat) : decide (c ∈ cs (Str.ofString "abcdefghijklmnopqrstuvwxyz" ++ Str.ofString "0123456789")) = alnum c := by
  rw [cs_app, letters_cs, digits_cs]
  unfold alnum let1 dig1
  have h1 : (c ∈ List.range' 97 26) ↔ 97 ≤ c ∧ c ≤ 122 := by rw [List.mem_range'_1]; omega
  have h2 : (c ∈ List.range' 48 10) ↔ 48 ≤ c ∧ c ≤ 57 := by rw [List.mem_range'_1]; omega
  by_cases a : 97 ≤ c ∧ c ≤ 122
  · rw [decide_eq_true (List.mem_append.mpr (.inl (h1.mpr a))), decide_eq_true a.1, decide_eq_true a.2]
    rfl
  · by_cases b : 48 ≤ c ∧ c ≤ 57
    · rw [decide_eq_true (List.mem_append.mpr (.inr (h2.mpr b))), decide_eq_true b.1, decide_eq_true b.2]
      simp
    · rw [decide_eq_false (fun h => by
        rcases List.mem_append.mp h with h | h
        · exact a (h1.mp h)
        · exact b (h2.mp h))]
      have e1 : (decide (97 ≤ c) && decide (c ≤ 122)) = false := by rw [← Bool.decide_and, decide_eq_false a]
      have e2 : (decide (48 ≤ c) && decide (c ≤ 57)) = false := by rw [← Bool.decide_and, decide_eq_false b]
      rw [e1, e2]
      rfl
theorem let_in (c : Nat) : decide (c ∈ cs (Str.ofString "abcdefghijklmnopqrstuvwxyz")) = let1 c := by
  rw [letters_cs]
  unfold let1
  have h1 : (c ∈ List.range' 97 26) ↔ 97 ≤ c ∧ c ≤ 122 := by rw [List.mem_range'_1]; omega
  by_cases a : 97 ≤ c ∧ c ≤ 122
  · rw [decide_eq_true (h1.mpr a), decide_eq_true a.1, decide_eq_true a.2]
    rfl
  · rw [decide_eq_false (fun h => a (h1.mp h)), ← Bool.decide_and, decide_eq_false a]
section
variable {P : Program} {w : World} {K : PySem.W.Frag} {mg : Str → Option Value} {base : Heap}
theorem o_ninS {X : Cx} {H : Hp} {Q : VK} {c : Nat} {z : Str} (q : Q (.bl (!decide (c ∈ z.cps.toList))) H) : wK X .NotIn (.str (sg c)) (.str z) H Q := k_of op_notIn_sign ⟨c, z, rfl, rfl, q⟩
def spGN : Sp := fun vs H Q _ => ∃ z : Str, vs = [.str z] ∧ z.length ≤ 1000 ∧ ∀ H', Same H H' → Q (.bl (nameB (cs z))) H'
theorem ok_gn (T : Top K mg "_law_good_name" s_good_name) (mLen : mg "len" = none) : Fn P w K mg base 1 "_law_good_name" spGN := by
  refine fn_okC T sc_good_name so_good_name (fun vs H Q E h => by obtain ⟨z, rfl, _⟩ := h; rfl) (fun _ _ _ _ _ _ us hl => match us, hl with | [_], _ => rfl) fun f cdv A outer s H vs Q E hr h nd => ?_
  obtain ⟨z, rfl, hz, q⟩ := h
  have hzs : z.length ≤ sizeLine := by show _ ≤ 2 ^ 24; omega
  have el : (z.length : Int) = ((cs z).length : Int) := by rw [len_cs]
  refine l_cons (s_set (e_str ?_))
  show wL _ _ _ [some (.str z), some (.str (Str.ofString "abcdefghijklmnopqrstuvwxyz")), none] _
  refine l_cons (s_if (t_w (w_or (t_not (t_chain (e_int ?_))))))
  refine e_callB (x := "len") (by assumption) b_len (a_cons (e_var (a_nil (c_lenS hzs ?_))))
  rw [el]
  refine o_le ⟨_, rfl, ?_⟩
  have no : nameB (cs z) = false → Q (.bl false) H := fun e => by have := q H (Same.refl H); rwa [e] at this
  by_cases h1 : (1 : Int) ≤ (cs z).length
  · refine ifT h1 ?_
    refine e_int (o_le ⟨_, rfl, ?_⟩)
    by_cases h2 : ((cs z).length : Int) ≤ 12
    · rw [decide_eq_true h2]
      refine iteF (w_or1 (t_cmp (e_ix (e_var (e_int ?_)))))
      have hl0 : 0 < (cs z).length := by omega
      refine ix_s hzs (atI_nat (j := 0) (v := (cs z)[0]) (by simp [hl0])) (e_var (o_ninS ⟨_, rfl, ?_⟩))
      rw [let_in]
      have hd : ((cs z).head?.map let1).getD false = let1 (cs z)[0] := by
        rw [List.head?_eq_getElem?, List.getElem?_eq_getElem hl0]
        rfl
      have e0 : nameB (cs z) = (let1 (cs z)[0] && (cs z).all fun c => let1 c || dig1 c) := by
        unfold nameB
        rw [decide_eq_true h1, decide_eq_true h2, hd]
        rfl
      cases h3 : let1 (cs z)[0] with
      | false => exact iteT (l_cons (s_ret (e_bl (no (by rw [e0, h3]; rfl)))))
      | true =>
        refine iteF (l_nil (l_cons (s_ret (e_notT (e_lcSf (by exact bk_good_name0) (e_var ⟨z, rfl, fun D nD => ?_⟩))))))
        rw [e0, h3, Bool.true_and] at q
        refine ⟨fun k H' => ∃ ys, H' D = some (.lst ys) ∧ ys.length ≤ k ∧ ys.isEmpty = (((cs z).take k).all fun c => let1 c || dig1 c) ∧ Same H H', ⟨[], upd_same, Nat.le_refl _, rfl, fun b o hb => by rw [upd_ne (ne_of_none hb nD)]; exact hb⟩, ?_, ?_⟩
        · rintro k c H2 hc ⟨ys, hD, ly, hy, e2⟩
          have hk' : (cs z)[k]? = some c := by rw [Array.getElem?_toList]; exact hc
          have hkl : k < (cs z).length := (List.getElem?_eq_some_iff.mp hk').1
          intro s0 H0 C cl fp I0
          refine t_cmp (b_var (e_bin (b_var (e_str (o_addS (x := Str.ofString "abcdefghijklmnopqrstuvwxyz") (y := Str.ofString "0123456789") (by decide +kernel) (o_ninS ⟨_, rfl, ?_⟩))))))
          rw [alnum_in]
          cases ha : alnum c with
          | true =>
            refine iteF ⟨ys, hD, by omega, ?_, e2⟩
            rw [take_snc hk', List.all_append, ← hy]
            have : (let1 c || dig1 c) = true := ha
            simp [this]
          | false =>
            refine iteT fun s0 H0 C cl fp I0 => b_var ⟨ys, hD, by show _ < 2 ^ 24; omega, ?_⟩
            refine ⟨ys ++ [.str (sg c)], upd_same, by simp; omega, ?_, fun b o hb => by rw [upd_ne (ne_of_none hb nD)]; exact e2 _ _ hb⟩
            rw [take_snc hk', List.all_append]
            have : (let1 c || dig1 c) = false := ha
            simp [this]
        · rintro H2 ⟨ys, hD, ly, hy, e2⟩
          refine ⟨_, tru_l hD, ?_⟩
          have : z.cps.size = (cs z).length := by rw [← len_cs]; rfl
          rw [this, List.take_length] at hy
          rw [Bool.not_not, hy]
          exact q H2 e2
    · rw [decide_eq_false h2]
      exact iteT (l_cons (s_ret (e_bl (no (by unfold nameB; rw [decide_eq_false h2]; simp)))))
  · refine ifF h1 ⟨_, rfl, ?_⟩
    exact iteT (l_cons (s_ret (e_bl (no (by unfold nameB; rw [decide_eq_false h1]; simp)))))
def badA : Atm → Bool
  | .int _ => false
  | _ => true
def spGM : Sp := fun vs H Q _ => ∃ v m, vs = [v] ∧ MdV H v m ∧ MdS m ∧ ∀ H', Same H H' → Q (.bl (goodM m)) H'
theorem ok_gm (T : Top K mg "_law_good_mode" s_good_mode) (B : BOk mg) : Fn P w K mg base 1 "_law_good_mode" spGM := by
  refine fn_okC T sc_good_mode so_good_mode (fun vs H Q E h => by obtain ⟨v, m, rfl, _⟩ := h; rfl) (fun _ _ _ _ _ _ us hl => match us, hl with | [_], _ => rfl) fun f cdv A outer s H vs Q E hr h nd => ?_
  obtain ⟨v, m, rfl, hv, hs, q⟩ := h
  obtain ⟨bi, bt, bb, bs, btu, bl, bn, br⟩ := B
  cases m with
  | «at» a =>
    obtain rfl : v = a.v := hv
    have q := q H (Same.refl H)
    cases a with
    | non =>
      walk_at "sts"
      refine c_isi ty_non (.ty _) (kit_ty kb_non_tuple) ?_
      walk_at "sts"
      refine c_isi ty_non (.ty _) (kit_ty kb_non_str) ?_
      walk_at "sts"
      exact q
    | bl b =>
      walk_at "sts"
      refine c_isi ty_bl (.ty _) (kit_ty kb_bool_tuple) ?_
      walk_at "sts"
      refine c_isi ty_bl (.ty _) (kit_ty kb_bool_str) ?_
      walk_at "sts"
      exact q
    | int i =>
      walk_at "sts"
      refine c_isi ty_int (.ty _) (kit_ty kb_int_tuple) ?_
      walk_at "sts"
      refine c_isi ty_int (.ty _) (kit_ty kb_int_str) ?_
      walk_at "sts"
      exact q
    | str z =>
      walk_at "sts"
      refine c_isi ty_str (.ty _) (kit_ty kb_str_tuple) ?_
      walk_at "sts"
      refine c_isi ty_str (.ty _) (kit_ty kb_str_str) ?_
      walk_at "sts"
      exact q
  | tup l =>
    obtain ⟨t, rfl, ht⟩ := hv
    have hll := hs l rfl
    walk_at "sts"
    refine c_isi (ty_tup ht) (.ty _) (kit_ty kb_tuple_tuple) ⟨_, rfl, iteF (l_nil ?_)⟩
    refine l_cons (s_if (t_w (w_or (t_cmp (e_callB (x := "len") (by assumption) b_len (a_cons (e_var (a_nil (c_lenT (SqT.of ht) (e_int (o_neI ⟨_, rfl, ?_⟩)))))))))))
    rw [List.length_map]
    by_cases h2 : (l.length : Int) = 2
    · rw [decide_eq_true h2]
      refine iteF (w_or1 (t_tru (e_lcTf (by exact bk_good_mode0) (e_var ⟨t, _, rfl, SqT.of ht, fun D nD => ?_⟩))))
      refine ⟨fun k H' => ∃ ys, H' D = some (.lst ys) ∧ ys.length ≤ k ∧ ys.isEmpty = !((l.take k).any badA) ∧ Same H H', ⟨[], upd_same, Nat.le_refl _, rfl, fun b o hb => by rw [upd_ne (ne_of_none hb nD)]; exact hb⟩, fun k H' _ ⟨_, _, _, _, e⟩ => SqT.of (e _ _ ht), ?_, ?_⟩
      · rintro k u H2 hu ⟨ys, hD, ly, hy, e2⟩
        rw [List.getElem?_map] at hu
        obtain ⟨a, ha, rfl⟩ := Option.map_eq_some_iff.mp hu
        have hkl : k < l.length := (List.getElem?_eq_some_iff.mp ha).1
        have keep : badA a = false → ∃ ys, H2 D = some (.lst ys) ∧ ys.length ≤ k + 1 ∧ ys.isEmpty = !((l.take (k + 1)).any badA) ∧ Same H H2 := fun e => ⟨ys, hD, by omega, by rw [take_snc ha, List.any_append, hy]; simp [e], e2⟩
        have put : badA a = true → ∃ acc, H2 D = some (.lst acc) ∧ acc.length < sizeLine ∧ ∃ ys, upd H2 D (.lst (acc ++ [a.v])) D = some (.lst ys) ∧ ys.length ≤ k + 1 ∧ ys.isEmpty = !((l.take (k + 1)).any badA) ∧ Same H (upd H2 D (.lst (acc ++ [a.v]))) := fun e =>
          ⟨ys, hD, by show _ < 2 ^ 24; omega, ys ++ [a.v], upd_same, by simp; omega, by rw [take_snc ha, List.any_append]; simp [e], fun b o hb => by rw [upd_ne (ne_of_none hb nD)]; exact e2 _ _ hb⟩
        intro s0 H0 C cl fp I0
        refine t_w (w_or (t_not (t_val (b_callB (x := "isinstance") (by assumption) b_isi (a_cons (b_var (a_cons (b_bltn (x := "int") (v := .ty "int") (by assumption) b_int rfl (a_nil ?_)))))))))
        cases a with
        | non => exact c_isi ty_non (.ty _) (kit_ty kb_non_int) ⟨_, rfl, iteT (iteT fun s0 H0 C cl fp I0 => b_var (put rfl))⟩
        | str z => exact c_isi ty_str (.ty _) (kit_ty kb_str_int) ⟨_, rfl, iteT (iteT fun s0 H0 C cl fp I0 => b_var (put rfl))⟩
        | int i =>
          refine c_isi ty_int (.ty _) (kit_ty kb_int_int) ⟨_, rfl, iteF (w_or1 (t_val (b_callB (x := "isinstance") (by assumption) b_isi (a_cons (b_var (a_cons (b_bltn (x := "bool") (v := .ty "bool") (by assumption) b_bool rfl (a_nil ?_))))))))⟩
          exact c_isi ty_int (.ty _) (kit_ty kb_int_bool) ⟨_, rfl, iteF (keep rfl)⟩
        | bl b =>
          refine c_isi ty_bl (.ty _) (kit_ty kb_bool_int) ⟨_, rfl, iteF (w_or1 (t_val (b_callB (x := "isinstance") (by assumption) b_isi (a_cons (b_var (a_cons (b_bltn (x := "bool") (v := .ty "bool") (by assumption) b_bool rfl (a_nil ?_))))))))⟩
          exact c_isi ty_bl (.ty _) (kit_ty kb_bool_bool) ⟨_, rfl, iteT fun s0 H0 C cl fp I0 => b_var (put rfl)⟩
      · rintro H2 ⟨ys, hD, ly, hy, e2⟩
        rw [List.length_map, List.take_length] at hy
        refine ⟨_, tru_l hD, ?_⟩
        have q := q H2 e2
        have ht2 := e2 _ _ ht
        match l, h2 with
        | [x, y], _ =>
          have hg : goodM (.tup [x, y]) = (numB 1 x && numB 0 y) := rfl
          rw [hg] at q
          rw [hy, Bool.not_not]
          cases hb : List.any [x, y] badA with
          | true =>
            have : (numB 1 x && numB 0 y) = false := by
              cases x <;> cases y <;> simp_all [badA, numB]
            rw [this] at q
            exact iteT (l_cons (s_ret (e_bl q)))
          | false =>
            obtain ⟨i, rfl⟩ : ∃ i, x = .int i := by cases x <;> simp_all [badA]
            obtain ⟨j, rfl⟩ : ∃ j, y = .int j := by cases y <;> simp_all [badA]
            refine iteF (l_nil (l_cons (s_ret (e_and (e_cmp (e_ix (e_var (e_int (ix_t (by exact SqT.of ht2) at0 (e_int (o_ge ?_))))))))))) 
            refine ⟨_, rfl, and_val (x := decide (1 ≤ i)) (y := decide (0 ≤ j)) q fun q => e_one ?_⟩
            exact e_cmp (e_ix (e_var (e_int (ix_t (by exact SqT.of ht2) at1 (e_int (o_ge q))))))
    · rw [decide_eq_false h2]
      have : goodM (.tup l) = false := by
        match l, h2 with
        | [], _ => rfl
        | [x], _ => rfl
        | [x, y], h => exact absurd rfl h
        | x :: y :: z :: r, _ => rfl
      rw [this] at q
      exact iteT (l_cons (s_ret (e_bl (q H (Same.refl H)))))
end



/-! ### what is due and what is told -/
def FltV (H : Hp) (t : Addr) : Flt → Prop
  | .name z => H t = some (.tup [.str "BadName", .str z, .bl true])
  | .kind m => ∃ v, H t = some (.tup [.str "BadKind", v, .bl true]) ∧ MdV H v m
  | .taken z => H t = some (.tup [.str "NameTaken", .str z, .bl true])
def ResC (H : Hp) (t : Addr) (rs : List Rw) (s : Sn) : Option Flt → Prop
  | some f => FltV H t f
  | none => ∃ c, H t = some (.tup [.str "claim", c, .bl true]) ∧ ClV H c rs s
theorem FltV.ts {H H' : Hp} (e : TS H H') {t : Addr} {f : Flt} (h : FltV H t f) : FltV H' t f := by
  cases f with
  | name z => exact e _ _ h
  | kind m => obtain ⟨v, h1, h2⟩ := h; exact ⟨v, e _ _ h1, h2.ts e⟩
  | taken z => exact e _ _ h
theorem ResC.ts {H H' : Hp} (e : TS H H') {t : Addr} {rs : List Rw} {s : Sn} {o : Option Flt} (h : ResC H t rs s o) : ResC H' t rs s o := by
  cases o with
  | none => obtain ⟨c, h1, h2⟩ := h; exact ⟨c, e _ _ h1, h2.ts e⟩
  | some f => exact FltV.ts e h
theorem due_md : ∀ {rs : List Rw} {tk : List Str} {m : Md}, due tk rs = some (.kind m) → ∃ r ∈ rs, r.2.1 = m
  | [], tk, m, h => by cases h
  | r :: rs, tk, m, h => by
    rw [due_cons] at h
    split at h
    · cases h
    · split at h
      · cases h; exact ⟨r, List.mem_cons_self, rfl⟩
      · split at h
        · cases h
        · obtain ⟨r', h1, h2⟩ := due_md h
          exact ⟨r', List.mem_cons_of_mem _ h1, h2⟩
section
variable {P : Program} {w : World} {K : PySem.W.Frag} {mg : Str → Option Value} {base : Heap} {CN CK CM CU CH : Addr}
def spDue : Sp := fun vs H Q _ => ∃ l g ws rs s, vs = [.ref l, g] ∧ H l = some (.lst ws) ∧ RowsV H ws rs ∧ Few rs ∧ (∀ r ∈ rs, MdS r.2.1) ∧ SnV H g s ∧ ∀ t H', Same H H' → ResC H' t rs s (due [] rs) → Q (.ref t) H'
theorem ok_due (T : Top K mg "_law_due" s_due) (mT : mg "tuple" = none) (FN : Fn P w K mg base 1 "_law_good_name" spGN) (FM : Fn P w K mg base 1 "_law_good_mode" spGM) : Fn P w K mg base 2 "_law_due" spDue := by
  refine fn_ok T sc_due so_due (fun vs H Q E h => by obtain ⟨l, g, ws, rs, s, rfl, _⟩ := h; rfl) (fun _ _ _ _ _ _ us hl => match us, hl with | [_, _], _ => rfl) fun f cdv A outer s H vs Q E hr h nd => ?_
  obtain ⟨l, g, ws, rs, s, rfl, hl, hrs, ⟨hl50, hn⟩, hms, hg, q⟩ := h
  have lvs := hrs.length
  refine l_cons (s_set (e_lst (a_nil ⟨by show 0 ≤ sizeLine; decide, fun tl H2 e2 n2 h2 => ?_⟩)))
  show wL _ _ _ [some (.ref l), some g, some (.ref tl), none] _
  refine l_cons (s_forL (e_var ?_))
  refine ⟨l, ws, rfl, SqL.of (e2 _ _ hl), fun n σ H' => ∃ x3, σ = [some (.ref l), some g, some (.ref tl), x3] ∧ H' tl = some (.lst (sVs ((rs.take n).map (·.1)))) ∧ Same H H' ∧ due [] rs = due ((rs.take n).map (·.1)) (rs.drop n), ⟨none, rfl, h2, e2, rfl⟩, ?_, ?_, ?_⟩
  · rintro n σ H' _ ⟨_, rfl, _, e, _⟩
    exact SqL.of (e _ _ hl)
  · rintro n u σ H3 hu ⟨x3, rfl, htl, e3, hdue⟩
    obtain ⟨r, hr', t, m, x, rfl, ht, hm, hx⟩ := each_get hrs hu
    have ht3 := e3 _ _ ht
    have hm3 := hm.ts (Same.ts e3)
    have hmem := List.mem_of_getElem? hr'
    have hnl := hn r hmem
    have hlt : n < rs.length := (List.getElem?_eq_some_iff.mp hr').1
    have hdr : rs.drop n = r :: rs.drop (n + 1) := by
      rw [List.drop_eq_getElem_cons hlt]
      congr 1
      exact (List.getElem?_eq_some_iff.mp hr').2
    rw [hdr, due_cons] at hdue
    show wL _ _ _ [some (.ref l), some g, some (.ref tl), some (.ref t)] _
    refine l_cons (s_if (t_not (t_val (e_call (by exact FN) (by exact hr) (by decide) ?_))))
    refine a_cons (e_ix (e_var (e_int (ix_t (by exact SqT.of ht3) at0 (a_nil ?_)))))
    refine ⟨r.1, rfl, by omega, fun H4 e4 => ?_⟩
    have e04 := e3.trans e4
    cases hb : nameB (cs r.1) with
    | false =>
      rw [if_pos hb] at hdue
      refine ⟨_, rfl, iteT (l_cons (s_ret (e_tup (a_cons (e_str ?_)))))⟩
      refine a_cons (e_ix (e_var (e_int (ix_t (by exact SqT.of (e4 _ _ ht3)) at0 (a_cons (e_bl (a_nil ⟨by show 3 ≤ sizeLine; decide, fun p H5 e5 n5 h5 => ?_⟩)))))))
      exact q p H5 (e04.trans e5) (by rw [hdue]; exact h5)
    | true =>
      rw [if_neg (by rw [hb]; decide)] at hdue
      refine ⟨_, rfl, iteF (l_nil ?_)⟩
      refine l_cons (s_if (t_not (t_val (e_call (by exact FM) (by exact hr) (by decide) ?_))))
      refine a_cons (e_ix (e_var (e_int (ix_t (by exact SqT.of (e4 _ _ ht3)) at1 (a_nil ?_)))))
      refine ⟨m, r.2.1, rfl, hm3.ts (Same.ts e4), hms r hmem, fun H5 e5 => ?_⟩
      have e05 := e04.trans e5
      have ht5 := e5 _ _ (e4 _ _ ht3)
      cases hk : goodM r.2.1 with
      | false =>
        rw [if_pos hk] at hdue
        refine ⟨_, rfl, iteT (l_cons (s_ret (e_tup (a_cons (e_str ?_)))))⟩
        refine a_cons (e_ix (e_var (e_int (ix_t (by exact SqT.of ht5) at1 (a_cons (e_bl (a_nil ⟨by show 3 ≤ sizeLine; decide, fun p H6 e6 n6 h6 => ?_⟩)))))))
        exact q p H6 (e05.trans e6) (by rw [hdue]; exact ⟨m, h6, hm.ts (Same.ts (e05.trans e6))⟩)
      | true =>
        rw [if_neg (by rw [hk]; decide)] at hdue
        refine ⟨_, rfl, iteF (l_nil ?_)⟩
        have htl5 := e5 _ _ (e4 _ _ htl)
        refine l_cons (s_if (t_cmp (e_ix (e_var (e_int (ix_t (by exact SqT.of ht5) at0 (e_var (o_in (SqL.of htl5) rfl (Wk.flat_strs _) ⟨_, rfl, ?_⟩))))))))
        rw [inV_str]
        by_cases hin : r.1 ∈ (rs.take n).map (·.1)
        · rw [if_pos hin] at hdue
          rw [decide_eq_true hin]
          refine iteT (l_cons (s_ret (e_tup (a_cons (e_str ?_)))))
          refine a_cons (e_ix (e_var (e_int (ix_t (by exact SqT.of ht5) at0 (a_cons (e_bl (a_nil ⟨by show 3 ≤ sizeLine; decide, fun p H6 e6 n6 h6 => ?_⟩)))))))
          exact q p H6 (e05.trans e6) (by rw [hdue]; exact h6)
        · rw [if_neg hin] at hdue
          rw [decide_eq_false hin]
          refine iteF (l_nil ?_)
          have e31 : (rs.take n).length ≤ 50 := by rw [List.length_take]; omega
          refine l_cons (s_expr (e_app (e_var ⟨tl, _, rfl, SqL.of htl5, e_ix (e_var (e_int (ix_t (by exact SqT.of ht5) at0 ?_)))⟩)))
          refine ⟨_, htl5, by rw [List.length_map, List.length_map]; show _ < 2 ^ 24; omega, l_nil ⟨_, rfl, ?_, fun b o hb => ?_, ?_⟩⟩
          · rw [upd_same, take_snc hr']
            simp
          · rw [upd_ne (ne_of_none hb n2)]
            exact e05 _ _ hb
          · rw [hdue, take_snc hr']
            simp
  · rintro σ H3 ⟨x3, rfl, htl, e3, hdue⟩
    rw [lvs, List.drop_length] at hdue
    have hdue : due [] rs = none := hdue
    refine l_cons (s_ret (e_tup (a_cons (e_str (a_cons (e_tup ?_))))))
    refine a_cons (e_callTy (x := "tuple") (by assumption) b_tuple (a_cons (e_var (a_nil (c_tupL (SqL.of (e3 _ _ hl)) fun tv H4 e4 _ h4 => ?_)))))
    refine a_cons (e_var (a_nil ⟨by show 2 ≤ sizeLine; decide, fun tc H5 e5 _ h5 => ?_⟩))
    refine a_cons (e_bl (a_nil ⟨by show 3 ≤ sizeLine; decide, fun p H6 e6 n6 h6 => ?_⟩))
    have e46 := e5.trans e6
    have e06 := (e3.trans e4).trans e46
    exact q p H6 e06 (by rw [hdue]; exact ⟨.ref tc, h6, tc, tv, g, ws, rfl, e6 _ _ h5, e46 _ _ h4, rows_ts (Same.ts e06) hrs, SnV.ts (Same.ts e06) hg⟩)
end



structure ErC (K : PySem.W.Frag) (C CH : Addr) (f : Str) : Prop where
  ec : EcC K C
  xf : XfC K C
  no : PySem.W.findIn K (.ref C) f = some none
  xS : PySem.W.exmOne K (.ref C) (.ref C) = some true
  xH : PySem.W.exmOne K (.ref C) (.ref CH) = some true
  kH : PySem.W.kitOne K (.ref C) (.ref CH) = some true
  kV : PySem.W.kitOne K (.ref C) (.type "ValueError") = some true
structure Errs (K : PySem.W.Frag) (mg : Str → Option Value) (CN CK CM CU CH : Addr) : Prop where
  mN : mg "BadName" = some (.ref CN)
  mK : mg "BadKind" = some (.ref CK)
  mM : mg "NameTaken" = some (.ref CM)
  mU : mg "UnknownName" = some (.ref CU)
  mH : mg "HeldError" = some (.ref CH)
  mV : mg "ValueError" = none
  eN : ErC K CN CH "name"
  eK : ErC K CK CH "kind"
  eM : ErC K CM CH "name"
  eU : ErC K CU CH "name"
  xKN : PySem.W.exmOne K (.ref CK) (.ref CN) = some false
  xMN : PySem.W.exmOne K (.ref CM) (.ref CN) = some false
  xMK : PySem.W.exmOne K (.ref CM) (.ref CK) = some false
  xUN : PySem.W.exmOne K (.ref CU) (.ref CN) = some false
  xUK : PySem.W.exmOne K (.ref CU) (.ref CK) = some false
  xUM : PySem.W.exmOne K (.ref CU) (.ref CM) = some false
  kN : PySem.W.kitAny K (.ref CN) [.ref CK, .ref CM, .ref CU] = some false
  kK : PySem.W.kitAny K (.ref CK) [.ref CM, .ref CU] = some false
  kM : PySem.W.kitOne K (.ref CM) (.ref CU) = some false
theorem b_ve : bootBuiltins "ValueError" = some (.type "ValueError") := by decide +kernel
section
variable {P : Program} {w : World} {K : PySem.W.Frag} {mg : Str → Option Value} {base : Heap} {CN CK CM CU CH : Addr}
/-- told of one hold -/
def HoldV (H : Hp) (t : Addr) (r : Rw) : Prop := ∃ p m x, H t = some (.tup [.str "hold", .ref p, .bl true]) ∧ H p = some (.tup [m, x]) ∧ MdV H m r.2.1 ∧ SnV H x r.2.2
def spTMake (K : PySem.W.Frag) : Sp := fun vs H Q _ => ∃ tc row h g rs s, vs = [.str "make", .ref tc, row] ∧ H tc = some (.tup [h, g]) ∧ SideV K H h rs ∧ SnV H g s ∧ Few rs ∧ ∀ t H', Same H H' → ResC H' t rs s (due [] rs) → Q (.ref t) H'
def spTWith : Sp := fun vs H Q _ => ∃ v row rs s r, vs = [.str "with", v, row] ∧ ClV H v rs s ∧ RowV H row r ∧ Few (rs ++ [r]) ∧ ∀ t H', Same H H' → ResC H' t (rs ++ [r]) s (due [] (rs ++ [r])) → Q (.ref t) H'
def spTWo : Sp := fun vs H Q _ => ∃ v row rs s r, vs = [.str "without", v, row] ∧ ClV H v rs s ∧ RowV H row r ∧ rs.length ≤ 50 ∧
  (¬ NoNm r.1 rs → ∀ t H', Same H H' → ResC H' t (rs.filter fun x => !decide (x.1 = r.1)) s none → Q (.ref t) H') ∧ (NoNm r.1 rs → ∀ t H', Same H H' → H' t = some (.tup [.str "UnknownName", .str r.1, .bl true]) → Q (.ref t) H')
def spTHold : Sp := fun vs H Q _ => ∃ v row rs s r, vs = [.str "hold", v, row] ∧ ClV H v rs s ∧ RowV H row r ∧ rs.length ≤ 50 ∧
  (∀ (n : Nat) x, rs[n]? = some x → NoNm r.1 (rs.take n) → x.1 = r.1 → ∀ t H', Same H H' → HoldV H' t x → Q (.ref t) H') ∧ (NoNm r.1 rs → ∀ t H', Same H H' → H' t = some (.tup [.str "UnknownName", .str r.1, .bl true]) → Q (.ref t) H')
def spTold (K : PySem.W.Frag) : Sp := fun vs H Q E => spTMake K vs H Q E ∨ spTWith vs H Q E ∨ spTWo vs H Q E ∨ spTHold vs H Q E
theorem told_len {vs : List V} {H : Hp} {Q : VK} {E : XK} (h : spTold K vs H Q E) : vs.length = 3 := by
  rcases h with h | h | h | h
  · obtain ⟨_, _, _, _, _, _, rfl, _⟩ := h; rfl
  · obtain ⟨_, _, _, _, _, rfl, _⟩ := h; rfl
  · obtain ⟨_, _, _, _, _, rfl, _⟩ := h; rfl
  · obtain ⟨_, _, _, _, _, rfl, _⟩ := h; rfl
theorem ok_told (T : Top K mg "_law_told" s_told) (mIs : mg "isinstance" = none) (R : Errs K mg CN CK CM CU CH) (FM : FnN P w K mg base 3 "make_claim" (spMake K CN CK CM)) (FW : FnN P w K mg base 4 "with_hold" (spWith CN CK CM)) (FO : FnN P w K mg base 3 "without_hold" (spWo CU)) (FH : FnN P w K mg base 3 "hold_of" (spHold CU)) : Fn P w K mg base 6 "_law_told" (spTold K) := by
  refine fn_ok T sc_told so_told (fun vs H Q E h => told_len h) (fun _ _ _ _ _ _ us hl => match us, hl with | [_, _, _], _ => rfl) fun f cdv A outer s H vs Q E hr h nd => ?_
  rcases h with h | h | h | h
  · obtain ⟨tc, row, h, g, rs, s, rfl, htc, hh, hg, hf, q⟩ := h
    refine l_cons (s_tryM (N := N_told) (G := G_told) (sc := defScope s_told) takesN0 (.cons (by exact R.mN) (i := 3) (by repeat (first | with_reducible apply At.z | with_reducible apply At.s)) (by repeat (first | with_reducible apply At.z | with_reducible apply At.s)) rfl (.cons (by exact R.mK) (i := 3) (by repeat (first | with_reducible apply At.z | with_reducible apply At.s)) (by repeat (first | with_reducible apply At.z | with_reducible apply At.s)) rfl (.cons (by exact R.mM) (i := 3) (by repeat (first | with_reducible apply At.z | with_reducible apply At.s)) (by repeat (first | with_reducible apply At.z | with_reducible apply At.s)) rfl (.cons (by exact R.mU) (i := 3) (by repeat (first | with_reducible apply At.z | with_reducible apply At.s)) (by repeat (first | with_reducible apply At.z | with_reducible apply At.s)) rfl .nil)))) fun pn xe tk nd' => ?_)
    refine l_cons (s_if (t_cmp (e_var (e_str (o_eqS ⟨_, rfl, ite_t (decide_eq_true rfl) ?_⟩)))))
    refine l_cons (s_ret (e_tup (a_cons (e_str (a_cons (e_callN (by exact FM) (by exact tk) (by exact hr) (by decide) ?_))))))
    refine a_cons (e_ix (e_var (e_int (ix_t (by exact SqT.of htc) at0 (a_cons (e_ix (e_var (e_int (ix_t (by exact SqT.of htc) at1 (a_nil ?_)))))))))) 
    refine ⟨h, g, rs, rfl, hh, hf, fun hd t th ys H1 e1 h1 h2 h3 => ?_, fun fl hd => ?_⟩
    · refine a_cons (e_bl (a_nil ⟨by show 3 ≤ sizeLine; decide, fun p H2 e2 _ h4 => ?_⟩))
      refine q p H2 (e1.trans e2) ?_
      rw [hd]
      exact ⟨.ref t, h4, t, th, g, ys, rfl, e2 _ _ h1, e2 _ _ h2, rows_ts (Same.ts e2) h3, SnV.ts (Same.ts (e1.trans e2)) hg⟩
    · have fin : ∀ t H', Same H H' → FltV H' t fl → Q (.ref t) H' := fun t H' e h => q t H' e (by rw [hd]; exact h)
      cases fl with
      | name z =>
        intro d H1 e1 h1
        refine ⟨true, R.eN.xS, fun _ ea na => ?_, fun z => nomatch z⟩
        intro oe pn2 hz2 hf nd2 hot
        have hdx : ∀ d', some d = some d' → H1 d' = some (.xd [(("name" : Str), V.str z)]) := fun d' e => by cases e; exact h1
        refine l_cons (s_ret (e_tup (a_cons (e_str (a_cons ?_)))))
        refine e_xf R.eN.xf R.eN.no hz2 hf (e_var ⟨rfl, d, _, V.str z, rfl, h1, by simp [List.lookup], ?_⟩)
        refine a_cons (e_and (e_callB (x := "isinstance") (by assumption) b_isi (a_cons (e_var (a_cons (e_glob (v := .ref CH) (by exact R.mH) rfl (a_nil ?_)))))))
        refine c_isE R.eN.ec hz2 hf hdx (.own _) R.eN.kH ⟨true, rfl, iteT (e_one (e_not (e_callB (x := "isinstance") (by assumption) b_isi (a_cons (e_var (a_cons (e_tup ?_)))))))⟩
        refine a_cons (e_glob (v := .ref CK) (by exact R.mK) rfl ?_)
        refine a_cons (e_glob (v := .ref CM) (by exact R.mM) rfl ?_)
        refine a_cons (e_glob (v := .ref CU) (by exact R.mU) rfl ?_)
        refine a_nil ⟨by show 3 ≤ sizeLine; decide, fun tp H2 e2 _ h2 => a_nil ?_⟩
        refine c_isET R.eN.ec hz2 hf (fun d' e => e2 _ _ (hdx d' e)) h2 (.cons (.own _) (.cons (.own _) (.cons (.own _) .nil))) R.kN ⟨false, rfl, ?_⟩
        refine a_nil ⟨by show 3 ≤ sizeLine; decide, fun t H3 e3 _ h3 => ?_⟩
        exact fin t H3 (e1.trans (e2.trans e3)) h3
      | kind m =>
        intro d H1 v e1 h1 hm
        refine ⟨false, R.xKN, (fun z => nomatch z), fun _ => ⟨true, R.eK.xS, fun _ ea na => ?_, fun z => nomatch z⟩⟩
        intro oe pn2 hz2 hf nd2 hot
        have hdx : ∀ d', some d = some d' → H1 d' = some (.xd [(("kind" : Str), v)]) := fun d' e => by cases e; exact h1
        refine l_cons (s_ret (e_tup (a_cons (e_str (a_cons ?_)))))
        refine e_xf R.eK.xf R.eK.no hz2 hf (e_var ⟨rfl, d, _, v, rfl, h1, by simp [List.lookup], ?_⟩)
        refine a_cons (e_and (e_callB (x := "isinstance") (by assumption) b_isi (a_cons (e_var (a_cons (e_glob (v := .ref CH) (by exact R.mH) rfl (a_nil ?_)))))))
        refine c_isE R.eK.ec hz2 hf hdx (.own _) R.eK.kH ⟨true, rfl, iteT (e_one (e_not (e_callB (x := "isinstance") (by assumption) b_isi (a_cons (e_var (a_cons (e_tup ?_)))))))⟩
        refine a_cons (e_glob (v := .ref CM) (by exact R.mM) rfl ?_)
        refine a_cons (e_glob (v := .ref CU) (by exact R.mU) rfl ?_)
        refine a_nil ⟨by show 2 ≤ sizeLine; decide, fun tp H2 e2 _ h2 => a_nil ?_⟩
        refine c_isET R.eK.ec hz2 hf (fun d' e => e2 _ _ (hdx d' e)) h2 (.cons (.own _) (.cons (.own _) .nil)) R.kK ⟨false, rfl, ?_⟩
        refine a_nil ⟨by show 3 ≤ sizeLine; decide, fun t H3 e3 _ h3 => ?_⟩
        exact fin t H3 (e1.trans (e2.trans e3)) ⟨v, h3, hm.ts (Same.ts (e2.trans e3))⟩
      | taken z =>
        intro d H1 e1 h1
        refine ⟨false, R.xMN, (fun z => nomatch z), fun _ => ⟨false, R.xMK, (fun z => nomatch z), fun _ => ⟨true, R.eM.xS, fun _ ea na => ?_, fun z => nomatch z⟩⟩⟩
        intro oe pn2 hz2 hf nd2 hot
        have hdx : ∀ d', some d = some d' → H1 d' = some (.xd [(("name" : Str), V.str z)]) := fun d' e => by cases e; exact h1
        refine l_cons (s_ret (e_tup (a_cons (e_str (a_cons ?_)))))
        refine e_xf R.eM.xf R.eM.no hz2 hf (e_var ⟨rfl, d, _, V.str z, rfl, h1, by simp [List.lookup], ?_⟩)
        refine a_cons (e_and (e_callB (x := "isinstance") (by assumption) b_isi (a_cons (e_var (a_cons (e_glob (v := .ref CH) (by exact R.mH) rfl (a_nil ?_)))))))
        refine c_isE R.eM.ec hz2 hf hdx (.own _) R.eM.kH ⟨true, rfl, iteT (e_one (e_not (e_callB (x := "isinstance") (by assumption) b_isi (a_cons (e_var (a_cons (e_glob (v := .ref CU) (by exact R.mU) rfl (a_nil ?_))))))))⟩
        refine c_isE R.eM.ec hz2 hf hdx (.own _) R.kM ⟨false, rfl, ?_⟩
        refine a_nil ⟨by show 3 ≤ sizeLine; decide, fun t H3 e3 _ h3 => ?_⟩
        exact fin t H3 (e1.trans e3) h3
  · obtain ⟨v, row, rs, s, r, rfl, hc, ⟨tr, m, x, rfl, htr, hm, hx⟩, hf, q⟩ := h
    refine l_cons (s_tryM (N := N_told) (G := G_told) (sc := defScope s_told) takesN0 (.cons (by exact R.mN) (i := 3) (by repeat (first | with_reducible apply At.z | with_reducible apply At.s)) (by repeat (first | with_reducible apply At.z | with_reducible apply At.s)) rfl (.cons (by exact R.mK) (i := 3) (by repeat (first | with_reducible apply At.z | with_reducible apply At.s)) (by repeat (first | with_reducible apply At.z | with_reducible apply At.s)) rfl (.cons (by exact R.mM) (i := 3) (by repeat (first | with_reducible apply At.z | with_reducible apply At.s)) (by repeat (first | with_reducible apply At.z | with_reducible apply At.s)) rfl (.cons (by exact R.mU) (i := 3) (by repeat (first | with_reducible apply At.z | with_reducible apply At.s)) (by repeat (first | with_reducible apply At.z | with_reducible apply At.s)) rfl .nil)))) fun pn xe tk nd' => ?_)
    refine l_cons (s_if (t_cmp (e_var (e_str (o_eqS ⟨_, rfl, ite_f ?hn (l_nil ?_)⟩)))))
    case hn => exact decide_eq_false (by decide +kernel)
    refine l_cons (s_if (t_cmp (e_var (e_str (o_eqS ⟨_, rfl, ite_t (decide_eq_true rfl) ?_⟩)))))
    refine l_cons (s_ret (e_tup (a_cons (e_str (a_cons (e_callN (by exact FW) (by exact tk) (by exact hr) (by decide) ?_))))))
    refine a_cons (e_var (a_cons (e_ix (e_var (e_int (ix_t (by exact SqT.of htr) at0 ?_))))))
    refine a_cons (e_ix (e_var (e_int (ix_t (by exact SqT.of htr) at1 ?_))))
    refine a_cons (e_ix (e_var (e_int (ix_t (by exact SqT.of htr) at2 (a_nil ?_)))))
    refine ⟨v, r.1, m, x, rs, s, r.2.1, r.2.2, rfl, hc, hm, hx, hf, fun hd v' H1 e1 h1 => ?_, fun fl hd => ?_⟩
    · refine a_cons (e_bl (a_nil ⟨by show 3 ≤ sizeLine; decide, fun p H2 e2 _ h4 => ?_⟩))
      refine q p H2 (e1.trans e2) ?_
      rw [show rs ++ [r] = rs ++ [(r.1, r.2.1, r.2.2)] from rfl, hd]
      exact ⟨v', h4, h1.ts (Same.ts e2)⟩
    · have fin : ∀ t H', Same H H' → FltV H' t fl → Q (.ref t) H' := fun t H' e h => q t H' e (by rw [show rs ++ [r] = rs ++ [(r.1, r.2.1, r.2.2)] from rfl, hd]; exact h)
      cases fl with
      | name z =>
        intro d H1 e1 h1
        refine ⟨true, R.eN.xS, fun _ ea na => ?_, fun z => nomatch z⟩
        intro oe pn2 hz2 hf nd2 hot
        have hdx : ∀ d', some d = some d' → H1 d' = some (.xd [(("name" : Str), V.str z)]) := fun d' e => by cases e; exact h1
        refine l_cons (s_ret (e_tup (a_cons (e_str (a_cons ?_)))))
        refine e_xf R.eN.xf R.eN.no hz2 hf (e_var ⟨rfl, d, _, V.str z, rfl, h1, by simp [List.lookup], ?_⟩)
        refine a_cons (e_and (e_callB (x := "isinstance") (by assumption) b_isi (a_cons (e_var (a_cons (e_glob (v := .ref CH) (by exact R.mH) rfl (a_nil ?_)))))))
        refine c_isE R.eN.ec hz2 hf hdx (.own _) R.eN.kH ⟨true, rfl, iteT (e_one (e_not (e_callB (x := "isinstance") (by assumption) b_isi (a_cons (e_var (a_cons (e_tup ?_)))))))⟩
        refine a_cons (e_glob (v := .ref CK) (by exact R.mK) rfl ?_)
        refine a_cons (e_glob (v := .ref CM) (by exact R.mM) rfl ?_)
        refine a_cons (e_glob (v := .ref CU) (by exact R.mU) rfl ?_)
        refine a_nil ⟨by show 3 ≤ sizeLine; decide, fun tp H2 e2 _ h2 => a_nil ?_⟩
        refine c_isET R.eN.ec hz2 hf (fun d' e => e2 _ _ (hdx d' e)) h2 (.cons (.own _) (.cons (.own _) (.cons (.own _) .nil))) R.kN ⟨false, rfl, ?_⟩
        refine a_nil ⟨by show 3 ≤ sizeLine; decide, fun t H3 e3 _ h3 => ?_⟩
        exact fin t H3 (e1.trans (e2.trans e3)) h3
      | kind m =>
        intro d H1 v e1 h1 hm
        refine ⟨false, R.xKN, (fun z => nomatch z), fun _ => ⟨true, R.eK.xS, fun _ ea na => ?_, fun z => nomatch z⟩⟩
        intro oe pn2 hz2 hf nd2 hot
        have hdx : ∀ d', some d = some d' → H1 d' = some (.xd [(("kind" : Str), v)]) := fun d' e => by cases e; exact h1
        refine l_cons (s_ret (e_tup (a_cons (e_str (a_cons ?_)))))
        refine e_xf R.eK.xf R.eK.no hz2 hf (e_var ⟨rfl, d, _, v, rfl, h1, by simp [List.lookup], ?_⟩)
        refine a_cons (e_and (e_callB (x := "isinstance") (by assumption) b_isi (a_cons (e_var (a_cons (e_glob (v := .ref CH) (by exact R.mH) rfl (a_nil ?_)))))))
        refine c_isE R.eK.ec hz2 hf hdx (.own _) R.eK.kH ⟨true, rfl, iteT (e_one (e_not (e_callB (x := "isinstance") (by assumption) b_isi (a_cons (e_var (a_cons (e_tup ?_)))))))⟩
        refine a_cons (e_glob (v := .ref CM) (by exact R.mM) rfl ?_)
        refine a_cons (e_glob (v := .ref CU) (by exact R.mU) rfl ?_)
        refine a_nil ⟨by show 2 ≤ sizeLine; decide, fun tp H2 e2 _ h2 => a_nil ?_⟩
        refine c_isET R.eK.ec hz2 hf (fun d' e => e2 _ _ (hdx d' e)) h2 (.cons (.own _) (.cons (.own _) .nil)) R.kK ⟨false, rfl, ?_⟩
        refine a_nil ⟨by show 3 ≤ sizeLine; decide, fun t H3 e3 _ h3 => ?_⟩
        exact fin t H3 (e1.trans (e2.trans e3)) ⟨v, h3, hm.ts (Same.ts (e2.trans e3))⟩
      | taken z =>
        intro d H1 e1 h1
        refine ⟨false, R.xMN, (fun z => nomatch z), fun _ => ⟨false, R.xMK, (fun z => nomatch z), fun _ => ⟨true, R.eM.xS, fun _ ea na => ?_, fun z => nomatch z⟩⟩⟩
        intro oe pn2 hz2 hf nd2 hot
        have hdx : ∀ d', some d = some d' → H1 d' = some (.xd [(("name" : Str), V.str z)]) := fun d' e => by cases e; exact h1
        refine l_cons (s_ret (e_tup (a_cons (e_str (a_cons ?_)))))
        refine e_xf R.eM.xf R.eM.no hz2 hf (e_var ⟨rfl, d, _, V.str z, rfl, h1, by simp [List.lookup], ?_⟩)
        refine a_cons (e_and (e_callB (x := "isinstance") (by assumption) b_isi (a_cons (e_var (a_cons (e_glob (v := .ref CH) (by exact R.mH) rfl (a_nil ?_)))))))
        refine c_isE R.eM.ec hz2 hf hdx (.own _) R.eM.kH ⟨true, rfl, iteT (e_one (e_not (e_callB (x := "isinstance") (by assumption) b_isi (a_cons (e_var (a_cons (e_glob (v := .ref CU) (by exact R.mU) rfl (a_nil ?_))))))))⟩
        refine c_isE R.eM.ec hz2 hf hdx (.own _) R.kM ⟨false, rfl, ?_⟩
        refine a_nil ⟨by show 3 ≤ sizeLine; decide, fun t H3 e3 _ h3 => ?_⟩
        exact fin t H3 (e1.trans e3) h3
  · obtain ⟨v, row, rs, s, r, rfl, hc, ⟨tr, m, x, rfl, htr, hm, hx⟩, hl, q1, q2⟩ := h
    refine l_cons (s_tryM (N := N_told) (G := G_told) (sc := defScope s_told) takesN0 (.cons (by exact R.mN) (i := 3) (by repeat (first | with_reducible apply At.z | with_reducible apply At.s)) (by repeat (first | with_reducible apply At.z | with_reducible apply At.s)) rfl (.cons (by exact R.mK) (i := 3) (by repeat (first | with_reducible apply At.z | with_reducible apply At.s)) (by repeat (first | with_reducible apply At.z | with_reducible apply At.s)) rfl (.cons (by exact R.mM) (i := 3) (by repeat (first | with_reducible apply At.z | with_reducible apply At.s)) (by repeat (first | with_reducible apply At.z | with_reducible apply At.s)) rfl (.cons (by exact R.mU) (i := 3) (by repeat (first | with_reducible apply At.z | with_reducible apply At.s)) (by repeat (first | with_reducible apply At.z | with_reducible apply At.s)) rfl .nil)))) fun pn xe tk nd' => ?_)
    refine l_cons (s_if (t_cmp (e_var (e_str (o_eqS ⟨_, rfl, ite_f ?hn (l_nil ?_)⟩)))))
    case hn => exact decide_eq_false (by decide +kernel)
    refine l_cons (s_if (t_cmp (e_var (e_str (o_eqS ⟨_, rfl, ite_f ?hn (l_nil ?_)⟩)))))
    case hn => exact decide_eq_false (by decide +kernel)
    refine l_cons (s_if (t_cmp (e_var (e_str (o_eqS ⟨_, rfl, ite_t (decide_eq_true rfl) ?_⟩)))))
    refine l_cons (s_ret (e_tup (a_cons (e_str (a_cons (e_callN (by exact FO) (by exact tk) (by exact hr) (by decide) ?_))))))
    refine a_cons (e_var (a_cons (e_ix (e_var (e_int (ix_t (by exact SqT.of htr) at0 (a_nil ?_)))))))
    refine ⟨v, r.1, rs, s, rfl, hc, hl, fun hn v' H1 e1 h1 => ?_, fun hno => ?_⟩
    · refine a_cons (e_bl (a_nil ⟨by show 3 ≤ sizeLine; decide, fun p H2 e2 _ h4 => ?_⟩))
      exact q1 hn p H2 (e1.trans e2) ⟨v', h4, h1.ts (Same.ts e2)⟩
    · intro d H1 e1 h1
      refine ⟨false, R.xUN, (fun z => nomatch z), fun _ => ⟨false, R.xUK, (fun z => nomatch z), fun _ => ⟨false, R.xUM, (fun z => nomatch z), fun _ => ⟨true, R.eU.xS, fun _ ea na => ?_, fun z => nomatch z⟩⟩⟩⟩
      intro oe pn2 hz2 hf nd2 hot
      have hdx : ∀ d', some d = some d' → H1 d' = some (.xd [(("name" : Str), V.str r.1)]) := fun d' e => by cases e; exact h1
      refine l_cons (s_ret (e_tup (a_cons (e_str (a_cons ?_)))))
      refine e_xf R.eU.xf R.eU.no hz2 hf (e_var ⟨rfl, d, _, V.str r.1, rfl, h1, by simp [List.lookup], ?_⟩)
      refine a_cons (e_callB (x := "isinstance") (by assumption) b_isi (a_cons (e_var (a_cons (e_glob (v := .ref CH) (by exact R.mH) rfl (a_nil ?_))))))
      refine c_isE R.eU.ec hz2 hf hdx (.own _) R.eU.kH ?_
      refine a_nil ⟨by show 3 ≤ sizeLine; decide, fun t H3 e3 _ h3 => ?_⟩
      exact q2 hno t H3 (e1.trans e3) h3
  · obtain ⟨v, row, rs, s, r, rfl, hc, ⟨tr, m, x, rfl, htr, hm, hx⟩, hl, q1, q2⟩ := h
    refine l_cons (s_tryM (N := N_told) (G := G_told) (sc := defScope s_told) takesN0 (.cons (by exact R.mN) (i := 3) (by repeat (first | with_reducible apply At.z | with_reducible apply At.s)) (by repeat (first | with_reducible apply At.z | with_reducible apply At.s)) rfl (.cons (by exact R.mK) (i := 3) (by repeat (first | with_reducible apply At.z | with_reducible apply At.s)) (by repeat (first | with_reducible apply At.z | with_reducible apply At.s)) rfl (.cons (by exact R.mM) (i := 3) (by repeat (first | with_reducible apply At.z | with_reducible apply At.s)) (by repeat (first | with_reducible apply At.z | with_reducible apply At.s)) rfl (.cons (by exact R.mU) (i := 3) (by repeat (first | with_reducible apply At.z | with_reducible apply At.s)) (by repeat (first | with_reducible apply At.z | with_reducible apply At.s)) rfl .nil)))) fun pn xe tk nd' => ?_)
    refine l_cons (s_if (t_cmp (e_var (e_str (o_eqS ⟨_, rfl, ite_f ?hn (l_nil ?_)⟩)))))
    case hn => exact decide_eq_false (by decide +kernel)
    refine l_cons (s_if (t_cmp (e_var (e_str (o_eqS ⟨_, rfl, ite_f ?hn (l_nil ?_)⟩)))))
    case hn => exact decide_eq_false (by decide +kernel)
    refine l_cons (s_if (t_cmp (e_var (e_str (o_eqS ⟨_, rfl, ite_f ?hn (l_nil ?_)⟩)))))
    case hn => exact decide_eq_false (by decide +kernel)
    refine l_cons (s_ret (e_tup (a_cons (e_str (a_cons (e_callN (by exact FH) (by exact tk) (by exact hr) (by decide) ?_))))))
    refine a_cons (e_var (a_cons (e_ix (e_var (e_int (ix_t (by exact SqT.of htr) at0 (a_nil ?_)))))))
    refine ⟨v, r.1, rs, s, rfl, hc, fun n y hy hno he t m1 x1 H1 e1 h1 hm1 hx1 => ?_, fun hno => ?_⟩
    · refine a_cons (e_bl (a_nil ⟨by show 3 ≤ sizeLine; decide, fun p H2 e2 _ h4 => ?_⟩))
      exact q1 n y hy hno he p H2 (e1.trans e2) ⟨t, m1, x1, h4, e2 _ _ h1, hm1.ts (Same.ts e2), SnV.ts (Same.ts e2) hx1⟩
    · intro d H1 e1 h1
      refine ⟨false, R.xUN, (fun z => nomatch z), fun _ => ⟨false, R.xUK, (fun z => nomatch z), fun _ => ⟨false, R.xUM, (fun z => nomatch z), fun _ => ⟨true, R.eU.xS, fun _ ea na => ?_, fun z => nomatch z⟩⟩⟩⟩
      intro oe pn2 hz2 hf nd2 hot
      have hdx : ∀ d', some d = some d' → H1 d' = some (.xd [(("name" : Str), V.str r.1)]) := fun d' e => by cases e; exact h1
      refine l_cons (s_ret (e_tup (a_cons (e_str (a_cons ?_)))))
      refine e_xf R.eU.xf R.eU.no hz2 hf (e_var ⟨rfl, d, _, V.str r.1, rfl, h1, by simp [List.lookup], ?_⟩)
      refine a_cons (e_callB (x := "isinstance") (by assumption) b_isi (a_cons (e_var (a_cons (e_glob (v := .ref CH) (by exact R.mH) rfl (a_nil ?_))))))
      refine c_isE R.eU.ec hz2 hf hdx (.own _) R.eU.kH ?_
      refine a_nil ⟨by show 3 ≤ sizeLine; decide, fun t H3 e3 _ h3 => ?_⟩
      exact q2 hno t H3 (e1.trans e3) h3
end



section
variable {P : Program} {w : World} {K : PySem.W.Frag} {mg : Str → Option Value} {base : Heap} {CN CK CM CU CH : Addr}
def spRefA : Sp := fun vs H Q _ => ∃ l g ws rs, vs = [.ref l, g] ∧ H l = some (.lst ws) ∧ RowsV H ws rs ∧ Few rs ∧ due [] rs ≠ none ∧ ∀ H', Same H H' → Q (.bl true) H'
theorem ok_refA (T : Top K mg "_law_refused_at_all" s_refused_at_all) (mIs : mg "isinstance" = none) (mLi : mg "list" = none) (R : Errs K mg CN CK CM CU CH) (FM : FnN P w K mg base 3 "make_claim" (spMake K CN CK CM)) : Fn P w K mg base 4 "_law_refused_at_all" spRefA := by
  refine fn_ok T sc_refused_at_all so_refused_at_all (fun vs H Q E h => by obtain ⟨l, g, ws, rs, rfl, _⟩ := h; rfl) (fun _ _ _ _ _ _ us hl => match us, hl with | [_, _], _ => rfl) fun f cdv A outer s H vs Q E hr h nd => ?_
  obtain ⟨l, g, ws, rs, rfl, hl, hrs, hf, hd, q⟩ := h
  refine l_cons (s_tryN (by exact R.mH) takesN0 fun pn xe tk nod' => ?_)
  refine l_cons (s_expr (e_callN (by exact FM) (by exact tk) (by exact hr) (by decide) ?_))
  refine a_cons (e_callTy (x := "list") (by assumption) b_list (a_cons (e_var (a_nil (c_listL hl fun l2 H1 e1 n1 h1 => a_cons (e_var (a_nil ?_)))))))
  refine ⟨.ref l2, g, rs, rfl, SideV.l h1 (rows_ts (Same.ts e1) hrs), hf, fun h => absurd h hd, fun fl _ => ?_⟩
  cases fl with
  | name z =>
    intro d H2 e2 h2
    refine ⟨true, R.eN.xH, fun _ ea na => ?_, fun z => nomatch z⟩
    intro oe pn2 hz2 hf nd2 hot
    have hdx : ∀ d', some d = some d' → H2 d' = some (.xd [(("name" : Str), V.str z)]) := fun d' e => by cases e; exact h2
    refine l_cons (s_ret (e_callB (x := "isinstance") (by assumption) b_isi (a_cons (e_var (a_cons (e_bltn (v := .ty "ValueError") (by exact R.mV) b_ve rfl (a_nil ?_)))))))
    exact c_isE R.eN.ec hz2 hf hdx (.ty _) R.eN.kV (q H2 (e1.trans e2))
  | kind m =>
    intro d H2 v e2 h2 hm
    refine ⟨true, R.eK.xH, fun _ ea na => ?_, fun z => nomatch z⟩
    intro oe pn2 hz2 hf nd2 hot
    have hdx : ∀ d', some d = some d' → H2 d' = some (.xd [(("kind" : Str), v)]) := fun d' e => by cases e; exact h2
    refine l_cons (s_ret (e_callB (x := "isinstance") (by assumption) b_isi (a_cons (e_var (a_cons (e_bltn (v := .ty "ValueError") (by exact R.mV) b_ve rfl (a_nil ?_)))))))
    exact c_isE R.eK.ec hz2 hf hdx (.ty _) R.eK.kV (q H2 (e1.trans e2))
  | taken z =>
    intro d H2 e2 h2
    refine ⟨true, R.eM.xH, fun _ ea na => ?_, fun z => nomatch z⟩
    intro oe pn2 hz2 hf nd2 hot
    have hdx : ∀ d', some d = some d' → H2 d' = some (.xd [(("name" : Str), V.str z)]) := fun d' e => by cases e; exact h2
    refine l_cons (s_ret (e_callB (x := "isinstance") (by assumption) b_isi (a_cons (e_var (a_cons (e_bltn (v := .ty "ValueError") (by exact R.mV) b_ve rfl (a_nil ?_)))))))
    exact c_isE R.eM.ec hz2 hf hdx (.ty _) R.eM.kV (q H2 (e1.trans e2))
/-- all but p and l stays -/
def But2 (p l : Addr) (H H' : Hp) : Prop := ∀ x o, x ≠ p → x ≠ l → H x = some o → H' x = some o
theorem SnOk.of {s : Sn} {d : Nat} (h1 : okS s) (h2 : dep s ≤ d) (h3 : nod s < 2 ^ (d + 1)) (hd : d ≤ 2) : SnOk s := ⟨h1, by omega, Nat.lt_of_lt_of_le h3 (Nat.pow_le_pow_right (by decide) (by omega : d + 1 ≤ 3))⟩
def spHolds : Sp := fun vs H Q _ => ∃ p ln, vs = [.ref p, .ref ln] ∧ PoolAt H p ∧ ln ≠ p ∧ H ln = some (.lst []) ∧
  ∀ (l : Addr) (ws : List V) (gs : List Gd) H', But2 p ln H H' → PoolAt H' p → H' ln = some (.lst (sVs (gs.map (·.1)))) → H l = none → l ≠ p → l ≠ ln → H' l = some (.lst ws) → RowsV H' ws (gs.map toRw) → (∀ g ∈ gs, GdOk g) → (gs.map (·.1)).Nodup → gs.length ≤ 12 → Q (.ref l) H'
theorem ok_holds (T : Top K mg "_law_holds" s_holds) (mR : mg "range" = none) (mL : mg "len" = none) (FX : Fn P w K mg base 1 "_law_next" spNext) (FD : Fn P w K mg base 5 "_law_deep" (spDeep 2)) (FF : Fn P w K mg base 3 "_law_fresh" spFresh) (FM : Fn P w K mg base 2 "_law_mode" spMode) : Fn P w K mg base 6 "_law_holds" spHolds := by
  refine fn_ok T sc_holds so_holds (fun vs H Q E h => by obtain ⟨p, ln, rfl, _⟩ := h; rfl) (fun _ _ _ _ _ _ us hl => match us, hl with | [_, _], _ => rfl) fun f cdv A outer s H vs Q E hr h nd => ?_
  obtain ⟨p, ln, rfl, hp, hlp, hln, q⟩ := h
  refine l_cons (s_set (e_lst (a_nil ⟨by show 0 ≤ sizeLine; decide, fun l H1 e1 n1 h1 => ?_⟩)))
  have nlp := no_pool2 hp n1
  have nll : l ≠ ln := fun e => by subst e; rw [hln] at n1; cases n1
  show wL _ _ _ [some (.ref p), some (.ref ln), some (.ref l), none, none, none] _
  refine l_cons (s_forR (by assumption) (e_call (by exact FX) (by exact hr) (by decide) ?_))
  refine a_cons (e_var (a_cons (e_int (a_nil ⟨p, 13, rfl, by decide, by decide, hp.up e1, fun d H2 d0 d1 b2 p2 => ?_⟩))))
  obtain ⟨n, rfl⟩ := Int.eq_ofNat_of_zero_le d0
  have hn : n ≤ 12 := by omega
  refine ⟨n, rfl, by omega, fun k σ H' => ∃ (ws : List V) (gs : List Gd) (x3 x4 x5 : Option V), σ = [some (.ref p), some (.ref ln), some (.ref l), x3, x4, x5] ∧ PoolAt H' p ∧ H' ln = some (.lst (sVs (gs.map (·.1)))) ∧ H' l = some (.lst ws) ∧ RowsV H' ws (gs.map toRw) ∧ gs.length = k ∧ (∀ g ∈ gs, GdOk g) ∧ (gs.map (·.1)).Nodup ∧ But2 p ln H H',
    ⟨[], [], none, none, none, rfl, p2, b2 _ _ hlp (e1 _ _ hln), b2 _ _ nlp h1, .nil, rfl, by simp, by simp, fun x o hx _ ho => b2 _ _ hx (e1 _ _ ho)⟩, ?_, ?_⟩
  · rintro k σ Ha hk ⟨ws, gs, x3, x4, x5, rfl, pa, hlna, hla, hws, lgs, hgs, hnd, kp⟩
    have lws := hws.length
    rw [List.length_map] at lws
    show wL _ _ _ [some (.ref p), some (.ref ln), some (.ref l), some (.int (k : Int)), x4, x5] _
    refine l_cons (s_set (e_call (by exact FD) (by exact hr) (by decide) ?_))
    refine a_cons (e_var (a_cons (e_int (a_nil ⟨p, 2, rfl, pa, by decide, fun v s Hb bb pb hv hos hd hno => ?_⟩))))
    have hok := SnOk.of hos hd hno (by decide)
    have hlnb := bb _ _ hlp hlna
    have hlb := bb _ _ nlp hla
    have hwsb := rows_ts (pa.ts bb) hws
    have kpb : But2 p ln H Hb := fun x o hx hy ho => bb _ _ hx (kp x o hx hy ho)
    clear hlna hla hws kp hno hd hos
    show wL _ _ _ [some (.ref p), some (.ref ln), some (.ref l), some (.int (k : Int)), some v, x5] _
    refine l_join (fun σ H' => ∃ v s, σ = [some (.ref p), some (.ref ln), some (.ref l), some (.int (k : Int)), some v, x5] ∧ PoolAt H' p ∧ But p Hb H' ∧ SnV H' v s ∧ SnOk s) (fun σ Hc hA => ?_) (fun go => ?_)
    · obtain ⟨v, s, rfl, pc, bc, hv, hok⟩ := hA
      have hlnc := bc _ _ hlp hlnb
      refine l_cons (s_set (e_call (by exact FF) (by exact hr) (by decide) ?_))
      refine a_cons (e_var (a_cons (e_var (a_nil ⟨p, ln, gs.map (·.1), rfl, pc, hlp, hlnc, by rw [List.length_map]; omega, fun z hz => ?_, fun z Hd bd pd hz hzn => ?_⟩))))
      · obtain ⟨g, hg, rfl⟩ := List.mem_map.mp hz
        exact (hgs g hg).1
      show wL _ _ _ [some (.ref p), some (.ref ln), some (.ref l), some (.int (k : Int)), some v, some (.str z)] _
      have hlnd := bd _ _ hlp hlnc
      have hv := SnV.ts (pc.ts bd) hv
      refine l_cons (s_expr (e_app (e_var ⟨ln, _, rfl, SqL.of hlnd, e_var ⟨_, hlnd, by rw [List.length_map, List.length_map]; show _ < 2 ^ 24; omega, ?_⟩⟩)))
      have kde : ∀ x o, x ≠ ln → Hd x = some o → upd Hd ln (.lst (sVs (gs.map (·.1)) ++ [.str z])) x = some o := fun x o hx ho => by rw [upd_ne hx]; exact ho
      have hlne : upd Hd ln (.lst (sVs (gs.map (·.1)) ++ [.str z])) ln = some (.lst (sVs (gs.map (·.1) ++ [z]))) := by rw [upd_same]; simp
      have tse : TS Hd (upd Hd ln (.lst (sVs (gs.map (·.1)) ++ [.str z]))) := TS.upd hlnd
      generalize upd Hd ln (.lst (sVs (gs.map (·.1)) ++ [.str z])) = He at kde hlne tse
      have pe : PoolAt He p := pd.at fun o ho => kde p o hlp.symm ho
      have hle := kde _ _ nll (bd _ _ nlp (bc _ _ nlp hlb))
      refine l_cons (s_expr (e_app (e_var ⟨l, _, rfl, SqL.of hle, e_tup (a_cons (e_var (a_cons (e_call (by exact FM) (by exact hr) (by decide) ?_))))⟩)))
      refine a_cons (e_var (a_nil ⟨p, rfl, pe, fun m kd Hf bf pf hm hkd => a_cons (e_var (a_nil ⟨by show 3 ≤ sizeLine; decide, fun t Hg eg ng hg => ?_⟩))⟩))
      have hlf := eg _ _ (bf _ _ nlp hle)
      refine ⟨ws, hlf, by show _ < 2 ^ 24; omega, ?_⟩
      have tsh : TS Hg (upd Hg l (.lst (ws ++ [.ref t]))) := TS.upd hlf
      have tsef : TS He (upd Hg l (.lst (ws ++ [.ref t]))) := ((pe.ts bf).trans (Same.ts eg)).trans tsh
      have tsbe : TS Hb He := ((show TS Hb Hc from pb.ts bc).trans (pc.ts bd)).trans tse
      refine l_nil ⟨ws ++ [.ref t], gs ++ [(z, kd, s)], _, _, _, rfl, (pf.up eg).at fun o ho => by rw [upd_ne nlp.symm]; exact ho, ?_, upd_same, ?_, by simp [lgs], ?_, ?_, fun x o hx hy ho => ?_⟩
      · rw [upd_ne nll.symm, List.map_append]
        exact eg _ _ (bf _ _ hlp hlne)
      · rw [List.map_append]
        refine each_app (each_one ⟨t, m, v, rfl, tsh _ _ hg, mdV_of (hm.ts ((Same.ts eg).trans tsh)), SnV.ts (tse.trans tsef) hv⟩) (rows_ts (tsbe.trans tsef) hwsb)
      · intro g hg
        rcases List.mem_append.mp hg with h | h
        · exact hgs g h
        · rw [List.mem_singleton.mp h]
          exact ⟨hz, hkd, hok⟩
      · rw [List.map_append, List.nodup_append]
        refine ⟨hnd, by simp, fun a ha b hb => ?_⟩
        have hb : b = z := by simpa using hb
        rw [hb]
        rintro rfl
        exact hzn ha
      · have nxl : x ≠ l := ne_of_none ho n1
        rw [upd_ne nxl]
        exact eg _ _ (bf _ _ hx (kde _ _ hy (bd _ _ hx (bc _ _ hx (kpb x o hx hy ho)))))
    · refine l_cons (s_if (t_w (w_and (t_tru (e_var ⟨_, tru_l hlb, ?_⟩)))))
      cases ws with
      | nil =>
        refine iteF (iteF (l_nil (go _ Hb ⟨v, s, rfl, pb, But.refl, hv, hok⟩)))
      | cons w0 ws =>
        refine iteT (w_and1 (t_cmp (e_call (by exact FX) (by exact hr) (by decide) ?_)))
        refine a_cons (e_var (a_cons (e_int (a_nil ⟨p, 2, rfl, by decide, by decide, pb, fun d Hc d0 d1 bc pc => e_int (o_eqI ⟨_, rfl, ?_⟩)⟩))))
        refine if2 (fun _ => ?_) (fun _ => ?_)
        · refine l_cons (s_set (e_ix (e_ix (e_var (e_call (by exact FX) (by exact hr) (by decide) ?_)))))
          have hlc := bc _ _ nlp hlb
          refine a_cons (e_var (a_cons (e_callB (x := "len") (by assumption) b_len (a_cons (e_var (a_nil (c_lenL (SqL.of hlc) ?_)))))))
          refine a_nil ⟨p, _, rfl, by simp, by simp at lws ⊢; omega, pc, fun d2 Hd e0 e1' bd pd => ?_⟩
          obtain ⟨j, rfl⟩ := Int.eq_ofNat_of_zero_le e0
          have hj : j < (w0 :: ws).length := by omega
          have hld := bd _ _ nlp hlc
          obtain ⟨r, hr', t, m, x, e5, ht, hm, hx⟩ := each_get hwsb (List.getElem?_eq_getElem hj)
          refine ix_l (by exact SqL.of hld) (atI_nat (List.getElem?_eq_getElem hj)) ?_
          rw [e5]
          have tsd := (pb.ts bc).trans (pc.ts bd)
          refine e_int (ix_t (by exact SqT.of (tsd _ _ ht)) at2 (l_nil (go _ Hd ⟨x, r.2.2, rfl, pd, bc.trans bd, SnV.ts tsd hx, ?_⟩)))
          rw [List.getElem?_map] at hr'
          obtain ⟨g, hg, rfl⟩ := Option.map_eq_some_iff.mp hr'
          exact (hgs g (List.mem_of_getElem? hg)).2.2
        · exact l_nil (go _ Hc ⟨v, s, rfl, pc, bc, SnV.ts (pb.ts bc) hv, hok⟩)
  · rintro σ Ha ⟨ws, gs, x3, x4, x5, rfl, pa, hlna, hla, hws, lgs, hgs, hnd, kp⟩
    exact l_cons (s_ret (e_var (q l ws gs Ha kp pa hlna n1 nlp nll hla hws hgs hnd (by omega))))
end



theorem ixN_in {n i : Nat} (h : i < n) : ixN n (i : Int) = some i := by
  unfold ixN
  rw [if_pos (by omega), if_pos (by omega)]
  rfl
section
variable {P : Program} {w : World} {K : PySem.W.Frag} {mg : Str → Option Value} {base : Heap} {CN CK CM CU CH : Addr}
/-- rows, spoilt or not -/
def RwS (r : Rw) : Prop := r.1.length ≤ 20 ∧ MdS r.2.1 ∧ SnOk r.2.2
theorem GdOk.s {g : Gd} (h : GdOk g) : RwS (toRw g) := ⟨by have := h.1.2; show g.1.length ≤ 20; omega, mdS_P _, h.2.2⟩
def oddM : List Md := [.at .non, .at (.int 0), .at (.str "Once"), .at (.str ""), .tup [.int 0, .int 2], .tup [.int 3, .int (-1)], .tup [.int 3], .tup [.int 3, .int 2, .int 1], .tup [.bl true, .int 2], .tup [.int 3, .bl false], .tup [.str "3", .int 2], .tup [.str "once"]]
theorem oddM_s : ∀ m ∈ oddM, MdS m := by
  intro m hm l e
  subst e
  simp only [oddM, List.mem_cons, Md.tup.injEq, reduceCtorEq, false_or, List.not_mem_nil, or_false] at hm
  rcases hm with rfl | rfl | rfl | rfl | rfl | rfl | rfl | rfl <;> simp
def badZ : List Str := ["", "A", "1a", "a_b", "a b", " a", "abcdefghijkl3", "aB", "x-", "once "]
theorem badZ_l : ∀ z ∈ badZ, z.length ≤ 20 := by decide +kernel
def spSpoilt : Sp := fun vs H Q _ => ∃ p l ws rs, vs = [.ref p, .ref l] ∧ PoolAt H p ∧ l ≠ p ∧ H l = some (.lst ws) ∧ RowsV H ws rs ∧ (∀ r ∈ rs, RwS r) ∧ rs.length ≤ 12 ∧
  ∀ (l2 : Addr) (ws2 : List V) (rs2 : List Rw) H', But p H H' → PoolAt H' p → H l2 = none → H' l2 = some (.lst ws2) → RowsV H' ws2 rs2 → (∀ r ∈ rs2, RwS r) → rs2.length = rs.length → Q (.ref l2) H'
theorem ok_spoilt (T : Top K mg "_law_spoilt" s_spoilt) (mR : mg "range" = none) (mL : mg "len" = none) (mLi : mg "list" = none) (FX : Fn P w K mg base 1 "_law_next" spNext) : Fn P w K mg base 2 "_law_spoilt" spSpoilt := by
  refine fn_ok T sc_spoilt so_spoilt (fun vs H Q E h => by obtain ⟨p, l, ws, rs, rfl, _⟩ := h; rfl) (fun _ _ _ _ _ _ us hl => match us, hl with | [_, _], _ => rfl) fun f cdv A outer s H vs Q E hr h nd => ?_
  obtain ⟨p, l, ws, rs, rfl, hp, hlp, hl, hrs, hok, hlen, q⟩ := h
  refine l_cons (s_set (e_callTy (x := "list") (by assumption) b_list (a_cons (e_var (a_nil (c_listL hl fun l2 H1 e1 n1 h1 => ?_))))))
  have np2 := no_pool2 hp n1
  show wL _ _ _ [some (.ref p), some (.ref l), some (.ref l2), none, none, none, none, none, none, none, none] _
  refine l_cons (s_set (e_lst ?_))
  refine a_cons (e_str (a_cons (e_str (a_cons (e_str (a_cons (e_str (a_cons (e_str (a_cons (e_str (a_cons (e_str (a_cons (e_str (a_cons (e_str (a_cons (e_str (a_nil ⟨by show 10 ≤ sizeLine; decide, fun bl H2 e2 n2 h2 => ?_⟩))))))))))))))))))))
  have nbp := no_pool2 (hp.up e1) n2
  have nb2 : bl ≠ l2 := fun e => by subst e; rw [h1] at n2; cases n2
  have h2 : H2 bl = some (.lst (sVs badZ)) := h2
  show wL _ _ _ [some (.ref p), some (.ref l), some (.ref l2), some (.ref bl), none, none, none, none, none, none, none] _
  refine l_cons (s_set (e_lst ?_))
  refine a_cons (e_non (a_cons (e_int (a_cons (e_str (a_cons (e_str ?_)))))))
  refine a_cons (e_tup (a_cons (e_int (a_cons (e_int (a_nil ⟨by show 2 ≤ sizeLine; decide, fun t1 J1 f1 _ g1 => ?_⟩))))))
  refine a_cons (e_tup (a_cons (e_int (a_cons (e_neg (e_int ⟨1, rfl, a_nil ⟨by show 2 ≤ sizeLine; decide, fun t2 J2 f2 _ g2 => ?_⟩⟩))))))
  refine a_cons (e_tup (a_cons (e_int (a_nil ⟨by show 1 ≤ sizeLine; decide, fun t3 J3 f3 _ g3 => ?_⟩))))
  refine a_cons (e_tup (a_cons (e_int (a_cons (e_int (a_cons (e_int (a_nil ⟨by show 3 ≤ sizeLine; decide, fun t4 J4 f4 _ g4 => ?_⟩))))))))
  refine a_cons (e_tup (a_cons (e_bl (a_cons (e_int (a_nil ⟨by show 2 ≤ sizeLine; decide, fun t5 J5 f5 _ g5 => ?_⟩))))))
  refine a_cons (e_tup (a_cons (e_int (a_cons (e_bl (a_nil ⟨by show 2 ≤ sizeLine; decide, fun t6 J6 f6 _ g6 => ?_⟩))))))
  refine a_cons (e_tup (a_cons (e_str (a_cons (e_int (a_nil ⟨by show 2 ≤ sizeLine; decide, fun t7 J7 f7 _ g7 => ?_⟩))))))
  refine a_cons (e_tup (a_cons (e_str (a_nil ⟨by show 1 ≤ sizeLine; decide, fun t8 J8 f8 _ g8 => ?_⟩))))
  refine a_nil ⟨by show 12 ≤ sizeLine; decide, fun ol H3 e3 n3 h3 => ?_⟩
  have e23 : Same H2 J8 := ((((((f1.trans f2).trans f3).trans f4).trans f5).trans f6).trans f7).trans f8
  have nop := no_pool2 ((hp.up (e1.trans e2)).up e23) n3
  have no2 : ol ≠ l2 := fun e => by subst e; rw [e23 _ _ (e2 _ _ h1)] at n3; cases n3
  have e03 : Same H H3 := ((e1.trans e2).trans e23).trans e3
  have hod : ∃ os, H3 ol = some (.lst os) ∧ PySem.W.EachIs (MdV H3) os oddM := by
    refine ⟨_, h3, .cons rfl (.cons rfl (.cons rfl (.cons rfl (.cons ⟨t1, rfl, ?_⟩ (.cons ⟨t2, rfl, ?_⟩ (.cons ⟨t3, rfl, ?_⟩ (.cons ⟨t4, rfl, ?_⟩ (.cons ⟨t5, rfl, ?_⟩ (.cons ⟨t6, rfl, ?_⟩ (.cons ⟨t7, rfl, ?_⟩ (.cons ⟨t8, rfl, ?_⟩ .nil)))))))))))⟩
    · exact e3 _ _ (f8 _ _ (f7 _ _ (f6 _ _ (f5 _ _ (f4 _ _ (f3 _ _ (f2 _ _ g1)))))))
    · exact e3 _ _ (f8 _ _ (f7 _ _ (f6 _ _ (f5 _ _ (f4 _ _ (f3 _ _ g2))))))
    · exact e3 _ _ (f8 _ _ (f7 _ _ (f6 _ _ (f5 _ _ (f4 _ _ g3)))))
    · exact e3 _ _ (f8 _ _ (f7 _ _ (f6 _ _ (f5 _ _ g4))))
    · exact e3 _ _ (f8 _ _ (f7 _ _ (f6 _ _ g5)))
    · exact e3 _ _ (f8 _ _ (f7 _ _ g6))
    · exact e3 _ _ (f8 _ _ g7)
    · exact e3 _ _ g8
  obtain ⟨os, hos, hmd⟩ := hod
  have hbl3 := e3 _ _ (e23 _ _ h2)
  have hl23 := e3 _ _ (e23 _ _ (e2 _ _ h1))
  clear h3 h2 h1 g1 g2 g3 g4 g5 g6 g7 g8 f1 f2 f3 f4 f5 f6 f7 f8 n3
  show wL _ _ _ [some (.ref p), some (.ref l), some (.ref l2), some (.ref bl), some (.ref ol), none, none, none, none, none, none] _
  refine l_cons (s_forR (by assumption) (e_call (by exact FX) (by exact hr) (by decide) ?_))
  refine a_cons (e_var (a_cons (e_int (a_nil ⟨p, 4, rfl, by decide, by decide, hp.up e03, fun d H4 d0 d1 b4 p4 => ?_⟩))))
  obtain ⟨n, rfl⟩ := Int.eq_ofNat_of_zero_le d0
  refine ⟨n, rfl, by omega, fun k σ H' => ∃ (ws2 : List V) (rs2 : List Rw) (x5 x6 x7 x8 x9 x10 : Option V), σ = [some (.ref p), some (.ref l), some (.ref l2), some (.ref bl), some (.ref ol), x5, x6, x7, x8, x9, x10] ∧ PoolAt H' p ∧ H' l2 = some (.lst ws2) ∧ RowsV H' ws2 rs2 ∧ (∀ r ∈ rs2, RwS r) ∧ rs2.length = rs.length ∧ But p H H' ∧ H' bl = some (.lst (sVs badZ)) ∧ H' ol = some (.lst os) ∧ PySem.W.EachIs (MdV H') os oddM,
    ⟨ws, rs, none, none, none, none, none, none, rfl, p4, b4 _ _ np2 hl23, rows_ts ((Same.ts e03).trans ((hp.up e03).ts b4)) hrs, hok, rfl, (But.of e03).trans b4, b4 _ _ nbp hbl3, b4 _ _ nop hos, hmd.mono fun _ _ z => z.ts ((hp.up e03).ts b4)⟩, ?_, ?_⟩
  · rintro k σ Ha hk ⟨ws2, rs2, x5, x6, x7, x8, x9, x10, rfl, pa, hl2, hr2, hok2, hlen2, ba, hbl, hol, hmd⟩
    have lws := hr2.length
    show wL _ _ _ [some (.ref p), some (.ref l), some (.ref l2), some (.ref bl), some (.ref ol), some (.int (k : Int)), x6, x7, x8, x9, x10] _
    refine l_cons (s_if (t_tru (e_var ⟨_, tru_l hl2, ?_⟩)))
    by_cases hne : ws2 = []
    · subst hne
      exact iteF (l_nil (l_nil ⟨[], rs2, _, _, _, _, _, _, rfl, pa, hl2, hr2, hok2, hlen2, ba, hbl, hol, hmd⟩))
    have hpos : 0 < ws2.length := List.length_pos_iff.mpr hne
    refine ite_t (by cases ws2 with | nil => exact absurd rfl hne | cons x xs => rfl) ?_
    refine l_cons (s_set (e_call (by exact FX) (by exact hr) (by decide) ?_))
    refine a_cons (e_var (a_cons (e_callB (x := "len") (by assumption) b_len (a_cons (e_var (a_nil (c_lenL (SqL.of hl2) ?_)))))))
    refine a_nil ⟨p, _, rfl, by omega, by omega, pa, fun d1 Hb d10 d11 bb pb => ?_⟩
    obtain ⟨j, rfl⟩ := Int.eq_ofNat_of_zero_le d10
    have hj : j < ws2.length := by omega
    have hl2b := bb _ _ np2 hl2
    obtain ⟨r, hr', t, m, x, e5, ht, hm, hx⟩ := each_get hr2 (List.getElem?_eq_getElem hj)
    have hrok := hok2 r (List.mem_of_getElem? hr')
    show wL _ _ _ [some (.ref p), some (.ref l), some (.ref l2), some (.ref bl), some (.ref ol), some (.int (k : Int)), some (.int (j : Int)), x7, x8, x9, x10] _
    refine l_cons (s_set (e_ix (e_var (e_var (ix_l (by exact SqL.of hl2b) (atI_nat (List.getElem?_eq_getElem hj)) ?_)))))
    rw [e5]
    show wL _ _ _ [some (.ref p), some (.ref l), some (.ref l2), some (.ref bl), some (.ref ol), some (.int (k : Int)), some (.int (j : Int)), some (.ref t), x8, x9, x10] _
    refine l_cons (s_set (e_call (by exact FX) (by exact hr) (by decide) ?_))
    refine a_cons (e_var (a_cons (e_int (a_nil ⟨p, 5, rfl, by decide, by decide, pb, fun d2 Hc d20 d21 bc pc => ?_⟩))))
    have bac := bb.trans bc
    have tsac : TS Ha Hc := (pa.ts bb).trans (pb.ts bc)
    have htc := tsac _ _ ht
    show wL _ _ _ [some (.ref p), some (.ref l), some (.ref l2), some (.ref bl), some (.ref ol), some (.int (k : Int)), some (.int (j : Int)), some (.ref t), some (.int d2), x9, x10] _
    refine l_cons (s_set (e_ix (e_var (e_int (ix_t (by exact SqT.of htc) at0 ?_)))))
    refine l_cons (s_set (e_ix (e_var (e_int (ix_t (by exact SqT.of htc) at1 ?_)))))
    show wL _ _ _ [some (.ref p), some (.ref l), some (.ref l2), some (.ref bl), some (.ref ol), some (.int (k : Int)), some (.int (j : Int)), some (.ref t), some (.int d2), some (.str r.1), some m] _
    -- the name
    refine l_join (fun σ H' => ∃ z : Str, σ = [some (.ref p), some (.ref l), some (.ref l2), some (.ref bl), some (.ref ol), some (.int (k : Int)), some (.int (j : Int)), some (.ref t), some (.int d2), some (.str z), some m] ∧ PoolAt H' p ∧ But p Ha H' ∧ z.length ≤ 20) (fun σ Hd hA => ?_) (fun go => ?_)
    · obtain ⟨z, rfl, pd, bd, hz⟩ := hA
      refine l_join (fun σ H' => ∃ z : Str, σ = [some (.ref p), some (.ref l), some (.ref l2), some (.ref bl), some (.ref ol), some (.int (k : Int)), some (.int (j : Int)), some (.ref t), some (.int d2), some (.str z), some m] ∧ PoolAt H' p ∧ But p Ha H' ∧ z.length ≤ 20) (fun σ He hA => ?_) (fun go => ?_)
      · obtain ⟨z, rfl, pe, be, hz⟩ := hA
        refine l_join (fun σ H' => ∃ (v : V) (md : Md), σ = [some (.ref p), some (.ref l), some (.ref l2), some (.ref bl), some (.ref ol), some (.int (k : Int)), some (.int (j : Int)), some (.ref t), some (.int d2), some (.str z), some v] ∧ PoolAt H' p ∧ But p Ha H' ∧ MdV H' v md ∧ MdS md) (fun σ Hf hA => ?_) (fun go => ?_)
        · obtain ⟨v, md, rfl, pf, bf, hv, hms⟩ := hA
          have tsf : TS Ha Hf := pa.ts bf
          refine l_cons (s_sub (e_tup (a_cons (e_var (a_cons (e_var (a_cons (e_ix (e_var (e_int (ix_t (by exact SqT.of (tsf _ _ ht)) at2 ?_)))))))))))
          refine a_nil ⟨by show 3 ≤ sizeLine; decide, fun tn Hg eg ng hg => e_var (e_var ?_)⟩
          have hl2g := eg _ _ (bf _ _ np2 hl2)
          refine set_l hl2g (ixN_in hj) ?_
          have tsg : TS Hg (upd Hg l2 (.lst (ws2.set j (.ref tn)))) := TS.upd hl2g
          have tsag := (tsf.trans (Same.ts eg)).trans tsg
          refine l_nil (l_nil ⟨ws2.set j (.ref tn), rs2.set j (z, md, r.2.2), _, _, _, _, _, _, rfl, (pf.up eg).at fun o ho => by rw [upd_ne np2.symm]; exact ho, upd_same, each_set ⟨tn, v, x, rfl, tsg _ _ hg, hv.ts ((Same.ts eg).trans tsg), SnV.ts tsag hx⟩ j (rows_ts tsag hr2), fun y hy => ?_, by rw [List.length_set]; exact hlen2, fun b o hb ho => ?_, ?_, ?_, hmd.mono fun _ _ z => z.ts tsag⟩)
          · rcases List.mem_or_eq_of_mem_set hy with h | h
            · exact hok2 y h
            · rw [h]
              exact ⟨hz, hms, hrok.2.2⟩
          · rw [upd_ne (ne_of_none ho n1)]
            exact eg _ _ (bf _ _ hb (ba _ _ hb ho))
          · rw [upd_ne nb2]
            exact eg _ _ (bf _ _ nbp hbl)
          · rw [upd_ne no2]
            exact eg _ _ (bf _ _ nop hol)
        · refine l_cons (s_if (t_cmp (e_var (e_tup (a_cons (e_int (a_cons (e_int (a_cons (e_int (a_nil ⟨by show 3 ≤ sizeLine; decide, fun ti Hf ef _ hf => ?_⟩)))))))))))
          have bf := be.trans (But.of ef)
          refine o_inT (SqT.of hf) rfl rfl ⟨_, rfl, ?_⟩
          cases inV (.int d2) [.int 1, .int 2, .int 4] with
          | false => exact iteF (l_nil (go _ Hf ⟨m, r.2.1, rfl, pe.up ef, bf, hm.ts (pa.ts bf), hrok.2.1⟩))
          | true =>
            refine iteT (l_cons (s_set (e_ix (e_var (e_call (by exact FX) (by exact hr) (by decide) ?_)))))
            refine a_cons (e_var (a_cons (e_int (a_nil ⟨p, 12, rfl, by decide, by decide, pe.up ef, fun d3 Hg d30 d31 bg pg => ?_⟩))))
            obtain ⟨i, rfl⟩ := Int.eq_ofNat_of_zero_le d30
            have bag := bf.trans bg
            have los : os.length = 12 := hmd.length
            have hi : i < os.length := by omega
            obtain ⟨md, h5, h6⟩ := each_get hmd (List.getElem?_eq_getElem hi)
            exact ix_l (by exact SqL.of (bag _ _ nop hol)) (atI_nat (List.getElem?_eq_getElem hi)) (l_nil (go _ Hg ⟨_, md, rfl, pg, bag, h6.ts (pa.ts bag), oddM_s md (List.mem_of_getElem? h5)⟩))
      · refine l_cons (s_if (t_cmp (e_var (e_int (o_gt ⟨_, rfl, ?_⟩)))))
        refine if2 (fun _ => ?_) (fun _ => l_nil (go _ Hd ⟨z, rfl, pd, bd, hz⟩))
        refine l_cons (s_set (e_ix (e_ix (e_var (e_call (by exact FX) (by exact hr) (by decide) ?_)))))
        have hl2d := bd _ _ np2 hl2
        refine a_cons (e_var (a_cons (e_callB (x := "len") (by assumption) b_len (a_cons (e_var (a_nil (c_lenL (SqL.of hl2d) ?_)))))))
        refine a_nil ⟨p, _, rfl, by omega, by omega, pd, fun d3 He d30 d31 be pe => ?_⟩
        obtain ⟨i, rfl⟩ := Int.eq_ofNat_of_zero_le d30
        have hi : i < ws2.length := by omega
        have bae := bd.trans be
        obtain ⟨r', h7, t', m', x', e7, ht', _, _⟩ := each_get hr2 (List.getElem?_eq_getElem hi)
        refine ix_l (by exact SqL.of (bae _ _ np2 hl2)) (atI_nat (List.getElem?_eq_getElem hi)) ?_
        rw [e7]
        exact e_int (ix_t (by exact SqT.of (pa.ts bae _ _ ht')) at0 (l_nil (go _ He ⟨r'.1, rfl, pe, bae, (hok2 r' (List.mem_of_getElem? h7)).1⟩)))
    · refine l_cons (s_if (t_cmp (e_var (e_tup (a_cons (e_int (a_cons (e_int (a_nil ⟨by show 2 ≤ sizeLine; decide, fun ti Hf ef _ hf => ?_⟩)))))))))
      have bf := bac.trans (But.of ef)
      refine o_inT (SqT.of hf) rfl rfl ⟨_, rfl, ?_⟩
      cases inV (.int d2) [.int 0, .int 2] with
      | false => exact iteF (l_nil (go _ Hf ⟨r.1, rfl, pc.up ef, bf, hrok.1⟩))
      | true =>
        refine iteT (l_cons (s_set (e_ix (e_var (e_call (by exact FX) (by exact hr) (by decide) ?_)))))
        refine a_cons (e_var (a_cons (e_int (a_nil ⟨p, 10, rfl, by decide, by decide, pc.up ef, fun d3 Hg d30 d31 bg pg => ?_⟩))))
        obtain ⟨z, hz, hat⟩ := sVs_at (ns := badZ) d30 (by show d3 < 10; exact d31)
        have bag := bf.trans bg
        exact ix_l (by exact SqL.of (bag _ _ nbp hbl)) hat (l_nil (go _ Hg ⟨z, rfl, pg, bag, badZ_l z hz⟩))
  · rintro σ Ha ⟨ws2, rs2, x5, x6, x7, x8, x9, x10, rfl, pa, hl2, hr2, hok2, hlen2, ba, hbl, hol, hmd⟩
    exact l_cons (s_ret (e_var (q l2 ws2 rs2 Ha ba pa n1 hl2 hr2 hok2 hlen2)))
end



theorem cutV_hi (xs : List V) (j : Nat) : cutV xs none (some (j : Int)) = xs.take j := by
  unfold cutV
  rw [HT.sIx_nat, HT.sIx_none]
  show ((xs.drop 0).take (min j xs.length - 0)) = _
  rw [List.drop_zero, Nat.sub_zero]
  by_cases h : j ≤ xs.length
  · rw [Nat.min_eq_left h]
  · rw [Nat.min_eq_right (by omega), List.take_length, List.take_of_length_le (by omega)]
theorem cutV_lo (xs : List V) (j : Nat) : cutV xs (some (j : Int)) none = xs.drop j := by
  unfold cutV
  rw [HT.sIx_nat, HT.sIx_none]
  show ((xs.drop (min j xs.length)).take (xs.length - min j xs.length)) = _
  by_cases h : j ≤ xs.length
  · rw [Nat.min_eq_left h, List.take_of_length_le (by simp)]
  · rw [Nat.min_eq_right (by omega), Nat.sub_self, List.take_zero, List.drop_eq_nil_of_le (by omega)]
theorem e_slHi {X : Cx} {e b : Expr} {σ : L2.St} {H : Hp} {Q : VK} {pos p2 : Pos} (q : wE X e σ H fun x H1 => wE X b σ H1 fun y H2 => ∃ (j : Nat) (l : Addr) (xs : List V), y = .int j ∧ x = .ref l ∧ H2 l = some (.lst xs) ∧ ∀ p H3, Same H2 H3 → H2 p = none → H3 p = some (.lst (xs.take j)) → Q (.ref p) H3) : wE X (.Subscript e (.Slice none (some b) none p2) pos) σ H Q := by
  refine e_slL1 sl_list (e_mono q fun x H1 z => e_mono z fun y H2 z2 => ?_)
  obtain ⟨j, l, xs, rfl, rfl, hl, q3⟩ := z2
  refine ⟨_, rfl, l, xs, rfl, SqL.of hl, fun p np => ?_⟩
  rw [cutV_hi]
  exact q3 p _ (fun c u hc => by rw [upd_ne (ne_of_none hc np)]; exact hc) np upd_same
theorem e_slLo {X : Cx} {e b : Expr} {σ : L2.St} {H : Hp} {Q : VK} {pos p2 : Pos} (q : wE X e σ H fun x H1 => wE X b σ H1 fun y H2 => ∃ (j : Nat) (l : Addr) (xs : List V), y = .int j ∧ x = .ref l ∧ H2 l = some (.lst xs) ∧ ∀ p H3, Same H2 H3 → H2 p = none → H3 p = some (.lst (xs.drop j)) → Q (.ref p) H3) : wE X (.Subscript e (.Slice (some b) none none p2) pos) σ H Q := by
  refine e_slL0 sl_list (e_mono q fun x H1 z => e_mono z fun y H2 z2 => ?_)
  obtain ⟨j, l, xs, rfl, rfl, hl, q3⟩ := z2
  refine ⟨_, rfl, l, xs, rfl, SqL.of hl, fun p np => ?_⟩
  rw [cutV_lo]
  exact q3 p _ (fun c u hc => by rw [upd_ne (ne_of_none hc np)]; exact hc) np upd_same
theorem o_cat2 {X : Cx} {H : Hp} {Q : VK} {l b : Addr} {xs zs : List V} (h1 : H l = some (.lst xs)) (h2 : H b = some (.lst zs)) (hz : xs.length + zs.length ≤ 200000) (q : ∀ p H2, Same H H2 → H p = none → H2 p = some (.lst (xs ++ zs)) → Q (.ref p) H2) : wB X .Add (.ref l) (.ref b) H Q :=
  b_of op_cat ⟨l, b, xs, zs, rfl, rfl, h1, h2, by show _ ≤ 2 ^ 24; omega, fun p np => q p _ (fun c u eo => by rw [upd_ne (ne_of_none eo np)]; exact eo) np upd_same⟩
theorem eqv_flt {K : PySem.W.Frag} {H : Hp} {t t' : Addr} {f : Flt} (h1 : FltV H t f) (h2 : FltV H t' f) (hm : ∀ m, f = .kind m → MdS m) : Eqv K H 8 (.ref t) (.ref t') := by
  cases f with
  | name z => exact eqv_3 7 h1 h2 (eqv_str _ _) (eqv_str _ _) (eqv_bl _ _)
  | taken z => exact eqv_3 7 h1 h2 (eqv_str _ _) (eqv_str _ _) (eqv_bl _ _)
  | kind m =>
    obtain ⟨v, h1, m1⟩ := h1
    obtain ⟨v', h2, m2⟩ := h2
    exact eqv_3 7 h1 h2 (eqv_str _ _) (eqv_md 6 m1 m2 (hm m rfl)) (eqv_bl _ _)
theorem eqv_res {K : PySem.W.Frag} {H : Hp} {t t' : Addr} {rs : List Rw} {s : Sn} {o : Option Flt} (h1 : ResC H t rs s o) (h2 : ResC H t' rs s o) (hc : RwC rs) (hd : dep s ≤ 2) (hm : ∀ m, o = some (.kind m) → MdS m) : Eqv K H 8 (.ref t) (.ref t') := by
  cases o with
  | some f => exact eqv_flt h1 h2 fun m e => hm m (by rw [e])
  | none =>
    obtain ⟨c, h1, c1⟩ := h1
    obtain ⟨c', h2, c2⟩ := h2
    exact eqv_3 7 h1 h2 (eqv_str _ _) (eqv_cl c1 c2 hc hd) (eqv_bl _ _)
theorem rwc_of {rs : List Rw} (h : ∀ r ∈ rs, RwS r) (hl : rs.length ≤ 100) : RwC rs := ⟨hl, fun r hr => ⟨(h r hr).2.2.2.1, (h r hr).2.1⟩⟩
theorem few_of {rs : List Rw} (h : ∀ r ∈ rs, RwS r) (hl : rs.length ≤ 50) : Few rs := ⟨hl, fun r hr => (h r hr).1⟩
theorem due_s {rs : List Rw} (h : ∀ r ∈ rs, RwS r) : ∀ m, due [] rs = some (.kind m) → MdS m := fun m e => by
  obtain ⟨r, hr, e⟩ := due_md e
  rw [← e]
  exact (h r hr).2.1
theorem rws_of {gs : List Gd} (h : ∀ g ∈ gs, GdOk g) : ∀ r ∈ gs.map toRw, RwS r := fun r hr => by
  obtain ⟨g, hg, rfl⟩ := List.mem_map.mp hr
  exact (h g hg).s
theorem no_bad {gs : List Gd} (h : ∀ g ∈ gs, GdOk g) {z : Str} (hz : nameB (cs z) = false) : NoNm z (gs.map toRw) := fun r hr => by
  obtain ⟨g, hg, rfl⟩ := List.mem_map.mp hr
  intro e
  have h1 : nameB (cs g.1) = true := (h g hg).1.1
  have h2 : g.1 = z := e
  rw [h2, hz] at h1
  cases h1
theorem bad_sp (z : Str) : nameB (cs (z ++ Str.ofString " ")) = false := by
  have e : cs (z ++ Str.ofString " ") = cs z ++ [32] := by rw [cs_app]; congr 1
  rw [e]
  unfold nameB
  have : ((cs z ++ [32]).all fun c => let1 c || dig1 c) = false := by
    rw [List.all_append]
    have : ([32].all fun c => let1 c || dig1 c) = false := by decide
    rw [this, Bool.and_false]
  rw [this, Bool.and_false, Bool.and_false]
theorem nodup_rest : ∀ {rs : List Rw} {k : Nat} {r : Rw}, rs[k]? = some r → (rs.map (·.1)).Nodup → (rs.filter fun x => !decide (x.1 = r.1)) = rs.take k ++ rs.drop (k + 1) ∧ NoNm r.1 (rs.take k)
  | [], k, r, h, _ => by simp at h
  | x :: rs, 0, r, h, nd => by
    cases h
    rw [List.map_cons, List.nodup_cons] at nd
    have hno : NoNm x.1 rs := fun y hy e => nd.1 (List.mem_map.mpr ⟨y, hy, e⟩)
    refine ⟨?_, fun y hy => by cases hy⟩
    rw [List.filter_cons, decide_eq_true rfl]
    show rs.filter _ = _
    rw [filter_all hno]
    rfl
  | x :: rs, k + 1, r, h, nd => by
    rw [List.map_cons, List.nodup_cons] at nd
    have h' : rs[k]? = some r := h
    obtain ⟨e1, e2⟩ := nodup_rest h' nd.2
    have hne : ¬ x.1 = r.1 := fun e => nd.1 (List.mem_map.mpr ⟨r, List.mem_of_getElem? h', e.symm⟩)
    refine ⟨?_, fun y hy => ?_⟩
    · rw [List.filter_cons, decide_eq_false hne]
      show x :: rs.filter _ = _
      rw [e1]
      rfl
    · rcases List.mem_cons.mp (show y ∈ x :: rs.take k from hy) with h | h
      · rw [h]; exact hne
      · exact e2 y h
section
variable {P : Program} {w : World} {K : PySem.W.Frag} {mg : Str → Option Value} {base : Heap} {CN CK CM CU CH : Addr}
theorem told_unk {H : Hp} {Q : VK} {v row : V} {gs : List Gd} {s : Sn} {r : Rw} {wh : Str} (hw : wh = "hold" ∨ wh = "without") (hc : ClV H v (gs.map toRw) s) (hl : gs.length ≤ 50) (hrow : RowV H row r) (hno : NoNm r.1 (gs.map toRw))
    (q : ∀ t H', Same H H' → H' t = some (.tup [.str "UnknownName", .str r.1, .bl true]) → Q (.ref t) H') : spTold K [.str wh, v, row] H Q E0 := by
  rcases hw with rfl | rfl
  · exact .inr (.inr (.inr ⟨v, row, _, s, r, rfl, hc, hrow, by rw [List.length_map]; exact hl, fun n x hx _ he => absurd he (hno x (List.mem_of_getElem? hx)), fun _ => q⟩))
  · exact .inr (.inr (.inl ⟨v, row, _, s, r, rfl, hc, hrow, by rw [List.length_map]; exact hl, fun h => absurd hno h, fun _ => q⟩))
def spNamed : Sp := fun vs H Q _ => ∃ (p l : Addr) (g : V) (fr : Str) (ws : List V) (gs : List Gd) (s : Sn), vs = [.ref p, .ref l, g, .str fr] ∧ PoolAt H p ∧ l ≠ p ∧ H l = some (.lst ws) ∧ RowsV H ws (gs.map toRw) ∧ (∀ x ∈ gs, GdOk x) ∧ (gs.map (·.1)).Nodup ∧ gs.length ≤ 12 ∧ SnV H g s ∧ SnOk s ∧ okN fr ∧ fr ∉ gs.map (·.1) ∧
  ∀ H', But p H H' → PoolAt H' p → Q (.bl true) H'
theorem ok_named (T : Top K mg "_law_named" s_named) (mR : mg "range" = none) (mL : mg "len" = none) (mT : mg "tuple" = none) (FX : Fn P w K mg base 1 "_law_next" spNext) (FS : Fn P w K mg base 9 "_law_same" (spEqv K 8)) (FT : Fn P w K mg base 6 "_law_told" (spTold K)) (FM : Fn P w K mg base 2 "_law_mode" spMode) (FD : Fn P w K mg base 5 "_law_deep" (spDeep 2)) (FU : Fn P w K mg base 2 "_law_due" spDue) : Fn P w K mg base 10 "_law_named" spNamed := by
  refine fn_ok T sc_named so_named (fun vs H Q E h => by obtain ⟨p, l, g, fr, ws, gs, s, rfl, _⟩ := h; rfl) (fun _ _ _ _ _ _ us hl => match us, hl with | [_, _, _, _], _ => rfl) fun f cdv A outer s H vs Q E hr h nd => ?_
  obtain ⟨p, l, g, fr, ws, gs, s, rfl, hp, hlp, hl, hrs, hgs, hnd, hlen, hg, hs, hfr, hfn, q⟩ := h
  have lws := hrs.length
  rw [List.length_map] at lws
  have hrws := rws_of hgs
  have hrn : ((gs.map toRw).map (·.1)).Nodup := by rw [List.map_map]; exact hnd
  refine l_cons (s_set (e_tup (a_cons (e_callTy (x := "tuple") (by assumption) b_tuple (a_cons (e_var (a_nil (c_tupL (SqL.of hl) fun tv H1 e1 _ h1 => ?_))))))))
  refine a_cons (e_var (a_nil ⟨by show 2 ≤ sizeLine; decide, fun tc H2 e2 _ h2 => ?_⟩))
  have e02 := e1.trans e2
  have hcl : ClV H2 (.ref tc) (gs.map toRw) s := ⟨tc, tv, g, ws, rfl, h2, e2 _ _ h1, rows_ts (Same.ts e02) hrs, SnV.ts (Same.ts e02) hg⟩
  have p2 := hp.up e02
  show wL _ _ _ [some (.ref p), some (.ref l), some g, some (.str fr), some (.ref tc), none, none, none, none, none, none, none] _
  refine l_cons (s_forR (by assumption) (e_callB (x := "len") (by assumption) b_len (a_cons (e_var (a_nil (c_lenL (SqL.of (e02 _ _ hl)) ?_))))))
  refine ⟨ws.length, rfl, by omega, fun k σ H' => ∃ x5 x6 x7, σ = [some (.ref p), some (.ref l), some g, some (.str fr), some (.ref tc), x5, x6, x7, none, none, none, none] ∧ Same H2 H', ⟨none, none, none, rfl, Same.refl _⟩, ?_, ?_⟩
  · rintro k σ Ha hk ⟨x5, x6, x7, rfl, ea⟩
    have e0a := e02.trans ea
    have hwk := List.getElem?_eq_getElem hk
    obtain ⟨r, hr', t, m, x, e5, ht, hm, hx⟩ := each_get hrs hwk
    have hrow : RowV Ha (.ref t) r := ⟨t, m, x, rfl, e0a _ _ ht, hm.ts (Same.ts e0a), SnV.ts (Same.ts e0a) hx⟩
    have hra := hrws r (List.mem_of_getElem? hr')
    obtain ⟨nr1, nr2⟩ := nodup_rest hr' hrn
    have hin : ¬ NoNm r.1 (gs.map toRw) := fun h => h r (List.mem_of_getElem? hr') rfl
    show wL _ _ _ [some (.ref p), some (.ref l), some g, some (.str fr), some (.ref tc), some (.int (k : Int)), x6, x7, none, none, none, none] _
    refine l_cons (s_set (e_ix (e_var (e_var (ix_l (by exact SqL.of (e0a _ _ hl)) (atI_nat hwk) ?_)))))
    rw [e5]
    show wL _ _ _ [some (.ref p), some (.ref l), some g, some (.str fr), some (.ref tc), some (.int (k : Int)), some (.ref t), x7, none, none, none, none] _
    refine l_cons (s_set (e_tup (a_cons (e_callTy (x := "tuple") (by assumption) b_tuple (a_cons (e_bin (e_slHi (e_var (e_var ⟨k, l, ws, rfl, rfl, e0a _ _ hl, fun pa Hb eb _ hb => ?_⟩))))))))) 
    refine e_slLo (e_var (e_bin (e_var (e_int (o_add ⟨k + 1, l, ws, by show V.int ((k : Int) + 1) = V.int ((k + 1 : Nat) : Int); rw [show ((k : Int) + 1) = ((k + 1 : Nat) : Int) by omega], rfl, eb _ _ (e0a _ _ hl), fun pb Hc ec _ hc => ?_⟩)))))
    refine o_cat2 (ec _ _ hb) hc (by rw [List.length_take, List.length_drop]; omega) fun pc Hd ed _ hd => a_nil (c_tupL (SqL.of hd) fun tr He ee _ he => ?_)
    refine a_cons (e_var (a_nil ⟨by show 2 ≤ sizeLine; decide, fun te Hf ef _ hf => ?_⟩))
    have eaf : Same Ha Hf := (((eb.trans ec).trans ed).trans ee).trans ef
    have e0f := e0a.trans eaf
    have hrest : ClV Hf (.ref te) ((gs.map toRw).filter fun x => !decide (x.1 = r.1)) s := by
      rw [nr1]
      exact ⟨te, tr, g, _, rfl, hf, ef _ _ he, each_app (each_drop (k + 1) (rows_ts (Same.ts e0f) hrs)) (each_take k (rows_ts (Same.ts e0f) hrs)), SnV.ts (Same.ts e0f) hg⟩
    have hclf := hcl.ts (Same.ts (ea.trans eaf))
    have hrowf := hrow.ts (Same.ts eaf)
    clear hb hc hd he hf
    show wL _ _ _ [some (.ref p), some (.ref l), some g, some (.str fr), some (.ref tc), some (.int (k : Int)), some (.ref t), some (.ref te), none, none, none, none] _
    refine l_cons (s_if (t_not (t_val (e_call (by exact FS) (by exact hr) (by decide) ?_))))
    refine a_cons (e_call (by exact FT) (by exact hr) (by decide) ?_)
    refine a_cons (e_str (a_cons (e_var (a_cons (e_var (a_nil ?_))))))
    refine .inr (.inr (.inr ⟨.ref tc, .ref t, gs.map toRw, s, r, rfl, hclf, hrowf, by rw [List.length_map]; omega, fun n y hy hny hey t1 Hg eg hg1 => ?_, fun h => absurd h hin⟩))
    have hyr : y = r := by
      by_cases hkn : n = k
      · subst hkn; rw [hr'] at hy; cases hy; rfl
      · rcases Nat.lt_or_gt_of_ne hkn with h | h
        · have := nr2 y (List.mem_of_getElem? (by rw [List.getElem?_take, if_pos h]; exact hy))
          exact absurd hey this
        · have := hny r (List.mem_of_getElem? (i := k) (by rw [List.getElem?_take, if_pos h]; exact hr'))
          exact absurd rfl this
    subst hyr
    obtain ⟨tp1, m1, x1, hg1, hg2, hg3, hg4⟩ := hg1
    obtain ⟨_, m2, x2, hh, ht2, hm2, hx2⟩ := hrowf.ts (Same.ts eg)
    cases hh
    refine a_cons (e_tup (a_cons (e_str (a_cons (e_tup ?_)))))
    refine a_cons (e_ix (e_var (e_int (ix_t (by exact SqT.of ht2) at1 ?_))))
    refine a_cons (e_ix (e_var (e_int (ix_t (by exact SqT.of ht2) at2 (a_nil ⟨by show 2 ≤ sizeLine; decide, fun t2 Hh eh _ hh2 => ?_⟩)))))
    refine a_cons (e_bl (a_nil ⟨by show 3 ≤ sizeLine; decide, fun t3 Hi ei _ hi3 => a_nil ?_⟩))
    have egi := eh.trans ei
    refine ⟨.ref t1, .ref t3, rfl, eqv_3 7 (egi _ _ hg1) hi3 (eqv_str _ _) (eqv_2 6 (egi _ _ hg2) (ei _ _ hh2) (eqv_md 5 (hg3.ts (Same.ts egi)) (hm2.ts (Same.ts egi)) hra.2.1) (eqv_sn (n := 4) (SnV.ts (Same.ts egi) hg4) (SnV.ts (Same.ts egi) hx2) (by have : dep y.2.2 ≤ 2 := hra.2.2.2.1; omega))) (eqv_bl _ _), ?_⟩
    refine ⟨_, rfl, ite_f rfl (l_nil ?_)⟩
    have efi := eg.trans egi
    refine l_cons (s_if (t_not (t_val (e_call (by exact FS) (by exact hr) (by decide) ?_))))
    refine a_cons (e_call (by exact FT) (by exact hr) (by decide) ?_)
    refine a_cons (e_str (a_cons (e_var (a_cons (e_var (a_nil ?_))))))
    refine .inr (.inr (.inl ⟨.ref tc, .ref t, gs.map toRw, s, y, rfl, hclf.ts (Same.ts efi), hrowf.ts (Same.ts efi), by rw [List.length_map]; omega, fun _ t4 Hj ej hj => ?_, fun h => absurd h hin⟩))
    refine a_cons (e_tup (a_cons (e_str (a_cons (e_var (a_cons (e_bl (a_nil ⟨by show 3 ≤ sizeLine; decide, fun t5 Hk ek _ hk5 => a_nil ?_⟩))))))))
    refine ⟨.ref t4, .ref t5, rfl, eqv_res (o := none) (hj.ts (Same.ts ek)) ⟨.ref te, hk5, hrest.ts (Same.ts ((efi.trans ej).trans ek))⟩ (rwc_of (fun z hz => hrws z (List.mem_filter.mp hz).1) ?_) hs.2.1 (fun m h => by cases h), ?_⟩
    · have := List.length_filter_le (fun x : Rw => !decide (x.1 = y.1)) (gs.map toRw)
      rw [List.length_map] at this
      omega
    exact ⟨_, rfl, ite_f rfl (l_nil (l_nil ⟨_, _, _, rfl, ea.trans (eaf.trans ((efi.trans ej).trans ek))⟩))⟩
  rintro σ Ha ⟨x5, x6, x7, rfl, ea⟩
  have hcl := hcl.ts (Same.ts ea)
  have pa := p2.up ea
  have e0a := e02.trans ea
  have hla := e0a _ _ hl
  have hrsa := rows_ts (Same.ts e0a) hrs
  have hga := SnV.ts (Same.ts e0a) hg
  have ba : But p H Ha := But.of e0a
  clear h1 h2
  refine l_cons (s_set (e_tup (a_cons (e_var (a_cons (e_call (by exact FM) (by exact hr) (by decide) ?_))))))
  refine a_cons (e_var (a_nil ⟨p, rfl, pa, fun m kd Hb bb pb hm hkd => ?_⟩))
  refine a_cons (e_call (by exact FD) (by exact hr) (by decide) ?_)
  refine a_cons (e_var (a_cons (e_int (a_nil ⟨p, 2, rfl, pb, by decide, fun v sn Hc bc pc hv hos hd hno => ?_⟩))))
  have hsn := SnOk.of hos hd hno (by decide)
  refine a_nil ⟨by show 3 ≤ sizeLine; decide, fun tr Hd ed _ htr => ?_⟩
  have pd := pc.up ed
  have bad : But p Ha Hd := (bb.trans bc).trans (But.of ed)
  have tsad : TS Ha Hd := ((pa.ts bb).trans (pb.ts bc)).trans (Same.ts ed)
  have hmd := mdV_of (hm.ts ((pb.ts bc).trans (Same.ts ed)))
  have hvd := SnV.ts (Same.ts ed) hv
  have hcl := hcl.ts tsad
  have hld := bad _ _ hlp hla
  have hrsd := rows_ts tsad hrsa
  have hgd := SnV.ts tsad hga
  have bd := ba.trans bad
  clear hla hrsa hga hm hv hos hd hno
  show wL _ _ _ [some (.ref p), some (.ref l), some g, some (.str fr), some (.ref tc), x5, some (.ref tr), x7, none, none, none, none] _
  refine l_cons (s_forL (e_lst ?_))
  refine a_cons (e_str (a_cons (e_str (a_nil ⟨by show 2 ≤ sizeLine; decide, fun wl He ee _ hwl => ?_⟩))))
  refine ⟨wl, _, rfl, SqL.of hwl, fun k σ H' => ∃ x8 x9, σ = [some (.ref p), some (.ref l), some g, some (.str fr), some (.ref tc), x5, some (.ref tr), x7, x8, x9, none, none] ∧ Same He H', ⟨none, none, rfl, Same.refl _⟩, ?_, ?_, ?_⟩
  · rintro k σ H' _ ⟨_, _, rfl, e⟩
    exact SqL.of (e _ _ hwl)
  · rintro k u σ Hf hu ⟨x8, x9, rfl, ef⟩
    obtain ⟨wh, rfl, hwh⟩ : ∃ wh : Str, u = .str wh ∧ (wh = "hold" ∨ wh = "without") := by
      match k, hu with
      | 0, hu => cases hu; exact ⟨_, rfl, .inl rfl⟩
      | 1, hu => cases hu; exact ⟨_, rfl, .inr rfl⟩
    show wL _ _ _ [some (.ref p), some (.ref l), some g, some (.str fr), some (.ref tc), x5, some (.ref tr), x7, some (.str wh), x9, none, none] _
    refine l_cons (s_forL (e_lst ?_))
    refine a_cons (e_var (a_cons (e_str (a_cons (e_bin (e_var (e_str (o_addS (x := fr) (y := Str.ofString " ") (by have := hfr.2; have e1 : (Str.ofString " ").length = 1 := (by decide +kernel); omega) ?_))))))))
    refine a_cons (e_str (a_nil ⟨by show 4 ≤ sizeLine; decide, fun nl Hg eg _ hnl => ?_⟩))
    refine ⟨nl, _, rfl, SqL.of hnl, fun k σ H' => ∃ x9, σ = [some (.ref p), some (.ref l), some g, some (.str fr), some (.ref tc), x5, some (.ref tr), x7, some (.str wh), x9, none, none] ∧ Same Hg H', ⟨x9, rfl, Same.refl _⟩, ?_, ?_, ?_⟩
    · rintro k σ H' _ ⟨_, rfl, e⟩
      exact SqL.of (e _ _ hnl)
    · rintro k u σ Hh hu ⟨x9, rfl, eh⟩
      obtain ⟨z, rfl, hz⟩ : ∃ z : Str, u = .str z ∧ NoNm z (gs.map toRw) := by
        match k, hu with
        | 0, hu =>
          cases hu
          refine ⟨_, rfl, fun r hr' e => hfn ?_⟩
          obtain ⟨x, hx, rfl⟩ := List.mem_map.mp hr'
          exact List.mem_map.mpr ⟨x, hx, e⟩
        | 1, hu => cases hu; exact ⟨_, rfl, no_bad hgs (by decide +kernel)⟩
        | 2, hu => cases hu; exact ⟨_, rfl, no_bad hgs (bad_sp fr)⟩
        | 3, hu => cases hu; exact ⟨_, rfl, no_bad hgs (by decide +kernel)⟩
      have edh := ((ee.trans ef).trans eg).trans eh
      have htrh := edh _ _ htr
      show wL _ _ _ [some (.ref p), some (.ref l), some g, some (.str fr), some (.ref tc), x5, some (.ref tr), x7, some (.str wh), some (.str z), none, none] _
      refine l_cons (s_if (t_not (t_val (e_call (by exact FS) (by exact hr) (by decide) ?_))))
      refine a_cons (e_call (by exact FT) (by exact hr) (by decide) ?_)
      refine a_cons (e_var (a_cons (e_var (a_cons (e_tup (a_cons (e_var ?_)))))))
      refine a_cons (e_ix (e_var (e_int (ix_t (by exact SqT.of htrh) at1 ?_))))
      refine a_cons (e_ix (e_var (e_int (ix_t (by exact SqT.of htrh) at2 (a_nil ⟨by show 3 ≤ sizeLine; decide, fun tq Hi ei _ hi => a_nil ?_⟩)))))
      have edi := edh.trans ei
      refine told_unk hwh (hcl.ts (Same.ts edi)) (by omega) (r := (z, mdP kd, sn)) ⟨tq, m, v, rfl, hi, hmd.ts (Same.ts edi), SnV.ts (Same.ts edi) hvd⟩ hz fun t1 Hj ej hj => ?_
      refine a_cons (e_tup (a_cons (e_str (a_cons (e_var (a_cons (e_bl (a_nil ⟨by show 3 ≤ sizeLine; decide, fun t5 Hk ek _ hk5 => a_nil ?_⟩))))))))
      refine ⟨.ref t1, .ref t5, rfl, eqv_3 7 (ek _ _ hj) hk5 (eqv_str _ _) (eqv_str _ _) (eqv_bl _ _), ?_⟩
      exact ⟨_, rfl, ite_f rfl (l_nil (l_nil ⟨_, rfl, ((eh.trans ei).trans ej).trans ek⟩))⟩
    · rintro σ Hh ⟨x9, rfl, eh⟩
      exact l_nil ⟨_, _, rfl, (ef.trans eg).trans eh⟩
  rintro σ Hf ⟨x8, x9, rfl, ef⟩
  have edf := ee.trans ef
  have pf := pd.up edf
  have hcl := hcl.ts (Same.ts edf)
  have hlf := edf _ _ hld
  have htrf := edf _ _ htr
  have hrsf := rows_ts (Same.ts edf) hrsd
  have hgf := SnV.ts (Same.ts edf) hgd
  have hmf := hmd.ts (Same.ts edf)
  have hvf := SnV.ts (Same.ts edf) hvd
  have bf := bd.trans (But.of edf)
  clear hwl hld htr hrsd hgd hmd hvd
  refine l_cons (s_if (t_cmp (e_callB (x := "len") (by assumption) b_len (a_cons (e_var (a_nil (c_lenL (SqL.of hlf) (e_int (o_gt ⟨_, rfl, ?_⟩)))))))))
  refine if2 (fun _ => l_cons (s_ret (e_bl (q Hf bf pf)))) (fun h11 => l_nil ?_)
  have hlen11 : gs.length ≤ 11 := by omega
  have hr0 : RwS (fr, mdP kd, sn) := ⟨by show fr.length ≤ 20; have := hfr.2; omega, mdS_P kd, hsn⟩
  have lfr : fr.length ≤ 12 := hfr.2
  refine l_cons (s_set (e_lst ?_))
  refine a_cons (e_var (a_cons (e_tup (a_cons (e_str (a_cons (e_non ?_)))))))
  refine a_cons (e_ix (e_var (e_int (ix_t (by exact SqT.of htrf) at2 (a_nil ⟨by show 3 ≤ sizeLine; decide, fun t1 J1 f1 _ g1 => ?_⟩)))))
  refine a_cons (e_tup (a_cons (e_var (a_cons (e_tup ?_)))))
  refine a_cons (e_int (a_cons (e_int (a_nil ⟨by show 2 ≤ sizeLine; decide, fun t0 J2 f2 _ g2 => ?_⟩))))
  refine a_cons (e_ix (e_var (e_int (ix_t (by exact SqT.of (f2 _ _ (f1 _ _ htrf))) at2 (a_nil ⟨by show 3 ≤ sizeLine; decide, fun t2 J3 f3 _ g3 => ?_⟩)))))
  refine a_nil ⟨by show 3 ≤ sizeLine; decide, fun ml J4 f4 _ g4 => ?_⟩
  have ff : Same Hf J4 := ((f1.trans f2).trans f3).trans f4
  have hmore : RowsV J4 [.ref tr, .ref t1, .ref t2] [(fr, mdP kd, sn), ("A", .at .non, sn), (fr, .tup [.int 0, .int 0], sn)] :=
    .cons ⟨tr, m, v, rfl, ff _ _ htrf, hmf.ts (Same.ts ff), SnV.ts (Same.ts ff) hvf⟩ (.cons ⟨t1, .non, v, rfl, f4 _ _ (f3 _ _ (f2 _ _ g1)), rfl, SnV.ts (Same.ts ff) hvf⟩ (.cons ⟨t2, .ref t0, v, rfl, f4 _ _ g3, ⟨t0, rfl, f4 _ _ (f3 _ _ g2)⟩, SnV.ts (Same.ts ff) hvf⟩ .nil))
  have hmok : ∀ r ∈ [(fr, mdP kd, sn), ("A", .at .non, sn), (fr, .tup [.int 0, .int 0], sn)], RwS r := by
    intro r hr
    simp only [List.mem_cons, List.not_mem_nil, or_false] at hr
    rcases hr with rfl | rfl | rfl
    · exact hr0
    · exact ⟨by show (Str.ofString "A").length ≤ 20; decide +kernel, fun l h => (by cases h), hsn⟩
    · exact ⟨by show fr.length ≤ 20; omega, fun l h => (by cases h; show 2 ≤ 100; decide), hsn⟩
  have pJ := pf.up ff
  have bJ := bf.trans (But.of ff)
  have hcl := hcl.ts (Same.ts ff)
  have hlJ := ff _ _ hlf
  have htrJ := ff _ _ htrf
  have hrsJ := rows_ts (Same.ts ff) hrsf
  have hgJ := SnV.ts (Same.ts ff) hgf
  have hmJ := hmf.ts (Same.ts ff)
  have hvJ := SnV.ts (Same.ts ff) hvf
  clear hlf htrf hrsf hgf hmf hvf g1 g2 g3 ff f1 f2 f3 f4
  show wL _ _ _ [some (.ref p), some (.ref l), some g, some (.str fr), some (.ref tc), x5, some (.ref tr), x7, x8, x9, some (.ref ml), none] _
  refine l_join (fun σ H' => ∃ (x9 : Option V) (ml : Addr) (ms : List V) (mrs : List Rw), σ = [some (.ref p), some (.ref l), some g, some (.str fr), some (.ref tc), x5, some (.ref tr), x7, x8, x9, some (.ref ml), none] ∧ PoolAt H' p ∧ But p J4 H' ∧ H' ml = some (.lst ms) ∧ RowsV H' ms mrs ∧ (∀ r ∈ mrs, RwS r)) (fun σ Hg hA => ?_) (fun go => ?_)
  · obtain ⟨x9, ml, ms, mrs, rfl, pg, bg, hml, hmr, hmo⟩ := hA
    have tsg := pJ.ts bg
    refine l_cons (s_forL (e_var ?_))
    refine ⟨ml, ms, rfl, SqL.of hml, fun k σ H' => ∃ x11, σ = [some (.ref p), some (.ref l), some g, some (.str fr), some (.ref tc), x5, some (.ref tr), x7, x8, x9, some (.ref ml), x11] ∧ Same Hg H', ⟨none, rfl, Same.refl _⟩, ?_, ?_, ?_⟩
    · rintro k σ H' _ ⟨_, rfl, e⟩
      exact SqL.of (e _ _ hml)
    · rintro k u σ Hh hu ⟨x11, rfl, eh⟩
      obtain ⟨r, hr', hrow⟩ := each_get hmr hu
      have hro := hmo r (List.mem_of_getElem? hr')
      have hrh := hrow.ts (Same.ts eh)
      have hlh := eh _ _ (bg _ _ hlp hlJ)
      have tsh := tsg.trans (Same.ts eh)
      have hall : ∀ y ∈ gs.map toRw ++ [r], RwS y := fun y hy => by
        rcases List.mem_append.mp hy with h | h
        · exact hrws y h
        · rw [List.mem_singleton.mp h]; exact hro
      have hl2 : (gs.map toRw ++ [r]).length ≤ 12 := by rw [List.length_append, List.length_map]; show gs.length + 1 ≤ 12; omega
      show wL _ _ _ [some (.ref p), some (.ref l), some g, some (.str fr), some (.ref tc), x5, some (.ref tr), x7, x8, x9, some (.ref ml), some u] _
      refine l_cons (s_if (t_not (t_val (e_call (by exact FS) (by exact hr) (by decide) ?_))))
      refine a_cons (e_call (by exact FT) (by exact hr) (by decide) ?_)
      refine a_cons (e_str (a_cons (e_var (a_cons (e_var (a_nil ?_))))))
      refine .inr (.inl ⟨.ref tc, u, gs.map toRw, s, r, rfl, hcl.ts tsh, hrh, few_of hall (by omega), fun t1 Hi ei hi => ?_⟩)
      refine a_cons (e_call (by exact FU) (by exact hr) (by decide) ?_)
      refine a_cons (e_bin (e_var (e_lst (a_cons (e_var (a_nil ⟨by show 1 ≤ sizeLine; decide, fun sl Hj ej _ hj => ?_⟩))))))
      refine o_cat2 (ej _ _ (ei _ _ hlh)) hj (by rw [lws]; simp; omega) fun cl Hk ek _ hk => a_cons (e_var (a_nil ?_))
      have ehk := (ei.trans ej).trans ek
      have tsk := tsh.trans (Same.ts ehk)
      refine ⟨cl, g, ws ++ [u], gs.map toRw ++ [r], s, rfl, hk, each_app (each_one (hrh.ts (Same.ts ehk))) (rows_ts tsk hrsJ), few_of hall (by omega), fun y hy => (hall y hy).2.1, SnV.ts tsk hgJ, fun t2 Hm em hm2 => a_nil ?_⟩
      refine ⟨.ref t1, .ref t2, rfl, eqv_res (hi.ts (Same.ts ((ej.trans ek).trans em))) hm2 (rwc_of hall (by omega)) hs.2.1 (due_s hall), ?_⟩
      exact ⟨_, rfl, ite_f rfl (l_nil (l_nil ⟨_, rfl, (eh.trans ehk).trans em⟩))⟩
    · rintro σ Hh ⟨x11, rfl, eh⟩
      exact l_cons (s_ret (e_bl (q Hh (bJ.trans (bg.trans (But.of eh))) (pg.up eh))))
  · refine l_cons (s_if (t_tru (e_var ⟨_, tru_l hlJ, ?_⟩)))
    by_cases hne : ws = []
    · subst hne
      exact iteF (l_nil (go _ J4 ⟨x9, ml, _, _, rfl, pJ, But.refl, g4, hmore, hmok⟩))
    have hpos : 0 < ws.length := List.length_pos_iff.mpr hne
    refine ite_t (by cases ws with | nil => exact absurd rfl hne | cons x xs => rfl) ?_
    refine l_cons (s_set (e_ix (e_ix (e_var (e_call (by exact FX) (by exact hr) (by decide) ?_)))))
    refine a_cons (e_var (a_cons (e_callB (x := "len") (by assumption) b_len (a_cons (e_var (a_nil (c_lenL (SqL.of hlJ) ?_)))))))
    refine a_nil ⟨p, _, rfl, by omega, by omega, pJ, fun d3 Hg d30 d31 bg pg => ?_⟩
    obtain ⟨i, rfl⟩ := Int.eq_ofNat_of_zero_le d30
    have hi : i < ws.length := by omega
    have tsg := pJ.ts bg
    have hlg := bg _ _ hlp hlJ
    obtain ⟨r3, h3, t3, m3, x3, e3, ht3, _, _⟩ := each_get hrsJ (List.getElem?_eq_getElem hi)
    refine ix_l (by exact SqL.of hlg) (atI_nat (List.getElem?_eq_getElem hi)) ?_
    rw [e3]
    refine e_int (ix_t (by exact SqT.of (tsg _ _ ht3)) at0 ?_)
    have hr3 := hrws r3 (List.mem_of_getElem? h3)
    show wL _ _ _ [some (.ref p), some (.ref l), some g, some (.str fr), some (.ref tc), x5, some (.ref tr), x7, x8, some (.str r3.1), some (.ref ml), none] _
    obtain ⟨w1, wz, ew⟩ : ∃ w1 wz, ws = w1 ++ [wz] := ⟨ws.dropLast, ws.getLast hne, (List.dropLast_concat_getLast hne).symm⟩
    have hz' : ws[w1.length]? = some wz := by rw [ew]; simp
    obtain ⟨r4, h4, t4, m4, x4, e4, ht4, _, _⟩ := each_get hrsJ hz'
    obtain ⟨r6, h6, t6, m6, x6, e6, ht6, _, _⟩ := each_get hrsJ (List.getElem?_eq_getElem hpos)
    have hr4 := hrws r4 (List.mem_of_getElem? h4)
    have hr6 : r6.1.length ≤ 12 := by
      have := List.mem_of_getElem? h6
      obtain ⟨g6, hg6, rfl⟩ := List.mem_map.mp this
      exact (hgs g6 hg6).1.2
    have htrg := tsg _ _ htrJ
    refine l_cons (s_set (e_bin (e_var (e_lst (a_cons (e_tup ?_))))))
    refine a_cons (e_ix (e_ix (e_var (e_neg (e_int ⟨1, rfl, ix_l (by exact SqL.of hlg) (by rw [ew]; exact atI_last w1 wz) ?_⟩)))))
    rw [e4]
    refine e_int (ix_t (by exact SqT.of (tsg _ _ ht4)) at0 ?_)
    refine a_cons (e_tup (a_cons (e_int (a_cons (e_neg (e_int ⟨1, rfl, a_nil ⟨by show 2 ≤ sizeLine; decide, fun t0 J5 f5 _ g5 => ?_⟩⟩))))))
    refine a_cons (e_ix (e_var (e_int (ix_t (by exact SqT.of (f5 _ _ htrg)) at2 (a_nil ⟨by show 3 ≤ sizeLine; decide, fun s1 J6 f6 _ g6 => ?_⟩)))))
    have htr6 := f6 _ _ (f5 _ _ htrg)
    refine a_cons (e_tup (a_cons (e_var ?_)))
    refine a_cons (e_ix (e_var (e_int (ix_t (by exact SqT.of htr6) at1 ?_))))
    refine a_cons (e_ix (e_var (e_int (ix_t (by exact SqT.of htr6) at2 (a_nil ⟨by show 3 ≤ sizeLine; decide, fun s2 J7 f7 _ g7 => ?_⟩)))))
    have f57 := (f5.trans f6).trans f7
    refine a_cons (e_tup (a_cons (e_bin (e_ix (e_ix (e_var (e_int (ix_l (by exact SqL.of (f57 _ _ hlg)) (atI_nat (List.getElem?_eq_getElem hpos)) ?_))))))))
    rw [e6]
    refine e_int (ix_t (by exact SqT.of (f57 _ _ (tsg _ _ ht6))) at0 (e_str (o_addS (x := r6.1) (y := Str.ofString " ") (by have e1 : (Str.ofString " ").length = 1 := (by decide +kernel); omega) ?_)))
    refine a_cons (e_str (a_cons (e_var (a_nil ⟨by show 3 ≤ sizeLine; decide, fun s3 J8 f8 _ g8 => a_nil ⟨by show 3 ≤ sizeLine; decide, fun sl J9 f9 _ g9 => ?_⟩⟩))))
    have f59 := (f57.trans f8).trans f9
    refine o_cat2 (f59 _ _ (bg _ _ ?_ g4)) g9 (by show 3 + 3 ≤ 200000; decide) fun mm Ja fa _ ga => l_nil ?_
    · exact fun e => by subst e; obtain ⟨a, b, c, h⟩ := pJ; rw [h] at g4; injection g4 with g4; injection g4 with g4; injection g4 with g4 _; cases g4
    have f5a := f59.trans fa
    have tsa := tsg.trans (Same.ts f5a)
    refine go _ Ja ⟨_, mm, _, [(fr, mdP kd, sn), ("A", .at .non, sn), (fr, .tup [.int 0, .int 0], sn)] ++ [(r4.1, .tup [.int 1, .int (-1)], sn), (r3.1, mdP kd, sn), (r6.1 ++ Str.ofString " ", .at (.str "once"), s)], rfl, pg.up f5a, bg.trans (But.of f5a), ga, each_app ?_ (rows_ts tsa hmore), fun y hy => ?_⟩
    · refine .cons ⟨s1, .ref t0, v, rfl, fa _ _ (f9 _ _ (f8 _ _ (f7 _ _ g6))), ⟨t0, rfl, fa _ _ (f9 _ _ (f8 _ _ (f7 _ _ (f6 _ _ g5))))⟩, SnV.ts tsa hvJ⟩ (.cons ⟨s2, m, v, rfl, fa _ _ (f9 _ _ (f8 _ _ g7)), hmJ.ts tsa, SnV.ts tsa hvJ⟩ (.cons ⟨s3, .str "once", g, rfl, fa _ _ (f9 _ _ g8), rfl, SnV.ts tsa hgJ⟩ .nil))
    · rcases List.mem_append.mp hy with h | h
      · exact hmok y h
      · simp only [List.mem_cons, List.not_mem_nil, or_false] at h
        rcases h with rfl | rfl | rfl
        · exact ⟨hr4.1, fun l h => (by cases h; show 2 ≤ 100; decide), hsn⟩
        · exact ⟨hr3.1, mdS_P kd, hsn⟩
        · exact ⟨by show (r6.1 ++ Str.ofString " ").length ≤ 20; rw [app_len]; have e1 : (Str.ofString " ").length = 1 := (by decide +kernel); omega, fun l h => (by cases h), hs⟩
end



theorem pr_of {gs : List Gd} (h : ∀ g ∈ gs, GdOk g) : ∀ p ∈ (gs.map (·.2)).mergeSort leP, PrOk p := fun p hp => by
  have := (List.mergeSort_perm (gs.map (·.2)) leP).mem_iff.mp hp
  obtain ⟨g, hg, rfl⟩ := List.mem_map.mp this
  exact (h g hg).2
theorem each_pm {α β : Type} {R : α → β → Prop} {vs : List α} {xs : List β} (h : PySem.W.EachIs R vs xs) : ∀ j : Nat, PySem.W.EachIs R (vs.drop j ++ vs.take j) (xs.drop j ++ xs.take j) := fun j => each_app (each_take j h) (each_drop j h)
section
variable {P : Program} {w : World} {K : PySem.W.Frag} {mg : Str → Option Value} {base : Heap} {CN CK CM CU CH : Addr}
def spBTold : Sp := fun vs H Q _ => ∃ (p l : Addr) (g : V) (ws : List V) (gs : List Gd) (s : Sn), vs = [.ref p, .ref l, g] ∧ PoolAt H p ∧ l ≠ p ∧ H l = some (.lst ws) ∧ RowsV H ws (gs.map toRw) ∧ (∀ x ∈ gs, GdOk x) ∧ gs.length ≤ 12 ∧ SnV H g s ∧ SnOk s ∧
  ∀ H', But p H H' → PoolAt H' p → Q (.bl true) H'
theorem ok_btold (T : Top K mg "_law_bare_told" s_bare_told) (mS : mg "sorted" = none) (mT : mg "tuple" = none) (mLi : mg "list" = none) (mRv : mg "reversed" = none) (FK : Fn P w K mg base 5 "_law_key" spKey) (FS : Fn P w K mg base 9 "_law_same" (spEqv K 8)) (FB : Fn P w K mg base 8 "bare_claim" spBare) (FX : Fn P w K mg base 1 "_law_next" spNext) (FF : Fn P w K mg base 3 "_law_fresh" spFresh) : Fn P w K mg base 10 "_law_bare_told" spBTold := by
  refine fn_ok T sc_bare_told so_bare_told (fun vs H Q E h => by obtain ⟨p, l, g, ws, gs, s, rfl, _⟩ := h; rfl) (fun _ _ _ _ _ _ us hl => match us, hl with | [_, _, _], _ => rfl) fun f cdv A outer s H vs Q E hr h nd => ?_
  obtain ⟨p, l, g, ws, gs, s, rfl, hp, hlp, hl, hrs, hgs, hlen, hg, hs, q⟩ := h
  have lws := hrs.length
  rw [List.length_map] at lws
  refine l_cons (s_set ?_)
  refine e_sortF (by assumption) (by exact FK) (fun f fd ps h => key_one h) (by exact hr) (by decide) (e_lcL (by exact bk_bare_told0) (e_var ⟨l, ws, rfl, SqL.of hl, fun D nD => ?_⟩))
  refine ⟨fun k H' => ∃ ys, H' D = some (.lst ys) ∧ PySem.W.EachIs (PairV H') ys ((gs.take k).map (·.2)) ∧ Same H H', ⟨[], upd_same, .nil, fun b o hb => by rw [upd_ne (ne_of_none hb nD)]; exact hb⟩, fun k H' _ ⟨_, _, _, e⟩ => SqL.of (e _ _ hl), ?_, ?_⟩
  · rintro k u H2 hu ⟨ys, hD, hys, e2⟩ s0 H0 C cl fp I0
    obtain ⟨r, hr', t, m, x, rfl, ht, hm, hx⟩ := each_get hrs hu
    rw [List.getElem?_map] at hr'
    obtain ⟨gd, hgd, rfl⟩ := Option.map_eq_some_iff.mp hr'
    have hlt : k < gs.length := (List.getElem?_eq_some_iff.mp hgd).1
    have lys := hys.length
    rw [List.length_map, List.length_take] at lys
    have ht2 := e2 _ _ ht
    refine e_tup (a_cons (e_ix (b_var (e_int (ix_t (by exact SqT.of ht2) at1 ?_)))))
    refine a_cons (e_ix (b_var (e_int (ix_t (by exact SqT.of ht2) at2 (a_nil ⟨by show 2 ≤ sizeLine; decide, fun tp H3 e3 n3 h3 => ?_⟩)))))
    refine ⟨ys, e3 _ _ hD, by show _ < 2 ^ 24; omega, ?_⟩
    have ts : TS H3 (upd H3 D (.lst (ys ++ [.ref tp]))) := TS.upd (e3 _ _ hD)
    have tsA := (Same.ts (e2.trans e3)).trans ts
    refine ⟨ys ++ [.ref tp], upd_same, ?_, fun b o hb => by rw [upd_ne (ne_of_none hb nD)]; exact e3 _ _ (e2 _ _ hb)⟩
    rw [take_snc hgd, List.map_append]
    exact each_app (each_one ⟨tp, m, x, rfl, ts _ _ h3, modeV_of (hm.ts tsA), SnV.ts tsA hx⟩) (pairs_ts ((Same.ts e3).trans ts) hys)
  rintro H2 ⟨ys, hD, hys, e2⟩
  rw [lws, List.take_length] at hys
  refine ⟨D, ys, kf H2, rfl, SqL.of hD, fun x hx H3 e3 => ?_, fun sp H3 e3 n3 h3 => ?_⟩
  · obtain ⟨pr, hp, hxp⟩ := hys.left x hx
    have hxok : PrOk pr := by
      obtain ⟨gd, hgd, rfl⟩ := List.mem_map.mp hp
      exact (hgs gd hgd).2
    exact ⟨x, pr, rfl, hxp.ts (Same.ts e3), hxok, fun w H' e kv => ⟨e, by rw [kf_eq hxp]; exact kv⟩⟩
  have hso := pairs_ts (Same.ts e3) (sorted_each hys)
  have e03 := e2.trans e3
  generalize hps : (gs.map (·.2)).mergeSort leP = ps at hso
  generalize ys.mergeSort (leK (kf H2)) = zs at h3 hso
  clear hys hD
  show wL _ _ _ [some (.ref p), some (.ref l), some g, none, some (.ref sp), none, none, none, none, none, none] _
  refine l_cons (s_set (e_tup (a_cons (e_callTy (x := "tuple") (by assumption) b_tuple (a_cons (e_var (a_nil (c_tupL (SqL.of h3) fun tv H4 e4 _ h4 => ?_))))))))
  refine a_cons (e_var (a_nil ⟨by show 2 ≤ sizeLine; decide, fun td H5 e5 _ h5 => ?_⟩))
  have e05 := (e03.trans e4).trans e5
  have hdue : BcV H5 (.ref td) ps s := ⟨td, tv, g, zs, rfl, h5, e5 _ _ h4, pairs_ts (Same.ts (e4.trans e5)) hso, SnV.ts (Same.ts e05) hg⟩
  have hpok : ∀ x ∈ ps, PrOk x := by rw [← hps]; exact pr_of hgs
  have hplen : ps.length ≤ 100 := by rw [← hps, List.length_mergeSort, List.length_map]; omega
  have p5 := hp.up e05
  have hl5 := e05 _ _ hl
  have hrs5 := rows_ts (Same.ts e05) hrs
  have hg5 := SnV.ts (Same.ts e05) hg
  have b5 : But p H H5 := But.of e05
  clear h5 h4 h3 hso
  show wL _ _ _ [some (.ref p), some (.ref l), some g, none, some (.ref sp), some (.ref td), none, none, none, none, none] _
  refine l_cons (s_if (t_not (t_val (e_call (by exact FS) (by exact hr) (by decide) ?_))))
  refine a_cons (e_call (by exact FB) (by exact hr) (by decide) ?_)
  refine a_cons (e_tup (a_cons (e_callTy (x := "tuple") (by assumption) b_tuple (a_cons (e_var (a_nil (c_tupL (SqL.of hl5) fun tw H6 e6 _ h6 => ?_)))))))
  refine a_cons (e_var (a_nil ⟨by show 2 ≤ sizeLine; decide, fun tc H7 e7 _ h7 => a_nil ?_⟩))
  have e57 := e6.trans e7
  refine ⟨.ref tc, gs, s, rfl, ⟨tc, tw, g, ws, rfl, h7, e7 _ _ h6, rows_ts (Same.ts e57) hrs5, SnV.ts (Same.ts e57) hg5⟩, hgs, by omega, fun v' H8 e8 h8 => ?_⟩
  rw [hps] at h8
  have e58 := e57.trans e8
  refine a_cons (e_var (a_nil ⟨v', .ref td, rfl, (eqv_bc (K := K) h8 (hdue.ts (Same.ts e58)) hpok hplen hs.2.1).up, ?_⟩))
  refine ⟨_, rfl, ite_f rfl (l_nil ?_)⟩
  have p8 := p5.up e58
  have hl8 := e58 _ _ hl5
  have hrs8 := rows_ts (Same.ts e58) hrs5
  have hg8 := SnV.ts (Same.ts e58) hg5
  have hdue := hdue.ts (Same.ts e58)
  have b8 := b5.trans (But.of e58)
  clear h6 h7 h8 hl5 hrs5 hg5
  refine l_cons (s_set (e_call (by exact FX) (by exact hr) (by decide) ?_))
  refine a_cons (e_var (a_cons (e_int (a_nil ⟨p, 13, rfl, by decide, by decide, p8, fun d Ha d0 d1 ba pa => ?_⟩))))
  obtain ⟨j, rfl⟩ := Int.eq_ofNat_of_zero_le d0
  have tsa := p8.ts ba
  have hla := ba _ _ hlp hl8
  have hrsa := rows_ts tsa hrs8
  have hga := SnV.ts tsa hg8
  have hdue := hdue.ts tsa
  have b0a := b8.trans ba
  clear hl8 hrs8 hg8
  show wL _ _ _ [some (.ref p), some (.ref l), some g, none, some (.ref sp), some (.ref td), some (.int (j : Int)), none, none, none, none] _
  refine l_cons (s_set (e_bin (e_callTy (x := "list") (by assumption) b_list (a_cons (e_slLo (e_var (e_var ⟨j, l, ws, rfl, rfl, hla, fun q1 Hb eb _ hb => a_nil ?_⟩)))))))
  refine c_listL hb fun q2 Hc ec nc hc => ?_
  refine e_callTy (x := "list") (by assumption) b_list (a_cons (e_slHi (e_var (e_var ⟨j, l, ws, rfl, rfl, ec _ _ (eb _ _ hla), fun q3 Hd ed _ hd => a_nil ?_⟩))))
  refine c_listL hd fun q4 He ee ne he => ?_
  refine o_cat2 (ee _ _ (ed _ _ hc)) he (by rw [List.length_drop, List.length_take]; omega) fun tl Hf ef nf hf => ?_
  have eaf := (((eb.trans ec).trans ed).trans ee).trans ef
  have hrot : RowsV Hf (ws.drop j ++ ws.take j) ((gs.drop j ++ gs.take j).map toRw) := by
    rw [List.map_append, List.map_drop, List.map_take]
    exact each_pm (rows_ts (Same.ts eaf) hrsa) j
  have hperm : (gs.drop j ++ gs.take j).Perm gs := by
    have := (List.perm_append_comm (l₁ := gs.drop j) (l₂ := gs.take j))
    rw [List.take_append_drop] at this
    exact this
  have pf := pa.up eaf
  have hlf := eaf _ _ hla
  have hrsf := rows_ts (Same.ts eaf) hrsa
  have hgf := SnV.ts (Same.ts eaf) hga
  have hdue := hdue.ts (Same.ts eaf)
  have b0f := b0a.trans (But.of eaf)
  generalize hus : ws.drop j ++ ws.take j = us at hf hrot
  generalize hqs : gs.drop j ++ gs.take j = qs at hrot hperm
  have ntp := no_pool2 ((((pa.up eb).up ec).up ed).up ee) nf
  clear hb hc hd he hla hrsa hga hus hqs
  show wL _ _ _ [some (.ref p), some (.ref l), some g, none, some (.ref sp), some (.ref td), some (.int (j : Int)), some (.ref tl), none, none, none] _
  refine l_join (fun σ H' => ∃ (tl : Addr) (us : List V) (qs : List Gd), σ = [some (.ref p), some (.ref l), some g, none, some (.ref sp), some (.ref td), some (.int (j : Int)), some (.ref tl), none, none, none] ∧ PoolAt H' p ∧ But p Hf H' ∧ H' tl = some (.lst us) ∧ tl ≠ p ∧ RowsV H' us (qs.map toRw) ∧ qs.Perm gs) (fun σ Hg hA => ?_) (fun go => ?_)
  · obtain ⟨tl, us, qs, rfl, pg, bg, htl, ntp, hus, hqp⟩ := hA
    have hqs : ∀ x ∈ qs, GdOk x := fun x hx => hgs x (hqp.mem_iff.mp hx)
    have lqs := hqp.length_eq
    have lus := hus.length
    rw [List.length_map] at lus
    have tsg := pf.ts bg
    have hlg := bg _ _ hlp hlf
    have hrsg := rows_ts tsg hrsf
    have hgg := SnV.ts tsg hgf
    have hdue := hdue.ts tsg
    have b0g := b0f.trans bg
    clear hlf hrsf hgf
    refine l_cons (s_set (e_lst (a_nil ⟨by show 0 ≤ sizeLine; decide, fun nl Hh eh nh hh => ?_⟩)))
    have nnp := no_pool2 pg nh
    refine l_cons (s_set (e_lst (a_nil ⟨by show 0 ≤ sizeLine; decide, fun ol Hi ei ni hi => ?_⟩)))
    have nop := no_pool2 (pg.up eh) ni
    have non : ol ≠ nl := fun e => by subst e; rw [hh] at ni; cases ni
    have hh := ei _ _ hh
    have ni' : Hg ol = none := none_of eh ni
    have egi := eh.trans ei
    show wL _ _ _ [some (.ref p), some (.ref l), some g, none, some (.ref sp), some (.ref td), some (.int (j : Int)), some (.ref tl), some (.ref nl), some (.ref ol), none] _
    refine l_cons (s_forL (e_var ?_))
    refine ⟨tl, us, rfl, SqL.of (egi _ _ htl), fun k σ H' => ∃ (zs : List Str) (os : List V) (ms : List Gd) (x3 x10 : Option V), σ = [some (.ref p), some (.ref l), some g, x3, some (.ref sp), some (.ref td), some (.int (j : Int)), some (.ref tl), some (.ref nl), some (.ref ol), x10] ∧ PoolAt H' p ∧ But p Hg H' ∧ H' nl = some (.lst (sVs zs)) ∧ zs.length = k ∧ (∀ z ∈ zs, okN z) ∧ H' ol = some (.lst os) ∧ RowsV H' os (ms.map toRw) ∧ ms.map (·.2) = (qs.take k).map (·.2) ∧ (∀ x ∈ ms, GdOk x),
      ⟨[], [], [], none, none, rfl, pg.up egi, But.of egi, hh, rfl, by simp, hi, .nil, rfl, by simp⟩, ?_, ?_, ?_⟩
    · rintro k σ H' _ ⟨_, _, _, _, _, rfl, _, b, _⟩
      exact SqL.of (b _ _ ntp htl)
    · rintro k u σ Ha hu ⟨zs, os, ms, x3, x10, rfl, pa, ba, hnl, lzs, hzs, hol, hos, hms, hmo⟩
      obtain ⟨r, hr', t, m, x, rfl, ht, hm, hx⟩ := each_get hus hu
      rw [List.getElem?_map] at hr'
      obtain ⟨gd, hgd, rfl⟩ := Option.map_eq_some_iff.mp hr'
      have hklt : k < us.length := (List.getElem?_eq_some_iff.mp hu).1
      have los := hos.length
      have lms := congrArg List.length hms
      simp only [List.length_map, List.length_take] at los lms
      show wL _ _ _ [some (.ref p), some (.ref l), some g, some (.ref t), some (.ref sp), some (.ref td), some (.int (j : Int)), some (.ref tl), some (.ref nl), some (.ref ol), x10] _
      refine l_cons (s_set (e_call (by exact FF) (by exact hr) (by decide) ?_))
      refine a_cons (e_var (a_cons (e_var (a_nil ⟨p, nl, zs, rfl, pa, nnp, hnl, by omega, hzs, fun z Hb bb pb hz hzn => ?_⟩))))
      have hnlb := bb _ _ nnp hnl
      have holb := bb _ _ nop hol
      have tsb := pa.ts bb
      show wL _ _ _ [some (.ref p), some (.ref l), some g, some (.ref t), some (.ref sp), some (.ref td), some (.int (j : Int)), some (.ref tl), some (.ref nl), some (.ref ol), some (.str z)] _
      refine l_cons (s_expr (e_app (e_var ⟨nl, _, rfl, SqL.of hnlb, e_var ⟨_, hnlb, by rw [List.length_map]; show _ < 2 ^ 24; omega, ?_⟩⟩)))
      have kbc : ∀ x o, x ≠ nl → Hb x = some o → upd Hb nl (.lst (sVs zs ++ [.str z])) x = some o := fun x o hx ho => by rw [upd_ne hx]; exact ho
      have hnlc : upd Hb nl (.lst (sVs zs ++ [.str z])) nl = some (.lst (sVs (zs ++ [z]))) := by rw [upd_same]; simp
      have tsc : TS Hb (upd Hb nl (.lst (sVs zs ++ [.str z]))) := TS.upd hnlb
      generalize upd Hb nl (.lst (sVs zs ++ [.str z])) = Hc at kbc hnlc tsc
      have pc : PoolAt Hc p := pb.at fun o ho => kbc p o nnp.symm ho
      have holc := kbc _ _ non holb
      have tsgc : TS Hg Hc := (pg.ts (ba.trans bb)).trans tsc
      have htc := tsgc _ _ ht
      refine l_cons (s_expr (e_app (e_var ⟨ol, _, rfl, SqL.of holc, e_tup (a_cons (e_var (a_cons (e_ix (e_var (e_int (ix_t (by exact SqT.of htc) at1 ?_)))))))⟩)))
      refine a_cons (e_ix (e_var (e_int (ix_t (by exact SqT.of htc) at2 (a_nil ⟨by show 3 ≤ sizeLine; decide, fun tn Hd ed nd' hd => ?_⟩)))))
      have hold := ed _ _ holc
      refine ⟨os, hold, by show _ < 2 ^ 24; omega, ?_⟩
      have tse : TS Hd (upd Hd ol (.lst (os ++ [.ref tn]))) := TS.upd hold
      have tsce := (Same.ts ed).trans tse
      refine l_nil ⟨zs ++ [z], os ++ [.ref tn], ms ++ [(z, gd.2)], _, _, rfl, (pc.up ed).at fun o ho => by rw [upd_ne nop.symm]; exact ho, fun b o hb ho => ?_, by rw [upd_ne non.symm]; exact ed _ _ hnlc, by simp [lzs], ?_, upd_same, ?_, ?_, ?_⟩
      · by_cases hbn : b = nl
        · subst hbn; rw [nh] at ho; cases ho
        · rw [upd_ne (ne_of_none ho ni')]
          exact ed _ _ (kbc _ _ hbn (bb _ _ hb (ba _ _ hb ho)))
      · intro y hy
        rcases List.mem_append.mp hy with h | h
        · exact hzs y h
        · rw [List.mem_singleton.mp h]; exact hz
      · rw [List.map_append]
        exact each_app (each_one ⟨tn, m, x, rfl, tse _ _ hd, hm.ts (tsgc.trans tsce), SnV.ts (tsgc.trans tsce) hx⟩) (rows_ts ((tsb.trans tsc).trans tsce) hos)
      · rw [List.map_append, hms, take_snc hgd, List.map_append]
        rfl
      · intro y hy
        rcases List.mem_append.mp hy with h | h
        · exact hmo y h
        · rw [List.mem_singleton.mp h]
          exact ⟨hz, (hqs gd (List.mem_of_getElem? hgd)).2⟩
    · rintro σ Ha ⟨zs, os, ms, x3, x10, rfl, pa, ba, hnl, lzs, hzs, hol, hos, hms, hmo⟩
      rw [lus, List.take_length] at hms
      have los := hos.length
      have lms := congrArg List.length hms
      simp only [List.length_map] at los lms
      have tsa := pg.ts ba
      have hga := SnV.ts tsa hgg
      have hdue := hdue.ts tsa
      have hla := ba _ _ hlp hlg
      have hrsa := rows_ts tsa hrsg
      have hmp : (ms.map (·.2)).mergeSort leP = ps := by
        rw [hms, ← hps]
        refine sort_perm (hqp.map _) fun y hy => ?_
        obtain ⟨x, hx, rfl⟩ := List.mem_map.mp hy
        exact (hqs x hx).2
      refine l_cons (s_ret (e_and (e_call (by exact FS) (by exact hr) (by decide) ?_)))
      refine a_cons (e_call (by exact FB) (by exact hr) (by decide) ?_)
      refine a_cons (e_tup (a_cons (e_callTy (x := "tuple") (by assumption) b_tuple (a_cons (e_var (a_nil (c_tupL (SqL.of hol) fun tw Hb eb _ hb => ?_)))))))
      refine a_cons (e_var (a_nil ⟨by show 2 ≤ sizeLine; decide, fun tc Hc ec _ hc => a_nil ?_⟩))
      have eac := eb.trans ec
      refine ⟨.ref tc, ms, s, rfl, ⟨tc, tw, g, os, rfl, hc, ec _ _ hb, rows_ts (Same.ts eac) hos, SnV.ts (Same.ts eac) hga⟩, hmo, by omega, fun v' Hd ed hd => ?_⟩
      rw [hmp] at hd
      have ead := eac.trans ed
      refine a_cons (e_var (a_nil ⟨v', .ref td, rfl, (eqv_bc (K := K) hd (hdue.ts (Same.ts ead)) hpok hplen hs.2.1).up, ?_⟩))
      refine ⟨true, rfl, iteT (e_one (e_call (by exact FS) (by exact hr) (by decide) ?_))⟩
      refine a_cons (e_call (by exact FB) (by exact hr) (by decide) ?_)
      refine a_cons (e_tup (a_cons (e_callTy (x := "tuple") (by assumption) b_tuple (a_cons (e_var (a_nil (c_tupL (SqL.of (ead _ _ hla)) fun tw2 He ee _ he => ?_)))))))
      refine a_cons (e_var (a_nil ⟨by show 2 ≤ sizeLine; decide, fun tc2 Hf' ef' _ hf' => a_nil ?_⟩))
      have eaf' := (ead.trans ee).trans ef'
      refine ⟨.ref tc2, gs, s, rfl, ⟨tc2, tw2, g, ws, rfl, hf', ef' _ _ he, rows_ts (Same.ts eaf') hrsa, SnV.ts (Same.ts eaf') hga⟩, hgs, by omega, fun v2 Hj ej hj => ?_⟩
      rw [hps] at hj
      have eaj := eaf'.trans ej
      refine a_cons (e_var (a_nil ⟨v2, .ref td, rfl, (eqv_bc (K := K) hj (hdue.ts (Same.ts eaj)) hpok hplen hs.2.1).up, ?_⟩))
      exact q Hj (b0g.trans (ba.trans (But.of eaj))) (pa.up eaj)
  · refine l_cons (s_if (t_cmp (e_call (by exact FX) (by exact hr) (by decide) ?_)))
    refine a_cons (e_var (a_cons (e_int (a_nil ⟨p, 2, rfl, by decide, by decide, pf, fun d Hg d0 d1 bg pg => e_int (o_eqI ⟨_, rfl, ?_⟩)⟩))))
    have tsg := pf.ts bg
    refine if2 (fun _ => ?_) (fun _ => l_nil (go _ Hg ⟨tl, us, qs, rfl, pg, bg, bg _ _ ntp hf, ntp, rows_ts tsg hrot, hperm⟩))
    refine l_cons (s_set (e_listRev (by assumption) (by assumption) (e_var ⟨tl, us, rfl, SqL.of (bg _ _ ntp hf), fun rl Hh eh nh hh => l_nil ?_⟩)))
    refine go _ Hh ⟨rl, us.reverse, qs.reverse, rfl, pg.up eh, bg.trans (But.of eh), hh, no_pool2 pg nh, ?_, (List.reverse_perm qs).trans hperm⟩
    rw [List.map_reverse]
    exact each_rev (rows_ts (tsg.trans (Same.ts eh)) hrot)
end



theorem flt_tag {H : Hp} {t : Addr} {f : Flt} (h : FltV H t f) : ∃ tag xs, H t = some (.tup (.str tag :: xs)) ∧ ¬ tag = ("claim" : Str) := by
  cases f with
  | name z => exact ⟨_, _, h, by decide +kernel⟩
  | kind m => obtain ⟨v, h, _⟩ := h; exact ⟨_, _, h, by decide +kernel⟩
  | taken z => exact ⟨_, _, h, by decide +kernel⟩
section
variable {P : Program} {w : World} {K : PySem.W.Frag} {mg : Str → Option Value} {base : Heap} {CN CK CM CU CH : Addr}
def spLaw (K : PySem.W.Frag) : Sp := fun vs H Q _ => ∃ (a : Addr) (ns : List Int), vs = [.ref a] ∧ SqL K H a (ns.map V.int) ∧ ns.length ≤ 63 ∧ ∀ H', Q (.bl true) H'
theorem ok_law {f : Addr} {fd : FuncData} (F : Fun K "law" "law" s_law f fd) (mT : mg "tuple" = none) (mLi : mg "list" = none) (FPo : Fn P w K mg base 2 "_law_pool" (spPool K)) (FHs : Fn P w K mg base 6 "_law_holds" spHolds) (FD : Fn P w K mg base 5 "_law_deep" (spDeep 2)) (FU : Fn P w K mg base 2 "_law_due" spDue)
    (FT : Fn P w K mg base 6 "_law_told" (spTold K)) (FS : Fn P w K mg base 9 "_law_same" (spEqv K 8)) (FSp : Fn P w K mg base 2 "_law_spoilt" spSpoilt) (FR : Fn P w K mg base 4 "_law_refused_at_all" spRefA) (FNm : Fn P w K mg base 10 "_law_named" spNamed) (FF : Fn P w K mg base 3 "_law_fresh" spFresh) (FB : Fn P w K mg base 10 "_law_bare_told" spBTold) :
    FnOk P w K mg base CX0 12 f fd ["_law_script"] (spLaw K) := by
  refine run_ok F sc_law so_law (fun vs H Q E h => by obtain ⟨a, ns, rfl, _⟩ := h; rfl) fun f cdv A outer s H vs Q E hr h nd => ?_
  obtain ⟨sa, ns, rfl, hS, hns, q⟩ := h
  refine l_cons (s_set (e_call (by exact FPo) (by exact hr) (by decide) ?_))
  refine a_cons (e_var (a_cons (e_int (a_nil ⟨sa, ns, 0, rfl, hS, fun p H1 e1 n1 p1 => ?_⟩))))
  show wL _ _ _ [some (.ref sa), some (.ref p), none, none, none, none, none, none, none] _
  refine l_cons (s_set (e_lst (a_nil ⟨by show 0 ≤ sizeLine; decide, fun nl H2 e2 n2 h2 => ?_⟩)))
  have nnp := no_pool2 p1 n2
  show wL _ _ _ [some (.ref sa), some (.ref p), some (.ref nl), none, none, none, none, none, none] _
  refine l_cons (s_set (e_call (by exact FHs) (by exact hr) (by decide) ?_))
  refine a_cons (e_var (a_cons (e_var (a_nil ⟨p, nl, rfl, p1.up e2, nnp, h2, fun l ws gs H3 b3 p3 hnl n3 nlp nln hl hrs hgs hnd hlen => ?_⟩))))
  show wL _ _ _ [some (.ref sa), some (.ref p), some (.ref nl), some (.ref l), none, none, none, none, none] _
  refine l_cons (s_set (e_call (by exact FD) (by exact hr) (by decide) ?_))
  refine a_cons (e_var (a_cons (e_int (a_nil ⟨p, 2, rfl, p3, by decide, fun g s H4 b4 p4 hg hos hd hno => ?_⟩))))
  have hs := SnOk.of hos hd hno (by decide)
  have ts4 := p3.ts b4
  have hl4 := b4 _ _ nlp hl
  have hnl4 := b4 _ _ nnp hnl
  have hrs4 := rows_ts ts4 hrs
  have hrws := rws_of hgs
  have hdn : due [] (gs.map toRw) = none := due_ok (fun r hr' => by obtain ⟨x, hx, rfl⟩ := List.mem_map.mp hr'; exact (hgs x hx).rw) (by rw [List.map_map]; exact hnd) fun r _ h => by cases h
  have hfew : Few (gs.map toRw) := few_of hrws (by rw [List.length_map]; omega)
  have hrc : RwC (gs.map toRw) := rwc_of hrws (by rw [List.length_map]; omega)
  clear hl hnl hrs hos hd hno b3 h2
  show wL _ _ _ [some (.ref sa), some (.ref p), some (.ref nl), some (.ref l), some g, none, none, none, none] _
  refine l_cons (s_set (e_call (by exact FU) (by exact hr) (by decide) ?_))
  refine a_cons (e_var (a_cons (e_var (a_nil ⟨l, g, ws, gs.map toRw, s, rfl, hl4, hrs4, hfew, fun r hr' => (hrws r hr').2.1, hg, fun td H5 e5 h5 => ?_⟩))))
  have hl5 := e5 _ _ hl4
  show wL _ _ _ [some (.ref sa), some (.ref p), some (.ref nl), some (.ref l), some g, some (.ref td), none, none, none] _
  refine l_cons (s_set (e_callTy (x := "list") (by assumption) b_list (a_cons (e_var (a_nil (c_listL hl5 fun hl' H6 e6 n6 h6 => ?_))))))
  have e46 := e5.trans e6
  have nhp := no_pool2 (p4.up e5) n6
  have nhl : hl' ≠ l := fun e => by subst e; rw [hl5] at n6; cases n6
  show wL _ _ _ [some (.ref sa), some (.ref p), some (.ref nl), some (.ref l), some g, some (.ref td), some (.ref hl'), none, none] _
  refine l_cons (s_set (e_call (by exact FT) (by exact hr) (by decide) ?_))
  refine a_cons (e_str (a_cons (e_tup (a_cons (e_var (a_cons (e_var (a_nil ⟨by show 2 ≤ sizeLine; decide, fun tc H7 e7 _ h7 => a_cons (e_non (a_nil ?_))⟩))))))))
  have e47 := e46.trans e7
  refine .inl ⟨tc, .non, .ref hl', g, gs.map toRw, s, rfl, h7, SideV.l (e7 _ _ h6) (rows_ts (Same.ts e47) hrs4), SnV.ts (Same.ts e47) hg, hfew, fun tt H8 e8 h8 => ?_⟩
  have e48 := e47.trans e8
  have hdue8 := h5.ts (Same.ts ((e6.trans e7).trans e8))
  have hh8 := e8 _ _ (e7 _ _ h6)
  have hl8 := e48 _ _ hl4
  have hrs8 := rows_ts (Same.ts e48) hrs4
  have hg8 := SnV.ts (Same.ts e48) hg
  have p8 := p4.up e48
  have hnl8 := e48 _ _ hnl4
  have nlh : nl ≠ hl' := fun e => by subst e; rw [e5 _ _ hnl4] at n6; cases n6
  clear h5 h6 h7 hl5 hl4 hrs4 hg hnl4
  show wL _ _ _ [some (.ref sa), some (.ref p), some (.ref nl), some (.ref l), some g, some (.ref td), some (.ref hl'), some (.ref tt), none] _
  refine l_cons (s_if (t_w (w_or (t_not (t_val (e_call (by exact FS) (by exact hr) (by decide) ?_))))))
  refine a_cons (e_var (a_cons (e_var (a_nil ⟨.ref hl', .ref l, rfl, (eqv_rowsL (K := K) hh8 hl8 hrs8 hrs8 hrc).up.up, ?_⟩))))
  refine ⟨_, rfl, ite_f rfl (w_or1 (t_not (t_val (e_call (by exact FS) (by exact hr) (by decide) ?_))))⟩
  refine a_cons (e_var (a_cons (e_var (a_nil ⟨.ref tt, .ref td, rfl, eqv_res (K := K) h8 hdue8 hrc hs.2.1 (due_s hrws), ?_⟩))))
  refine ⟨_, rfl, ite_f rfl (l_nil ?_)⟩
  refine l_cons (s_expr (e_app (e_var ⟨hl', _, rfl, SqL.of hh8, e_tup ?_⟩)))
  refine a_cons (e_str (a_cons (e_str (a_cons (e_var (a_nil ⟨by show 3 ≤ sizeLine; decide, fun tn H9 e9 n9 h9 => ?_⟩))))))
  have lws := hrs8.length
  rw [List.length_map] at lws
  have hh9 := e9 _ _ hh8
  refine ⟨ws, hh9, by show _ < 2 ^ 24; omega, ?_⟩
  have tsa : TS H9 (upd H9 hl' (.lst (ws ++ [.ref tn]))) := TS.upd hh9
  have ts8a := (Same.ts e9).trans tsa
  have pa : PoolAt (upd H9 hl' (.lst (ws ++ [.ref tn]))) p := (p8.up e9).at fun o ho => by rw [upd_ne nhp.symm]; exact ho
  have hla : upd H9 hl' (.lst (ws ++ [.ref tn])) l = some (.lst ws) := by rw [upd_ne nhl.symm]; exact e9 _ _ hl8
  have hnla : upd H9 hl' (.lst (ws ++ [.ref tn])) nl = some (.lst (sVs (gs.map (·.1)))) := by rw [upd_ne nlh]; exact e9 _ _ hnl8
  have h8 := h8.ts ts8a
  have hduea := hdue8.ts ts8a
  have hrsa := rows_ts ts8a hrs8
  have hga := SnV.ts ts8a hg8
  generalize upd H9 hl' (.lst (ws ++ [.ref tn])) = Ha at pa hla hnla h8 hduea hrsa hga
  clear hh9 hh8 hl8 hrs8 hg8 hnl8 hdue8 tsa ts8a h9
  show wL _ _ _ [some (.ref sa), some (.ref p), some (.ref nl), some (.ref l), some g, some (.ref td), some (.ref hl'), some (.ref tt), none] _
  refine l_cons (s_if (t_w (w_or (t_not (t_val (e_call (by exact FS) (by exact hr) (by decide) ?_))))))
  refine a_cons (e_var (a_cons (e_var (a_nil ⟨.ref tt, .ref td, rfl, eqv_res (K := K) h8 hduea hrc hs.2.1 (due_s hrws), ?_⟩))))
  refine ⟨_, rfl, ite_f rfl (w_or1 (t_not (t_val (e_call (by exact FS) (by exact hr) (by decide) ?_))))⟩
  refine a_cons (e_call (by exact FT) (by exact hr) (by decide) ?_)
  refine a_cons (e_str (a_cons (e_tup (a_cons (e_callTy (x := "tuple") (by assumption) b_tuple (a_cons (e_var (a_nil (c_tupL (SqL.of hla) fun tv Hb eb _ hb => ?_)))))))))
  refine a_cons (e_var (a_nil ⟨by show 2 ≤ sizeLine; decide, fun tc2 Hc ec _ hc => a_cons (e_non (a_nil ?_))⟩))
  have eac := eb.trans ec
  refine .inl ⟨tc2, .non, .ref tv, g, gs.map toRw, s, rfl, hc, SideV.t (ec _ _ hb) (rows_ts (Same.ts eac) hrsa), SnV.ts (Same.ts eac) hga, hfew, fun t2 Hd ed hd => ?_⟩
  have ead := eac.trans ed
  refine a_cons (e_var (a_nil ⟨.ref t2, .ref td, rfl, eqv_res (K := K) hd (hduea.ts (Same.ts ead)) hrc hs.2.1 (due_s hrws), ?_⟩))
  refine ⟨_, rfl, ite_f rfl (l_nil ?_)⟩
  have pd := pa.up ead
  have hld := ead _ _ hla
  have hnld := ead _ _ hnla
  have hrsd := rows_ts (Same.ts ead) hrsa
  have hgd := SnV.ts (Same.ts ead) hga
  clear hb hc hd hduea h8 hla hnla hrsa hga
  -- spoilt
  refine l_cons (s_set (e_call (by exact FSp) (by exact hr) (by decide) ?_))
  refine a_cons (e_var (a_cons (e_var (a_nil ⟨p, l, ws, gs.map toRw, rfl, pd, nlp, hld, hrsd, hrws, by rw [List.length_map]; omega, fun l2 ws2 rs2 He be pe ne hl2 hr2 hok2 hlen2 => ?_⟩))))
  rw [List.length_map] at hlen2
  have tse := pd.ts be
  have hge := SnV.ts tse hgd
  have hfew2 : Few rs2 := few_of hok2 (by omega)
  have hrc2 : RwC rs2 := rwc_of hok2 (by omega)
  have nl2p := no_pool2 pd ne
  have hle := be _ _ nlp hld
  have hnle := be _ _ nnp hnld
  have hrse := rows_ts tse hrsd
  clear hld hnld hrsd hgd
  show wL _ _ _ [some (.ref sa), some (.ref p), some (.ref nl), some (.ref l), some g, some (.ref td), some (.ref hl'), some (.ref tt), some (.ref l2)] _
  refine l_cons (s_set (e_call (by exact FU) (by exact hr) (by decide) ?_))
  refine a_cons (e_var (a_cons (e_var (a_nil ⟨l2, g, ws2, rs2, s, rfl, hl2, hr2, hfew2, fun r hr' => (hok2 r hr').2.1, hge, fun td2 Hf ef hf => ?_⟩))))
  show wL _ _ _ [some (.ref sa), some (.ref p), some (.ref nl), some (.ref l), some g, some (.ref td2), some (.ref hl'), some (.ref tt), some (.ref l2)] _
  refine l_cons (s_if (t_not (t_val (e_call (by exact FS) (by exact hr) (by decide) ?_))))
  refine a_cons (e_call (by exact FT) (by exact hr) (by decide) ?_)
  refine a_cons (e_str (a_cons (e_tup (a_cons (e_callTy (x := "list") (by assumption) b_list (a_cons (e_var (a_nil (c_listL (ef _ _ hl2) fun l3 Hg eg ng hg3 => ?_)))))))))
  refine a_cons (e_var (a_nil ⟨by show 2 ≤ sizeLine; decide, fun tc3 Hh eh _ hh => a_cons (e_non (a_nil ?_))⟩))
  have eeh := (ef.trans eg).trans eh
  refine .inl ⟨tc3, .non, .ref l3, g, rs2, s, rfl, hh, SideV.l (eh _ _ hg3) (rows_ts (Same.ts eeh) hr2), SnV.ts (Same.ts eeh) hge, hfew2, fun t3 Hi ei hi => ?_⟩
  have efi := (eg.trans eh).trans ei
  have eei := ef.trans efi
  refine a_cons (e_var (a_nil ⟨.ref t3, .ref td2, rfl, eqv_res (K := K) hi (hf.ts (Same.ts efi)) hrc2 hs.2.1 (due_s hok2), ?_⟩))
  refine ⟨_, rfl, ite_f rfl (l_nil ?_)⟩
  have hfi := hf.ts (Same.ts efi)
  clear hi hh hg3
  refine l_join (fun σ H' => σ = [some (.ref sa), some (.ref p), some (.ref nl), some (.ref l), some g, some (.ref td2), some (.ref hl'), some (.ref tt), some (.ref l2)] ∧ Same Hi H') (fun σ Hj hA => ?_) (fun go => ?_)
  · obtain ⟨rfl, ej⟩ := hA
    have eej := eei.trans ej
    refine l_cons (s_if (t_not (t_val (e_call (by exact FS) (by exact hr) (by decide) ?_))))
    refine a_cons (e_call (by exact FT) (by exact hr) (by decide) ?_)
    refine a_cons (e_str (a_cons (e_tup (a_cons (e_callTy (x := "tuple") (by assumption) b_tuple (a_cons (e_var (a_nil (c_tupL (SqL.of (eej _ _ hl2)) fun tv2 Hk ek _ hk => ?_)))))))))
    refine a_cons (e_var (a_nil ⟨by show 2 ≤ sizeLine; decide, fun tc4 Hm em _ hm => a_cons (e_non (a_nil ?_))⟩))
    have eem := (eej.trans ek).trans em
    refine .inl ⟨tc4, .non, .ref tv2, g, rs2, s, rfl, hm, SideV.t (em _ _ hk) (rows_ts (Same.ts eem) hr2), SnV.ts (Same.ts eem) hge, hfew2, fun t4 Hn en hn => ?_⟩
    have ejn := (ek.trans em).trans en
    have een := eej.trans ejn
    refine a_cons (e_var (a_nil ⟨.ref t4, .ref td2, rfl, eqv_res (K := K) hn (hfi.ts (Same.ts (ej.trans ejn))) hrc2 hs.2.1 (due_s hok2), ?_⟩))
    refine ⟨_, rfl, ite_f rfl (l_nil ?_)⟩
    have pn := pe.up een
    have hln := een _ _ hle
    have hnln := een _ _ hnle
    have hrsn := rows_ts (Same.ts een) hrse
    have hgn := SnV.ts (Same.ts een) hge
    clear hm hk hn hfi hle hnle hrse hge hl2 hr2 hf
    refine l_cons (s_if (t_not (t_val (e_call (by exact FNm) (by exact hr) (by decide) ?_))))
    refine a_cons (e_var (a_cons (e_var (a_cons (e_var (a_cons (e_call (by exact FF) (by exact hr) (by decide) ?_)))))))
    refine a_cons (e_var (a_cons (e_var (a_nil ⟨p, nl, gs.map (·.1), rfl, pn, nnp, hnln, by rw [List.length_map]; omega, fun z hz => ?_, fun z Ho bo po hz hzn => a_nil ?_⟩))))
    · obtain ⟨x, hx, rfl⟩ := List.mem_map.mp hz
      exact (hgs x hx).1
    have tso := pn.ts bo
    have hlo := bo _ _ nlp hln
    have hrso := rows_ts tso hrsn
    have hgo := SnV.ts tso hgn
    refine ⟨p, l, g, z, ws, gs, s, rfl, po, nlp, hlo, hrso, hgs, hnd, hlen, hgo, hs, hz, hzn, fun Hq bq pq => ?_⟩
    refine ⟨_, rfl, ite_f rfl (l_nil ?_)⟩
    have tsq := po.ts bq
    refine l_cons (s_ret (e_call (by exact FB) (by exact hr) (by decide) ?_))
    exact a_cons (e_var (a_cons (e_var (a_cons (e_var (a_nil ⟨p, l, g, ws, gs, s, rfl, pq, nlp, bq _ _ nlp hlo, rows_ts tsq hrso, hgs, hlen, SnV.ts tsq hgo, hs, fun H' _ _ => q H'⟩))))))
  · cases hd2 : due [] rs2 with
    | none =>
      rw [hd2] at hfi
      obtain ⟨c, hc, _⟩ := hfi
      refine l_cons (s_if (t_w (w_and (t_cmp (e_ix (e_var (e_int (ix_t (by exact SqT.of hc) at0 (e_str (o_neS ⟨_, rfl, ite_f ?hn ?_⟩))))))))))
      case hn => rw [decide_eq_true rfl]; rfl
      exact iteF (l_nil (go _ Hi ⟨rfl, Same.refl _⟩))
    | some fl =>
      rw [hd2] at hfi
      obtain ⟨tag, xs, hc, hne⟩ := flt_tag hfi
      refine l_cons (s_if (t_w (w_and (t_cmp (e_ix (e_var (e_int (ix_t (by exact SqT.of hc) at0 (e_str (o_neS ⟨_, rfl, ite_t (by rw [decide_eq_false hne]; rfl) ?_⟩))))))))))
      refine w_and1 (t_not (t_val (e_call (by exact FR) (by exact hr) (by decide) ?_)))
      refine a_cons (e_var (a_cons (e_var (a_nil ⟨l2, g, ws2, rs2, rfl, eei _ _ hl2, rows_ts (Same.ts eei) hr2, hfew2, by rw [hd2]; exact (fun z => nomatch z), fun Hj ej => ?_⟩))))
      exact ⟨_, rfl, iteF (l_nil (go _ Hj ⟨rfl, ej⟩))⟩
end


section
theorem kit_sub {K : PySem.W.Frag} {D C : Addr} (hd : PySem.W.hasDictIn K C = true) (ht : PySem.W.typeIn K (.ref C) = some (.type "type")) (h : PySem.W.subIn K (.ref D) (.ref C) = some true) : PySem.W.kitOne K (.ref D) (.ref C) = some true := by
  obtain ⟨cd, hc, _⟩ := PySem.W.any_some hd
  unfold PySem.W.kitOne
  split
  · rfl
  · show (if ((PySem.W.clsIn K C).isSome && PySem.W.typeIn K (.ref C) == some (.type "type")) = true then PySem.W.subIn K (.ref D) (.ref C) else none) = some true
    rw [hc, ht, h]
    rfl
theorem kit_not {K : PySem.W.Frag} {D C : Addr} (hd : PySem.W.hasDictIn K C = true) (ht : PySem.W.typeIn K (.ref C) = some (.type "type")) (h : PySem.W.subIn K (.ref D) (.ref C) = some false) (hs : PySem.W.subIn K (.ref D) (.ref D) = some true) : PySem.W.kitOne K (.ref D) (.ref C) = some false := by
  obtain ⟨cd, hc, _⟩ := PySem.W.any_some hd
  have ne : D ≠ C := fun z => by
    subst z
    rw [hs] at h
    cases h
  unfold PySem.W.kitOne
  rw [if_neg (fun z => ne (Value.ref.inj (beq_iff_eq.mp z)))]
  show (if ((PySem.W.clsIn K C).isSome && PySem.W.typeIn K (.ref C) == some (.type "type")) = true then PySem.W.subIn K (.ref D) (.ref C) else none) = some false
  rw [hc, ht, h]
  rfl
theorem kit_typ {K : PySem.W.Frag} {D : Addr} (h : PySem.W.subIn K (.ref D) (.type "ValueError") = some true) : PySem.W.kitOne K (.ref D) (.type "ValueError") = some true := by
  unfold PySem.W.kitOne
  rw [if_neg (by simp)]
  show (if PySem.W.kitMeta "ValueError" = true then PySem.W.subIn K (.ref D) (.type "ValueError") else none) = some true
  rw [if_pos (by decide +kernel), h]
theorem all_mk {l : PySem.W.OpenLaw} {w : World} {K : PySem.W.Frag} {h : Heap} {mg : Str → Option Value} {fa : Addr} (X : K.In h) (G : h.Ns mainGlobals mg) (hfa : mg "law" = some (.ref fa))
    {f0 : Addr} {od0 an0 : Option Addr} {sl0 : Array (Option Value)} {oc0 kV0 dc0 pm0 cd0 ct0 : Value}
    {f1 : Addr} {od1 an1 : Option Addr} {sl1 : Array (Option Value)} {oc1 kV1 dc1 pm1 cd1 ct1 : Value}
    {f2 : Addr} {od2 an2 : Option Addr} {sl2 : Array (Option Value)} {oc2 kV2 dc2 pm2 cd2 ct2 : Value}
    {f3 : Addr} {od3 an3 : Option Addr} {sl3 : Array (Option Value)} {oc3 kV3 dc3 pm3 cd3 ct3 : Value}
    {f4 : Addr} {od4 an4 : Option Addr} {sl4 : Array (Option Value)} {oc4 kV4 dc4 pm4 cd4 ct4 : Value}
    {f5 : Addr} {od5 an5 : Option Addr} {sl5 : Array (Option Value)} {oc5 kV5 dc5 pm5 cd5 ct5 : Value}
    {f6 : Addr} {od6 an6 : Option Addr} {sl6 : Array (Option Value)} {oc6 kV6 dc6 pm6 cd6 ct6 : Value}
    {f7 : Addr} {od7 an7 : Option Addr} {sl7 : Array (Option Value)} {oc7 kV7 dc7 pm7 cd7 ct7 : Value}
    {f8 : Addr} {od8 an8 : Option Addr} {sl8 : Array (Option Value)} {oc8 kV8 dc8 pm8 cd8 ct8 : Value}
    {f9 : Addr} {od9 an9 : Option Addr} {sl9 : Array (Option Value)} {oc9 kV9 dc9 pm9 cd9 ct9 : Value}
    {f10 : Addr} {od10 an10 : Option Addr} {sl10 : Array (Option Value)} {oc10 kV10 dc10 pm10 cd10 ct10 : Value}
    {f11 : Addr} {od11 an11 : Option Addr} {sl11 : Array (Option Value)} {oc11 kV11 dc11 pm11 cd11 ct11 : Value}
    {f12 : Addr} {od12 an12 : Option Addr} {sl12 : Array (Option Value)} {oc12 kV12 dc12 pm12 cd12 ct12 : Value}
    {f13 : Addr} {od13 an13 : Option Addr} {sl13 : Array (Option Value)} {oc13 kV13 dc13 pm13 cd13 ct13 : Value}
    {f14 : Addr} {od14 an14 : Option Addr} {sl14 : Array (Option Value)} {oc14 kV14 dc14 pm14 cd14 ct14 : Value}
    {f15 : Addr} {od15 an15 : Option Addr} {sl15 : Array (Option Value)} {oc15 kV15 dc15 pm15 cd15 ct15 : Value}
    {f16 : Addr} {od16 an16 : Option Addr} {sl16 : Array (Option Value)} {oc16 kV16 dc16 pm16 cd16 ct16 : Value}
    {f17 : Addr} {od17 an17 : Option Addr} {sl17 : Array (Option Value)} {oc17 kV17 dc17 pm17 cd17 ct17 : Value}
    {f18 : Addr} {od18 an18 : Option Addr} {sl18 : Array (Option Value)} {oc18 kV18 dc18 pm18 cd18 ct18 : Value}
    {f19 : Addr} {od19 an19 : Option Addr} {sl19 : Array (Option Value)} {oc19 kV19 dc19 pm19 cd19 ct19 : Value}
    {f20 : Addr} {od20 an20 : Option Addr} {sl20 : Array (Option Value)} {oc20 kV20 dc20 pm20 cd20 ct20 : Value}
    {f21 : Addr} {od21 an21 : Option Addr} {sl21 : Array (Option Value)} {oc21 kV21 dc21 pm21 cd21 ct21 : Value}
    {f22 : Addr} {od22 an22 : Option Addr} {sl22 : Array (Option Value)} {oc22 kV22 dc22 pm22 cd22 ct22 : Value}
    {f23 : Addr} {od23 an23 : Option Addr} {sl23 : Array (Option Value)} {oc23 kV23 dc23 pm23 cd23 ct23 : Value}
    {f24 : Addr} {od24 an24 : Option Addr} {sl24 : Array (Option Value)} {oc24 kV24 dc24 pm24 cd24 ct24 : Value}
    {f25 : Addr} {od25 an25 : Option Addr} {sl25 : Array (Option Value)} {oc25 kV25 dc25 pm25 cd25 ct25 : Value}
    {f26 : Addr} {od26 an26 : Option Addr} {sl26 : Array (Option Value)} {oc26 kV26 dc26 pm26 cd26 ct26 : Value}
    {f27 : Addr} {od27 an27 : Option Addr} {sl27 : Array (Option Value)} {oc27 kV27 dc27 pm27 cd27 ct27 : Value}
    {f28 : Addr} {od28 an28 : Option Addr} {sl28 : Array (Option Value)} {oc28 kV28 dc28 pm28 cd28 ct28 : Value}
    {f29 : Addr} {od29 an29 : Option Addr} {sl29 : Array (Option Value)} {oc29 kV29 dc29 pm29 cd29 ct29 : Value}
    {f30 : Addr} {od30 an30 : Option Addr} {sl30 : Array (Option Value)} {oc30 kV30 dc30 pm30 cd30 ct30 : Value}
    {f31 : Addr} {od31 an31 : Option Addr} {sl31 : Array (Option Value)} {oc31 kV31 dc31 pm31 cd31 ct31 : Value}
    {f32 : Addr} {od32 an32 : Option Addr} {sl32 : Array (Option Value)} {oc32 kV32 dc32 pm32 cd32 ct32 : Value}
    {f33 : Addr} {od33 an33 : Option Addr} {sl33 : Array (Option Value)} {oc33 kV33 dc33 pm33 cd33 ct33 : Value}
    {tN : Tok}
    {CH CN CK CM CU : Addr}
    {nmCN qnCN : Str} {NaCN : Addr} {bsCN : List Value} {snCN : List Str} {subCN : List Value} {abCN : Bool} {colCN : Option Bool} {ddCN : Option Addr} {x0CN x1CN x2CN x3CN x5CN : Option Value}
    {f34 : Addr} {od34 an34 : Option Addr} {sl34 : Array (Option Value)} {oc34 kV34 dc34 pm34 cd34 ct34 : Value}
    {nmCK qnCK : Str} {NaCK : Addr} {bsCK : List Value} {snCK : List Str} {subCK : List Value} {abCK : Bool} {colCK : Option Bool} {ddCK : Option Addr} {x0CK x1CK x2CK x3CK x5CK : Option Value}
    {f35 : Addr} {od35 an35 : Option Addr} {sl35 : Array (Option Value)} {oc35 kV35 dc35 pm35 cd35 ct35 : Value}
    {nmCM qnCM : Str} {NaCM : Addr} {bsCM : List Value} {snCM : List Str} {subCM : List Value} {abCM : Bool} {colCM : Option Bool} {ddCM : Option Addr} {x0CM x1CM x2CM x3CM x5CM : Option Value}
    {f36 : Addr} {od36 an36 : Option Addr} {sl36 : Array (Option Value)} {oc36 kV36 dc36 pm36 cd36 ct36 : Value}
    {nmCU qnCU : Str} {NaCU : Addr} {bsCU : List Value} {snCU : List Str} {subCU : List Value} {abCU : Bool} {colCU : Option Bool} {ddCU : Option Addr} {x0CU x1CU x2CU x3CU x5CU : Option Value}
    {f37 : Addr} {od37 an37 : Option Addr} {sl37 : Array (Option Value)} {oc37 kV37 dc37 pm37 cd37 ct37 : Value}
    (a0 : PySem.W.nsIn K mainGlobals "is_number_from" = some (some (.ref f0)))
    (l0 : K.lookup f0 = some ⟨oc0, od0, .func (PySem.W.fnOf "is_number_from" "is_number_from" (defArgs s_is_number_from) (defBody s_is_number_from) (defScope s_is_number_from) .none kV0 dc0 pm0 an0 cd0 ct0), sl0⟩)
    (c0 : PySem.W.codeIn K cd0 "is_number_from" = true)
    (k0 : PySem.W.keepIn K (.ref f0) = true)
    (a1 : PySem.W.nsIn K mainGlobals "is_kind" = some (some (.ref f1)))
    (l1 : K.lookup f1 = some ⟨oc1, od1, .func (PySem.W.fnOf "is_kind" "is_kind" (defArgs s_is_kind) (defBody s_is_kind) (defScope s_is_kind) .none kV1 dc1 pm1 an1 cd1 ct1), sl1⟩)
    (c1 : PySem.W.codeIn K cd1 "is_kind" = true)
    (k1 : PySem.W.keepIn K (.ref f1) = true)
    (a2 : PySem.W.nsIn K mainGlobals "is_letter" = some (some (.ref f2)))
    (l2 : K.lookup f2 = some ⟨oc2, od2, .func (PySem.W.fnOf "is_letter" "is_letter" (defArgs s_is_letter) (defBody s_is_letter) (defScope s_is_letter) .none kV2 dc2 pm2 an2 cd2 ct2), sl2⟩)
    (c2 : PySem.W.codeIn K cd2 "is_letter" = true)
    (k2 : PySem.W.keepIn K (.ref f2) = true)
    (a3 : PySem.W.nsIn K mainGlobals "is_digit" = some (some (.ref f3)))
    (l3 : K.lookup f3 = some ⟨oc3, od3, .func (PySem.W.fnOf "is_digit" "is_digit" (defArgs s_is_digit) (defBody s_is_digit) (defScope s_is_digit) .none kV3 dc3 pm3 an3 cd3 ct3), sl3⟩)
    (c3 : PySem.W.codeIn K cd3 "is_digit" = true)
    (k3 : PySem.W.keepIn K (.ref f3) = true)
    (a4 : PySem.W.nsIn K mainGlobals "is_name" = some (some (.ref f4)))
    (l4 : K.lookup f4 = some ⟨oc4, od4, .func (PySem.W.fnOf "is_name" "is_name" (defArgs s_is_name) (defBody s_is_name) (defScope s_is_name) .none kV4 dc4 pm4 an4 cd4 ct4), sl4⟩)
    (c4 : PySem.W.codeIn K cd4 "is_name" = true)
    (k4 : PySem.W.keepIn K (.ref f4) = true)
    (a5 : PySem.W.nsIn K mainGlobals "format_kind" = some (some (.ref f5)))
    (l5 : K.lookup f5 = some ⟨oc5, od5, .func (PySem.W.fnOf "format_kind" "format_kind" (defArgs s_format_kind) (defBody s_format_kind) (defScope s_format_kind) .none kV5 dc5 pm5 an5 cd5 ct5), sl5⟩)
    (c5 : PySem.W.codeIn K cd5 "format_kind" = true)
    (k5 : PySem.W.keepIn K (.ref f5) = true)
    (a6 : PySem.W.nsIn K mainGlobals "format_sentence" = some (some (.ref f6)))
    (l6 : K.lookup f6 = some ⟨oc6, od6, .func (PySem.W.fnOf "format_sentence" "format_sentence" (defArgs s_format_sentence) (defBody s_format_sentence) (defScope s_format_sentence) .none kV6 dc6 pm6 an6 cd6 ct6), sl6⟩)
    (c6 : PySem.W.codeIn K cd6 "format_sentence" = true)
    (k6 : PySem.W.keepIn K (.ref f6) = true)
    (a7 : PySem.W.nsIn K mainGlobals "enclosed" = some (some (.ref f7)))
    (l7 : K.lookup f7 = some ⟨oc7, od7, .func (PySem.W.fnOf "enclosed" "enclosed" (defArgs s_enclosed) (defBody s_enclosed) (defScope s_enclosed) .none kV7 dc7 pm7 an7 cd7 ct7), sl7⟩)
    (c7 : PySem.W.codeIn K cd7 "enclosed" = true)
    (k7 : PySem.W.keepIn K (.ref f7) = true)
    (a8 : PySem.W.nsIn K mainGlobals "make_claim" = some (some (.ref f8)))
    (l8 : K.lookup f8 = some ⟨oc8, od8, .func (PySem.W.fnOf "make_claim" "make_claim" (defArgs s_make_claim) (defBody s_make_claim) (defScope s_make_claim) .none kV8 dc8 pm8 an8 cd8 ct8), sl8⟩)
    (c8 : PySem.W.codeIn K cd8 "make_claim" = true)
    (k8 : PySem.W.keepIn K (.ref f8) = true)
    (a9 : PySem.W.nsIn K mainGlobals "hold_of" = some (some (.ref f9)))
    (l9 : K.lookup f9 = some ⟨oc9, od9, .func (PySem.W.fnOf "hold_of" "hold_of" (defArgs s_hold_of) (defBody s_hold_of) (defScope s_hold_of) .none kV9 dc9 pm9 an9 cd9 ct9), sl9⟩)
    (c9 : PySem.W.codeIn K cd9 "hold_of" = true)
    (k9 : PySem.W.keepIn K (.ref f9) = true)
    (a10 : PySem.W.nsIn K mainGlobals "with_hold" = some (some (.ref f10)))
    (l10 : K.lookup f10 = some ⟨oc10, od10, .func (PySem.W.fnOf "with_hold" "with_hold" (defArgs s_with_hold) (defBody s_with_hold) (defScope s_with_hold) .none kV10 dc10 pm10 an10 cd10 ct10), sl10⟩)
    (c10 : PySem.W.codeIn K cd10 "with_hold" = true)
    (k10 : PySem.W.keepIn K (.ref f10) = true)
    (a11 : PySem.W.nsIn K mainGlobals "without_hold" = some (some (.ref f11)))
    (l11 : K.lookup f11 = some ⟨oc11, od11, .func (PySem.W.fnOf "without_hold" "without_hold" (defArgs s_without_hold) (defBody s_without_hold) (defScope s_without_hold) .none kV11 dc11 pm11 an11 cd11 ct11), sl11⟩)
    (c11 : PySem.W.codeIn K cd11 "without_hold" = true)
    (k11 : PySem.W.keepIn K (.ref f11) = true)
    (a12 : PySem.W.nsIn K mainGlobals "pair_order" = some (some (.ref f12)))
    (l12 : K.lookup f12 = some ⟨oc12, od12, .func (PySem.W.fnOf "pair_order" "pair_order" (defArgs s_pair_order) (defBody s_pair_order) (defScope s_pair_order) .none kV12 dc12 pm12 an12 cd12 ct12), sl12⟩)
    (c12 : PySem.W.codeIn K cd12 "pair_order" = true)
    (k12 : PySem.W.keepIn K (.ref f12) = true)
    (a13 : PySem.W.nsIn K mainGlobals "bare_claim" = some (some (.ref f13)))
    (l13 : K.lookup f13 = some ⟨oc13, od13, .func (PySem.W.fnOf "bare_claim" "bare_claim" (defArgs s_bare_claim) (defBody s_bare_claim) (defScope s_bare_claim) .none kV13 dc13 pm13 an13 cd13 ct13), sl13⟩)
    (c13 : PySem.W.codeIn K cd13 "bare_claim" = true)
    (k13 : PySem.W.keepIn K (.ref f13) = true)
    (a14 : PySem.W.nsIn K mainGlobals "_law_cell" = some (some (.ref f14)))
    (l14 : K.lookup f14 = some ⟨oc14, od14, .func (PySem.W.fnOf "_law_cell" "_law_cell" (defArgs s_cell) (defBody s_cell) (defScope s_cell) .none kV14 dc14 pm14 an14 cd14 ct14), sl14⟩)
    (c14 : PySem.W.codeIn K cd14 "_law_cell" = true)
    (k14 : PySem.W.keepIn K (.ref f14) = true)
    (a15 : PySem.W.nsIn K mainGlobals "_law_pool" = some (some (.ref f15)))
    (l15 : K.lookup f15 = some ⟨oc15, od15, .func (PySem.W.fnOf "_law_pool" "_law_pool" (defArgs s_pool) (defBody s_pool) (defScope s_pool) .none kV15 dc15 pm15 an15 cd15 ct15), sl15⟩)
    (c15 : PySem.W.codeIn K cd15 "_law_pool" = true)
    (k15 : PySem.W.keepIn K (.ref f15) = true)
    (a16 : PySem.W.nsIn K mainGlobals "_law_next" = some (some (.ref f16)))
    (l16 : K.lookup f16 = some ⟨oc16, od16, .func (PySem.W.fnOf "_law_next" "_law_next" (defArgs s_next) (defBody s_next) (defScope s_next) .none kV16 dc16 pm16 an16 cd16 ct16), sl16⟩)
    (c16 : PySem.W.codeIn K cd16 "_law_next" = true)
    (k16 : PySem.W.keepIn K (.ref f16) = true)
    (a17 : PySem.W.nsIn K mainGlobals "_law_same" = some (some (.ref f17)))
    (l17 : K.lookup f17 = some ⟨oc17, od17, .func (PySem.W.fnOf "_law_same" "_law_same" (defArgs s_same) (defBody s_same) (defScope s_same) .none kV17 dc17 pm17 an17 cd17 ct17), sl17⟩)
    (c17 : PySem.W.codeIn K cd17 "_law_same" = true)
    (k17 : PySem.W.keepIn K (.ref f17) = true)
    (a18 : PySem.W.nsIn K mainGlobals "_law_name" = some (some (.ref f18)))
    (l18 : K.lookup f18 = some ⟨oc18, od18, .func (PySem.W.fnOf "_law_name" "_law_name" (defArgs s_name) (defBody s_name) (defScope s_name) .none kV18 dc18 pm18 an18 cd18 ct18), sl18⟩)
    (c18 : PySem.W.codeIn K cd18 "_law_name" = true)
    (k18 : PySem.W.keepIn K (.ref f18) = true)
    (a19 : PySem.W.nsIn K mainGlobals "_law_fresh" = some (some (.ref f19)))
    (l19 : K.lookup f19 = some ⟨oc19, od19, .func (PySem.W.fnOf "_law_fresh" "_law_fresh" (defArgs s_fresh) (defBody s_fresh) (defScope s_fresh) .none kV19 dc19 pm19 an19 cd19 ct19), sl19⟩)
    (c19 : PySem.W.codeIn K cd19 "_law_fresh" = true)
    (k19 : PySem.W.keepIn K (.ref f19) = true)
    (a20 : PySem.W.nsIn K mainGlobals "_law_mode" = some (some (.ref f20)))
    (l20 : K.lookup f20 = some ⟨oc20, od20, .func (PySem.W.fnOf "_law_mode" "_law_mode" (defArgs s_mode) (defBody s_mode) (defScope s_mode) .none kV20 dc20 pm20 an20 cd20 ct20), sl20⟩)
    (c20 : PySem.W.codeIn K cd20 "_law_mode" = true)
    (k20 : PySem.W.keepIn K (.ref f20) = true)
    (a21 : PySem.W.nsIn K mainGlobals "_law_deep" = some (some (.ref f21)))
    (l21 : K.lookup f21 = some ⟨oc21, od21, .func (PySem.W.fnOf "_law_deep" "_law_deep" (defArgs s_deep) (defBody s_deep) (defScope s_deep) .none kV21 dc21 pm21 an21 cd21 ct21), sl21⟩)
    (c21 : PySem.W.codeIn K cd21 "_law_deep" = true)
    (k21 : PySem.W.keepIn K (.ref f21) = true)
    (a22 : PySem.W.nsIn K mainGlobals "_law_holds" = some (some (.ref f22)))
    (l22 : K.lookup f22 = some ⟨oc22, od22, .func (PySem.W.fnOf "_law_holds" "_law_holds" (defArgs s_holds) (defBody s_holds) (defScope s_holds) .none kV22 dc22 pm22 an22 cd22 ct22), sl22⟩)
    (c22 : PySem.W.codeIn K cd22 "_law_holds" = true)
    (k22 : PySem.W.keepIn K (.ref f22) = true)
    (a23 : PySem.W.nsIn K mainGlobals "_law_spoilt" = some (some (.ref f23)))
    (l23 : K.lookup f23 = some ⟨oc23, od23, .func (PySem.W.fnOf "_law_spoilt" "_law_spoilt" (defArgs s_spoilt) (defBody s_spoilt) (defScope s_spoilt) .none kV23 dc23 pm23 an23 cd23 ct23), sl23⟩)
    (c23 : PySem.W.codeIn K cd23 "_law_spoilt" = true)
    (k23 : PySem.W.keepIn K (.ref f23) = true)
    (a24 : PySem.W.nsIn K mainGlobals "_law_good_name" = some (some (.ref f24)))
    (l24 : K.lookup f24 = some ⟨oc24, od24, .func (PySem.W.fnOf "_law_good_name" "_law_good_name" (defArgs s_good_name) (defBody s_good_name) (defScope s_good_name) .none kV24 dc24 pm24 an24 cd24 ct24), sl24⟩)
    (c24 : PySem.W.codeIn K cd24 "_law_good_name" = true)
    (k24 : PySem.W.keepIn K (.ref f24) = true)
    (a25 : PySem.W.nsIn K mainGlobals "_law_good_mode" = some (some (.ref f25)))
    (l25 : K.lookup f25 = some ⟨oc25, od25, .func (PySem.W.fnOf "_law_good_mode" "_law_good_mode" (defArgs s_good_mode) (defBody s_good_mode) (defScope s_good_mode) .none kV25 dc25 pm25 an25 cd25 ct25), sl25⟩)
    (c25 : PySem.W.codeIn K cd25 "_law_good_mode" = true)
    (k25 : PySem.W.keepIn K (.ref f25) = true)
    (a26 : PySem.W.nsIn K mainGlobals "_law_due" = some (some (.ref f26)))
    (l26 : K.lookup f26 = some ⟨oc26, od26, .func (PySem.W.fnOf "_law_due" "_law_due" (defArgs s_due) (defBody s_due) (defScope s_due) .none kV26 dc26 pm26 an26 cd26 ct26), sl26⟩)
    (c26 : PySem.W.codeIn K cd26 "_law_due" = true)
    (k26 : PySem.W.keepIn K (.ref f26) = true)
    (a27 : PySem.W.nsIn K mainGlobals "_law_told" = some (some (.ref f27)))
    (l27 : K.lookup f27 = some ⟨oc27, od27, .func (PySem.W.fnOf "_law_told" "_law_told" (defArgs s_told) (defBody s_told) (defScope s_told) .none kV27 dc27 pm27 an27 cd27 ct27), sl27⟩)
    (c27 : PySem.W.codeIn K cd27 "_law_told" = true)
    (k27 : PySem.W.keepIn K (.ref f27) = true)
    (a28 : PySem.W.nsIn K mainGlobals "_law_refused_at_all" = some (some (.ref f28)))
    (l28 : K.lookup f28 = some ⟨oc28, od28, .func (PySem.W.fnOf "_law_refused_at_all" "_law_refused_at_all" (defArgs s_refused_at_all) (defBody s_refused_at_all) (defScope s_refused_at_all) .none kV28 dc28 pm28 an28 cd28 ct28), sl28⟩)
    (c28 : PySem.W.codeIn K cd28 "_law_refused_at_all" = true)
    (k28 : PySem.W.keepIn K (.ref f28) = true)
    (a29 : PySem.W.nsIn K mainGlobals "_law_text" = some (some (.ref f29)))
    (l29 : K.lookup f29 = some ⟨oc29, od29, .func (PySem.W.fnOf "_law_text" "_law_text" (defArgs s_text) (defBody s_text) (defScope s_text) .none kV29 dc29 pm29 an29 cd29 ct29), sl29⟩)
    (c29 : PySem.W.codeIn K cd29 "_law_text" = true)
    (k29 : PySem.W.keepIn K (.ref f29) = true)
    (a30 : PySem.W.nsIn K mainGlobals "_law_key" = some (some (.ref f30)))
    (l30 : K.lookup f30 = some ⟨oc30, od30, .func (PySem.W.fnOf "_law_key" "_law_key" (defArgs s_key) (defBody s_key) (defScope s_key) .none kV30 dc30 pm30 an30 cd30 ct30), sl30⟩)
    (c30 : PySem.W.codeIn K cd30 "_law_key" = true)
    (k30 : PySem.W.keepIn K (.ref f30) = true)
    (a31 : PySem.W.nsIn K mainGlobals "_law_bare_told" = some (some (.ref f31)))
    (l31 : K.lookup f31 = some ⟨oc31, od31, .func (PySem.W.fnOf "_law_bare_told" "_law_bare_told" (defArgs s_bare_told) (defBody s_bare_told) (defScope s_bare_told) .none kV31 dc31 pm31 an31 cd31 ct31), sl31⟩)
    (c31 : PySem.W.codeIn K cd31 "_law_bare_told" = true)
    (k31 : PySem.W.keepIn K (.ref f31) = true)
    (a32 : PySem.W.nsIn K mainGlobals "_law_named" = some (some (.ref f32)))
    (l32 : K.lookup f32 = some ⟨oc32, od32, .func (PySem.W.fnOf "_law_named" "_law_named" (defArgs s_named) (defBody s_named) (defScope s_named) .none kV32 dc32 pm32 an32 cd32 ct32), sl32⟩)
    (c32 : PySem.W.codeIn K cd32 "_law_named" = true)
    (k32 : PySem.W.keepIn K (.ref f32) = true)
    (a33 : PySem.W.nsIn K mainGlobals "law" = some (some (.ref f33)))
    (l33 : K.lookup f33 = some ⟨oc33, od33, .func (PySem.W.fnOf "law" "law" (defArgs s_law) (defBody s_law) (defScope s_law) .none kV33 dc33 pm33 an33 cd33 ct33), sl33⟩)
    (c33 : PySem.W.codeIn K cd33 "law" = true)
    (k33 : PySem.W.keepIn K (.ref f33) = true)
    (nL : PySem.W.nsIn K mainGlobals "NAME_LENGTH" = some (some (.int 12 tN)))
    (mCH : PySem.W.nsIn K mainGlobals "HeldError" = some (some (.ref CH)))
    (mCN : PySem.W.nsIn K mainGlobals "BadName" = some (some (.ref CN)))
    (mCK : PySem.W.nsIn K mainGlobals "BadKind" = some (some (.ref CK)))
    (mCM : PySem.W.nsIn K mainGlobals "NameTaken" = some (some (.ref CM)))
    (mCU : PySem.W.nsIn K mainGlobals "UnknownName" = some (some (.ref CU)))
    (xLCN : K.lookup CN = some (excClassObj nmCN qnCN CN NaCN bsCN [.ref CH, .type "ValueError", .type "Exception", .type "BaseException", .type "object"] true snCN subCN abCN colCN ddCN x0CN x1CN x2CN x3CN x5CN "ValueError.__new__"))
    (a34 : PySem.W.findIn K (.ref CN) "__init__" = some (some (.ref f34)))
    (i34 : PySem.W.isFn K (.ref f34) = true)
    (l34 : K.lookup f34 = some ⟨oc34, od34, .func (PySem.W.fnOf "__init__" "BadName.__init__" (defArgs s_BadName___init) (defBody s_BadName___init) (defScope s_BadName___init) .none kV34 dc34 pm34 an34 cd34 ct34), sl34⟩)
    (c34 : PySem.W.codeIn K cd34 "BadName.__init__" = true)
    (k34 : PySem.W.keepIn K (.ref f34) = true)
    (saCN : PySem.W.findIn K (.ref CN) "__setattr__" = some (some (.builtin "object.__setattr__")))
    (gaCN : PySem.W.findIn K (.ref CN) "__getattribute__" = some (some (.builtin "BaseException.__getattribute__")))
    (ggCN : PySem.W.findIn K (.ref CN) "__getattr__" = some none)
    (nkCN : PySem.W.findIn K (.ref CN) "name" = some none)
    (kCCN : PySem.W.keepIn K (.ref CN) = true)
    (eCCN : PySem.W.subIn K (.ref CN) (.type "BaseException") = some true)
    (tCCN : PySem.W.typeIn K (.ref CN) = some (.type "type"))
    (hCCN : PySem.W.hasDictIn K CN = true)
    (haCN : PySem.W.findIn K (.ref CN) "__class__" = some (some (.builtin "object.__class__")))
    (hmCN : PySem.W.mroIn K CN (.type "object") = some true)
    (sVCN : PySem.W.subIn K (.ref CN) (.type "ValueError") = some true)
    (sICN : PySem.W.subIn K (.ref CN) (.ref CN) = some true)
    (sHCN : PySem.W.subIn K (.ref CN) (.ref CH) = some true)
    (sCNCK : PySem.W.subIn K (.ref CN) (.ref CK) = some false)
    (sCNCM : PySem.W.subIn K (.ref CN) (.ref CM) = some false)
    (sCNCU : PySem.W.subIn K (.ref CN) (.ref CU) = some false)
    (xLCK : K.lookup CK = some (excClassObj nmCK qnCK CK NaCK bsCK [.ref CH, .type "ValueError", .type "Exception", .type "BaseException", .type "object"] true snCK subCK abCK colCK ddCK x0CK x1CK x2CK x3CK x5CK "ValueError.__new__"))
    (a35 : PySem.W.findIn K (.ref CK) "__init__" = some (some (.ref f35)))
    (i35 : PySem.W.isFn K (.ref f35) = true)
    (l35 : K.lookup f35 = some ⟨oc35, od35, .func (PySem.W.fnOf "__init__" "BadKind.__init__" (defArgs s_BadKind___init) (defBody s_BadKind___init) (defScope s_BadKind___init) .none kV35 dc35 pm35 an35 cd35 ct35), sl35⟩)
    (c35 : PySem.W.codeIn K cd35 "BadKind.__init__" = true)
    (k35 : PySem.W.keepIn K (.ref f35) = true)
    (saCK : PySem.W.findIn K (.ref CK) "__setattr__" = some (some (.builtin "object.__setattr__")))
    (gaCK : PySem.W.findIn K (.ref CK) "__getattribute__" = some (some (.builtin "BaseException.__getattribute__")))
    (ggCK : PySem.W.findIn K (.ref CK) "__getattr__" = some none)
    (nkCK : PySem.W.findIn K (.ref CK) "kind" = some none)
    (kCCK : PySem.W.keepIn K (.ref CK) = true)
    (eCCK : PySem.W.subIn K (.ref CK) (.type "BaseException") = some true)
    (tCCK : PySem.W.typeIn K (.ref CK) = some (.type "type"))
    (hCCK : PySem.W.hasDictIn K CK = true)
    (haCK : PySem.W.findIn K (.ref CK) "__class__" = some (some (.builtin "object.__class__")))
    (hmCK : PySem.W.mroIn K CK (.type "object") = some true)
    (sVCK : PySem.W.subIn K (.ref CK) (.type "ValueError") = some true)
    (sICK : PySem.W.subIn K (.ref CK) (.ref CK) = some true)
    (sHCK : PySem.W.subIn K (.ref CK) (.ref CH) = some true)
    (sCKCN : PySem.W.subIn K (.ref CK) (.ref CN) = some false)
    (sCKCM : PySem.W.subIn K (.ref CK) (.ref CM) = some false)
    (sCKCU : PySem.W.subIn K (.ref CK) (.ref CU) = some false)
    (xLCM : K.lookup CM = some (excClassObj nmCM qnCM CM NaCM bsCM [.ref CH, .type "ValueError", .type "Exception", .type "BaseException", .type "object"] true snCM subCM abCM colCM ddCM x0CM x1CM x2CM x3CM x5CM "ValueError.__new__"))
    (a36 : PySem.W.findIn K (.ref CM) "__init__" = some (some (.ref f36)))
    (i36 : PySem.W.isFn K (.ref f36) = true)
    (l36 : K.lookup f36 = some ⟨oc36, od36, .func (PySem.W.fnOf "__init__" "NameTaken.__init__" (defArgs s_NameTaken___init) (defBody s_NameTaken___init) (defScope s_NameTaken___init) .none kV36 dc36 pm36 an36 cd36 ct36), sl36⟩)
    (c36 : PySem.W.codeIn K cd36 "NameTaken.__init__" = true)
    (k36 : PySem.W.keepIn K (.ref f36) = true)
    (saCM : PySem.W.findIn K (.ref CM) "__setattr__" = some (some (.builtin "object.__setattr__")))
    (gaCM : PySem.W.findIn K (.ref CM) "__getattribute__" = some (some (.builtin "BaseException.__getattribute__")))
    (ggCM : PySem.W.findIn K (.ref CM) "__getattr__" = some none)
    (nkCM : PySem.W.findIn K (.ref CM) "name" = some none)
    (kCCM : PySem.W.keepIn K (.ref CM) = true)
    (eCCM : PySem.W.subIn K (.ref CM) (.type "BaseException") = some true)
    (tCCM : PySem.W.typeIn K (.ref CM) = some (.type "type"))
    (hCCM : PySem.W.hasDictIn K CM = true)
    (haCM : PySem.W.findIn K (.ref CM) "__class__" = some (some (.builtin "object.__class__")))
    (hmCM : PySem.W.mroIn K CM (.type "object") = some true)
    (sVCM : PySem.W.subIn K (.ref CM) (.type "ValueError") = some true)
    (sICM : PySem.W.subIn K (.ref CM) (.ref CM) = some true)
    (sHCM : PySem.W.subIn K (.ref CM) (.ref CH) = some true)
    (sCMCN : PySem.W.subIn K (.ref CM) (.ref CN) = some false)
    (sCMCK : PySem.W.subIn K (.ref CM) (.ref CK) = some false)
    (sCMCU : PySem.W.subIn K (.ref CM) (.ref CU) = some false)
    (xLCU : K.lookup CU = some (excClassObj nmCU qnCU CU NaCU bsCU [.ref CH, .type "ValueError", .type "Exception", .type "BaseException", .type "object"] true snCU subCU abCU colCU ddCU x0CU x1CU x2CU x3CU x5CU "ValueError.__new__"))
    (a37 : PySem.W.findIn K (.ref CU) "__init__" = some (some (.ref f37)))
    (i37 : PySem.W.isFn K (.ref f37) = true)
    (l37 : K.lookup f37 = some ⟨oc37, od37, .func (PySem.W.fnOf "__init__" "UnknownName.__init__" (defArgs s_UnknownName___init) (defBody s_UnknownName___init) (defScope s_UnknownName___init) .none kV37 dc37 pm37 an37 cd37 ct37), sl37⟩)
    (c37 : PySem.W.codeIn K cd37 "UnknownName.__init__" = true)
    (k37 : PySem.W.keepIn K (.ref f37) = true)
    (saCU : PySem.W.findIn K (.ref CU) "__setattr__" = some (some (.builtin "object.__setattr__")))
    (gaCU : PySem.W.findIn K (.ref CU) "__getattribute__" = some (some (.builtin "BaseException.__getattribute__")))
    (ggCU : PySem.W.findIn K (.ref CU) "__getattr__" = some none)
    (nkCU : PySem.W.findIn K (.ref CU) "name" = some none)
    (kCCU : PySem.W.keepIn K (.ref CU) = true)
    (eCCU : PySem.W.subIn K (.ref CU) (.type "BaseException") = some true)
    (tCCU : PySem.W.typeIn K (.ref CU) = some (.type "type"))
    (hCCU : PySem.W.hasDictIn K CU = true)
    (haCU : PySem.W.findIn K (.ref CU) "__class__" = some (some (.builtin "object.__class__")))
    (hmCU : PySem.W.mroIn K CU (.type "object") = some true)
    (sVCU : PySem.W.subIn K (.ref CU) (.type "ValueError") = some true)
    (sICU : PySem.W.subIn K (.ref CU) (.ref CU) = some true)
    (sHCU : PySem.W.subIn K (.ref CU) (.ref CH) = some true)
    (sCUCN : PySem.W.subIn K (.ref CU) (.ref CN) = some false)
    (sCUCK : PySem.W.subIn K (.ref CU) (.ref CK) = some false)
    (sCUCM : PySem.W.subIn K (.ref CU) (.ref CM) = some false)
    (hn : PySem.W.specialIn K (.builtin "object.__class__") "__get__" = some (some (.builtin "getset_descriptor.__get__")))
    (ht : PySem.W.takesIn K (.builtin "object.__class__") = some true)
    (eH : PySem.W.subIn K (.ref CH) (.type "BaseException") = some true)
    (tCH : PySem.W.typeIn K (.ref CH) = some (.type "type"))
    (dCH : PySem.W.hasDictIn K CH = true)
    (z_isinstance : PySem.W.nsIn K mainGlobals "isinstance" = some none)
    (z_int : PySem.W.nsIn K mainGlobals "int" = some none)
    (z_bool : PySem.W.nsIn K mainGlobals "bool" = some none)
    (z_str : PySem.W.nsIn K mainGlobals "str" = some none)
    (z_tuple : PySem.W.nsIn K mainGlobals "tuple" = some none)
    (z_list : PySem.W.nsIn K mainGlobals "list" = some none)
    (z_len : PySem.W.nsIn K mainGlobals "len" = some none)
    (z_range : PySem.W.nsIn K mainGlobals "range" = some none)
    (z_abs : PySem.W.nsIn K mainGlobals "abs" = some none)
    (z_max : PySem.W.nsIn K mainGlobals "max" = some none)
    (z_min : PySem.W.nsIn K mainGlobals "min" = some none)
    (z_reversed : PySem.W.nsIn K mainGlobals "reversed" = some none)
    (z_ValueError : PySem.W.nsIn K mainGlobals "ValueError" = some none)
    (z_sorted : PySem.W.nsIn K mainGlobals "sorted" = some none) :
    ∃ fd : FuncData, (∀ (s : Shared) (v : Value), BindsTo s fd ⟨[v], []⟩ [("_law_script", v)]) ∧ ∀ base : Heap, K.In base → base.Ns mainGlobals mg → FnOk l.prog w K mg base CX0 12 fa fd ["_law_script"] (spLaw K) := by
  have e := hfa.symm.trans (PySem.W.mg_of X G a33)
  cases e
  have B : BOk mg := ⟨(PySem.W.mg_none_of X G z_isinstance), (PySem.W.mg_none_of X G z_int), (PySem.W.mg_none_of X G z_bool), (PySem.W.mg_none_of X G z_str), (PySem.W.mg_none_of X G z_tuple), (PySem.W.mg_none_of X G z_list), (PySem.W.mg_none_of X G z_len), (PySem.W.mg_none_of X G z_range)⟩
  have mAbs := (PySem.W.mg_none_of X G z_abs)
  have mMax := (PySem.W.mg_none_of X G z_max)
  have mRev := (PySem.W.mg_none_of X G z_reversed)
  have mSo := (PySem.W.mg_none_of X G z_sorted)
  have mVE := (PySem.W.mg_none_of X G z_ValueError)
  have mNL := PySem.W.mg_of X G nL
  have FL := fun_mk (st := s_law) l33 c33 k33
  have OCN : OexC K CN := ⟨⟨_, _, _, _, _, _, _, _, _, _, _, _, _, _, _, xLCN, by first | rfl | simp [PySem.HandSPX.refsVE]⟩, saCN, eCCN, tCCN, kCCN⟩
  have cXCN : (PySem.W.clsIn K CN).isSome = true := by
    obtain ⟨cd, hc, _⟩ := PySem.W.any_some hCCN
    rw [hc]
    rfl
  have EECN : ErC K CN CH "name" := ⟨⟨cXCN, gaCN, ggCN, eCCN, haCN, hn, ht, hmCN⟩, ⟨gaCN, ggCN, eCCN, hCCN⟩, nkCN, PySem.W.exm_ref eCCN hCCN tCCN sICN, PySem.W.exm_ref eH dCH tCH sHCN, kit_sub dCH tCH sHCN, kit_typ sVCN⟩
  have OCK : OexC K CK := ⟨⟨_, _, _, _, _, _, _, _, _, _, _, _, _, _, _, xLCK, by first | rfl | simp [PySem.HandSPX.refsVE]⟩, saCK, eCCK, tCCK, kCCK⟩
  have cXCK : (PySem.W.clsIn K CK).isSome = true := by
    obtain ⟨cd, hc, _⟩ := PySem.W.any_some hCCK
    rw [hc]
    rfl
  have EECK : ErC K CK CH "kind" := ⟨⟨cXCK, gaCK, ggCK, eCCK, haCK, hn, ht, hmCK⟩, ⟨gaCK, ggCK, eCCK, hCCK⟩, nkCK, PySem.W.exm_ref eCCK hCCK tCCK sICK, PySem.W.exm_ref eH dCH tCH sHCK, kit_sub dCH tCH sHCK, kit_typ sVCK⟩
  have OCM : OexC K CM := ⟨⟨_, _, _, _, _, _, _, _, _, _, _, _, _, _, _, xLCM, by first | rfl | simp [PySem.HandSPX.refsVE]⟩, saCM, eCCM, tCCM, kCCM⟩
  have cXCM : (PySem.W.clsIn K CM).isSome = true := by
    obtain ⟨cd, hc, _⟩ := PySem.W.any_some hCCM
    rw [hc]
    rfl
  have EECM : ErC K CM CH "name" := ⟨⟨cXCM, gaCM, ggCM, eCCM, haCM, hn, ht, hmCM⟩, ⟨gaCM, ggCM, eCCM, hCCM⟩, nkCM, PySem.W.exm_ref eCCM hCCM tCCM sICM, PySem.W.exm_ref eH dCH tCH sHCM, kit_sub dCH tCH sHCM, kit_typ sVCM⟩
  have OCU : OexC K CU := ⟨⟨_, _, _, _, _, _, _, _, _, _, _, _, _, _, _, xLCU, by first | rfl | simp [PySem.HandSPX.refsVE]⟩, saCU, eCCU, tCCU, kCCU⟩
  have cXCU : (PySem.W.clsIn K CU).isSome = true := by
    obtain ⟨cd, hc, _⟩ := PySem.W.any_some hCCU
    rw [hc]
    rfl
  have EECU : ErC K CU CH "name" := ⟨⟨cXCU, gaCU, ggCU, eCCU, haCU, hn, ht, hmCU⟩, ⟨gaCU, ggCU, eCCU, hCCU⟩, nkCU, PySem.W.exm_ref eCCU hCCU tCCU sICU, PySem.W.exm_ref eH dCH tCH sHCU, kit_sub dCH tCH sHCU, kit_typ sVCU⟩

  have R : Errs K mg CN CK CM CU CH := ⟨PySem.W.mg_of X G mCN, PySem.W.mg_of X G mCK, PySem.W.mg_of X G mCM, PySem.W.mg_of X G mCU, PySem.W.mg_of X G mCH, mVE, EECN, EECK, EECM, EECU,
    PySem.W.exm_ref eCCN hCCN tCCN sCKCN, PySem.W.exm_ref eCCN hCCN tCCN sCMCN, PySem.W.exm_ref eCCK hCCK tCCK sCMCK, PySem.W.exm_ref eCCN hCCN tCCN sCUCN, PySem.W.exm_ref eCCK hCCK tCCK sCUCK, PySem.W.exm_ref eCCM hCCM tCCM sCUCM,
    kitAny_cons (kit_not hCCK tCCK sCNCK sICN) (fun _ => kitAny_cons (kit_not hCCM tCCM sCNCM sICN) (fun _ => kitAny_cons (kit_not hCCU tCCU sCNCU sICN) (fun _ => rfl) (fun z => nomatch z)) (fun z => nomatch z)) (fun z => nomatch z), kitAny_cons (kit_not hCCM tCCM sCKCM sICK) (fun _ => kitAny_cons (kit_not hCCU tCCU sCKCU sICK) (fun _ => rfl) (fun z => nomatch z)) (fun z => nomatch z), (kit_not hCCU tCCU sCMCU sICM)⟩
  refine ⟨PySem.W.fnOf "law" "law" (defArgs s_law) (defBody s_law) (defScope s_law) .none kV33 dc33 pm33 an33 cd33 ct33, fun s v => .of_eq rfl, fun base _ _ => ?_⟩
  have Flet : Fn l.prog w K mg base 1 "is_letter" (spLet let1) := ok_letter (top_mk X G a2 l2 c2 k2)
  have Fdig : Fn l.prog w K mg base 1 "is_digit" (spLet dig1) := ok_digit (top_mk X G a3 l3 c3 k3)
  have Fname := ok_isname (top_mk X G a4 l4 c4 k4) B.len mNL Flet Fdig
  have Fcell : Fn l.prog w K mg base 1 "_law_cell" (spCell K) := ok_cell (top_mk X G a14 l14 c14 k14) B.len mAbs
  have Fpool := ok_pool (top_mk X G a15 l15 c15 k15) Fcell B.int
  have Fnext : Fn l.prog w K mg base 1 "_law_next" spNext := ok_next (top_mk X G a16 l16 c16 k16) B.int
  have RN : Er l.prog w K mg base "BadName" CN "name" := ok_erN (topM_mk a34 i34 l34 c34 k34) OCN nkCN R.mN
  have RK : Er l.prog w K mg base "BadKind" CK "kind" := ok_erK (topM_mk a35 i35 l35 c35 k35) OCK nkCK R.mK
  have RM : Er l.prog w K mg base "NameTaken" CM "name" := ok_erM (topM_mk a36 i36 l36 c36 k36) OCM nkCM R.mM
  have RU : Er l.prog w K mg base "UnknownName" CU "name" := ok_erU (topM_mk a37 i37 l37 c37 k37) OCU nkCU R.mU
  have Fwh : Fn l.prog w K mg base 1 "is_number_from" (spWh K) := ok_whole (top_mk X G a0 l0 c0 k0) B
  have Fkind := ok_kind (top_mk X G a1 l1 c1 k1) B Fwh
  have Ffk : Fn l.prog w K mg base 1 "format_kind" spFk := ok_fk (top_mk X G a5 l5 c5 k5)
  have Fen : Fn l.prog w K mg base 1 "enclosed" spEn := ok_en (top_mk X G a7 l7 c7 k7)
  have Ffmt := ok_fmt (top_mk X G a6 l6 c6 k6) Fen Ffk 2
  have Fmake := ok_make (top_mk X G a8 l8 c8 k8) B.tuple Fname Fkind RN RK RM
  have Fhold := ok_hold (top_mk X G a9 l9 c9 k9) RU
  have Fwith := ok_with (top_mk X G a10 l10 c10 k10) Fmake
  have Fwo := ok_wo (top_mk X G a11 l11 c11 k11) B.tuple B.len RU
  have Fpo := ok_po (top_mk X G a12 l12 c12 k12) Ffmt
  have Fbare := ok_bare (top_mk X G a13 l13 c13 k13) B.tuple mSo Fpo
  have Fmode := ok_mode (top_mk X G a20 l20 c20 k20) Fnext
  have Flname := ok_lname (top_mk X G a18 l18 c18 k18) B.len mMax B.range Fnext
  have Ffresh := ok_fresh (top_mk X G a19 l19 c19 k19) B.range B.str Flname
  have Fdeep := ok_deep (top_mk X G a21 l21 c21 k21) Fnext Fmode 2
  have Fholds := ok_holds (top_mk X G a22 l22 c22 k22) B.range B.len Fnext Fdeep Ffresh Fmode
  have Fspoilt := ok_spoilt (top_mk X G a23 l23 c23 k23) B.range B.len B.list Fnext
  have Fgn : Fn l.prog w K mg base 1 "_law_good_name" spGN := ok_gn (top_mk X G a24 l24 c24 k24) B.len
  have Fgm : Fn l.prog w K mg base 1 "_law_good_mode" spGM := ok_gm (top_mk X G a25 l25 c25 k25) B
  have Fdue := ok_due (top_mk X G a26 l26 c26 k26) B.tuple Fgn Fgm
  have Ftold := ok_told (top_mk X G a27 l27 c27 k27) B.isi R Fmake Fwith Fwo Fhold
  have Frefa := ok_refA (top_mk X G a28 l28 c28 k28) B.isi B.list R Fmake
  have Ftx : Fn l.prog w K mg base 3 "_law_text" (spTx 2) := ok_tx (top_mk X G a29 l29 c29 k29) B.str 2
  have Fkey := ok_lkey (top_mk X G a30 l30 c30 k30) Ftx
  have Fsame : Fn l.prog w K mg base 9 "_law_same" (spEqv K 8) := ok_eqv (top_mk X G a17 l17 c17 k17) B 8
  have Fnamed := ok_named (top_mk X G a32 l32 c32 k32) B.range B.len B.tuple Fnext Fsame Ftold Fmode Fdeep Fdue
  have Fbt := ok_btold (top_mk X G a31 l31 c31 k31) mSo B.tuple B.list mRev Fkey Fsame Fbare Fnext Ffresh
  exact ok_law FL B.tuple B.list Fpool Fholds Fdeep Fdue Ftold Fsame Fspoilt Frefa Fnamed Ffresh Fbt
theorem walk {l : PySem.W.OpenLaw} {q : Program} {loose : List Str} {XP : (Str → Option Value) → Heap → Prop} {YP : World → Heap → Prop} {d : DefRec} {K : Params → PySem.W.Frag} (hn : l.most = some 63) (hdf : d.params.defaults = [])
    (hY : ∀ (w : World) (h : Heap), YP w h → (K w.params).In h)
    (F : ∀ (w : World) (mg : Str → Option Value) (fa : Addr) (h : Heap), (K w.params).In h → h.Ns mainGlobals mg → mg d.name = some (.ref fa) →
      ∃ fd : FuncData, (∀ (s : Shared) (u : Value), BindsTo s fd ⟨[u], []⟩ [("_law_script", u)]) ∧ ∀ base : Heap, (K w.params).In base → base.Ns mainGlobals mg → FnOk l.prog w (K w.params) mg base CX0 12 fa fd ["_law_script"] (spLaw (K w.params))) :
    PySem.W.WalkO q loose XP YP l.row.toRowW d [] (fun f vs => PySem.call f vs) :=
  L2.walk_of (n := 63) (k := 12) (x := "_law_script") (CX := fun _ => CX0) (sp := fun w => spLaw (K w.params)) hn (by decide) hdf ⟨rfl, by decide, by decide⟩ hY F (fun _ _ a ns hl _ hS => ⟨a, ns, rfl, hS, hl, fun _ => rfl⟩) fun _ _ _ _ _ z => z
end
end K03
open PySem PySem.W PyProof.Rows
set_option maxRecDepth 100000 in
set_option maxHeartbeats 0 in
theorem PySem.Challenge.cw_heldproofs_k03_claims_made_holds : PySem.Challenge.rw_heldproofs_k03_claims_made.Holds := by
  w_on; o_law; k_head; (case hw => w_witness2)
  k_fill
  refine K03.walk (l := PySem.Challenge.rw_heldproofs_k03_claims_made) rfl rfl (fun w h Y => PySem.W.kIn_of Y) ?F
  case F =>
    intro w mg fa h KX G hmg
    refine' K03.all_mk KX G hmg ?a0 ?l0 ?c0 ?k0 ?a1 ?l1 ?c1 ?k1 ?a2 ?l2 ?c2 ?k2 ?a3 ?l3 ?c3 ?k3 ?a4 ?l4 ?c4 ?k4 ?a5 ?l5 ?c5 ?k5 ?a6 ?l6 ?c6 ?k6 ?a7 ?l7 ?c7 ?k7 ?a8 ?l8 ?c8 ?k8 ?a9 ?l9 ?c9 ?k9 ?a10 ?l10 ?c10 ?k10 ?a11 ?l11 ?c11 ?k11 ?a12 ?l12 ?c12 ?k12 ?a13 ?l13 ?c13 ?k13 ?a14 ?l14 ?c14 ?k14 ?a15 ?l15 ?c15 ?k15 ?a16 ?l16 ?c16 ?k16 ?a17 ?l17 ?c17 ?k17 ?a18 ?l18 ?c18 ?k18 ?a19 ?l19 ?c19 ?k19 ?a20 ?l20 ?c20 ?k20 ?a21 ?l21 ?c21 ?k21 ?a22 ?l22 ?c22 ?k22 ?a23 ?l23 ?c23 ?k23 ?a24 ?l24 ?c24 ?k24 ?a25 ?l25 ?c25 ?k25 ?a26 ?l26 ?c26 ?k26 ?a27 ?l27 ?c27 ?k27 ?a28 ?l28 ?c28 ?k28 ?a29 ?l29 ?c29 ?k29 ?a30 ?l30 ?c30 ?k30 ?a31 ?l31 ?c31 ?k31 ?a32 ?l32 ?c32 ?k32 ?a33 ?l33 ?c33 ?k33 ?nL ?mCH ?mCN ?mCK ?mCM ?mCU ?xLCN ?a34 ?i34 ?l34 ?c34 ?k34 ?saCN ?gaCN ?ggCN ?nkCN ?kCCN ?eCCN ?tCCN ?hCCN ?haCN ?hmCN ?sVCN ?sICN ?sHCN ?sCNCK ?sCNCM ?sCNCU ?xLCK ?a35 ?i35 ?l35 ?c35 ?k35 ?saCK ?gaCK ?ggCK ?nkCK ?kCCK ?eCCK ?tCCK ?hCCK ?haCK ?hmCK ?sVCK ?sICK ?sHCK ?sCKCN ?sCKCM ?sCKCU ?xLCM ?a36 ?i36 ?l36 ?c36 ?k36 ?saCM ?gaCM ?ggCM ?nkCM ?kCCM ?eCCM ?tCCM ?hCCM ?haCM ?hmCM ?sVCM ?sICM ?sHCM ?sCMCN ?sCMCK ?sCMCU ?xLCU ?a37 ?i37 ?l37 ?c37 ?k37 ?saCU ?gaCU ?ggCU ?nkCU ?kCCU ?eCCU ?tCCU ?hCCU ?haCU ?hmCU ?sVCU ?sICU ?sHCU ?sCUCN ?sCUCK ?sCUCM ?hn ?ht ?eH ?tCH ?dCH ?z_isinstance ?z_int ?z_bool ?z_str ?z_tuple ?z_list ?z_len ?z_range ?z_abs ?z_max ?z_min ?z_reversed ?z_ValueError ?z_sorted
    (case a0 => k_is)
    (case l0 => k_is)
    (case c0 => k_is)
    (case k0 => k_is)
    (case a1 => k_is)
    (case l1 => k_is)
    (case c1 => k_is)
    (case k1 => k_is)
    (case a2 => k_is)
    (case l2 => k_is)
    (case c2 => k_is)
    (case k2 => k_is)
    (case a3 => k_is)
    (case l3 => k_is)
    (case c3 => k_is)
    (case k3 => k_is)
    (case a4 => k_is)
    (case l4 => k_is)
    (case c4 => k_is)
    (case k4 => k_is)
    (case a5 => k_is)
    (case l5 => k_is)
    (case c5 => k_is)
    (case k5 => k_is)
    (case a6 => k_is)
    (case l6 => k_is)
    (case c6 => k_is)
    (case k6 => k_is)
    (case a7 => k_is)
    (case l7 => k_is)
    (case c7 => k_is)
    (case k7 => k_is)
    (case a8 => k_is)
    (case l8 => k_is)
    (case c8 => k_is)
    (case k8 => k_is)
    (case a9 => k_is)
    (case l9 => k_is)
    (case c9 => k_is)
    (case k9 => k_is)
    (case a10 => k_is)
    (case l10 => k_is)
    (case c10 => k_is)
    (case k10 => k_is)
    (case a11 => k_is)
    (case l11 => k_is)
    (case c11 => k_is)
    (case k11 => k_is)
    (case a12 => k_is)
    (case l12 => k_is)
    (case c12 => k_is)
    (case k12 => k_is)
    (case a13 => k_is)
    (case l13 => k_is)
    (case c13 => k_is)
    (case k13 => k_is)
    (case a14 => k_is)
    (case l14 => k_is)
    (case c14 => k_is)
    (case k14 => k_is)
    (case a15 => k_is)
    (case l15 => k_is)
    (case c15 => k_is)
    (case k15 => k_is)
    (case a16 => k_is)
    (case l16 => k_is)
    (case c16 => k_is)
    (case k16 => k_is)
    (case a17 => k_is)
    (case l17 => k_is)
    (case c17 => k_is)
    (case k17 => k_is)
    (case a18 => k_is)
    (case l18 => k_is)
    (case c18 => k_is)
    (case k18 => k_is)
    (case a19 => k_is)
    (case l19 => k_is)
    (case c19 => k_is)
    (case k19 => k_is)
    (case a20 => k_is)
    (case l20 => k_is)
    (case c20 => k_is)
    (case k20 => k_is)
    (case a21 => k_is)
    (case l21 => k_is)
    (case c21 => k_is)
    (case k21 => k_is)
    (case a22 => k_is)
    (case l22 => k_is)
    (case c22 => k_is)
    (case k22 => k_is)
    (case a23 => k_is)
    (case l23 => k_is)
    (case c23 => k_is)
    (case k23 => k_is)
    (case a24 => k_is)
    (case l24 => k_is)
    (case c24 => k_is)
    (case k24 => k_is)
    (case a25 => k_is)
    (case l25 => k_is)
    (case c25 => k_is)
    (case k25 => k_is)
    (case a26 => k_is)
    (case l26 => k_is)
    (case c26 => k_is)
    (case k26 => k_is)
    (case a27 => k_is)
    (case l27 => k_is)
    (case c27 => k_is)
    (case k27 => k_is)
    (case a28 => k_is)
    (case l28 => k_is)
    (case c28 => k_is)
    (case k28 => k_is)
    (case a29 => k_is)
    (case l29 => k_is)
    (case c29 => k_is)
    (case k29 => k_is)
    (case a30 => k_is)
    (case l30 => k_is)
    (case c30 => k_is)
    (case k30 => k_is)
    (case a31 => k_is)
    (case l31 => k_is)
    (case c31 => k_is)
    (case k31 => k_is)
    (case a32 => k_is)
    (case l32 => k_is)
    (case c32 => k_is)
    (case k32 => k_is)
    (case a33 => k_is)
    (case l33 => k_is)
    (case c33 => k_is)
    (case k33 => k_is)
    (case nL => k_is)
    (case mCH => k_is)
    (case mCN => k_is)
    (case mCK => k_is)
    (case mCM => k_is)
    (case mCU => k_is)
    (case xLCN => k_is)
    (case a34 => k_is)
    (case i34 => k_is)
    (case l34 => k_is)
    (case c34 => k_is)
    (case k34 => k_is)
    (case saCN => k_is)
    (case gaCN => k_is)
    (case ggCN => k_is)
    (case nkCN => k_is)
    (case kCCN => k_is)
    (case eCCN => k_is)
    (case tCCN => k_is)
    (case hCCN => k_is)
    (case haCN => k_is)
    (case hmCN => k_is)
    (case sVCN => k_is)
    (case sICN => k_is)
    (case sHCN => k_is)
    (case sCNCK => k_is)
    (case sCNCM => k_is)
    (case sCNCU => k_is)
    (case xLCK => k_is)
    (case a35 => k_is)
    (case i35 => k_is)
    (case l35 => k_is)
    (case c35 => k_is)
    (case k35 => k_is)
    (case saCK => k_is)
    (case gaCK => k_is)
    (case ggCK => k_is)
    (case nkCK => k_is)
    (case kCCK => k_is)
    (case eCCK => k_is)
    (case tCCK => k_is)
    (case hCCK => k_is)
    (case haCK => k_is)
    (case hmCK => k_is)
    (case sVCK => k_is)
    (case sICK => k_is)
    (case sHCK => k_is)
    (case sCKCN => k_is)
    (case sCKCM => k_is)
    (case sCKCU => k_is)
    (case xLCM => k_is)
    (case a36 => k_is)
    (case i36 => k_is)
    (case l36 => k_is)
    (case c36 => k_is)
    (case k36 => k_is)
    (case saCM => k_is)
    (case gaCM => k_is)
    (case ggCM => k_is)
    (case nkCM => k_is)
    (case kCCM => k_is)
    (case eCCM => k_is)
    (case tCCM => k_is)
    (case hCCM => k_is)
    (case haCM => k_is)
    (case hmCM => k_is)
    (case sVCM => k_is)
    (case sICM => k_is)
    (case sHCM => k_is)
    (case sCMCN => k_is)
    (case sCMCK => k_is)
    (case sCMCU => k_is)
    (case xLCU => k_is)
    (case a37 => k_is)
    (case i37 => k_is)
    (case l37 => k_is)
    (case c37 => k_is)
    (case k37 => k_is)
    (case saCU => k_is)
    (case gaCU => k_is)
    (case ggCU => k_is)
    (case nkCU => k_is)
    (case kCCU => k_is)
    (case eCCU => k_is)
    (case tCCU => k_is)
    (case hCCU => k_is)
    (case haCU => k_is)
    (case hmCU => k_is)
    (case sVCU => k_is)
    (case sICU => k_is)
    (case sHCU => k_is)
    (case sCUCN => k_is)
    (case sCUCK => k_is)
    (case sCUCM => k_is)
    (case hn => k_is)
    (case ht => k_is)
    (case eH => k_is)
    (case tCH => k_is)
    (case dCH => k_is)
    (case z_isinstance => k_is)
    (case z_int => k_is)
    (case z_bool => k_is)
    (case z_str => k_is)
    (case z_tuple => k_is)
    (case z_list => k_is)
    (case z_len => k_is)
    (case z_range => k_is)
    (case z_abs => k_is)
    (case z_max => k_is)
    (case z_min => k_is)
    (case z_reversed => k_is)
    (case z_ValueError => k_is)
    (case z_sorted => k_is)
