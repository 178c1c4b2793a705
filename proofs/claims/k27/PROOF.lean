import PyProof.Rows.All
import Wide.All
import OpenK.AllK
import Wide.FinOn
import HandS.ForMost
import HandS.IsInst
import HandS.Codes
import HandS.ForExc
import HandS.ExcInit
import HandS.ExcField
import HandS.CallSlots
import HandS.TupLe
import KE.KExcIs
import HandS.Flt
import HandS.ExcCtx
import HandS.HotCalls
import HandS.ExcInitHot
import HandS.Text
import HandS.Iter
import HandS.Wide
import HandS.Defaults
import HandS.More
import HandS.Conv
import HandS.Deep
import HandS.Set
import HandS.SetFor
import HandS.Strs
import HandS.Rev
import HandS.TupSets
import HandS.DictComp
import HandS.Dict
import HandS.Finally
import HandS.Flow
import HandS.Style
import HandS.TupAny
import KE.GoesMore
import KE.GoesEnum
import HandS.Zip
import HandS.RevRange
import HandS.GenBody
import HandS.GenYield
import HandS.GenCall
import HandS.GenList
import KE.KDictZip
import HandS.WordsDict
import PySem.Challenge.RW_heldproofs_k27_whole_counts_by_choices
set_option Elab.async false
set_option linter.all false
set_option maxRecDepth 100000
/-! My own layer over the hand layer: the weakest reading of a piece of syntax, and a rule a construct, chosen where the values are known. -/
namespace Wk
open PySem PySem.Spec PyProof.Rows L2
section
variable (X : Cx)
@[irreducible] def wE (e : Expr) : TE := fun σ H Q => ∀ (pins : List (Addr × Obj)) (s : Shared), Inv X pins σ H s → wpAny (model X.prog X.w) X.A (eval e X.env) (EP X pins σ Q) X.xe s
@[irreducible] def wT (e : Expr) : TT := fun σ H Q => ∀ (pins : List (Addr × Obj)) (s : Shared), Inv X pins σ H s → wpAny (model X.prog X.w) X.A (isTrue e X.env (eval e X.env)) (TP X pins σ Q) X.xe s
@[irreducible] def wW (e : Expr) : TT := fun σ H Q => ∀ (whole : Sem Value) (pins : List (Addr × Obj)) (s : Shared), Inv X pins σ H s → wpAny (model X.prog X.w) X.A (isTrue e X.env whole) (TP X pins σ Q) X.xe s
@[irreducible] def wA (es : List Expr) : TA := fun σ H Q => ∀ (pos : Pos) (pins : List (Addr × Obj)) (s : Shared), Inv X pins σ H s → wpAny (model X.prog X.w) X.A (spliced (backTo pos (starEach es X.env))) (AP X pins σ Q) X.xe s
@[irreducible] def wS (st : Stmt) : TS := fun D σ H => ∀ (pins : List (Addr × Obj)) (s : Shared), Inv X pins σ H s → wpAny (model X.prog X.w) X.A (exec st X.env) (SP X pins D) X.xe s
@[irreducible] def wL (st : List Stmt) : TS := fun D σ H => ∀ (pins : List (Addr × Obj)) (s : Shared), Inv X pins σ H s → wpAny (model X.prog X.w) X.A (execs st X.env) (SP X pins D) X.xe s
@[irreducible] def wO (f : Value → Value → Sem Value) : R2 := fun x y H Q => ∀ (pins : List (Addr × Obj)) (s : Shared) (σ : L2.St) (v u : Value), Inv X pins σ H s → RelV x v → RelV y u → wpAny (model X.prog X.w) X.A (f v u) (EP X pins σ Q) X.xe s
@[irreducible] def wB (op : Operator) : R2 := fun x y H Q => wO X (binaryOp op) x y H Q
@[irreducible] def wK (op : CmpOp) : R2 := fun x y H Q => wO X (compareOp op) x y H Q
@[irreducible] def wIx : R2 := fun x y H Q => ∀ (value slice : Expr) (pins : List (Addr × Obj)) (s : Shared) (σ : L2.St) (v u : Value), Inv X pins σ H s → RelV x v → RelV y u → subscripted slice false v u = operate [v, u] (getItem v u) → wpAny (model X.prog X.w) X.A (subscriptTail value slice v u) (EP X pins σ Q) X.xe s
@[irreducible] def wC (f : Value) : List V → Hp → VK → Prop := fun xs H Q => ∀ (pins : List (Addr × Obj)) (s : Shared) (σ : L2.St) (us : List Value), Inv X pins σ H s → Vals xs us → wpAny (model X.prog X.w) X.A (call f us) (EP X pins σ Q) X.xe s
@[irreducible] def wSet : V → V → V → Hp → (Hp → Prop) → Prop := fun o i v H Q => ∀ (pins : List (Addr × Obj)) (s : Shared) (σ : L2.St) (ov iv u : Value), Inv X pins σ H s → RelV o ov → RelV i iv → RelV v u → wpAny (model X.prog X.w) X.A (setItem ov iv u) (fun _ s' => ∃ H', Inv X pins σ H' s' ∧ Q H') X.xe s
end
section
variable {X : Cx} {e a b c : Expr} {es rest : List Expr} {st : Stmt} {sts : List Stmt} {σ : L2.St} {H : Hp} {Q : VK} {D : Ends} {pos p0 : Pos} {QT : Bool → Hp → Prop}
theorem pe : PE X e (wE X e) := ⟨fun pins s _ _ _ I h => by unfold wE at h; exact h pins s I⟩
theorem pt : PT X e (wT X e) := ⟨fun pins s _ _ _ I h => by unfold wT at h; exact h pins s I⟩
theorem pw : PW X e (wW X e) := ⟨fun wh pins s _ _ _ I h => by unfold wW at h; exact h wh pins s I⟩
theorem pa : PA X es (wA X es) := ⟨fun p pins s _ _ _ I h => by unfold wA at h; exact h p pins s I⟩
theorem ps : PS X st (wS X st) := ⟨fun pins s _ _ _ I h => by unfold wS at h; exact h pins s I⟩
theorem pl : PSs X sts (wL X sts) := ⟨fun pins s _ _ _ I h => by unfold wL at h; exact h pins s I⟩
theorem opr {f : Value → Value → Sem Value} : OpR X f (wO X f) := fun pins s σ _ _ _ v u _ I rx ry h => by unfold wO at h; exact h pins s σ v u I rx ry
theorem opb {op : Operator} : OpR X (binaryOp op) (wB X op) := fun pins s σ _ _ _ v u _ I rx ry h => by unfold wB at h; exact opr pins s σ _ _ _ v u _ I rx ry h
theorem opk {op : CmpOp} : OpR X (compareOp op) (wK X op) := fun pins s σ _ _ _ v u _ I rx ry h => by unfold wK at h; exact opr pins s σ _ _ _ v u _ I rx ry h
theorem ixr : IxR X (wIx X) := fun va sl pins s σ _ _ _ v u _ I rx ry h hs => by unfold wIx at h; exact h va sl pins s σ v u I rx ry hs
theorem cr {f : Value} : CallR X f (wC X f) := fun pins s σ _ _ us _ I r h => by unfold wC at h; exact h pins s σ us I r
theorem pset : PSet X (wSet X) := fun pins s σ _ _ _ _ ov iv u _ I ro ri rv h => by unfold wSet at h; exact h pins s σ ov iv u I ro ri rv
theorem e_of {t : TE} (h : PE X e t) (q : t σ H Q) : wE X e σ H Q := by unfold wE; exact fun pins s I => h.run pins s σ H Q I q
theorem t_of {t : TT} (h : PT X e t) (q : t σ H QT) : wT X e σ H QT := by unfold wT; exact fun pins s I => h.run pins s σ H QT I q
theorem w_of {t : TT} (h : PW X e t) (q : t σ H QT) : wW X e σ H QT := by unfold wW; exact fun wh pins s I => h.run wh pins s σ H QT I q
theorem a_of {t : TA} {QA : List V → Hp → Prop} (h : PA X es t) (q : t σ H QA) : wA X es σ H QA := by unfold wA; exact fun p pins s I => h.run p pins s σ H QA I q
theorem s_of {t : TS} (h : PS X st t) (q : t D σ H) : wS X st D σ H := by unfold wS; exact fun pins s I => h.run pins s σ H D I q
theorem l_of {t : TS} (h : PSs X sts t) (q : t D σ H) : wL X sts D σ H := by unfold wL; exact fun pins s I => h.run pins s σ H D I q
theorem o_of {f : Value → Value → Sem Value} {r : R2} {x y : V} (h : OpR X f r) (q : r x y H Q) : wO X f x y H Q := by unfold wO; exact fun pins s σ v u I rx ry => h pins s σ H x y v u Q I rx ry q
theorem b_of {op : Operator} {r : R2} {x y : V} (h : OpR X (binaryOp op) r) (q : r x y H Q) : wB X op x y H Q := by unfold wB; exact o_of h q
theorem k_of {op : CmpOp} {r : R2} {x y : V} (h : OpR X (compareOp op) r) (q : r x y H Q) : wK X op x y H Q := by unfold wK; exact o_of h q
theorem ix_of {r : R2} {x y : V} (h : IxR X r) (q : r x y H Q) : wIx X x y H Q := by unfold wIx; exact fun va sl pins s σ v u I rx ry hs => h va sl pins s σ H x y v u Q I rx ry q hs
theorem c_of {f : Value} {r : List V → Hp → VK → Prop} {xs : List V} (h : CallR X f r) (q : r xs H Q) : wC X f xs H Q := by unfold wC; exact fun pins s σ us I r => h pins s σ H xs us Q I r q
theorem set_of {t : V → V → V → Hp → (Hp → Prop) → Prop} {o i v : V} {QH : Hp → Prop} (h : PSet X t) (q : t o i v H QH) : wSet X o i v H QH := by unfold wSet; exact fun pins s σ ov iv u I ro ri rv => h pins s σ H o i v ov iv u QH I ro ri rv q

theorem e_mono {Q' : VK} (q : wE X e σ H Q) (h : ∀ v H1, Q v H1 → Q' v H1) : wE X e σ H Q' := by
  unfold wE at q ⊢
  exact fun pins s I => wpAny_mono (q pins s I) (fun _ _ ⟨v, H1, I1, r, z⟩ => ⟨v, H1, I1, r, h v H1 z⟩) fun _ _ z => z
theorem a_mono {QA QA' : List V → Hp → Prop} (q : wA X es σ H QA) (h : ∀ v H1, QA v H1 → QA' v H1) : wA X es σ H QA' := by
  unfold wA at q ⊢
  exact fun pp pins s I => wpAny_mono (q pp pins s I) (fun _ _ ⟨v, H1, I1, r, z⟩ => ⟨v, H1, I1, r, h v H1 z⟩) fun _ _ z => z

end
/-- where a name stands in a list; found by its spelling -/
inductive At {α : Type} : List α → Nat → α → Prop where
  | z {x : α} {l : List α} : At (x :: l) 0 x
  | s {x y : α} {l : List α} {i : Nat} (h : At l i x) : At (y :: l) (i + 1) x
theorem At.get {α : Type} {l : List α} {i : Nat} {x : α} (h : At l i x) : l[i]? = some x := by
  induction h with
  | z => rfl
  | s _ ih => simpa using ih
theorem At.mem {α : Type} {l : List α} {i : Nat} {x : α} (h : At l i x) : x ∈ l := List.mem_of_getElem? h.get
instance locDec {sc : Scope} {x : Str} : Decidable (Loc sc x) := inferInstanceAs (Decidable (_ ∨ _))
/-- a def's names: its own, in their slots, and the global ones -/
structure ScOk (N G : List Str) (sc : Scope) : Prop where
  nd : N.Nodup
  lo : ∀ x ∈ N, Loc sc x ∧ (x == ("__debug__" : Str)) = false ∧ (x == ("__classdict__" : Str)) = false
  gl : ∀ x ∈ G, sc.names.lookup x = some .globalImplicit ∧ (x == ("__debug__" : Str)) = false ∧ x ≠ "__name__"
/-- the body that the proof stands in -/
structure In (X : Cx) (N G : List Str) (sc : Scope) : Prop where
  ok : ScOk N G sc
  n : ∃ C, X.N = N ++ C
  nd : X.N.Nodup
  sc : X.env.scope = sc
  fn : X.fn = fun _ => true
  nev : PassesOwn (model X.prog X.w) X.A X.env X.xe
section
variable {X : Cx} {e a b c : Expr} {es rest : List Expr} {st : Stmt} {sts : List Stmt} {σ : L2.St} {H : Hp} {Q : VK} {D : Ends} {pos p0 : Pos} {QT : Bool → Hp → Prop} {N G : List Str} {sc : Scope}
theorem In.loc (I : In X N G sc) {i : Nat} {x : Str} (h : At N i x) : Loc X.env.scope x := by rw [I.sc]; exact (I.ok.lo x h.mem).1
theorem In.vis (I : In X N G sc) {i : Nat} {x : Str} (h : At N i x) : Vis X.env.scope x := by
  rcases I.loc h with z | z
  · exact .inl z
  · exact .inr (.inl z)
theorem In.hi (I : In X N G sc) {i : Nat} {x : Str} (h : At N i x) : X.N[i]? = some x := by
  obtain ⟨C, e⟩ := I.n
  have hl : i < N.length := by
    have := h.get
    exact (List.getElem?_eq_some_iff.mp this).1
  rw [e, List.getElem?_append_left hl]
  exact h.get
theorem In.f (I : In X N G sc) {x : Str} : X.fn x = true ∨ X.env.scope.names.lookup x = some .local := .inl (by rw [I.fn])
theorem In.g (I : In X N G sc) {i : Nat} {x : Str} (h : At G i x) : Gl X x := by
  show X.env.scope.names.lookup x = _
  rw [I.sc]
  exact (I.ok.gl x h.mem).1
theorem In.gd (I : In X N G sc) {i : Nat} {x : Str} (h : At G i x) : (x == ("__debug__" : Str)) = false := (I.ok.gl x h.mem).2.1
theorem In.gn (I : In X N G sc) {i : Nat} {x : Str} (h : At G i x) : x ≠ "__name__" := (I.ok.gl x h.mem).2.2
theorem In.never (I : In X N G sc) : PassesOwn (model X.prog X.w) X.A X.env X.xe := I.nev

/-! ### statements -/
theorem l_nil {nx : L2.St → Hp → Prop} {rt : VK} {bk ct : L2.St → Hp → Prop} (q : nx σ H) : wL X [] ⟨nx, rt, bk, ct⟩ σ H := l_of pss_nil q
theorem l_cons {nx : L2.St → Hp → Prop} {rt : VK} {bk ct : L2.St → Hp → Prop} (q : wS X st ⟨fun σ' H' => wL X sts ⟨nx, rt, bk, ct⟩ σ' H', rt, bk, ct⟩ σ H) : wL X (st :: sts) ⟨nx, rt, bk, ct⟩ σ H := l_of (pss_cons ps pl) q
theorem s_set {nx : L2.St → Hp → Prop} {rt : VK} {bk ct : L2.St → Hp → Prop} {i : Nat} {x : Str} {pos' : Pos} (q : wE X e σ H fun v H' => nx (σ.set i (some v)) H') (I : In X N G sc := by assumption) (hA : At N i x := by repeat (first | with_reducible apply At.z | with_reducible apply At.s)) (hs : swapsWith e (some (.Name x pos')) pos.line X.env = pure false := by rfl) :
    wS X (.Assign [.Name x pos'] e pos) ⟨nx, rt, bk, ct⟩ σ H := s_of (ps_set I.nd (I.hi hA) (I.loc hA) pe hs I.f) q
theorem s_ret {nx : L2.St → Hp → Prop} {rt : VK} {bk ct : L2.St → Hp → Prop} (q : wE X e σ H rt) : wS X (.Return (some e) pos) ⟨nx, rt, bk, ct⟩ σ H := s_of (ps_ret pe) q
theorem s_retN {nx : L2.St → Hp → Prop} {rt : VK} {bk ct : L2.St → Hp → Prop} (q : rt .non H) : wS X (.Return none pos) ⟨nx, rt, bk, ct⟩ σ H := s_of ps_retN q
theorem s_pass {nx : L2.St → Hp → Prop} {rt : VK} {bk ct : L2.St → Hp → Prop} (q : nx σ H) : wS X (.Pass pos) ⟨nx, rt, bk, ct⟩ σ H := s_of ps_pass q
theorem s_brk {nx : L2.St → Hp → Prop} {rt : VK} {bk ct : L2.St → Hp → Prop} (q : bk σ H) : wS X (.Break pos) ⟨nx, rt, bk, ct⟩ σ H := s_of ps_break q
theorem s_cnt {nx : L2.St → Hp → Prop} {rt : VK} {bk ct : L2.St → Hp → Prop} (q : ct σ H) : wS X (.Continue pos) ⟨nx, rt, bk, ct⟩ σ H := s_of ps_continue q
theorem s_expr {nx : L2.St → Hp → Prop} {rt : VK} {bk ct : L2.St → Hp → Prop} (q : wE X e σ H fun _ H' => nx σ H') (hs : swapsWith e none pos.line X.env = pure false := by rfl) : wS X (.Expr e pos) ⟨nx, rt, bk, ct⟩ σ H := s_of (ps_expr pe hs) q
theorem s_if {nx : L2.St → Hp → Prop} {rt : VK} {bk ct : L2.St → Hp → Prop} {A B : List Stmt} (q : wT X c σ H fun k H1 => if k = true then wL X A ⟨nx, rt, bk, ct⟩ σ H1 else wL X B ⟨nx, rt, bk, ct⟩ σ H1) : wS X (.If c A B pos) ⟨nx, rt, bk, ct⟩ σ H := s_of (ps_if pt pl pl) q
theorem s_fld {nx : L2.St → Hp → Prop} {rt : VK} {bk ct : L2.St → Hp → Prop} {o value : Expr} {f : Str} {pos' : Pos} (q : wE X value σ H fun y H1 => wE X o σ H1 fun x H2 => ∃ a C dx fs, x = .ref a ∧ H2 a = some (.ins C dx fs) ∧ Cls X.K C ∧ NoAttr X.K C f ∧ fs.length < 1000 ∧ nx σ (upd H2 a (.ins C dx (putF f y fs))))
    (hs : swapsWith value (some (.Attribute o f pos')) pos.line X.env = pure false := by rfl) : wS X (.Assign [.Attribute o f pos'] value pos) ⟨nx, rt, bk, ct⟩ σ H := s_of (ps_fld pe pe hs) q
/-- o[i] = v -/
theorem s_sub {nx : L2.St → Hp → Prop} {rt : VK} {bk ct : L2.St → Hp → Prop} {o i value : Expr} {pos' : Pos} (q : wE X value σ H fun v H1 => wE X o σ H1 fun x H2 => wE X i σ H2 fun y H3 => wSet X x y v H3 fun H4 => nx σ H4)
    (hs : swapsWithSole [.Subscript o i pos'] value pos.line X.env = pure false := by rfl) (hw : swappedStores [.Subscript o i pos'] value X.env = pure none := by rfl) (h1 : (assignEach [.Subscript o i pos'] X.env).map (·.2) = [assign (.Subscript o i pos') X.env] := by rfl)
    (ha : ∀ v, assign (.Subscript o i pos') X.env v = (do let ov ← holding [v] (eval o X.env); let iv ← holding [v, ov] (eval i X.env); standAt pos'; holding [v, ov, iv] (setItem ov iv v); release [v, ov, iv] []) := by intro _; rfl) : wS X (.Assign [.Subscript o i pos'] value pos) ⟨nx, rt, bk, ct⟩ σ H := s_of (ps_asg pe (pg_sub pe pe pset ha) hs hw h1) q
/-- two names from a tuple -/
theorem s_tup2 {nx : L2.St → Hp → Prop} {rt : VK} {bk ct : L2.St → Hp → Prop} {i j : Nat} {x y : Str} {k : Nat} {px py pt : Pos} (q : wE X e σ H fun v H1 => ∃ a u w, v = .ref a ∧ SqT X.K H1 a [u, w] ∧ nx ((σ.set i (some u)).set j (some w)) H1)
    (I : In X N G sc := by assumption) (hc : X.calm = true := by rfl) (hA : At N i x := by repeat (first | with_reducible apply At.z | with_reducible apply At.s)) (hB : At N j y := by repeat (first | with_reducible apply At.z | with_reducible apply At.s))
    (hs : swapsWithSole [.Tuple [.Name x px, .Name y py] k pt] e pos.line X.env = pure false := by rfl) (hw : swappedStores [.Tuple [.Name x px, .Name y py] k pt] e X.env = pure none := by rfl) (h1 : (assignEach [.Tuple [.Name x px, .Name y py] k pt] X.env).map (·.2) = [assign (.Tuple [.Name x px, .Name y py] k pt) X.env] := by rfl) :
    wS X (.Assign [.Tuple [.Name x px, .Name y py] k pt] e pos) ⟨nx, rt, bk, ct⟩ σ H := by
  refine s_of (ps_asg pe (pg_tup hc (pgs_cons (pg_name I.nd (I.hi hA) (I.loc hA) I.f) (pgs_cons (pg_name I.nd (I.hi hB) (I.loc hB) I.f) pgs_nil))) hs hw h1) (e_mono q fun v H1 q1 => ?_)
  obtain ⟨ad, u, w, ev, hq, q2⟩ := q1
  exact ⟨ad, [u, w], ev, hq, rfl, u, [w], rfl, w, [], rfl, rfl, q2⟩
/-! ### expressions -/
theorem e_var {i : Nat} {x : Str} {v : V} (q : Q v H) (I : In X N G sc := by assumption) (hA : At N i x := by repeat (first | with_reducible apply At.z | with_reducible apply At.s)) (hσ : σ[i]? = some (some v) := by exact rfl) : wE X (.Name x pos) σ H Q :=
  e_of (pe_var (I.hi hA) (I.vis hA) (I.ok.lo x hA.mem).2.1 (I.ok.lo x hA.mem).2.2) ⟨v, hσ, q⟩
theorem e_int {i : Int} {j} (q : Q (.int i) H) : wE X (.Constant (.int i) j pos) σ H Q := e_of pe_int q
theorem e_bl {k : Bool} {j} (q : Q (.bl k) H) : wE X (.Constant (.bool k) j pos) σ H Q := e_of pe_bl q
theorem e_non {j} (q : Q .non H) : wE X (.Constant .none j pos) σ H Q := e_of pe_non q
theorem e_str {x : Str} {j} (q : Q (.str x) H) : wE X (.Constant (.str x) j pos) σ H Q := e_of pe_str q
theorem e_bin {op : Operator} (q : wE X a σ H fun x H1 => wE X b σ H1 fun y H2 => wB X op x y H2 Q) : wE X (.BinOp a op b pos) σ H Q := e_of (pe_op opb pe pe) q
theorem e_cmp {op : CmpOp} (q : wE X a σ H fun x H1 => wE X b σ H1 fun y H2 => wK X op x y H2 Q) (hm : behindInMarks op b = false := by first | exact nomark _ | rfl) : wE X (.Compare a [op] [b] pos) σ H Q := e_of (pe_cmpR opk pe pe hm) q
theorem t_cmp {op : CmpOp} (q : wE X a σ H fun x H1 => wE X b σ H1 fun y H2 => wK X op x y H2 fun z H3 => ∃ k, z = .bl k ∧ QT k H3) (hm : behindInMarks op b = false := by first | exact nomark _ | rfl) : wT X (.Compare a [op] [b] pos) σ H QT := t_of (pt_cmpR opk pe pe hm) q
theorem t_val (q : wE X e σ H fun z H3 => ∃ k, z = .bl k ∧ QT k H3) (he : ∀ whole, isTrue e X.env whole = (do let v ← whole; standAt e.pos; holding [v] (truthy v)) := by intro _; rfl) : wT X e σ H QT := t_of (pt_val pe he) q
theorem t_not (q : wT X a σ H fun k H1 => QT (!k) H1) : wT X (.UnaryOp .Not a pos) σ H QT := t_of (pt_not pt) q
theorem t_w (q : wW X e σ H QT) : wT X e σ H QT := t_of pw.pt q
theorem w_and1 (q : wT X a σ H QT) : wW X (.BoolOp .And [a] pos) σ H QT := w_of (pw_and1 pt) q
theorem w_or1 (q : wT X a σ H QT) : wW X (.BoolOp .Or [a] pos) σ H QT := w_of (pw_or1 pt) q
theorem w_and (q : wT X a σ H fun k H1 => if k = true then wW X (.BoolOp .And (b :: rest) pos) σ H1 QT else QT false H1) : wW X (.BoolOp .And (a :: b :: rest) pos) σ H QT := w_of (pw_and pt pw) q
theorem w_or (q : wT X a σ H fun k H1 => if k = true then QT true H1 else wW X (.BoolOp .Or (b :: rest) pos) σ H1 QT) : wW X (.BoolOp .Or (a :: b :: rest) pos) σ H QT := w_of (pw_or pt pw) q
theorem e_one {op} (q : wE X a σ H Q) : wE X (.BoolOp op [a] pos) σ H Q := e_of (pe_one pe) q
theorem e_and (q : wE X a σ H fun x H1 => ∃ k, x = .bl k ∧ if k = true then wE X (.BoolOp .And (b :: rest) pos) σ H1 Q else Q (.bl false) H1) : wE X (.BoolOp .And (a :: b :: rest) pos) σ H Q := e_of (pe_and pe pe) q
theorem e_or (q : wE X a σ H fun x H1 => ∃ k, x = .bl k ∧ if k = true then Q (.bl true) H1 else wE X (.BoolOp .Or (b :: rest) pos) σ H1 Q) : wE X (.BoolOp .Or (a :: b :: rest) pos) σ H Q := e_of (pe_or pe pe) q
theorem e_not (q : wE X a σ H fun x H1 => ∃ k, x = .bl k ∧ Q (.bl (!k)) H1) : wE X (.UnaryOp .Not a pos) σ H Q := e_of (pe_not pe) q
theorem e_ifExp (q : wT X c σ H fun k H1 => if k = true then wE X a σ H1 Q else wE X b σ H1 Q) : wE X (.IfExp c a b pos) σ H Q := e_of (pe_ifExp pt pe pe) q
theorem e_ix (q : wE X a σ H fun x H1 => wE X b σ H1 fun y H2 => wIx X x y H2 Q) (hs : PlainIx b := by intro _ _; rfl) : wE X (.Subscript a b pos) σ H Q := e_of (pe_ix ixr pe pe hs) q
theorem e_fld {f : Str} (q : wE X e σ H fun x H1 => ∃ a C dx fs v, x = .ref a ∧ H1 a = some (.ins C dx fs) ∧ Cls X.K C ∧ NoAttr X.K C f ∧ fs.lookup f = some v ∧ Q v H1) (hb : attributeBase e f X.env (eval e X.env) = eval e X.env := by rfl) : wE X (.Attribute e f pos) σ H Q := e_of (pe_fld pe hb) q
theorem a_nil {QA : List V → Hp → Prop} (q : QA [] H) : wA X [] σ H QA := a_of pa_nil q
theorem a_cons {QA : List V → Hp → Prop} (q : wE X e σ H fun x H1 => wA X es σ H1 fun xs H2 => QA (x :: xs) H2) (hs : starEach (e :: es) X.env = (false, eval e X.env) :: starEach es X.env := by rfl) : wA X (e :: es) σ H QA := a_of (pa_cons pe pa hs) q
theorem e_tup {k} (q : wA X es σ H fun xs H1 => xs.length ≤ sizeLine ∧ ∀ p H2, Same H1 H2 → H1 p = none → H2 p = some (.tup xs) → Q (.ref p) H2) : wE X (.Tuple es k pos) σ H Q :=
  e_of (pe_tup pa) (a_mono q fun xs H1 z => ⟨z.1, fun p np => z.2 p _ (fun b o eo => by rw [upd_ne (ne_of_none eo np)]; exact eo) np upd_same⟩)
theorem e_lst (q : wA X es σ H fun xs H1 => xs.length ≤ sizeLine ∧ ∀ p H2, Same H1 H2 → H1 p = none → H2 p = some (.lst xs) → Q (.ref p) H2) : wE X (.List es pos) σ H Q :=
  e_of (pe_lst pa) (a_mono q fun xs H1 z => ⟨z.1, fun p np => z.2 p _ (fun b o eo => by rw [upd_ne (ne_of_none eo np)]; exact eo) np upd_same⟩)
/-! ### calls -/
/-- a def of the module that no exception leaves -/
structure Fn (P : Program) (w : World) (K : PySem.W.Frag) (mg : Str → Option Value) (base : Heap) (k : Nat) (x : Str) (sp : Sp) : Prop where
  ex : ∃ (f : Addr) (fd : FuncData) (ps : List Str), FnOk P w K mg base CX0 k f fd ps sp ∧ mg x = some (.ref f) ∧ PySem.W.keepIn K (.ref f) = true ∧ Binds K fd ps []
theorem e_call {g : Nat} {k n : Nat} {x : Str} {sp : Sp} (F : Fn X.prog X.w X.K X.mg X.base k x sp) (hr : Room n X.A) (hk : k ≤ n) (q : wA X (e :: es) σ H fun vs H1 => sp vs H1 Q E0) (I : In X N G sc := by assumption) (hG : At G g x := by repeat (first | with_reducible apply At.z | with_reducible apply At.s))
    (he : starEach (e :: es) X.env = (false, eval e X.env) :: starEach es X.env := by rfl) (hpl : (backTo pos (starEach es X.env)).any (·.1) = false := by rfl) : wE X (.Call (.Name x p0) (e :: es) [] pos) σ H Q := by
  obtain ⟨f, fd, ps, F0, hm, hkp, hb⟩ := F.ex
  refine e_of (pe_call F0 (hr.mono hk) (I.g hG) hm hkp hb .nil pass0 pa (I.gd hG) he hpl) ?_
  show wA X (e :: es) σ H fun vs H1 => sp (vs ++ []) H1 Q E0
  simp only [List.append_nil]
  exact q
theorem e_call0 {g : Nat} {k n : Nat} {x : Str} {sp : Sp} (F : Fn X.prog X.w X.K X.mg X.base k x sp) (hr : Room n X.A) (hk : k ≤ n) (q : sp [] H Q E0) (I : In X N G sc := by assumption) (hG : At G g x := by repeat (first | with_reducible apply At.z | with_reducible apply At.s)) : wE X (.Call (.Name x p0) [] [] pos) σ H Q := by
  obtain ⟨f, fd, ps, F0, hm, hkp, hb⟩ := F.ex
  exact e_of (pe_call0 F0 (hr.mono hk) (I.g hG) hm hkp hb .nil pass0 (I.gd hG)) q
theorem e_callB {g : Nat} {x : Str} {id : String} (hm : X.mg x = none) (hv : bootBuiltins x = some (.builtin id)) (q : wA X (e :: es) σ H fun vs H1 => wC X (.builtin id) vs H1 Q) (I : In X N G sc := by assumption) (hG : At G g x := by repeat (first | with_reducible apply At.z | with_reducible apply At.s))
    (he : starEach (e :: es) X.env = (false, eval e X.env) :: starEach es X.env := by rfl) (hpl : (backTo pos (starEach es X.env)).any (·.1) = false := by rfl) : wE X (.Call (.Name x p0) (e :: es) [] pos) σ H Q := e_of (pe_callB cr (I.g hG) hm hv pa (I.gn hG) (I.gd hG) he hpl) q
theorem e_callTy {g : Nat} {x : Str} {T : String} (hm : X.mg x = none) (hv : bootBuiltins x = some (.type T)) (q : wA X (e :: es) σ H fun vs H1 => wC X (.type T) vs H1 Q) (I : In X N G sc := by assumption) (hG : At G g x := by repeat (first | with_reducible apply At.z | with_reducible apply At.s))
    (he : starEach (e :: es) X.env = (false, eval e X.env) :: starEach es X.env := by rfl) (hpl : (backTo pos (starEach es X.env)).any (·.1) = false := by rfl) : wE X (.Call (.Name x p0) (e :: es) [] pos) σ H Q := e_of (pe_callTy cr (I.g hG) hm hv pa (I.gn hG) (I.gd hG) he hpl) q
theorem e_glob {g : Nat} {x : Str} {v : V} {u : Value} (hm : X.mg x = some u) (r : RelV v u) (q : Q v H) (I : In X N G sc := by assumption) (hG : At G g x := by repeat (first | with_reducible apply At.z | with_reducible apply At.s)) : wE X (.Name x pos) σ H Q := e_of (pe_glob (I.g hG) hm r (I.gd hG)) q
theorem e_bltn {g : Nat} {x : Str} {v : V} {u : Value} (hm : X.mg x = none) (hv : bootBuiltins x = some u) (r : RelV v u) (q : Q v H) (I : In X N G sc := by assumption) (hG : At G g x := by repeat (first | with_reducible apply At.z | with_reducible apply At.s)) : wE X (.Name x pos) σ H Q := e_of (pe_bltn (I.g hG) hm hv r (I.gn hG) (I.gd hG)) q
/-- a method of a class that no exception leaves -/
structure Mt (P : Program) (w : World) (K : PySem.W.Frag) (mg : Str → Option Value) (base : Heap) (k : Nat) (C : Addr) (m : Str) (sp : Sp) : Prop where
  ex : ∃ (f : Addr) (fd : FuncData) (ps : List Str), FnOk P w K mg base CX0 k f fd ps sp ∧ Meth K C m f ∧ Binds K fd ps [] ∧ Cls K C
theorem e_meth {k n : Nat} {o : Expr} {m : Str} {C : Addr} {apos : Pos} {pl : Sem Bool} {sp : Sp} (F : Mt X.prog X.w X.K X.mg X.base k C m sp) (hr : Room n X.A) (hk : k ≤ n)
    (q : wE X o σ H fun x H1 => ∃ a dx fs, x = .ref a ∧ H1 a = some (.ins C dx fs) ∧ fs.lookup m = none ∧ wA X (e :: es) σ H1 fun vs H2 => sp (x :: vs) H2 Q E0)
    (hst : starEach (e :: es) X.env = (false, eval e X.env) :: starEach es X.env := by rfl) (hpl : (backTo pos (starEach es X.env)).any (·.1) = false := by rfl)
    (ht : eval (.Call (.Attribute o m apos) (e :: es) [] pos) X.env = (do let ov ← eval o X.env; standAt apos.atName; let (f, first) ← holding [ov] (getMethod ov m pl); callWith pos f first (backTo pos (starEach (e :: es) X.env)) (backToKw pos (keywordEach [] X.env))) := by rfl) :
    wE X (.Call (.Attribute o m apos) (e :: es) [] pos) σ H Q := by
  obtain ⟨f, fd, ps, F0, M, hb, c⟩ := F.ex
  refine e_of (pe_meth (pl := pl) pe c M F0 (hr.mono hk) hb .nil pass0 pa hst hpl ht) ?_
  show wE X o σ H fun x H1 => ∃ a dx fs, x = .ref a ∧ H1 a = some (.ins C dx fs) ∧ fs.lookup m = none ∧ wA X (e :: es) σ H1 fun vs H2 => sp (x :: (vs ++ [])) H2 Q E0
  simp only [List.append_nil]
  exact q
theorem e_meth0 {k n : Nat} {o : Expr} {m : Str} {C : Addr} {apos : Pos} {pl : Sem Bool} {sp : Sp} (F : Mt X.prog X.w X.K X.mg X.base k C m sp) (hr : Room n X.A) (hk : k ≤ n)
    (q : wE X o σ H fun x H1 => ∃ a dx fs, x = .ref a ∧ H1 a = some (.ins C dx fs) ∧ fs.lookup m = none ∧ sp [x] H1 Q E0)
    (ht : eval (.Call (.Attribute o m apos) [] [] pos) X.env = (do let ov ← eval o X.env; standAt apos.atName; let (f, first) ← holding [ov] (getMethod ov m pl); callWith pos f first (backTo pos (starEach [] X.env)) (backToKw pos (keywordEach [] X.env))) := by rfl) :
    wE X (.Call (.Attribute o m apos) [] [] pos) σ H Q := by
  obtain ⟨f, fd, ps, F0, M, hb, c⟩ := F.ex
  exact e_of (pe_meth0 (pl := pl) pe c M F0 (hr.mono hk) hb .nil pass0 ht) q
/-- an own class whose __init__ no exception leaves -/
structure Kl (P : Program) (w : World) (K : PySem.W.Frag) (mg : Str → Option Value) (base : Heap) (k : Nat) (x : Str) (C : Addr) (sp : Sp) : Prop where
  ex : ∃ (f : Addr) (fd : FuncData) (ps : List Str), FnOk P w K mg base CX0 k f fd ps sp ∧ mg x = some (.ref C) ∧ Mk K C f ∧ Binds K fd ps []
theorem e_make {g : Nat} {k n : Nat} {x : Str} {C : Addr} {sp : Sp} (F : Kl X.prog X.w X.K X.mg X.base k x C sp) (hr : Room n X.A) (hk : k + 1 ≤ n)
    (q : wA X (e :: es) σ H fun vs H1 => ∀ x dx, H1 x = none → H1 dx = none → dx ≠ x → sp (.ref x :: vs) (upd (upd H1 dx (.own x)) x (.ins C dx [])) (fun v H2 => v = .non ∧ Q (.ref x) H2) E0)
    (I : In X N G sc := by assumption) (hG : At G g x := by repeat (first | with_reducible apply At.z | with_reducible apply At.s)) (he : starEach (e :: es) X.env = (false, eval e X.env) :: starEach es X.env := by rfl) (hpl : (backTo pos (starEach es X.env)).any (·.1) = false := by rfl) : wE X (.Call (.Name x p0) (e :: es) [] pos) σ H Q := by
  obtain ⟨f, fd, ps, F0, hm, M, hb⟩ := F.ex
  refine e_of (pe_make M F0 (hr.mono hk) (I.g hG) hm hb .nil pass0 pa (I.gd hG) he hpl) ?_
  show wA X (e :: es) σ H fun vs H1 => ∀ x dx, H1 x = none → H1 dx = none → dx ≠ x → sp (.ref x :: (vs ++ [])) (upd (upd H1 dx (.own x)) x (.ins C dx [])) (fun v H2 => v = .non ∧ Q (.ref x) H2) E0
  simp only [List.append_nil]
  exact q
end
/-! ### values -/
section
variable {X : Cx} {H : Hp} {Q : VK} {i j : Int} {σ : L2.St} {D : Ends}
theorem o_add (q : Q (.int (i + j)) H) : wB X .Add (.int i) (.int j) H Q := b_of op_add ⟨i, j, rfl, rfl, q⟩
theorem o_sub (q : Q (.int (i - j)) H) : wB X .Sub (.int i) (.int j) H Q := b_of op_sub ⟨i, j, rfl, rfl, q⟩
theorem o_mul (c : CMul i j) (q : Q (.int (i * j)) H) : wB X .Mult (.int i) (.int j) H Q := b_of op_mul ⟨i, j, rfl, rfl, c, q⟩
theorem o_mod (c : 0 < j) (q : Q (.int (i % j)) H) : wB X .Mod (.int i) (.int j) H Q := b_of op_mod ⟨i, j, rfl, rfl, c, q⟩
theorem o_fdiv (c : 0 < j ∧ j < 1073741824) (q : Q (.int (i / j)) H) : wB X .FloorDiv (.int i) (.int j) H Q := b_of op_fdiv ⟨i, j, rfl, rfl, c, q⟩
theorem o_pow (c : CPow i j) (q : Q (.int (i ^ j.toNat)) H) : wB X .Pow (.int i) (.int j) H Q := b_of op_pow ⟨i, j, rfl, rfl, c, q⟩
theorem o_lt (q : Q (.bl (decide (i < j))) H) : wK X .Lt (.int i) (.int j) H Q := k_of op_lt ⟨i, j, rfl, rfl, q⟩
theorem o_le (q : Q (.bl (decide (i ≤ j))) H) : wK X .LtE (.int i) (.int j) H Q := k_of op_le ⟨i, j, rfl, rfl, q⟩
theorem o_gt (q : Q (.bl (decide (j < i))) H) : wK X .Gt (.int i) (.int j) H Q := k_of op_gt ⟨i, j, rfl, rfl, q⟩
theorem o_ge (q : Q (.bl (decide (j ≤ i))) H) : wK X .GtE (.int i) (.int j) H Q := k_of op_ge ⟨i, j, rfl, rfl, q⟩
theorem dint {i j : Int} : decide (V.int i = V.int j) = decide (i = j) := by simp
theorem dbl {i j : Bool} : decide (V.bl i = V.bl j) = decide (i = j) := by simp
theorem dstr {i j : Str} : decide (V.str i = V.str j) = decide (i = j) := by simp
theorem o_eqI (q : Q (.bl (decide (i = j))) H) : wK X .Eq (.int i) (.int j) H Q := k_of op_eq ⟨rfl, dint ▸ q⟩
theorem o_neI (q : Q (.bl (!decide (i = j))) H) : wK X .NotEq (.int i) (.int j) H Q := k_of op_ne ⟨rfl, dint ▸ q⟩
theorem o_eqB {i j : Bool} (q : Q (.bl (decide (i = j))) H) : wK X .Eq (.bl i) (.bl j) H Q := k_of op_eq ⟨rfl, dbl ▸ q⟩
theorem o_neB {i j : Bool} (q : Q (.bl (!decide (i = j))) H) : wK X .NotEq (.bl i) (.bl j) H Q := k_of op_ne ⟨rfl, dbl ▸ q⟩
theorem o_eqS {i j : Str} (q : Q (.bl (decide (i = j))) H) : wK X .Eq (.str i) (.str j) H Q := k_of op_eq ⟨rfl, dstr ▸ q⟩
theorem o_neS {i j : Str} (q : Q (.bl (!decide (i = j))) H) : wK X .NotEq (.str i) (.str j) H Q := k_of op_ne ⟨rfl, dstr ▸ q⟩
/-- a pair of ints beside a text -/
theorem o_eqPS {n : Nat} {a : Addr} {u v : Int} {z : Str} (hr : Room n X.A) (h : H a = some (.tup [.int u, .int v])) (hz : SeqAt.shaped (.str z) = true) (q : Q (.bl false) H) : wK X .Eq (.ref a) (.str z) H Q :=
  k_of (op_eqD hr.units) ⟨.tuple [.int u, .int v], .str z, .tup (SqT.of h) (.cons (.int u) (.cons (.int v) .nil)), .str z, rfl, hz, q⟩
theorem ix_l {a : Addr} {xs : List V} {v : V} (h : SqL X.K H a xs) (e : atI xs i = some v) (q : Q v H) : wIx X (.ref a) (.int i) H Q := ix_of ix_list ⟨a, xs, i, v, rfl, rfl, h, e, q⟩
theorem ix_t {a : Addr} {xs : List V} {v : V} (h : SqT X.K H a xs) (e : atI xs i = some v) (q : Q v H) : wIx X (.ref a) (.int i) H Q := ix_of ix_tup ⟨a, xs, i, v, rfl, rfl, h, e, q⟩
theorem set_l {a : Addr} {xs : List V} {v : V} {k : Nat} {QH : Hp → Prop} (h : H a = some (.lst xs)) (e : ixN xs.length i = some k) (q : QH (upd H a (.lst (xs.set k v)))) : wSet X (.ref a) (.int i) v H QH := set_of set_list ⟨a, xs, i, k, rfl, rfl, h, e, q⟩
theorem c_int (q : Q (.int i) H) : wC X (.type "int") [.int i] H Q := c_of call_int1 (.inl ⟨i, rfl, q⟩)
theorem c_abs (q : Q (.int (if i < 0 then -i else i)) H) : wC X (.builtin "abs") [.int i] H Q := c_of call_abs ⟨i, rfl, q⟩
theorem c_max (hc : X.calm = true) (q : Q (.int (if j > i then j else i)) H) : wC X (.builtin "max") [.int i, .int j] H Q := c_of (call_max2 hc) ⟨i, j, rfl, q⟩
theorem c_min (hc : X.calm = true) (q : Q (.int (if j < i then j else i)) H) : wC X (.builtin "min") [.int i, .int j] H Q := c_of (call_min2 hc) ⟨i, j, rfl, q⟩
theorem c_lenL {a : Addr} {xs : List V} (h : SqL X.K H a xs) (q : Q (.int xs.length) H) : wC X (.builtin "len") [.ref a] H Q := c_of call_len_seq ⟨a, xs, rfl, .inl h, q⟩
theorem c_lenT {a : Addr} {xs : List V} (h : SqT X.K H a xs) (q : Q (.int xs.length) H) : wC X (.builtin "len") [.ref a] H Q := c_of call_len_seq ⟨a, xs, rfl, .inr h, q⟩
theorem c_isi {x c : V} {t u : Value} {b : Bool} (ty : TyX X.K H x t) (k : ClsV c u) (e : PySem.W.kitOne X.K t u = some b) (q : Q (.bl b) H) : wC X (.builtin "isinstance") [x, c] H Q := c_of call_isi ⟨x, c, t, u, b, rfl, k, ty, e, q⟩
theorem c_isiT {x : V} {tp : Addr} {cs : List V} {t : Value} {us : List Value} {b : Bool} (ty : TyX X.K H x t) (h : H tp = some (.tup cs)) (k : Paired ClsV cs us) (e : PySem.W.kitAny X.K t us = some b) (q : Q (.bl b) H) : wC X (.builtin "isinstance") [x, .ref tp] H Q :=
  c_of call_isiT ⟨x, tp, cs, t, us, b, rfl, h, k, ty, e, q⟩
theorem ty_non : TyX X.K H .non (.type "NoneType") := .base .non
theorem ty_bl {b : Bool} : TyX X.K H (.bl b) (.type "bool") := .base (.bl b)
theorem ty_int : TyX X.K H (.int i) (.type "int") := .base (.int i)
theorem ty_str {z : Str} : TyX X.K H (.str z) (.type "str") := .base (.str z)
theorem ty_tup {a : Addr} {xs : List V} (h : H a = some (.tup xs)) : TyX X.K H (.ref a) (.type "tuple") := .base (.tup h)
theorem ty_lst {a : Addr} {xs : List V} (h : H a = some (.lst xs)) : TyX X.K H (.ref a) (.type "list") := .base (.lst h)
theorem two_ty {a b : String} : Paired ClsV [.ty a, .ty b] [.type a, .type b] := .cons (.ty a) (.cons (.ty b) .nil)
theorem kit2 {K : PySem.W.Frag} {t a b : String} {x y : Bool} (h1 : kitB t a = some x) (h2 : kitB t b = some y) : PySem.W.kitAny K (.type t) [.type a, .type b] = some (x || y) := by
  cases x with
  | true => exact kitAny_cons (kit_ty h1) (fun z => nomatch z) fun _ => rfl
  | false =>
    refine kitAny_cons (kit_ty h1) (fun _ => ?_) (fun z => nomatch z)
    cases y with
    | true => exact kitAny_cons (kit_ty h2) (fun z => nomatch z) fun _ => rfl
    | false => exact kitAny_cons (kit_ty h2) (fun _ => rfl) (fun z => nomatch z)
theorem kb_int_tuple : kitB "int" "tuple" = some false := by decide +kernel
theorem kb_int_list : kitB "int" "list" = some false := by decide +kernel
theorem kb_int_int : kitB "int" "int" = some true := by decide +kernel
theorem kb_int_bool : kitB "int" "bool" = some false := by decide +kernel
theorem kb_int_str : kitB "int" "str" = some false := by decide +kernel
theorem kb_tuple_tuple : kitB "tuple" "tuple" = some true := by decide +kernel
theorem kb_tuple_list : kitB "tuple" "list" = some false := by decide +kernel
theorem kb_tuple_str : kitB "tuple" "str" = some false := by decide +kernel
theorem kb_tuple_int : kitB "tuple" "int" = some false := by decide +kernel
theorem kb_tuple_bool : kitB "tuple" "bool" = some false := by decide +kernel
theorem kb_list_tuple : kitB "list" "tuple" = some false := by decide +kernel
theorem kb_list_list : kitB "list" "list" = some true := by decide +kernel
theorem kb_list_str : kitB "list" "str" = some false := by decide +kernel
theorem kb_list_int : kitB "list" "int" = some false := by decide +kernel
theorem kb_list_bool : kitB "list" "bool" = some false := by decide +kernel
theorem kb_bool_bool : kitB "bool" "bool" = some true := by decide +kernel
theorem kb_bool_int : kitB "bool" "int" = some true := by decide +kernel
theorem kb_bool_str : kitB "bool" "str" = some false := by decide +kernel
theorem kb_bool_tuple : kitB "bool" "tuple" = some false := by decide +kernel
theorem kb_bool_list : kitB "bool" "list" = some false := by decide +kernel
theorem kb_str_str : kitB "str" "str" = some true := by decide +kernel
theorem kb_str_bool : kitB "str" "bool" = some false := by decide +kernel
theorem kb_str_int : kitB "str" "int" = some false := by decide +kernel
theorem kb_str_tuple : kitB "str" "tuple" = some false := by decide +kernel
theorem kb_str_list : kitB "str" "list" = some false := by decide +kernel
theorem kb_non_bool : kitB "NoneType" "bool" = some false := by decide +kernel
theorem kb_non_int : kitB "NoneType" "int" = some false := by decide +kernel
theorem kb_non_str : kitB "NoneType" "str" = some false := by decide +kernel
theorem kb_non_tuple : kitB "NoneType" "tuple" = some false := by decide +kernel
theorem kb_non_list : kitB "NoneType" "list" = some false := by decide +kernel
theorem b_int : bootBuiltins "int" = some (.type "int") := by decide +kernel
theorem b_bool : bootBuiltins "bool" = some (.type "bool") := by decide +kernel
theorem b_str : bootBuiltins "str" = some (.type "str") := by decide +kernel
theorem b_tuple : bootBuiltins "tuple" = some (.type "tuple") := by decide +kernel
theorem b_list : bootBuiltins "list" = some (.type "list") := by decide +kernel
theorem b_isi : bootBuiltins "isinstance" = some (.builtin "isinstance") := by decide +kernel
theorem b_len : bootBuiltins "len" = some (.builtin "len") := by decide +kernel
theorem b_abs : bootBuiltins "abs" = some (.builtin "abs") := by decide +kernel
theorem b_max : bootBuiltins "max" = some (.builtin "max") := by decide +kernel
theorem b_min : bootBuiltins "min" = some (.builtin "min") := by decide +kernel
/-! ### loops -/
theorem s_forR {nx : L2.St → Hp → Prop} {rt : VK} {bk ct : L2.St → Hp → Prop} {g : Nat} {N G : List Str} {sc : Scope} {x : Str} {i : Nat} {a : Expr} {body : List Stmt} {px p cp pos : Pos} (hm : X.mg "range" = none)
    (q : wE X a σ H fun v H1 => ∃ n : Nat, v = .int n ∧ n < 2 ^ 62 ∧ ∃ Pv : Nat → L2.St → Hp → Prop, Pv 0 σ H1 ∧ (∀ k σ H, k < n → Pv k σ H → wL X body ⟨Pv (k + 1), rt, nx, Pv (k + 1)⟩ (σ.set i (some (.int (k : Int)))) H) ∧ ∀ σ H, Pv n σ H → nx σ H)
    (I : In X N G sc := by assumption) (hc : X.calm = true := by rfl) (hA : At N i x := by repeat (first | with_reducible apply At.z | with_reducible apply At.s))
    (hG : At G g ("range" : Str) := by repeat (first | with_reducible apply At.z | with_reducible apply At.s)) (hs : starEach [a] X.env = [(false, eval a X.env)] := by rfl) (hs2 : ∀ z, foldedSetIterable (.Call (.Name "range" p) [a] [] cp) X.env z = pure z := by intro _; rfl)
    (hs1 : starEach (a :: []) X.env = (false, eval a X.env) :: starEach [] X.env := by rfl) :
    wS X (.For (.Name x px) (.Call (.Name "range" p) [a] [] cp) body [] pos) ⟨nx, rt, bk, ct⟩ σ H := by
  refine s_of (ps_for I.never hc (pi_range1 (I.g hG) hm (pa_cons pe pa_nil hs1) hs) (pg_name I.nd (I.hi hA) (I.loc hA) I.f) pl hs2) (e_mono q fun v H1 q1 => ?_)
  obtain ⟨n, rfl, hn, Pv, h0, hb, hd⟩ := q1
  refine ⟨(n : Int), rfl, by omega, by omega, ?_⟩
  rw [Int.toNat_natCast]
  refine for_range (n := n) Pv h0 (fun k σ H hk p => ?_) hd
  rw [Int.zero_add]
  exact hb k σ H hk p
theorem s_forL {nx : L2.St → Hp → Prop} {rt : VK} {bk ct : L2.St → Hp → Prop} {N G : List Str} {sc : Scope} {x : Str} {i : Nat} {a : Expr} {body : List Stmt} {px pos : Pos}
    (q : wE X a σ H fun v H1 => ∃ ad xs, v = .ref ad ∧ SqL X.K H1 ad xs ∧ ∃ Pv : Nat → L2.St → Hp → Prop, Pv 0 σ H1 ∧ (∀ k σ H, k ≤ xs.length → Pv k σ H → SqL X.K H ad xs) ∧ (∀ k y σ H, xs[k]? = some y → Pv k σ H → wL X body ⟨Pv (k + 1), rt, nx, Pv (k + 1)⟩ (σ.set i (some y)) H) ∧ ∀ σ H, Pv xs.length σ H → nx σ H)
    (I : In X N G sc := by assumption) (hc : X.calm = true := by rfl) (hA : At N i x := by repeat (first | with_reducible apply At.z | with_reducible apply At.s))
    (hs2 : ∀ z, foldedSetIterable a X.env z = pure z := by intro _; rfl) :
    wS X (.For (.Name x px) a body [] pos) ⟨nx, rt, bk, ct⟩ σ H := by
  refine s_of (ps_for I.never hc (pi_list pe) (pg_name I.nd (I.hi hA) (I.loc hA) I.f) pl hs2) (e_mono q fun v H1 q1 => ?_)
  obtain ⟨ad, xs, rfl, hl, Pv, h0, hk, hb, hd⟩ := q1
  exact ⟨ad, rfl, ⟨xs, hl⟩, for_list Pv h0 hk hb hd⟩
theorem s_forT {nx : L2.St → Hp → Prop} {rt : VK} {bk ct : L2.St → Hp → Prop} {N G : List Str} {sc : Scope} {x : Str} {i : Nat} {a : Expr} {body : List Stmt} {px pos : Pos}
    (q : wE X a σ H fun v H1 => ∃ ad xs, v = .ref ad ∧ SqT X.K H1 ad xs ∧ ∃ Pv : Nat → L2.St → Hp → Prop, Pv 0 σ H1 ∧ (∀ k σ H, k ≤ xs.length → Pv k σ H → SqT X.K H ad xs) ∧ (∀ k y σ H, xs[k]? = some y → Pv k σ H → wL X body ⟨Pv (k + 1), rt, nx, Pv (k + 1)⟩ (σ.set i (some y)) H) ∧ ∀ σ H, Pv xs.length σ H → nx σ H)
    (I : In X N G sc := by assumption) (hc : X.calm = true := by rfl) (hA : At N i x := by repeat (first | with_reducible apply At.z | with_reducible apply At.s))
    (hs2 : ∀ z, foldedSetIterable a X.env z = pure z := by intro _; rfl) :
    wS X (.For (.Name x px) a body [] pos) ⟨nx, rt, bk, ct⟩ σ H := by
  refine s_of (ps_for I.never hc (pi_tup pe) (pg_name I.nd (I.hi hA) (I.loc hA) I.f) pl hs2) (e_mono q fun v H1 q1 => ?_)
  obtain ⟨ad, xs, rfl, hl, Pv, h0, hk, hb, hd⟩ := q1
  exact ⟨ad, rfl, ⟨xs, hl⟩, for_tup Pv h0 hk hb hd⟩
/-! ### an own operator of an own class -/
theorem op_own {op : Operator} {k n : Nat} {C f : Addr} {fd : FuncData} {pn : List Str} {sp : Sp} (F : FnOk X.prog X.w X.K X.mg X.base CX0 k f fd pn sp) (hs : PySem.W.findIn X.K (.ref C) (PySem.dunder op.info.2) = some (some (.ref f))) (hf : PySem.W.isFn X.K (.ref f) = true)
    (hc : PySem.W.selfFirst X.K C = true) (hb : Binds X.K fd pn []) (hr : Room n X.A) (hk : k ≤ n) :
    OpR X (binaryOp op) (fun x y H Q => ∃ a b dx dy fs gs, x = .ref a ∧ y = .ref b ∧ H a = some (.ins C dx fs) ∧ H b = some (.ins C dy gs) ∧ sp [x, y] H (fun v H' => (∃ p, v = .ref p) ∧ Q v H') E0) := by
  intro pins s σ H x y u v Q I rx ry h
  obtain ⟨a, b, dx, dy, fs, gs, rfl, rfl, ha, hb', hsp⟩ := h
  cases rx
  cases ry
  obtain ⟨mA, J, _⟩ := ins_get I.hok ha
  obtain ⟨mB, J', _⟩ := ins_get I.hok hb'
  obtain ⟨od, J, _⟩ := J.look
  obtain ⟨od', J', _⟩ := J'.look
  obtain ⟨m, hF⟩ := I.fr
  refine PySem.W.binop_K hF I.ok.mod.kin J J'.type hc hs hf ?_
  refine wpAny_mono (run_fn (E := E0) F (hr.mono hk) hb .nil pass0 I (show Vals [V.ref a, V.ref b] [Value.ref a, Value.ref b] from .cons rfl (.cons rfl .nil)) (by rw [List.append_nil]; exact hsp)) (fun w s' z => ?_) fun _ _ z => z
  obtain ⟨v', H', I', rz, ⟨p, rfl⟩, q⟩ := z
  cases rz
  exact ⟨.ref p, H', I', rfl, q⟩
structure Op2 (P : Program) (w : World) (K : PySem.W.Frag) (mg : Str → Option Value) (base : Heap) (k : Nat) (C : Addr) (op : Operator) (sp : Sp) : Prop where
  ex : ∃ (f : Addr) (fd : FuncData) (pn : List Str), FnOk P w K mg base CX0 k f fd pn sp ∧ PySem.W.findIn K (.ref C) (PySem.dunder op.info.2) = some (some (.ref f)) ∧ PySem.W.isFn K (.ref f) = true ∧ PySem.W.selfFirst K C = true ∧ Binds K fd pn []
theorem o_own {op : Operator} {k n : Nat} {C a b dx dy : Addr} {fs gs : List (Str × V)} {sp : Sp} (F : Op2 X.prog X.w X.K X.mg X.base k C op sp) (hr : Room n X.A) (hk : k ≤ n) (ha : H a = some (.ins C dx fs)) (hb : H b = some (.ins C dy gs))
    (q : sp [.ref a, .ref b] H (fun v H' => (∃ p, v = .ref p) ∧ Q v H') E0) : wB X op (.ref a) (.ref b) H Q := by
  obtain ⟨f, fd, pn, G, hs, hf, hc, hb'⟩ := F.ex
  exact b_of (op_own G hs hf hc hb' hr hk) ⟨a, b, dx, dy, fs, gs, rfl, rfl, ha, hb, q⟩
end
/-! ### heaps -/
/-- all but a stays -/
def But (a : Addr) (H H' : Hp) : Prop := ∀ b o, b ≠ a → H b = some o → H' b = some o
theorem But.refl {a : Addr} {H : Hp} : But a H H := fun _ _ _ h => h
theorem But.trans {a : Addr} {H H1 H2 : Hp} (x : But a H H1) (y : But a H1 H2) : But a H H2 := fun b o n h => y b o n (x b o n h)
theorem But.of {a : Addr} {H H1 : Hp} (x : Same H H1) : But a H H1 := fun b o _ h => x b o h
theorem But.upd {a : Addr} {H H1 : Hp} {o : HO} (x : But a H H1) : But a H (L2.upd H1 a o) := fun b u n h => by
  rw [upd_ne n]
  exact x b u n h
theorem But.tup {a p : Addr} {H H1 : Hp} {l xs : List V} (x : But a H H1) (ha : H a = some (.lst l)) (hp : H p = some (.tup xs)) : H1 p = some (.tup xs) := x p _ (ne_of hp ha (by intro z; cases z)) hp
theorem But.ins {a p C dx : Addr} {H H1 : Hp} {l : List V} {fs : List (Str × V)} (x : But a H H1) (ha : H a = some (.lst l)) (hp : H p = some (.ins C dx fs)) : H1 p = some (.ins C dx fs) := x p _ (ne_of hp ha (by intro z; cases z)) hp
theorem But.frz {a p : Addr} {H H1 : Hp} {l : List V} {o : Obj} {u : HO} (x : But a H H1) (ha : H a = some (.lst l)) (hp : H p = some (.frz o u)) : H1 p = some (.frz o u) := x p _ (ne_of hp ha (by intro z; cases z)) hp
section
variable {P : Program} {w : World} {K : PySem.W.Frag} {mg : Str → Option Value} {base : Heap}
/-- a def of the module where the top has left it -/
structure Top (K : PySem.W.Frag) (mg : Str → Option Value) (x : Str) (st : Stmt) : Prop where
  ex : ∃ (f : Addr) (fd : FuncData), Fun K x x st f fd ∧ mg x = some (.ref f)
theorem top_mk {h : Heap} {x : Str} {st : Stmt} {f : Addr} {oc : Value} {od an : Option Addr} {osl : Array (Option Value)} {kV doc pm cdv ct : Value} (X : K.In h) (G : h.Ns mainGlobals mg) (a : PySem.W.nsIn K mainGlobals x = some (some (.ref f)))
    (l : K.lookup f = some ⟨oc, od, .func (PySem.W.fnOf x x (defArgs st) (defBody st) (defScope st) .none kV doc pm an cdv ct), osl⟩) (c : PySem.W.codeIn K cdv x = true) (k : PySem.W.keepIn K (.ref f) = true) : Top K mg x st :=
  ⟨f, _, fun_mk l c k, PySem.W.mg_of X G a⟩
theorem fn_ok {x : Str} {st : Stmt} {N G ps : List Str} {k : Nat} {sp : Sp} (T : Top K mg x st) (S : FnScope N ps (defScope st)) (O : ScOk N G (defScope st)) (len : ∀ vs H Q E, sp vs H Q E → vs.length = ps.length)
    (hb : ∀ (kV doc pm : Value) (an : Option Addr) (cdv ct : Value) (us : List Value), us.length = ps.length → bindArgs (PySem.W.fnOf x x (defArgs st) (defBody st) (defScope st) .none kV doc pm an cdv ct) ⟨us, []⟩ = pure (ps.zip us))
    (hbody : ∀ (f : Addr) (cdv : Value) (A : Around) (outer : List Env) (s : Shared) (H : Hp) (vs : List V) (Q : VK) (E : XK), Room k (A.deeper (envOfC x (defScope st) s.heap.objs.size f cdv)) → sp vs H Q E → In (cxOf CX0 P w K mg base N x (defScope st) f cdv A outer s H E).nox N G (defScope st) →
      wL (cxOf CX0 P w K mg base N x (defScope st) f cdv A outer s H E).nox (defBody st) { nx := fun _ H' => Q .non H', rt := Q } (start N vs) H) : Fn P w K mg base (k + 1) x sp := by
  obtain ⟨f, fd, F, hm⟩ := T.ex
  exact ⟨f, fd, ps, F.ok S len (fun cdv A outer s H vs Q E hr h => ⟨_, pl, hbody f cdv A outer s H vs Q E hr h ⟨O, ⟨[], (List.append_nil _).symm⟩, S.nd, rfl, rfl, PassesOwn.never⟩⟩), hm, F.kp, F.binds hb⟩
/-- a method where the top has left it -/
structure TopM (K : PySem.W.Frag) (C : Addr) (x qual : Str) (st : Stmt) : Prop where
  ex : ∃ (f : Addr) (fd : FuncData), Fun K x qual st f fd ∧ PySem.W.findIn K (.ref C) x = some (some (.ref f)) ∧ PySem.W.isFn K (.ref f) = true
theorem topM_mk {x qual : Str} {st : Stmt} {C f : Addr} {oc : Value} {od an : Option Addr} {osl : Array (Option Value)} {kV doc pm cdv ct : Value} (a : PySem.W.findIn K (.ref C) x = some (some (.ref f))) (i : PySem.W.isFn K (.ref f) = true)
    (l : K.lookup f = some ⟨oc, od, .func (PySem.W.fnOf x qual (defArgs st) (defBody st) (defScope st) .none kV doc pm an cdv ct), osl⟩) (c : PySem.W.codeIn K cdv qual = true) (k : PySem.W.keepIn K (.ref f) = true) : TopM K C x qual st :=
  ⟨f, _, fun_mk l c k, a, i⟩
theorem me_ok {x qual : Str} {C : Addr} {st : Stmt} {N G ps : List Str} {k : Nat} {sp : Sp} (T : TopM K C x qual st) (S : FnScope N ps (defScope st)) (O : ScOk N G (defScope st)) (len : ∀ vs H Q E, sp vs H Q E → vs.length = ps.length)
    (hb : ∀ (kV doc pm : Value) (an : Option Addr) (cdv ct : Value) (us : List Value), us.length = ps.length → bindArgs (PySem.W.fnOf x qual (defArgs st) (defBody st) (defScope st) .none kV doc pm an cdv ct) ⟨us, []⟩ = pure (ps.zip us))
    (hbody : ∀ (f : Addr) (cdv : Value) (A : Around) (outer : List Env) (s : Shared) (H : Hp) (vs : List V) (Q : VK) (E : XK), Room k (A.deeper (envOfC qual (defScope st) s.heap.objs.size f cdv)) → sp vs H Q E → In (cxOf CX0 P w K mg base N qual (defScope st) f cdv A outer s H E).nox N G (defScope st) →
      wL (cxOf CX0 P w K mg base N qual (defScope st) f cdv A outer s H E).nox (defBody st) { nx := fun _ H' => Q .non H', rt := Q } (start N vs) H) :
    ∃ (f : Addr) (fd : FuncData), FnOk P w K mg base CX0 (k + 1) f fd ps sp ∧ Binds K fd ps [] ∧ PySem.W.findIn K (.ref C) x = some (some (.ref f)) ∧ PySem.W.isFn K (.ref f) = true ∧ PySem.W.keepIn K (.ref f) = true := by
  obtain ⟨f, fd, F, hf, hi⟩ := T.ex
  exact ⟨f, fd, F.ok S len (fun cdv A outer s H vs Q E hr h => ⟨_, pl, hbody f cdv A outer s H vs Q E hr h ⟨O, ⟨[], (List.append_nil _).symm⟩, S.nd, rfl, rfl, PassesOwn.never⟩⟩), F.binds hb, hf, hi, F.kp⟩
end
/-- a bool test that is decided by a fact -/
theorem ifT {c A B : Prop} [Decidable c] (hc : c) (h : A) : if decide c = true then A else B := by
  rw [decide_eq_true hc]
  exact iteT h
theorem ifF {c A B : Prop} [Decidable c] (hc : ¬ c) (h : B) : if decide c = true then A else B := by
  rw [decide_eq_false hc]
  exact iteF h
theorem if2 {c A B : Prop} [Decidable c] (h1 : c → A) (h2 : ¬ c → B) : if decide c = true then A else B := by
  by_cases h : c
  · exact ifT h (h1 h)
  · exact ifF h (h2 h)
theorem ite_t {c : Bool} {A B : Prop} (hc : c = true) (h : A) : if c = true then A else B := by
  rw [hc]
  exact iteT h
theorem ite_f {c : Bool} {A B : Prop} (hc : c = false) (h : B) : if c = true then A else B := by
  rw [hc]
  exact iteF h
section
variable {P : Program} {w : World} {K : PySem.W.Frag} {mg : Str → Option Value} {base : Heap}
theorem run_ok {x qual : Str} {st : Stmt} {N G ps : List Str} {k : Nat} {sp : Sp} {f : Addr} {fd : FuncData} (F : Fun K x qual st f fd) (S : FnScope N ps (defScope st)) (O : ScOk N G (defScope st)) (len : ∀ vs H Q E, sp vs H Q E → vs.length = ps.length)
    (hbody : ∀ (f : Addr) (cdv : Value) (A : Around) (outer : List Env) (s : Shared) (H : Hp) (vs : List V) (Q : VK) (E : XK), Room k (A.deeper (envOfC qual (defScope st) s.heap.objs.size f cdv)) → sp vs H Q E → In (cxOf CX0 P w K mg base N qual (defScope st) f cdv A outer s H E).nox N G (defScope st) →
      wL (cxOf CX0 P w K mg base N qual (defScope st) f cdv A outer s H E).nox (defBody st) { nx := fun _ H' => Q .non H', rt := Q } (start N vs) H) : FnOk P w K mg base CX0 (k + 1) f fd ps sp :=
  F.ok S len (fun cdv A outer s H vs Q E hr h => ⟨_, pl, hbody f cdv A outer s H vs Q E hr h ⟨O, ⟨[], (List.append_nil _).symm⟩, S.nd, rfl, rfl, PassesOwn.never⟩⟩)
end
end Wk

/-! My own layer, errors: an own class of errors with fields, raised, caught, asked. -/
namespace Wk
open PySem PySem.Spec PyProof.Rows L2
section
variable {X : Cx} {N G : List Str} {sc : Scope} {e o : Expr} {es : List Expr} {σ : L2.St} {H : Hp} {Q : VK} {pos p0 np : Pos}
theorem o_isN {x : V} (q : Q (.bl (decide (x = .non))) H) : wK X .Is x .non H Q := k_of op_isN ⟨rfl, q⟩
theorem o_nisB {a b : Bool} (q : Q (.bl (!decide (a = b))) H) : wK X .IsNot (.bl a) (.bl b) H Q := k_of op_isnot_bl ⟨a, b, rfl, rfl, q⟩
/-- a def of the module that may raise -/
structure FnX (P : Program) (w : World) (K : PySem.W.Frag) (mg : Str → Option Value) (base : Heap) (k : Nat) (x : Str) (sp : Sp) : Prop where
  ex : ∃ (f : Addr) (fd : FuncData) (ps : List Str), FnOk P w K mg base (L2.CX P w) k f fd ps sp ∧ mg x = some (.ref f) ∧ PySem.W.keepIn K (.ref f) = true ∧ Binds K fd ps []
theorem e_callX {g k n : Nat} {x : Str} {sp : Sp} {W : WX} (F : FnX X.prog X.w X.K X.mg X.base k x sp) (tk : Takes X W) (hr : Room n X.A) (hk : k ≤ n) (q : wA X (e :: es) σ H fun vs H1 => sp vs H1 Q (fun cls d H' => W cls d σ H'))
    (I : In X N G sc := by assumption) (hG : At G g x := by repeat (first | with_reducible apply At.z | with_reducible apply At.s)) (he : starEach (e :: es) X.env = (false, eval e X.env) :: starEach es X.env := by rfl) (hpl : (backTo pos (starEach es X.env)).any (·.1) = false := by rfl) :
    wE X (.Call (.Name x p0) (e :: es) [] pos) σ H Q := by
  obtain ⟨f, fd, ps, F0, hm, hkp, hb⟩ := F.ex
  refine e_of (pe_callSD (E := fun σ cls d H' => W cls d σ H') F0 (hr.mono hk) (I.g hG) hm hkp hb .nil (fun σ => passAt tk σ) pa (I.gd hG) he hpl) ?_
  show wA X (e :: es) σ H fun vs H1 => sp (vs ++ []) H1 Q (fun cls d H' => W cls d σ H')
  simp only [List.append_nil]
  exact q
/-- an own class of errors whose __init__ stores its one argument in the field f -/
def sp1 (C : Addr) (f : Str) : Sp := fun vs H Q _ => ∃ (a : Addr) (v : V), vs = [.ref a, v] ∧ H a = some (exo a C none) ∧ ∀ dx, H dx = none → dx ≠ a → Q .non (upd (upd H dx (exd dx [(f, v)])) a (exo a C (some dx)))
structure Er (P : Program) (w : World) (K : PySem.W.Frag) (mg : Str → Option Value) (base : Heap) (x : Str) (C : Addr) (f : Str) : Prop where
  o : OexC K C
  mgC : mg x = some (.ref C)
  ex : ∃ (fI : Addr) (fd : FuncData) (ps : List Str), FnOk P w K mg base CX0 1 fI fd ps (sp1 C f) ∧ PySem.W.findIn K (.ref C) "__init__" = some (some (.ref fI)) ∧ PySem.W.typeIn K (.ref fI) = some (.type "function") ∧ Binds K fd ps []
/-- self.f = e of an error that is being made -/
theorem s_ost {nx : L2.St → Hp → Prop} {rt : VK} {bk ct : L2.St → Hp → Prop} {f : Str} {value : Expr} {pos' : Pos} (q : wE X value σ H fun y H1 => wE X o σ H1 fun x H2 => ∃ a C : Addr, x = .ref a ∧ OexC X.K C ∧ PySem.W.findIn X.K (.ref C) f = some none ∧ H2 a = some (exo a C none) ∧ ∀ dx, H2 dx = none → dx ≠ a → nx σ (upd (upd H2 dx (exd dx [(f, y)])) a (exo a C (some dx))))
    (hs : swapsWith value (some (.Attribute o f pos')) pos.line X.env = pure false := by rfl) : wS X (.Assign [.Attribute o f pos'] value pos) ⟨nx, rt, bk, ct⟩ σ H :=
  s_of (ps_ost pe pe hs) (e_mono q fun y H1 z => e_mono z fun x H2 ⟨a, C, h1, h2, h3, h4, h5⟩ => ⟨a, C, h1, h2, h3, .inl ⟨h4, h5⟩⟩)
/-- raise C(e) -/
theorem s_raise1 {nx : L2.St → Hp → Prop} {rt : VK} {bk ct : L2.St → Hp → Prop} {g n : Nat} {x f : Str} {C : Addr} {W : WX} {pos' : Pos} (R : Er X.prog X.w X.K X.mg X.base x C f) (tk : Takes X W) (hr : Room n X.A) (hn : 2 ≤ n)
    (q : wE X e σ H fun v H1 => ∀ d H', Same H1 H' → H1 d = none → H' d = some (.xd [(f, v)]) → W (.ref C) (some d) σ H')
    (I : In X N G sc := by assumption) (hG : At G g x := by repeat (first | with_reducible apply At.z | with_reducible apply At.s)) (hc : X.calm = true := by rfl)
    (he : starEach (e :: []) X.env = (false, eval e X.env) :: starEach [] X.env := by rfl) (hpl : (backTo pos (starEach [] X.env)).any (·.1) = false := by rfl) :
    wS X (.Raise (some (.Call (.Name x p0) [e] [] pos)) none pos') ⟨nx, rt, bk, ct⟩ σ H := by
  obtain ⟨fI, fd, ps, F0, hi, ht, hb⟩ := R.ex
  refine s_of (ps_raise hc tk (pmk_oex R.o hi ht F0 (hr.mono hn) hb .nil pass0 (I.g hG) R.mgC pa (I.gd hG) he hpl)) ?_
  refine a_cons (e_mono q fun v H1 z => a_nil ⟨by show 1 ≤ 1000; decide, fun a na => ?_⟩) he
  refine ⟨a, v, rfl, upd_same, fun dx nd ne => ⟨rfl, dx, [(f, v)], upd_same, ?_, ?_, ?_⟩⟩
  · rw [upd_ne ne, upd_same]
  · rw [upd_ne ne] at nd
    exact nd
  · refine z dx _ (fun b u hb => ?_) (by rw [upd_ne ne] at nd; exact nd) upd_same
    have h1 : b ≠ a := ne_of_none hb na
    have h2 : b ≠ dx := ne_of_none hb (by rw [upd_ne ne] at nd; exact nd)
    rw [upd_ne h2, del_ne h1, upd_ne h1, upd_ne h2, upd_ne h1]
    exact hb
/-- the suite of an except clause -/
def tsS (X : Cx) (N G : List Str) (sc : Scope) (sts : List Stmt) : Addr → Value → Option Addr → TS := fun a cls d D σ H => ∀ (oe : Obj) (pn : List (Addr × Obj)), Zc cls d oe → (∃ vs, oe.data = .fields vs) → In (X.suite a ((a, oe) :: pn)) N G sc → wL (X.suite a ((a, oe) :: pn)) sts D σ H
theorem In.tr (I : In X N G sc) {pn : List (Addr × Obj)} {xe : Value → Shared → Prop} (h : PassesOwn (model X.prog X.w) X.A X.env xe) : In (X.tr pn xe) N G sc := ⟨I.ok, I.n, I.nd, I.sc, I.fn, h⟩
theorem In.suite (I : In X N G sc) {a : Addr} {pn : List (Addr × Obj)} : In (X.suite a pn) N G sc := ⟨I.ok, I.n, I.nd, I.sc, I.fn, PassesOwn.never⟩
/-- try: body, except x as n: suite -/
theorem s_tryAs {nx : L2.St → Hp → Prop} {rt : VK} {bk ct : L2.St → Hp → Prop} {i g : Nat} {x n : Str} {c : Value} {body suite : List Stmt} {b0 : Stmt} {pos' : Pos} {Wout : WX} (hm : X.mg x = some c) (tk : Takes X Wout)
    (q : ∀ (pn : List (Addr × Obj)) (xe : Value → Shared → Prop), Takes (X.tr pn xe) (wAs X.K c i (tsS X N G sc (b0 :: suite)) Wout ⟨nx, rt, bk, ct⟩) → In (X.tr pn xe) N G sc → wL (X.tr pn xe) body ⟨nx, rt, bk, ct⟩ σ H)
    (I : In X N G sc := by assumption) (hA : At N i n := by repeat (first | with_reducible apply At.z | with_reducible apply At.s)) (hG : At G g x := by repeat (first | with_reducible apply At.z | with_reducible apply At.s))
    (hln : X.env.kindOf n = some .local := by rfl) (hs : X.stack = X.env :: X.outer := by rfl) (hf : X.env.frame = some X.env.locals := by rfl) :
    wS X (.Try body [.ExceptHandler (some (.Name x np)) (some n) (b0 :: suite) pos'] [] [] pos) ⟨nx, rt, bk, ct⟩ σ H :=
  s_of (ps_try_as (tb := fun W D σ H => ∀ (pn : List (Addr × Obj)) (xe : Value → Shared → Prop), Takes (X.tr pn xe) W → In (X.tr pn xe) N G sc → wL (X.tr pn xe) body D σ H) hs hf I.nd (I.hi hA) hln ⟨I.g hG, I.gd hG, .inl hm⟩ tk
    (fun W pn xe tk' po => ⟨fun pins s σ H D Iv h => pl.run pins s σ H D Iv (h pn xe tk' (I.tr po))⟩)
    (fun a oe cls d pn hz hd => ⟨fun pins s σ H D Iv h => pl.run pins s σ H D Iv (h oe pn hz hd I.suite)⟩)) q
/-- what the class D must say, so that isinstance asks its errors rightly -/
structure EcC (K : PySem.W.Frag) (D : Addr) : Prop where
  cl : (PySem.W.clsIn K D).isSome = true
  hg : PySem.W.findIn K (.ref D) "__getattribute__" = some (some (.builtin "BaseException.__getattribute__"))
  hk : PySem.W.findIn K (.ref D) "__getattr__" = some none
  hs : PySem.W.subIn K (.ref D) (.type "BaseException") = some true
  ha : PySem.W.findIn K (.ref D) "__class__" = some (some (.builtin "object.__class__"))
  hn : PySem.W.specialIn K (.builtin "object.__class__") "__get__" = some (some (.builtin "getset_descriptor.__get__"))
  ht : PySem.W.takesIn K (.builtin "object.__class__") = some true
  hm : PySem.W.mroIn K D (.type "object") = some true
/-- the caught error at a stands as an instance -/
theorem inst_of {pins : List (Addr × Obj)} {s : Shared} {a D : Addr} {d : Option Addr} {oe : Obj} {pn : List (Addr × Obj)} {fs : List (Str × V)} (I : Inv (X.suite a ((a, oe) :: pn)) pins σ H s) (hz : Zc (.ref D) d oe) (hf : ∃ vs, oe.data = .fields vs)
    (hd : ∀ dd, d = some dd → H dd = some (.xd fs)) : ∃ od, PySem.W.InstAt s.heap a oe D od := by
  obtain ⟨hget, _⟩ := I.pin (a, oe) (List.mem_append.mpr (.inl List.mem_cons_self))
  obtain ⟨vs, hv⟩ := hf
  have nc : PySem.W.notCls oe := by unfold PySem.W.notCls; rw [hv] <;> trivial
  cases d with
  | none => exact ⟨none, hget, hz.1, nc, by rw [hz.2]; trivial⟩
  | some dd =>
    obtain ⟨mA, hns, _⟩ := (show ObjOk X.prog X.w H s.heap dd (.xd fs) from I.hok dd _ (hd dd rfl))
    obtain ⟨od, ho, _⟩ := lookIn_ns hns
    exact ⟨some od, hget, hz.1, nc, by rw [hz.2]; exact ho⟩
theorem c_isE {a D : Addr} {d : Option Addr} {oe : Obj} {pn : List (Addr × Obj)} {fs : List (Str × V)} {c : V} {cv : Value} {b : Bool} (C : EcC X.K D) (hz : Zc (.ref D) d oe) (hf : ∃ vs, oe.data = .fields vs) (hd : ∀ dd, d = some dd → H dd = some (.xd fs))
    (k : ClsV c cv) (e : PySem.W.kitOne X.K (.ref D) cv = some b) (q : Q (.bl b) H) : wC (X.suite a ((a, oe) :: pn)) (.builtin "isinstance") [.ref a, c] H Q := by
  unfold wC
  intro pins s σ us I r
  obtain ⟨u1, u2, rfl, r1, r2⟩ := vals2 r
  cases (show u1 = Value.ref a from r1)
  have ec := k.eq r2
  subst ec
  obtain ⟨od, J⟩ := inst_of I hz hf hd
  exact PySem.W.kia_one (PySem.W.kitx_exc (od := od) C.cl C.hg C.hk C.hs C.ha C.hn C.ht C.hm) I.kIn J e (fun z => nomatch z) fun tk => ⟨.bl b, H, I.tok tk, rfl, q⟩
theorem c_isET {a D tp : Addr} {d : Option Addr} {oe : Obj} {pn : List (Addr × Obj)} {fs : List (Str × V)} {cs : List V} {us' : List Value} {b : Bool} (C : EcC X.K D) (hz : Zc (.ref D) d oe) (hf : ∃ vs, oe.data = .fields vs) (hd : ∀ dd, d = some dd → H dd = some (.xd fs))
    (hT : H tp = some (.tup cs)) (k : Paired ClsV cs us') (e : PySem.W.kitAny X.K (.ref D) us' = some b) (q : Q (.bl b) H) : wC (X.suite a ((a, oe) :: pn)) (.builtin "isinstance") [.ref a, .ref tp] H Q := by
  unfold wC
  intro pins s σ us I r
  obtain ⟨u1, u2, rfl, r1, r2⟩ := vals2 r
  cases (show u1 = Value.ref a from r1)
  cases (show u2 = Value.ref tp from r2)
  obtain ⟨od, J⟩ := inst_of I hz hf hd
  obtain ⟨_, its, rv, o, h1, h2, n, h3⟩ := (show ObjOk X.prog X.w H s.heap tp (.tup cs) from I.hok tp _ hT)
  have e3 := ClsV.all k rv
  subst e3
  obtain ⟨oc, odd, dt, sl⟩ := o
  simp only at h2 h3
  subst h2 h3
  exact PySem.W.kia_tup (PySem.W.kitx_exc (od := od) C.cl C.hg C.hk C.hs C.ha C.hn C.ht C.hm) I.kIn J h1 e (fun z => nomatch z) fun tk => ⟨.bl b, H, I.tok tk, rfl, q⟩
/-- e.f of the caught error -/
theorem e_xf {a C : Addr} {oe : Obj} {d : Option Addr} {pn : List (Addr × Obj)} {f : Str} (T : XfC X.K C) (hno : PySem.W.findIn X.K (.ref C) f = some none) (hz : Zc (.ref C) d oe) (hf : ∃ vs, oe.data = .fields vs)
    (q : wE (X.suite a ((a, oe) :: pn)) e σ H fun x H1 => x = .ref a ∧ ∃ (dd : Addr) (fs : List (Str × V)) (v : V), d = some dd ∧ H1 dd = some (.xd fs) ∧ fs.lookup f = some v ∧ Q v H1) (hb : attributeBase e f X.env (eval e X.env) = eval e X.env := by rfl) :
    wE (X.suite a ((a, oe) :: pn)) (.Attribute e f pos) σ H Q := e_of (pe_xf T hno hz hf pe hb) (e_mono q fun x H1 z => ⟨z.1, rfl, z.2⟩)
end
section
variable {P : Program} {w : World} {K : PySem.W.Frag} {mg : Str → Option Value} {base : Heap}
theorem fn_okX {x : Str} {st : Stmt} {N G ps : List Str} {k : Nat} {sp : Sp} (T : Top K mg x st) (S : FnScope N ps (defScope st)) (O : ScOk N G (defScope st)) (len : ∀ vs H Q E, sp vs H Q E → vs.length = ps.length)
    (hb : ∀ (kV doc pm : Value) (an : Option Addr) (cdv ct : Value) (us : List Value), us.length = ps.length → bindArgs (PySem.W.fnOf x x (defArgs st) (defBody st) (defScope st) .none kV doc pm an cdv ct) ⟨us, []⟩ = pure (ps.zip us))
    (hbody : ∀ (f : Addr) (cdv : Value) (A : Around) (outer : List Env) (s : Shared) (H : Hp) (vs : List V) (Q : VK) (E : XK), Room k (A.deeper (envOfC x (defScope st) s.heap.objs.size f cdv)) → sp vs H Q E → In (cxOf (L2.CX P w) P w K mg base N x (defScope st) f cdv A outer s H E) N G (defScope st) →
      Takes (cxOf (L2.CX P w) P w K mg base N x (defScope st) f cdv A outer s H E) (fun cls d _ H => E cls d H) →
      wL (cxOf (L2.CX P w) P w K mg base N x (defScope st) f cdv A outer s H E) (defBody st) { nx := fun _ H' => Q .non H', rt := Q } (start N vs) H) : FnX P w K mg base (k + 1) x sp := by
  obtain ⟨f, fd, F, hm⟩ := T.ex
  exact ⟨f, fd, ps, F.okX S len (fun cdv A outer s H vs Q E hr h => ⟨_, pl, hbody f cdv A outer s H vs Q E hr h ⟨O, ⟨[], (List.append_nil _).symm⟩, S.nd, rfl, rfl, passes_of rfl⟩ (takes_of rfl rfl rfl rfl)⟩), hm, F.kp, F.binds hb⟩
end
end Wk

/-! My own layer, errors whose context is None: raised where nothing is handled, so that defs may be called in the suite that catches them. -/
namespace Wk
open PySem PySem.Spec PyProof.Rows L2
section
variable {X : Cx} {N G : List Str} {sc : Scope} {e o : Expr} {es : List Expr} {σ : L2.St} {H : Hp} {Q : VK} {pos p0 np : Pos}
/-- C(e) of a class whose __init__ stores one field: the made error's fields are known -/
theorem pmkN {n : Nat} {x f : Str} {C : Addr} (R : Er X.prog X.w X.K X.mg X.base x C f) (hr : Room n X.A) (hn : 2 ≤ n) (hg : Gl X x) (hdb : (x == ("__debug__" : Str)) = false)
    (he : starEach (e :: []) X.env = (false, eval e X.env) :: starEach [] X.env) (hpl : (backTo pos (starEach [] X.env)).any (·.1) = false) :
    L2N.PMk X (.Call (.Name x p0) [e] [] pos) (fun σ H Q => wE X e σ H fun v H1 => ∀ d H', Same H1 H' → H1 d = none → H' d = some (.xd [(f, v)]) → Q (.ref C) (some d) H') := by
  intro pins s σ H Q I h
  obtain ⟨fI, fd, ps, F0, hi, ht, hb⟩ := R.ex
  obtain ⟨_, _, _, _, bm, _, _, _, _, _, _, _, _, _, _, hC, hbm⟩ := R.o.cls
  refine wpAny_Call_Name_kw (ld_glob I hg R.mgC ?_ hdb)
  refine PySem.W.callWith_K (h₀ := X.base) I.ok.mod.kin R.o.kC (thn ((pa_cons pe pa_nil he).run pos pins s σ H (fun vs H1 => ∃ v, vs = [v] ∧ ∀ d H', Same H1 H' → H1 d = none → H' d = some (.xd [(f, v)]) → Q (.ref C) (some d) H') I (e_mono h fun v H1 z => ⟨v, rfl, z⟩)) fun us s1 ⟨vs, H1, I1, r1, v, ev, q1⟩ => ⟨I1.kIn, ?_⟩) he hpl
  subst ev
  show wpAny _ _ (call (.ref C) us) _ _ _
  obtain ⟨hp, g, dr, tk, os⟩ := s1
  have hget0 : ((hp.push (PySem.W.kdv_tup us)).push (PySem.HandSPX.excO C hp.objs.size)).get? (hp.objs.size + 1) = some (PySem.HandSPX.excO C hp.objs.size) := by heap_get
  let a := hp.objs.size + 1
  have na : H1 a = none := I1.hok.fresh (Nat.le_succ _)
  let hp2 := (hp.push (PySem.W.kdv_tup us)).push (PySem.HandSPX.excO C hp.objs.size)
  have kk : ∀ b o, hp.get? b = some o → hp2.get? b = some o := fun b o z => Heap.get?_push_of_some _ (Heap.get?_push_of_some _ z)
  have hget : hp2.get? a = some (PySem.HandSPX.excO C hp.objs.size) := hget0
  have I2 : Inv X pins σ (upd H1 a (exo a C none)) ⟨hp2, g, dr, tk, os⟩ := I1.laid (t' := tk) (h' := hp2) kk (Nat.le_succ _) (exo_ok hget)
  have r2 : Vals (V.ref a :: [v]) (Value.ref a :: us) := .cons rfl r1
  have lu : us.length = 1 := r1.length.symm
  -- what __init__ is asked for
  have hq : sp1 C f [.ref a, v] (upd H1 a (exo a C none)) (fun w H2 => w = .non ∧ ∃ d, H2 a = some (exo a C (some d)) ∧ H2 d = some (exd d [(f, v)]) ∧ H1 d = none ∧ Q (.ref C) (some d) (upd (del H2 a) d (.xd [(f, v)]))) (fun _ _ _ => False) := by
    refine ⟨a, v, rfl, upd_same, fun dx nd ne => ⟨rfl, dx, upd_same, by rw [upd_ne ne, upd_same], by rw [upd_ne ne] at nd; exact nd, ?_⟩⟩
    rw [upd_ne ne] at nd
    refine q1 dx _ (fun b u hb => ?_) nd upd_same
    have h1 : b ≠ a := ne_of_none hb na
    have h2 : b ≠ dx := ne_of_none hb nd
    rw [upd_ne h2, del_ne h1, upd_ne h1, upd_ne h2, upd_ne h1]
    exact hb
  have lp : (Value.ref a :: us).length = ps.length := by
    have z1 := r2.length
    rw [F0.len _ _ _ _ hq] at z1
    exact z1.symm
  have bind : BindsTo ⟨hp2, g, dr, tk, os⟩ fd ⟨Value.ref a :: us, []⟩ (ps.zip (Value.ref a :: us)) := by
    have z1 := hb ⟨hp2, g, dr, tk, os⟩ (Value.ref a :: us) I2.kIn (by rw [List.append_nil]; exact lp)
    rwa [List.append_nil] at z1
  have room : Room 1 (X.A.under (.builtin "type.__call__" ⟨.ref C :: us, []⟩)) := (hr.mono hn).make C us []
  have go := F0.run _ X.stack _ _ ⟨Value.ref a :: us, []⟩ (Value.ref a :: us) [V.ref a, v] _ (fun _ _ _ => False) room (I2.env0.make C us []) bind r2 hq
  refine wpAny_call (PySem.HandSPX.call_own F.excBase_ValueError (fun Y => PySem.HandSPX.refsVE_contains Y bm hbm) (I1.kIn _ _ hC) (PySem.W.looks_findIn I1.kIn hi) (fun self => PySem.W.bind_fn I1.kIn self ht) (by rw [lu, sizeLine_eq]; decide) (codeAny_mono go fun r s' back => ?_))
  cases r with
  | error er => exact False.elim back
  | ok fl =>
    cases fl with
    | ret u =>
      obtain ⟨w, H2, o2, b2, un2, ok2, rw2, ew, d, ea, ed, nd1, q2⟩ := back
      subst ew
      obtain ⟨h2, g2, d2, t2, os'⟩ := s'
      obtain ⟨t0, Gh, J, kG, ge, hoe, nH⟩ := mk_end0 (d2 := d2) (t2 := t2) I1 (Nat.le_succ _) kk un2 ok2 o2 b2 ea ed nd1
      refine ⟨rw2, a, _, #[.ref t0, .none, .none, .none, .bool false, .none], ⟨Gh, g2, d2, t2, os'⟩, _, .ref C, some d, rfl, J, kG, ge, hoe, ⟨rfl, rfl, ?_⟩, rfl, rfl, nH, rfl, b2, raises_own R.o.exC R.o.tyC, q2⟩
      intro vs z
      cases z
      rfl
    | next => exact False.elim back
    | brk => exact False.elim back
    | cont => exact False.elim back

theorem e_dict (q : ∀ p H2, Same H H2 → H p = none → H2 p = some (.dK []) → Q (.ref p) H2) : wE X (.Dict [] [] pos) σ H Q :=
  e_of pe_dnewK fun p np => q p _ (fun b u eo => by rw [upd_ne (ne_of_none eo np)]; exact eo) np upd_same
theorem e_neg {a : Expr} (q : wE X a σ H fun x H1 => ∃ i, x = .int i ∧ Q (.int (-i)) H1) : wE X (.UnaryOp .USub a pos) σ H Q := e_of (pe_un un_neg pe) q
theorem o_cat {l b : Addr} {xs zs : List V} (h1 : H l = some (.lst xs)) (h2 : H b = some (.lst zs)) (hz : xs.length + zs.length ≤ sizeLine) (q : ∀ p H2, Same H H2 → H2 p = some (.lst (xs ++ zs)) → Q (.ref p) H2) : wB X .Add (.ref l) (.ref b) H Q :=
  b_of op_cat ⟨l, b, xs, zs, rfl, rfl, h1, h2, hz, fun p np => q p _ (fun c u eo => by rw [upd_ne (ne_of_none eo np)]; exact eo) upd_same⟩
theorem c_str {i : Int} (hl : i.natAbs.log2 < 1920) (q : Q (.str (toString i)) H) : wC X (.type "str") [.int i] H Q := c_of call_str_int ⟨i, rfl, hl, q⟩
theorem o_isB {a b : Bool} (q : Q (.bl (decide (a = b))) H) : wK X .Is (.bl a) (.bl b) H Q := k_of op_is_bl ⟨a, b, rfl, rfl, q⟩
/-- raise C(e), where nothing is handled -/
theorem s_raiseN {nx : L2.St → Hp → Prop} {rt : VK} {bk ct : L2.St → Hp → Prop} {g n : Nat} {x f : Str} {C : Addr} {W : WX} {pos' : Pos} (R : Er X.prog X.w X.K X.mg X.base x C f) (tk : L2N.Takes X W) (hr : Room n X.A) (hn : 2 ≤ n)
    (q : wE X e σ H fun v H1 => ∀ d H', Same H1 H' → H1 d = none → H' d = some (.xd [(f, v)]) → W (.ref C) (some d) σ H')
    (I : In X N G sc := by assumption) (hG : At G g x := by repeat (first | with_reducible apply At.z | with_reducible apply At.s)) (hc : X.calm = true := by rfl)
    (he : starEach (e :: []) X.env = (false, eval e X.env) :: starEach [] X.env := by rfl) (hpl : (backTo pos (starEach [] X.env)).any (·.1) = false := by rfl) :
    wS X (.Raise (some (.Call (.Name x p0) [e] [] pos)) none pos') ⟨nx, rt, bk, ct⟩ σ H :=
  s_of (L2N.ps_raise hc tk (pmkN R hr hn (I.g hG) (I.gd hG) he hpl)) q
/-- a def of the module that may raise so -/
structure FnN (P : Program) (w : World) (K : PySem.W.Frag) (mg : Str → Option Value) (base : Heap) (k : Nat) (x : Str) (sp : Sp) : Prop where
  ex : ∃ (f : Addr) (fd : FuncData) (ps : List Str), FnOk P w K mg base (L2N.CX P w) k f fd ps sp ∧ mg x = some (.ref f) ∧ PySem.W.keepIn K (.ref f) = true ∧ Binds K fd ps []
theorem e_callN {g k n : Nat} {x : Str} {sp : Sp} {W : WX} (F : FnN X.prog X.w X.K X.mg X.base k x sp) (tk : L2N.Takes X W) (hr : Room n X.A) (hk : k ≤ n) (q : wA X (e :: es) σ H fun vs H1 => sp vs H1 Q (fun cls d H' => W cls d σ H'))
    (I : In X N G sc := by assumption) (hG : At G g x := by repeat (first | with_reducible apply At.z | with_reducible apply At.s)) (he : starEach (e :: es) X.env = (false, eval e X.env) :: starEach es X.env := by rfl) (hpl : (backTo pos (starEach es X.env)).any (·.1) = false := by rfl) :
    wE X (.Call (.Name x p0) (e :: es) [] pos) σ H Q := by
  obtain ⟨f, fd, ps, F0, hm, hkp, hb⟩ := F.ex
  refine e_of (pe_callSD (E := fun σ cls d H' => W cls d σ H') F0 (hr.mono hk) (I.g hG) hm hkp hb .nil (fun σ => L2N.passAt tk σ) pa (I.gd hG) he hpl) ?_
  show wA X (e :: es) σ H fun vs H1 => sp (vs ++ []) H1 Q (fun cls d H' => W cls d σ H')
  simp only [List.append_nil]
  exact q
/-- the suite of an except clause that catches such an error -/
def tsN (X : Cx) (N G : List Str) (sc : Scope) (sts : List Stmt) : Addr → Value → Option Addr → TS := fun a cls d D σ H => ∀ (oe : Obj) (pn : List (Addr × Obj)), Zc cls d oe → (∃ vs, oe.data = .fields vs) → In (X.suite a ((a, oe) :: pn)) N G sc → L2H.HotC (X.suite a ((a, oe) :: pn)) → wL (X.suite a ((a, oe) :: pn)) sts D σ H
theorem s_tryN {nx : L2.St → Hp → Prop} {rt : VK} {bk ct : L2.St → Hp → Prop} {i g : Nat} {x n : Str} {c : Value} {body suite : List Stmt} {b0 : Stmt} {pos' : Pos} {Wout : WX} (hm : X.mg x = some c) (tk : L2N.Takes X Wout)
    (q : ∀ (pn : List (Addr × Obj)) (xe : Value → Shared → Prop), L2N.Takes (X.tr pn xe) (wAs X.K c i (tsN X N G sc (b0 :: suite)) Wout ⟨nx, rt, bk, ct⟩) → In (X.tr pn xe) N G sc → wL (X.tr pn xe) body ⟨nx, rt, bk, ct⟩ σ H)
    (I : In X N G sc := by assumption) (hA : At N i n := by repeat (first | with_reducible apply At.z | with_reducible apply At.s)) (hG : At G g x := by repeat (first | with_reducible apply At.z | with_reducible apply At.s))
    (hln : X.env.kindOf n = some .local := by rfl) (hs : X.stack = X.env :: X.outer := by rfl) (hf : X.env.frame = some X.env.locals := by rfl) :
    wS X (.Try body [.ExceptHandler (some (.Name x np)) (some n) (b0 :: suite) pos'] [] [] pos) ⟨nx, rt, bk, ct⟩ σ H :=
  s_of (L2N.ps_try_as (tb := fun W D σ H => ∀ (pn : List (Addr × Obj)) (xe : Value → Shared → Prop), L2N.Takes (X.tr pn xe) W → In (X.tr pn xe) N G sc → wL (X.tr pn xe) body D σ H) hs hf I.nd (I.hi hA) hln ⟨I.g hG, I.gd hG, .inl hm⟩ tk
    (fun W pn xe tk' po => ⟨fun pins s σ H D Iv h => pl.run pins s σ H D Iv (h pn xe tk' (I.tr po))⟩)
    (fun a oe cls d pn hz hd => ⟨fun pins s σ H D Iv h => pl.run pins s σ H D Iv (h oe pn hz.zc hd I.suite (by
      obtain ⟨vs, hv⟩ := hd
      exact ⟨(a, oe), ⟨rfl, vs, hv, hz.2.2 vs hv⟩, List.mem_cons_self⟩))⟩)) q
theorem takesN0 : L2N.Takes X (fun _ _ _ _ => False) := fun _ _ x => by
  obtain ⟨_, _, _, _, _, _, _, _, _, _, _, _, _, _, _, _, z⟩ := x
  exact z.elim
/-- a def that is called where an error is handled -/
structure FnHt (P : Program) (w : World) (K : PySem.W.Frag) (mg : Str → Option Value) (base : Heap) (k : Nat) (x : Str) (sp : Sp) : Prop where
  ex : ∃ (f : Addr) (fd : FuncData) (ps : List Str), L2H.FnH P w K mg base CX0 k f fd ps sp ∧ mg x = some (.ref f) ∧ PySem.W.keepIn K (.ref f) = true ∧ Binds K fd ps []
theorem e_callH {g k n : Nat} {x : Str} {sp : Sp} (F : FnHt X.prog X.w X.K X.mg X.base k x sp) (hr : L2H.RoomH n X.A) (hk : k ≤ n) (hh : L2H.HotC X) (q : wA X (e :: es) σ H fun vs H1 => sp vs H1 Q E0)
    (I : In X N G sc := by assumption) (hG : At G g x := by repeat (first | with_reducible apply At.z | with_reducible apply At.s)) (he : starEach (e :: es) X.env = (false, eval e X.env) :: starEach es X.env := by rfl) (hpl : (backTo pos (starEach es X.env)).any (·.1) = false := by rfl) :
    wE X (.Call (.Name x p0) (e :: es) [] pos) σ H Q := by
  obtain ⟨f, fd, ps, F0, hm, hkp, hb⟩ := F.ex
  exact e_of (L2H.pe_callH (E := fun _ => E0) F0 (hr.mono hk) hh (I.g hG) hm hkp hb (fun σ pins H s e s' I z => z.elim) pa (I.gd hG) he hpl) q
end
section
variable {P : Program} {w : World} {K : PySem.W.Frag} {mg : Str → Option Value} {base : Heap}
theorem fn_okN {x : Str} {st : Stmt} {N G ps : List Str} {k : Nat} {sp : Sp} (T : Top K mg x st) (S : FnScope N ps (defScope st)) (O : ScOk N G (defScope st)) (len : ∀ vs H Q E, sp vs H Q E → vs.length = ps.length)
    (hb : ∀ (kV doc pm : Value) (an : Option Addr) (cdv ct : Value) (us : List Value), us.length = ps.length → bindArgs (PySem.W.fnOf x x (defArgs st) (defBody st) (defScope st) .none kV doc pm an cdv ct) ⟨us, []⟩ = pure (ps.zip us))
    (hbody : ∀ (f : Addr) (cdv : Value) (A : Around) (outer : List Env) (s : Shared) (H : Hp) (vs : List V) (Q : VK) (E : XK), Room k (A.deeper (envOfC x (defScope st) s.heap.objs.size f cdv)) → sp vs H Q E → In (cxOf (L2N.CX P w) P w K mg base N x (defScope st) f cdv A outer s H E) N G (defScope st) →
      L2N.Takes (cxOf (L2N.CX P w) P w K mg base N x (defScope st) f cdv A outer s H E) (fun cls d _ H => E cls d H) →
      wL (cxOf (L2N.CX P w) P w K mg base N x (defScope st) f cdv A outer s H E) (defBody st) { nx := fun _ H' => Q .non H', rt := Q } (start N vs) H) : FnN P w K mg base (k + 1) x sp := by
  obtain ⟨f, fd, F, hm⟩ := T.ex
  obtain ⟨oc, od, kV, doc, pm, an, cdv, ct, osl, rfl, lk, hcd⟩ := id F.ex
  exact ⟨f, _, ps, fn_of lk hcd S len (fun A outer s H vs Q E hr h => ⟨_, pl, hbody f cdv A outer s H vs Q E hr h ⟨O, ⟨[], (List.append_nil _).symm⟩, S.nd, rfl, rfl, passes_of rfl⟩ (L2N.takes_of rfl rfl rfl rfl)⟩), hm, F.kp, F.binds hb⟩
theorem fn_okH {x : Str} {st : Stmt} {N G ps : List Str} {k : Nat} {sp : Sp} (T : Top K mg x st) (S : FnScope N ps (defScope st)) (O : ScOk N G (defScope st)) (len : ∀ vs H Q E, sp vs H Q E → vs.length = ps.length)
    (hb : ∀ (kV doc pm : Value) (an : Option Addr) (cdv ct : Value) (us : List Value), us.length = ps.length → bindArgs (PySem.W.fnOf x x (defArgs st) (defBody st) (defScope st) .none kV doc pm an cdv ct) ⟨us, []⟩ = pure (ps.zip us))
    (hbody : ∀ (f : Addr) (cdv : Value) (A : Around) (outer : List Env) (s : Shared) (H : Hp) (vs : List V) (Q : VK) (E : XK) (p : Addr × Obj), L2H.RoomH k (A.deeper (envOfC x (defScope st) s.heap.objs.size f cdv)) → sp vs H Q E → In (L2H.cxH CX0 P w K mg base N x (defScope st) f cdv A outer s H E p).nox N G (defScope st) →
      wL (L2H.cxH CX0 P w K mg base N x (defScope st) f cdv A outer s H E p).nox (defBody st) { nx := fun _ H' => Q .non H', rt := Q } (start N vs) H) : FnHt P w K mg base (k + 1) x sp := by
  obtain ⟨f, fd, F, hm⟩ := T.ex
  obtain ⟨oc, od, kV, doc, pm, an, cdv, ct, osl, rfl, lk, hcd⟩ := id F.ex
  exact ⟨f, _, ps, L2H.fn_ofH lk hcd S len (fun A outer s H vs Q E p hot hr h => ⟨_, PSs.nox pl, hbody f cdv A outer s H vs Q E p hr h ⟨O, ⟨[], (List.append_nil _).symm⟩, S.nd, rfl, rfl, PassesOwn.never⟩⟩), hm, F.kp, F.binds hb⟩
end
end Wk

/-! My own layer, texts: chains of comparisons, order and length of texts, a sign of a text, a loop over a text. -/
namespace Wk
open PySem PySem.Spec PyProof.Rows L2
section
variable {X : Cx} {N G : List Str} {sc : Scope} {a b c e : Expr} {es : List Expr} {σ : L2.St} {H : Hp} {Q : VK} {pos : Pos} {QT : Bool → Hp → Prop}
theorem e_chain {op op' : CmpOp} (q : wE X a σ H fun x H1 => wE X b σ H1 fun y H2 => wK X op x y H2 fun z H3 => ∃ k, z = .bl k ∧ (if k = true then wE X c σ H3 fun w H4 => wK X op' y w H4 Q else Q (.bl false) H3)) (hm : lastMarks [op, op'] [b, c] = false := by with_unfolding_all rfl) :
    wE X (.Compare a [op, op'] [b, c] pos) σ H Q := e_of (pe_chain opk opk pe pe pe hm) q
theorem t_chain {op op' : CmpOp} (q : wE X a σ H fun x H1 => wE X b σ H1 fun y H2 => wK X op x y H2 fun z H3 => ∃ k, z = .bl k ∧ (if k = true then wE X c σ H3 fun w H4 => wK X op' y w H4 fun z H5 => ∃ k, z = .bl k ∧ QT k H5 else ∃ k, V.bl false = .bl k ∧ QT k H3)) (hm : lastMarks [op, op'] [b, c] = false := by with_unfolding_all rfl) :
    wT X (.Compare a [op, op'] [b, c] pos) σ H QT := t_of (pt_chain opk opk pe pe pe hm) q
/-- one sign -/
abbrev sg (c : Nat) : Str := ⟨#[c]⟩
theorem lt1 (c d : Nat) : (([c] : List Nat) < [d]) ↔ c < d := by
  constructor
  · intro h
    cases h with
    | rel h => exact h
    | cons h => cases h
  · exact fun h => .rel h
theorem o_le1 {c d : Nat} (q : Q (.bl (decide (c ≤ d))) H) : wK X .LtE (.str (sg c)) (.str (sg d)) H Q := by
  refine k_of op_le_str ⟨sg c, sg d, rfl, rfl, ?_⟩
  have e1 : (!decide (([d] : List Nat) < [c])) = decide (c ≤ d) := by
    by_cases h : c ≤ d
    · have h2 : ¬ (([d] : List Nat) < [c]) := fun z => absurd ((lt1 d c).mp z) (by omega)
      rw [decide_eq_true h, decide_eq_false h2]
      rfl
    · have h2 : ([d] : List Nat) < [c] := (lt1 d c).mpr (by omega)
      rw [decide_eq_false h, decide_eq_true h2]
      rfl
  show Q (.bl (!decide (([d] : List Nat) < [c]))) H
  rw [e1]
  exact q
theorem c_lenS {z : Str} (h : z.length ≤ sizeLine) (q : Q (.int (z.length : Int)) H) : wC X (.builtin "len") [.str z] H Q := c_of call_len ⟨.str z, z.length, rfl, ⟨h, rfl⟩, q⟩
theorem ix_s {z : Str} {i : Int} {c : Nat} (h : z.length ≤ sizeLine) (e : atI z.cps.toList i = some c) (q : Q (.str (sg c)) H) : wIx X (.str z) (.int i) H Q := ix_of ix_str ⟨z, i, c, rfl, rfl, h, e, q⟩
theorem s_forS {nx : L2.St → Hp → Prop} {rt : VK} {bk ct : L2.St → Hp → Prop} {x : Str} {i : Nat} {body : List Stmt} {px : Pos}
    (q : wE X a σ H fun v H1 => ∃ z : Str, v = .str z ∧ ∃ Pv : Nat → L2.St → Hp → Prop, Pv 0 σ H1 ∧ (∀ k c σ H, z.cps[k]? = some c → Pv k σ H → wL X body ⟨Pv (k + 1), rt, nx, Pv (k + 1)⟩ (σ.set i (some (.str (sg c)))) H) ∧ ∀ σ H, Pv z.cps.size σ H → nx σ H)
    (I : In X N G sc := by assumption) (hc : X.calm = true := by rfl) (hA : At N i x := by repeat (first | with_reducible apply At.z | with_reducible apply At.s)) (hs2 : ∀ z, foldedSetIterable a X.env z = pure z := by intro _; rfl) :
    wS X (.For (.Name x px) a body [] pos) ⟨nx, rt, bk, ct⟩ σ H := by
  refine s_of (ps_for I.never hc (pi_str pe) (pg_name I.nd (I.hi hA) (I.loc hA) I.f) pl hs2) (e_mono q fun v H1 q1 => ?_)
  obtain ⟨z, rfl, Pv, h0, hb, hd⟩ := q1
  refine ⟨z, rfl, fun k m σ H => m = z.cps.size - k ∧ k ≤ z.cps.size ∧ Pv k σ H, ⟨z.cps.size, by simp, Nat.zero_le _, h0⟩, ?_⟩
  rintro k m σ H ⟨rfl, hk, p⟩
  by_cases hlt : k < z.cps.size
  · refine .inr ⟨hlt, Pv (k + 1), fun σ' H' p' => ⟨z.cps.size - (k + 1), by omega, rfl, hlt, p'⟩, fun y H' hy => ?_⟩
    obtain ⟨rfl, c, hc', rfl⟩ := hy
    exact hb k c σ _ hc' p
  · have e : k = z.cps.size := by omega
    subst e
    exact .inl ⟨Nat.le_refl _, hd σ H p⟩
end
end Wk

/-! My own layer, comprehensions with their own names, and ground terms: what only makes new objects, over facts that last. -/
namespace Wk
open PySem PySem.Spec PyProof.Rows L2
section
variable {P : Program} {w : World} {K : PySem.W.Frag} {mg : Str → Option Value} {base : Heap}
/-- a def with further slots C for the names of its comprehensions -/
theorem fn_okC {x : Str} {st : Stmt} {N C G ps : List Str} {k : Nat} {sp : Sp} (T : Top K mg x st) (S : FnScope (N ++ C) ps (defScope st)) (O : ScOk N G (defScope st)) (len : ∀ vs H Q E, sp vs H Q E → vs.length = ps.length)
    (hb : ∀ (kV doc pm : Value) (an : Option Addr) (cdv ct : Value) (us : List Value), us.length = ps.length → bindArgs (PySem.W.fnOf x x (defArgs st) (defBody st) (defScope st) .none kV doc pm an cdv ct) ⟨us, []⟩ = pure (ps.zip us))
    (hbody : ∀ (f : Addr) (cdv : Value) (A : Around) (outer : List Env) (s : Shared) (H : Hp) (vs : List V) (Q : VK) (E : XK), Room k (A.deeper (envOfC x (defScope st) s.heap.objs.size f cdv)) → sp vs H Q E → In (cxOf CX0 P w K mg base (N ++ C) x (defScope st) f cdv A outer s H E).nox N G (defScope st) →
      wL (cxOf CX0 P w K mg base (N ++ C) x (defScope st) f cdv A outer s H E).nox (defBody st) { nx := fun _ H' => Q .non H', rt := Q } (start (N ++ C) vs) H) : Fn P w K mg base (k + 1) x sp := by
  obtain ⟨f, fd, F, hm⟩ := T.ex
  exact ⟨f, fd, ps, F.ok S len (fun cdv A outer s H vs Q E hr h => ⟨_, pl, hbody f cdv A outer s H vs Q E hr h ⟨O, ⟨C, rfl⟩, S.nd, rfl, rfl, PassesOwn.never⟩⟩), hm, F.kp, F.binds hb⟩
end
/-! ### blocks -/
instance visDec {sc : Scope} {x : Str} : Decidable (Vis sc x) := inferInstanceAs (Decidable (_ ∨ _))
/-- the names of a comprehension's block: the seen ones with their slots, the global ones, its own at slot i -/
structure BkOk (N : List Str) (Vn : List (Nat × Str)) (G : List Str) (i : Nat) (x : Str) (sc scope : Scope) : Prop where
  lo : ∀ p ∈ Vn, N[p.1]? = some p.2 ∧ Vis (relS scope sc) p.2 ∧ (p.2 == ("__debug__" : Str)) = false ∧ (p.2 == ("__classdict__" : Str)) = false
  gl : ∀ x ∈ G, (relS scope sc).names.lookup x = some .globalImplicit ∧ (x == ("__debug__" : Str)) = false ∧ x ≠ "__name__"
  own : N[i]? = some x ∧ (relS scope sc).names.lookup x = some .local
  blk : blkC N sc scope [(x, i)] = true
structure InB (X : Cx) (Vn : List (Nat × Str)) (G : List Str) : Prop where
  nd : X.N.Nodup
  lo : ∀ p ∈ Vn, X.N[p.1]? = some p.2 ∧ Vis X.env.scope p.2 ∧ (p.2 == ("__debug__" : Str)) = false ∧ (p.2 == ("__classdict__" : Str)) = false
  gl : ∀ x ∈ G, Gl X x ∧ (x == ("__debug__" : Str)) = false ∧ x ≠ "__name__"
abbrev Bk (X : Cx) (s : Shared) (H : Hp) (scope : Scope) (C : Addr) (cl : List (Str × Addr)) (fp : List Addr) : Cx := X.blk s H scope (compEnvC scope cl C X.env) fp
section
variable {X : Cx} {e a b c elt : Expr} {es rest : List Expr} {σ : L2.St} {H : Hp} {Q : VK} {pos p0 : Pos} {N G G' : List Str} {Vn : List (Nat × Str)} {sc scope : Scope}
theorem rel_eq (h : X.env.scope = sc) (C : Addr) (cl : List (Str × Addr)) : (compEnvC scope cl C X.env).scope = relS scope sc := by
  subst h
  rfl
theorem BkOk.inB {i : Nat} {x : Str} (B : BkOk X.N Vn G' i x sc scope) (I : In X N G sc) (s : Shared) (H : Hp) (C : Addr) (cl : List (Str × Addr)) (fp : List Addr) : InB (Bk X s H scope C cl fp) Vn G' := by
  have e : (compEnvC scope cl C X.env).scope = relS scope sc := rel_eq I.sc C cl
  refine ⟨I.nd, fun p hp => ?_, fun y hy => ?_⟩
  · obtain ⟨h1, h2, h3, h4⟩ := B.lo p hp
    exact ⟨h1, by show Vis (compEnvC scope cl C X.env).scope p.2; rw [e]; exact h2, h3, h4⟩
  · obtain ⟨h1, h2, h3⟩ := B.gl y hy
    exact ⟨by show (compEnvC scope cl C X.env).scope.names.lookup y = _; rw [e]; exact h1, h2, h3⟩
theorem BkOk.pg {i : Nat} {x : Str} {px : Pos} (B : BkOk X.N Vn G' i x sc scope) (I : In X N G sc) (s : Shared) (H : Hp) (C : Addr) (cl : List (Str × Addr)) (fp : List Addr) : PG (Bk X s H scope C cl fp) (.Name x px) (gName i) := by
  have e : (compEnvC scope cl C X.env).scope = relS scope sc := rel_eq I.sc C cl
  have l : (Bk X s H scope C cl fp).env.scope.names.lookup x = some .local := by
    show (compEnvC scope cl C X.env).scope.names.lookup x = _
    rw [e]
    exact B.own.2
  exact pg_name I.nd B.own.1 (.inl l) (.inr l)
theorem BkOk.ok {i : Nat} {x : Str} (B : BkOk X.N Vn G' i x sc scope) (I : In X N G sc) : BlkOk X.N X.env.scope scope [(x, i)] := by
  rw [I.sc]
  exact blkOk_by B.blk
theorem InB.g (I : InB X Vn G) {i : Nat} {x : Str} (h : At G i x) : Gl X x := (I.gl x h.mem).1
theorem InB.gd (I : InB X Vn G) {i : Nat} {x : Str} (h : At G i x) : (x == ("__debug__" : Str)) = false := (I.gl x h.mem).2.1
theorem InB.gn (I : InB X Vn G) {i : Nat} {x : Str} (h : At G i x) : x ≠ "__name__" := (I.gl x h.mem).2.2
theorem b_var {j i : Nat} {x : Str} {v : V} (q : Q v H) (I : InB X Vn G := by assumption) (hA : At Vn j (i, x) := by repeat (first | with_reducible apply At.z | with_reducible apply At.s)) (hσ : σ[i]? = some (some v) := by exact rfl) : wE X (.Name x pos) σ H Q :=
  e_of (pe_var (I.lo _ hA.mem).1 (I.lo _ hA.mem).2.1 (I.lo _ hA.mem).2.2.1 (I.lo _ hA.mem).2.2.2) ⟨v, hσ, q⟩
theorem b_call {g : Nat} {k n : Nat} {x : Str} {sp : Sp} (F : Fn X.prog X.w X.K X.mg X.base k x sp) (hr : Room n X.A) (hk : k ≤ n) (q : wA X (e :: es) σ H fun vs H1 => sp vs H1 Q E0) (I : InB X Vn G := by assumption) (hG : At G g x := by repeat (first | with_reducible apply At.z | with_reducible apply At.s))
    (he : starEach (e :: es) X.env = (false, eval e X.env) :: starEach es X.env := by rfl) (hpl : (backTo pos (starEach es X.env)).any (·.1) = false := by rfl) : wE X (.Call (.Name x p0) (e :: es) [] pos) σ H Q := by
  obtain ⟨f, fd, ps, F0, hm, hkp, hb⟩ := F.ex
  refine e_of (pe_call F0 (hr.mono hk) (I.g hG) hm hkp hb .nil pass0 pa (I.gd hG) he hpl) ?_
  show wA X (e :: es) σ H fun vs H1 => sp (vs ++ []) H1 Q E0
  simp only [List.append_nil]
  exact q
theorem b_callB {g : Nat} {x : Str} {id : String} (hm : X.mg x = none) (hv : bootBuiltins x = some (.builtin id)) (q : wA X (e :: es) σ H fun vs H1 => wC X (.builtin id) vs H1 Q) (I : InB X Vn G := by assumption) (hG : At G g x := by repeat (first | with_reducible apply At.z | with_reducible apply At.s))
    (he : starEach (e :: es) X.env = (false, eval e X.env) :: starEach es X.env := by rfl) (hpl : (backTo pos (starEach es X.env)).any (·.1) = false := by rfl) : wE X (.Call (.Name x p0) (e :: es) [] pos) σ H Q := e_of (pe_callB cr (I.g hG) hm hv pa (I.gn hG) (I.gd hG) he hpl) q
theorem b_glob {g : Nat} {x : Str} {v : V} {u : Value} (hm : X.mg x = some u) (r : RelV v u) (q : Q v H) (I : InB X Vn G := by assumption) (hG : At G g x := by repeat (first | with_reducible apply At.z | with_reducible apply At.s)) : wE X (.Name x pos) σ H Q := e_of (pe_glob (I.g hG) hm r (I.gd hG)) q
theorem wipe1 (σ : L2.St) (i : Nat) : wipe σ [i] = σ.set i none := rfl
theorem wipe_set (σ : L2.St) (i : Nat) (v : L2.V) : wipe ((wipe σ [i]).set i (some v)) [i] = wipe σ [i] := by
  simp [wipe1, List.set_set]
/-- what the turns of a comprehension ask: over range(n) -/
def LcR (X : Cx) (Vn : List (Nat × Str)) (G' : List Str) (elt : Expr) (scope : Scope) (i n : Nat) (D : Addr) (σ : L2.St) (H1 : Hp) (Qd : Hp → Prop) : Prop := ∃ Pv : Nat → Hp → Prop, Pv 0 (upd H1 D (.lst [])) ∧
  (∀ k H2, k < n → Pv k H2 → ∀ s0 H0 C cl fp, InB (Bk X s0 H0 scope C cl fp) Vn G' → wE (Bk X s0 H0 scope C cl fp) elt ((wipe σ [i]).set i (some (.int (k : Int)))) H2 fun y H4 => ∃ acc, H4 D = some (.lst acc) ∧ acc.length < sizeLine ∧ Pv (k + 1) (upd H4 D (.lst (acc ++ [y])))) ∧
  ∀ H2, Pv n H2 → Qd H2
/-- .. over a list that stays -/
def LcL (X : Cx) (Vn : List (Nat × Str)) (G' : List Str) (elt : Expr) (scope : Scope) (i : Nat) (ad : Addr) (xs : List L2.V) (D : Addr) (σ : L2.St) (H1 : Hp) (Qd : Hp → Prop) : Prop := ∃ Pv : Nat → Hp → Prop, Pv 0 (upd H1 D (.lst [])) ∧ (∀ k H2, k ≤ xs.length → Pv k H2 → SqL X.K H2 ad xs) ∧
  (∀ k x H2, xs[k]? = some x → Pv k H2 → ∀ s0 H0 C cl fp, InB (Bk X s0 H0 scope C cl fp) Vn G' → wE (Bk X s0 H0 scope C cl fp) elt ((wipe σ [i]).set i (some x)) H2 fun y H4 => ∃ acc, H4 D = some (.lst acc) ∧ acc.length < sizeLine ∧ Pv (k + 1) (upd H4 D (.lst (acc ++ [y])))) ∧
  ∀ H2, Pv xs.length H2 → Qd H2
/-- the turn's reading, where the block may run anywhere -/
@[irreducible] def wBk (X : Cx) (Vn : List (Nat × Str)) (G' : List Str) (elt : Expr) (scope : Scope) : TE := fun σ H Q => ∀ s0 H0 C cl fp, InB (Bk X s0 H0 scope C cl fp) Vn G' → wE (Bk X s0 H0 scope C cl fp) elt σ H Q
theorem pe_bk {s0 : Shared} {H0 : Hp} {C : Addr} {cl : List (Str × Addr)} {fp : List Addr} (I : InB (Bk X s0 H0 scope C cl fp) Vn G') : PE (Bk X s0 H0 scope C cl fp) elt (wBk X Vn G' elt scope) :=
  ⟨fun pins s σ H Q Iv h => by unfold wBk at h; exact pe.run pins s σ H Q Iv (h s0 H0 C cl fp I)⟩
theorem lcR_of {i n : Nat} {D : Addr} {H1 : Hp} {Qd : Hp → Prop} (q : LcR X Vn G' elt scope i n D σ H1 Qd) : ∃ W : Nat → Nat → Hp → Prop, (∃ m, W 0 m (upd H1 D (.lst []))) ∧ ∀ k m H, W k m H →
    ((Itr 0 n).stop k H ∧ Qd H) ∨ ((Itr 0 n).go k H ∧ ∃ Nx : Hp → Prop, (∀ H', Nx H' → ∃ m', m' < m ∧ W (k + 1) m' H') ∧ ∀ x H', (Itr 0 n).yld k H x H' → gName i x (wipe σ [i]) H' fun σ2 H2 => wipe σ2 [i] = wipe σ [i] ∧ tYes σ2 H2 fun b H3 =>
      if b = true then wBk X Vn G' elt scope σ2 H3 fun y H4 => ∃ acc, H4 D = some (.lst acc) ∧ acc.length < sizeLine ∧ Nx (upd H4 D (.lst (acc ++ [y]))) else Nx H3) := by
  obtain ⟨Pv, h0, hs, hd⟩ := q
  refine lc_range Pv h0 (fun k H hk p => ?_) hd
  refine ⟨wipe_set σ i _, ?_⟩
  unfold tYes
  refine iteT ?_
  unfold wBk
  intro s0 H0 C cl fp I
  rw [Int.zero_add]
  exact hs k H hk p s0 H0 C cl fp I
theorem lcL_of {i : Nat} {ad : Addr} {xs : List L2.V} {D : Addr} {H1 : Hp} {Qd : Hp → Prop} (q : LcL X Vn G' elt scope i ad xs D σ H1 Qd) : ∃ W : Nat → Nat → Hp → Prop, (∃ m, W 0 m (upd H1 D (.lst []))) ∧ ∀ k m H, W k m H →
    ((Itl X.K ad).stop k H ∧ Qd H) ∨ ((Itl X.K ad).go k H ∧ ∃ Nx : Hp → Prop, (∀ H', Nx H' → ∃ m', m' < m ∧ W (k + 1) m' H') ∧ ∀ x H', (Itl X.K ad).yld k H x H' → gName i x (wipe σ [i]) H' fun σ2 H2 => wipe σ2 [i] = wipe σ [i] ∧ tYes σ2 H2 fun b H3 =>
      if b = true then wBk X Vn G' elt scope σ2 H3 fun y H4 => ∃ acc, H4 D = some (.lst acc) ∧ acc.length < sizeLine ∧ Nx (upd H4 D (.lst (acc ++ [y]))) else Nx H3) := by
  obtain ⟨Pv, h0, hl, hs, hd⟩ := q
  refine lc_list Pv h0 hl (fun k x H hk p => ?_) hd
  refine ⟨wipe_set σ i _, ?_⟩
  unfold tYes
  refine iteT ?_
  unfold wBk
  intro s0 H0 C cl fp I
  exact hs k x H hk p s0 H0 C cl fp I
/-- [elt for x in range(a)] -/
theorem e_lcR {i g : Nat} {x : Str} {px p cp : Pos} (B : BkOk X.N Vn G' i x sc scope) (hm : X.mg "range" = none)
    (q : wE X a σ H fun v H1 => ∃ n : Nat, v = .int n ∧ n < 2 ^ 62 ∧ ∀ D, H1 D = none → LcR X Vn G' elt scope i n D σ H1 fun H2 => Q (.ref D) H2)
    (I : In X N G sc := by assumption) (hc : X.calm = true := by rfl) (hG : At G g ("range" : Str) := by repeat (first | with_reducible apply At.z | with_reducible apply At.s)) (hs : starEach [a] X.env = [(false, eval a X.env)] := by rfl) (hs2 : ∀ z, foldedSetIterable (.Call (.Name "range" p) [a] [] cp) X.env z = pure z := by intro _; rfl)
    (hs1 : starEach (a :: []) X.env = (false, eval a X.env) :: starEach [] X.env := by rfl) :
    wE X (.ListComp elt [⟨.Name x px, .Call (.Name "range" p) [a] [] cp, [], 0⟩] scope pos) σ H Q := by
  refine e_of (pe_lc (own := [(x, i)]) (g := gName i) (tt := tYes) (te := wBk X Vn G' elt scope) hc I.nd (pi_range1 (I.g hG) hm (pa_cons pe pa_nil hs1) hs) (B.ok I) (fun s H C cl fp => B.pg I s H C cl fp) (fun _ _ _ _ _ => pts_nil) (fun s H C cl fp => pe_bk (B.inB I s H C cl fp)) hs2) (e_mono q fun v H1 q1 => ?_)
  obtain ⟨n, rfl, hn, q2⟩ := q1
  refine ⟨(n : Int), rfl, by omega, by omega, ?_⟩
  rw [Int.toNat_natCast]
  exact fun D hD => lcR_of (q2 D hD)
/-- [elt for x in a], a list -/
theorem e_lcL {i : Nat} {x : Str} {px : Pos} (B : BkOk X.N Vn G' i x sc scope)
    (q : wE X a σ H fun v H1 => ∃ ad xs, v = .ref ad ∧ SqL X.K H1 ad xs ∧ ∀ D, H1 D = none → LcL X Vn G' elt scope i ad xs D σ H1 fun H2 => Q (.ref D) H2)
    (I : In X N G sc := by assumption) (hc : X.calm = true := by rfl) (hs2 : ∀ z, foldedSetIterable a X.env z = pure z := by intro _; rfl) :
    wE X (.ListComp elt [⟨.Name x px, a, [], 0⟩] scope pos) σ H Q := by
  refine e_of (pe_lc (own := [(x, i)]) (g := gName i) (tt := tYes) (te := wBk X Vn G' elt scope) hc I.nd (pi_list pe) (B.ok I) (fun s H C cl fp => B.pg I s H C cl fp) (fun _ _ _ _ _ => pts_nil) (fun s H C cl fp => pe_bk (B.inB I s H C cl fp)) hs2) (e_mono q fun v H1 q1 => ?_)
  obtain ⟨ad, xs, rfl, hl, q2⟩ := q1
  exact ⟨ad, rfl, ⟨xs, hl⟩, fun D hD => lcL_of (q2 D hD)⟩
theorem s_lcR {nx : L2.St → Hp → Prop} {rt : VK} {bk ct : L2.St → Hp → Prop} {i j g : Nat} {x y : Str} {px py p cp spos : Pos} (B : BkOk X.N Vn G' i x sc scope) (hm : X.mg "range" = none)
    (q : wE X a σ H fun v H1 => ∃ n : Nat, v = .int n ∧ n < 2 ^ 62 ∧ ∀ D, H1 D = none → LcR X Vn G' elt scope i n D σ H1 fun H2 => nx (σ.set j (some (.ref D))) H2)
    (I : In X N G sc := by assumption) (hc : X.calm = true := by rfl) (hA : At N j y := by repeat (first | with_reducible apply At.z | with_reducible apply At.s)) (hG : At G g ("range" : Str) := by repeat (first | with_reducible apply At.z | with_reducible apply At.s))
    (hk : X.env.scope.kind = .function := by rfl) (hy : X.env.scope.names.lookup y = some .local := by rfl) (hl : (py.line == pos.line) = true := by rfl) (ha : (scope.names.any fun (n, k) => n == y && (k == .local || k == .cell)) = false := by decide +kernel)
    (hs : starEach [a] X.env = [(false, eval a X.env)] := by rfl) (hs2 : ∀ z, foldedSetIterable (.Call (.Name "range" p) [a] [] cp) X.env z = pure z := by intro _; rfl) (hs1 : starEach (a :: []) X.env = (false, eval a X.env) :: starEach [] X.env := by rfl) :
    wS X (.Assign [.Name y py] (.ListComp elt [⟨.Name x px, .Call (.Name "range" p) [a] [] cp, [], 0⟩] scope pos) spos) ⟨nx, rt, bk, ct⟩ σ H := by
  refine s_of (ps_setLc (own := [(x, i)]) (g := gName i) (tt := tYes) (te := wBk X Vn G' elt scope) hc I.nd (I.hi hA) hy (sw_true hk hy hl ha) (pi_range1 (I.g hG) hm (pa_cons pe pa_nil hs1) hs) (B.ok I) (fun s H C cl fp => B.pg I s H C cl fp) (fun _ _ _ _ _ => pts_nil) (fun s H C cl fp => pe_bk (B.inB I s H C cl fp)) hs2) (e_mono q fun v H1 q1 => ?_)
  obtain ⟨n, rfl, hn, q2⟩ := q1
  refine ⟨(n : Int), rfl, by omega, by omega, ?_⟩
  rw [Int.toNat_natCast]
  exact fun D hD => lcR_of (q2 D hD)
theorem s_lcL {nx : L2.St → Hp → Prop} {rt : VK} {bk ct : L2.St → Hp → Prop} {i j : Nat} {x y : Str} {px py spos : Pos} (B : BkOk X.N Vn G' i x sc scope)
    (q : wE X a σ H fun v H1 => ∃ ad xs, v = .ref ad ∧ SqL X.K H1 ad xs ∧ ∀ D, H1 D = none → LcL X Vn G' elt scope i ad xs D σ H1 fun H2 => nx (σ.set j (some (.ref D))) H2)
    (I : In X N G sc := by assumption) (hc : X.calm = true := by rfl) (hA : At N j y := by repeat (first | with_reducible apply At.z | with_reducible apply At.s))
    (hk : X.env.scope.kind = .function := by rfl) (hy : X.env.scope.names.lookup y = some .local := by rfl) (hl : (py.line == pos.line) = true := by rfl) (ha : (scope.names.any fun (n, k) => n == y && (k == .local || k == .cell)) = false := by decide +kernel) (hs2 : ∀ z, foldedSetIterable a X.env z = pure z := by intro _; rfl) :
    wS X (.Assign [.Name y py] (.ListComp elt [⟨.Name x px, a, [], 0⟩] scope pos) spos) ⟨nx, rt, bk, ct⟩ σ H := by
  refine s_of (ps_setLc (own := [(x, i)]) (g := gName i) (tt := tYes) (te := wBk X Vn G' elt scope) hc I.nd (I.hi hA) hy (sw_true hk hy hl ha) (pi_list pe) (B.ok I) (fun s H C cl fp => B.pg I s H C cl fp) (fun _ _ _ _ _ => pts_nil) (fun s H C cl fp => pe_bk (B.inB I s H C cl fp)) hs2) (e_mono q fun v H1 q1 => ?_)
  obtain ⟨ad, xs, rfl, hl, q2⟩ := q1
  exact ⟨ad, rfl, ⟨xs, hl⟩, fun D hD => lcL_of (q2 D hD)⟩
end
/-! ### ground terms: they make new objects and change none -/
abbrev Rl := Hp → L2.V → Prop
class Lasts (Γ : Hp → Prop) : Prop where
  up : ∀ H H', Same H H' → Γ H → Γ H'
class LastR (R : Rl) : Prop where
  up : ∀ H H' v, Same H H' → R H v → R H' v
def All2 : List Rl → Hp → List L2.V → Prop
  | [], _, vs => vs = []
  | R :: Rs, H, vs => ∃ v us, vs = v :: us ∧ R H v ∧ All2 Rs H us
@[irreducible] def Ev (X : Cx) (e : Expr) (σ : L2.St) (H : Hp) (R : Rl) : Prop := ∀ Q : VK, (∀ v H', Same H H' → R H' v → Q v H') → wE X e σ H Q
@[irreducible] def EvA (X : Cx) (es : List Expr) (σ : L2.St) (H : Hp) (Rs : List Rl) : Prop := ∀ Q : List L2.V → Hp → Prop, (∀ vs H', Same H H' → All2 Rs H' vs → Q vs H') → wA X es σ H Q
/-- a promise of a def that makes new objects alone -/
def spG {α : Type} (A : α → List Rl) (R : α → Rl) : Sp := fun vs H Q _ => ∃ x, All2 (A x) H vs ∧ ∀ v H', Same H H' → R x H' v → Q v H'
section
variable {X : Cx} {e a b c : Expr} {es : List Expr} {σ : L2.St} {H : Hp} {Q : VK} {pos p0 : Pos} {N G : List Str} {sc : Scope} {R R1 R2 : Rl} {Rs : List Rl}
theorem ev_e (h : Ev X e σ H R) (q : ∀ v H', Same H H' → R H' v → Q v H') : wE X e σ H Q := by unfold Ev at h; exact h Q q
theorem ev_of (h : ∀ Q : VK, (∀ v H', Same H H' → R H' v → Q v H') → wE X e σ H Q) : Ev X e σ H R := by unfold Ev; exact h
theorem ev_a {QA : List L2.V → Hp → Prop} (h : EvA X es σ H Rs) (q : ∀ vs H', Same H H' → All2 Rs H' vs → QA vs H') : wA X es σ H QA := by unfold EvA at h; exact h QA q
theorem ev_up {H0 : Hp} (h : Ev X e σ H R) : Ev X e σ H R := h
theorem g_var {i : Nat} {x : Str} {v : V} (r : R H v) (I : In X N G sc := by assumption) (hA : At N i x := by repeat (first | with_reducible apply At.z | with_reducible apply At.s)) (hσ : σ[i]? = some (some v) := by exact rfl) : Ev X (.Name x pos) σ H R :=
  ev_of fun Q q => e_var (q v H (Same.refl H) r) I hA hσ
theorem g_nil : EvA X [] σ H [] := by unfold EvA; exact fun Q q => a_nil (q [] H (Same.refl H) rfl)
theorem g_cons [LastR R] (h1 : Ev X e σ H R) (h2 : ∀ H', Same H H' → EvA X es σ H' Rs) (hs : starEach (e :: es) X.env = (false, eval e X.env) :: starEach es X.env := by rfl) : EvA X (e :: es) σ H (R :: Rs) := by
  unfold EvA
  exact fun Q q => a_cons (ev_e h1 fun v H1 s1 r1 => ev_a (h2 H1 s1) fun vs H2 s2 r2 => q (v :: vs) H2 (s1.trans s2) ⟨v, vs, rfl, LastR.up H1 H2 v s2 r1, r2⟩) hs
theorem g_call {α : Type} {A : α → List Rl} {R : α → Rl} {g k n : Nat} {x : Str} {z : α} (F : Fn X.prog X.w X.K X.mg X.base k x (spG A R)) (hr : Room n X.A) (hk : k ≤ n) (h : EvA X (e :: es) σ H (A z)) (I : In X N G sc := by assumption) (hG : At G g x := by repeat (first | with_reducible apply At.z | with_reducible apply At.s))
    (he : starEach (e :: es) X.env = (false, eval e X.env) :: starEach es X.env := by rfl) (hpl : (backTo pos (starEach es X.env)).any (·.1) = false := by rfl) : Ev X (.Call (.Name x p0) (e :: es) [] pos) σ H (R z) :=
  ev_of fun Q q => e_call F hr hk (ev_a h fun vs H1 s1 r1 => ⟨z, r1, fun v H2 s2 r2 => q v H2 (s1.trans s2) r2⟩) I hG he hpl
theorem g_test {QT : Bool → Hp → Prop} (h : Ev X e σ H fun _ v => v = .bl true) (q : ∀ H', Same H H' → QT true H') (he : ∀ whole, isTrue e X.env whole = (do let v ← whole; standAt e.pos; holding [v] (truthy v)) := by intro _; rfl) : wT X e σ H QT :=
  t_val (ev_e h fun v H' s r => by
    cases (show v = .bl true from r)
    exact ⟨true, rfl, q H' s⟩) he
/-- if not a or not b: return False -/
theorem s_no2 {nx : L2.St → Hp → Prop} {rt : VK} {bk ct : L2.St → Hp → Prop} {body : List Stmt} {p1 p2 p3 p4 : Pos} (h1 : Ev X a σ H fun _ v => v = .bl true) (h2 : ∀ H', Same H H' → Ev X b σ H' fun _ v => v = .bl true) (q : ∀ H', Same H H' → nx σ H')
    (he : ∀ whole, isTrue a X.env whole = (do let v ← whole; standAt a.pos; holding [v] (truthy v)) := by intro _; rfl) (he2 : ∀ whole, isTrue b X.env whole = (do let v ← whole; standAt b.pos; holding [v] (truthy v)) := by intro _; rfl) :
    wS X (.If (.BoolOp .Or [.UnaryOp .Not a p1, .UnaryOp .Not b p2] p3) body [] p4) ⟨nx, rt, bk, ct⟩ σ H := by
  refine s_if (t_w (w_or (t_not (g_test h1 (fun H1 s1 => ?_) he))))
  refine iteF (w_or1 (t_not (g_test (h2 H1 s1) (fun H2 s2 => ?_) he2)))
  exact iteF (l_nil (q H2 (s1.trans s2)))
theorem s_no1 {nx : L2.St → Hp → Prop} {rt : VK} {bk ct : L2.St → Hp → Prop} {body : List Stmt} {p1 p4 : Pos} (h1 : Ev X a σ H fun _ v => v = .bl true) (q : ∀ H', Same H H' → nx σ H')
    (he : ∀ whole, isTrue a X.env whole = (do let v ← whole; standAt a.pos; holding [v] (truthy v)) := by intro _; rfl) :
    wS X (.If (.UnaryOp .Not a p1) body [] p4) ⟨nx, rt, bk, ct⟩ σ H := by
  refine s_if (t_not (g_test h1 (fun H1 s1 => ?_) he))
  exact iteF (l_nil (q H1 s1))
theorem g_and2 (h1 : Ev X a σ H fun _ v => v = .bl true) (h2 : ∀ H', Same H H' → Ev X b σ H' fun _ v => v = .bl true) : Ev X (.BoolOp .And [a, b] pos) σ H fun _ v => v = .bl true :=
  ev_of fun Q q => e_and (ev_e h1 fun v H1 s1 r1 => by
    cases (show v = .bl true from r1)
    exact ⟨true, rfl, iteT (e_one (ev_e (h2 H1 s1) fun v H2 s2 r2 => q v H2 (s1.trans s2) r2))⟩)
theorem g_and3 (h1 : Ev X a σ H fun _ v => v = .bl true) (h2 : ∀ H', Same H H' → Ev X b σ H' fun _ v => v = .bl true) (h3 : ∀ H', Same H H' → Ev X c σ H' fun _ v => v = .bl true) : Ev X (.BoolOp .And [a, b, c] pos) σ H fun _ v => v = .bl true :=
  ev_of fun Q q => e_and (ev_e h1 fun v H1 s1 r1 => by
    cases (show v = .bl true from r1)
    refine ⟨true, rfl, iteT (e_and (ev_e (h2 H1 s1) fun v H2 s2 r2 => ?_))⟩
    cases (show v = .bl true from r2)
    exact ⟨true, rfl, iteT (e_one (ev_e (h3 H2 (s1.trans s2)) fun v H3 s3 r3 => q v H3 ((s1.trans s2).trans s3) r3))⟩)
end
section
variable {X : Cx} {H : Hp} {Q : VK} {i j : Int}
theorem o_mulW (c : CMulW i j) (q : Q (.int (i * j)) H) : wB X .Mult (.int i) (.int j) H Q := b_of op_mulW ⟨i, j, rfl, rfl, c, q⟩
end
end Wk
namespace Wk
open PySem PySem.Spec
/-- the value of a return or of an assignment, a comprehension's scope -/
def valE : Stmt → Expr
  | .Return (some e) _ => e
  | .Assign _ e _ => e
  | .Expr e _ => e
  | _ => .Name "" ⟨0, 0, 0, 0⟩
def lcSc : Expr → Scope
  | .ListComp _ _ sc _ => sc
  | _ => { kind := .function, names := [], isGenerator := false, isCoroutine := false }
end Wk
namespace Wk
open PySem PySem.Spec PyProof.Rows L2
section
variable {X : Cx} {c e : Expr} {body : List Stmt} {σ : L2.St} {H : Hp} {pos : Pos} {N G : List Str} {sc : Scope} {QT QT' : Bool → Hp → Prop}
theorem t_mono (q : wT X c σ H QT) (h : ∀ b H1, QT b H1 → QT' b H1) : wT X c σ H QT' := by
  unfold wT at q ⊢
  exact fun pins s I => wpAny_mono (q pins s I) (fun _ _ ⟨H1, I1, z⟩ => ⟨H1, I1, h _ _ z⟩) fun _ _ z => z
theorem s_while {nx : L2.St → Hp → Prop} {rt : VK} {bk ct : L2.St → Hp → Prop} (Pv : L2.St → Hp → Prop) (μ : L2.St → Hp → Nat) (h0 : Pv σ H)
    (hs : ∀ σ H, Pv σ H → wT X c σ H fun b H1 => if b = true then wL X body ⟨fun σ' H' => Pv σ' H' ∧ μ σ' H' < μ σ H, rt, nx, fun σ' H' => Pv σ' H' ∧ μ σ' H' < μ σ H⟩ σ H1 else nx σ H1)
    (I : In X N G sc := by assumption) : wS X (.While c body [] pos) ⟨nx, rt, bk, ct⟩ σ H :=
  s_of (ps_while I.never pt pl) (while_by Pv μ h0 hs fun _ _ _ _ h q => t_mono q h)
end
end Wk
namespace Wk
open PySem PySem.Spec PyProof.Rows L2
section
variable {X : Cx} {o e : Expr} {σ : L2.St} {H : Hp} {Q : VK} {pos apos : Pos}
/-- o.append(e) -/
theorem e_app (q : wE X o σ H fun x H1 => ∃ l xs0, x = .ref l ∧ SqL X.K H1 l xs0 ∧ wE X e σ H1 fun y H2 => ∃ xs, H2 l = some (.lst xs) ∧ xs.length < sizeLine ∧ Q .non (upd H2 l (.lst (xs ++ [y]))))
    (hbase : attributeBase o "append" X.env (eval o X.env) = eval o X.env := by rfl)
    (hfew : ((backTo pos (starEach (e :: []) X.env)).all (fun x => !x.1) && (backToKw pos (keywordEach [] X.env)).all (fun x => x.1.isSome)
      && decide ((e :: []).length + ([] : List Keyword).length + (if ([] : List Keyword).isEmpty then 0 else 1) < 30)) = true := by rfl)
    (hline : (apos.endLine == pos.line) = true := by rfl) (hs : starEach (e :: []) X.env = (false, eval e X.env) :: starEach [] X.env := by rfl) (hplain : (backTo pos (starEach [] X.env)).any (·.1) = false := by rfl) :
    wE X (.Call (.Attribute o "append" apos) [e] [] pos) σ H Q := by
  refine e_of (pe_bm PySem.F.plainAttrs_list PySem.F.slot_list_append PySem.F.type_list_append mt_append pe (pa_cons pe pa_nil hs) hbase hfew hline hs hplain) (e_mono q fun x H1 z => ?_)
  obtain ⟨l, xs0, rfl, hl, z⟩ := z
  refine ⟨.inl ⟨rfl, _, hl⟩, e_mono z fun y H2 z2 => ?_⟩
  obtain ⟨xs, h1, h2, h3⟩ := z2
  exact ⟨l, xs, y, rfl, rfl, h1, h2, h3⟩
end
end Wk
namespace Wk
open PySem PySem.Spec PyProof.Rows L2
theorem All2.len {Rs : List Rl} {H : Hp} : ∀ {vs : List L2.V}, All2 Rs H vs → vs.length = Rs.length := by
  induction Rs with
  | nil => intro vs h; cases (show vs = [] from h); rfl
  | cons R Rs ih => intro vs h; obtain ⟨v, us, rfl, _, h⟩ := h; simp [ih h]
end Wk
namespace Wk
open PySem PySem.Spec PyProof.Rows L2
/-- from the heap H on -/
def EvS (X : Cx) (e : Expr) (σ : L2.St) (H : Hp) (R : Rl) : Prop := ∀ H', Same H H' → Ev X e σ H' R
def EvSA (X : Cx) (es : List Expr) (σ : L2.St) (H : Hp) (Rs : List Rl) : Prop := ∀ H', Same H H' → EvA X es σ H' Rs
abbrev IsT : Rl := fun _ v => v = .bl true
section
variable {X : Cx} {e a b c : Expr} {es : List Expr} {σ : L2.St} {H H0 : Hp} {Q : VK} {pos p0 : Pos} {N G : List Str} {sc : Scope} {R R1 R2 : Rl} {Rs : List Rl}
theorem EvS.up {H1 : Hp} (h : EvS X e σ H R) (s : Same H H1) : EvS X e σ H1 R := fun H' t => h H' (s.trans t)
theorem EvS.get (h : EvS X e σ H R) (q : ∀ v H', Same H H' → R H' v → Q v H') : wE X e σ H Q := ev_e (h H (Same.refl H)) q
theorem gs_var [LastR R] {i : Nat} {x : Str} {v : L2.V} (r : R H v) (I : In X N G sc := by assumption) (hA : At N i x := by repeat (first | with_reducible apply At.z | with_reducible apply At.s)) (hσ : σ[i]? = some (some v) := by exact rfl) : EvS X (.Name x pos) σ H R :=
  fun H' s => g_var (LastR.up H H' v s r) I hA hσ
theorem gs_int {i : Int} {j} : EvS X (.Constant (.int i) j pos) σ H (fun _ v => v = .int i) := fun H' _ => ev_of fun Q q => e_int (q _ H' (Same.refl H') rfl)
theorem gs_nil : EvSA X [] σ H [] := fun _ _ => g_nil
theorem gs_cons [LastR R] (h1 : EvS X e σ H R) (h2 : EvSA X es σ H Rs) (hs : starEach (e :: es) X.env = (false, eval e X.env) :: starEach es X.env := by rfl) : EvSA X (e :: es) σ H (R :: Rs) := fun H' s => g_cons (h1 H' s) (fun H2 s2 => h2 H2 (s.trans s2)) hs
theorem gs_call {α : Type} {A : α → List Rl} {R : α → Rl} {g k n : Nat} {x : Str} {z : α} (F : Fn X.prog X.w X.K X.mg X.base k x (spG A R)) (hr : Room n X.A) (hk : k ≤ n) (h : EvSA X (e :: es) σ H (A z)) (I : In X N G sc := by assumption) (hG : At G g x := by repeat (first | with_reducible apply At.z | with_reducible apply At.s))
    (he : starEach (e :: es) X.env = (false, eval e X.env) :: starEach es X.env := by rfl) (hpl : (backTo pos (starEach es X.env)).any (·.1) = false := by rfl) : EvS X (.Call (.Name x p0) (e :: es) [] pos) σ H (R z) := fun H' s => g_call F hr hk (h H' s) I hG he hpl
/-- if not a or not b: return False; both hold -/
theorem s_nn {nx : L2.St → Hp → Prop} {rt : VK} {bk ct : L2.St → Hp → Prop} {body : List Stmt} {p1 p2 p3 p4 : Pos} (s0 : Same H0 H) (h1 : EvS X a σ H0 IsT) (h2 : EvS X b σ H0 IsT) (q : ∀ H', Same H0 H' → nx σ H')
    (he : ∀ whole, isTrue a X.env whole = (do let v ← whole; standAt a.pos; holding [v] (truthy v)) := by intro _; rfl) (he2 : ∀ whole, isTrue b X.env whole = (do let v ← whole; standAt b.pos; holding [v] (truthy v)) := by intro _; rfl) :
    wS X (.If (.BoolOp .Or [.UnaryOp .Not a p1, .UnaryOp .Not b p2] p3) body [] p4) ⟨nx, rt, bk, ct⟩ σ H := s_no2 (h1 H s0) (fun H1 s1 => h2 H1 (s0.trans s1)) (fun H1 s1 => q H1 (s0.trans s1)) he he2
theorem s_n {nx : L2.St → Hp → Prop} {rt : VK} {bk ct : L2.St → Hp → Prop} {body : List Stmt} {p1 p4 : Pos} (s0 : Same H0 H) (h1 : EvS X a σ H0 IsT) (q : ∀ H', Same H0 H' → nx σ H')
    (he : ∀ whole, isTrue a X.env whole = (do let v ← whole; standAt a.pos; holding [v] (truthy v)) := by intro _; rfl) :
    wS X (.If (.UnaryOp .Not a p1) body [] p4) ⟨nx, rt, bk, ct⟩ σ H := s_no1 (h1 H s0) (fun H1 s1 => q H1 (s0.trans s1)) he
theorem gs_and2 (h1 : EvS X a σ H IsT) (h2 : EvS X b σ H IsT) : EvS X (.BoolOp .And [a, b] pos) σ H IsT := fun H' s => g_and2 (h1 H' s) fun H2 s2 => h2 H2 (s.trans s2)
theorem gs_and3 (h1 : EvS X a σ H IsT) (h2 : EvS X b σ H IsT) (h3 : EvS X c σ H IsT) : EvS X (.BoolOp .And [a, b, c] pos) σ H IsT := fun H' s => g_and3 (h1 H' s) (fun H2 s2 => h2 H2 (s.trans s2)) fun H2 s2 => h3 H2 (s.trans s2)
theorem s_let {nx : L2.St → Hp → Prop} {rt : VK} {bk ct : L2.St → Hp → Prop} {i : Nat} {x : Str} {pos' : Pos} (s0 : Same H0 H) (h : EvS X e σ H0 R) (q : ∀ v H', Same H0 H' → R H' v → nx (σ.set i (some v)) H')
    (I : In X N G sc := by assumption) (hA : At N i x := by repeat (first | with_reducible apply At.z | with_reducible apply At.s)) (hs : swapsWith e (some (.Name x pos')) pos.line X.env = pure false := by rfl) :
    wS X (.Assign [.Name x pos'] e pos) ⟨nx, rt, bk, ct⟩ σ H := s_set ((h.up s0).get fun v H' s r => q v H' (s0.trans s) r) I hA hs
theorem s_retS {nx : L2.St → Hp → Prop} {rt : VK} {bk ct : L2.St → Hp → Prop} (s0 : Same H0 H) (h : EvS X e σ H0 R) (q : ∀ v H', Same H0 H' → R H' v → rt v H') : wS X (.Return (some e) pos) ⟨nx, rt, bk, ct⟩ σ H := s_ret ((h.up s0).get fun v H' s r => q v H' (s0.trans s) r)
end
end Wk

/-! My own layer, more: defs with loops where an error is handled, a keyword-only parameter with a default, insert. -/
namespace Wk
open PySem PySem.Spec PyProof.Rows L2
section
variable {P : Program} {w : World} {K : PySem.W.Frag} {mg : Str → Option Value} {base : Heap}
theorem fn_okH2 {x : Str} {st : Stmt} {N G ps : List Str} {k : Nat} {sp : Sp} (T : Top K mg x st) (S : FnScope N ps (defScope st)) (O : ScOk N G (defScope st)) (len : ∀ vs H Q E, sp vs H Q E → vs.length = ps.length)
    (hb : ∀ (kV doc pm : Value) (an : Option Addr) (cdv ct : Value) (us : List Value), us.length = ps.length → bindArgs (PySem.W.fnOf x x (defArgs st) (defBody st) (defScope st) .none kV doc pm an cdv ct) ⟨us, []⟩ = pure (ps.zip us))
    (hbody : ∀ (f : Addr) (cdv : Value) (A : Around) (outer : List Env) (s : Shared) (H : Hp) (vs : List L2.V) (Q : VK) (E : XK) (p : Addr × Obj), L2H.RoomH k (A.deeper (envOfC x (defScope st) s.heap.objs.size f cdv)) → sp vs H Q E → In (L2H.cxH CX0 P w K mg base N x (defScope st) f cdv A outer s H E p).nox N G (defScope st) →
      L2H.HotC (L2H.cxH CX0 P w K mg base N x (defScope st) f cdv A outer s H E p).nox →
      wL (L2H.cxH CX0 P w K mg base N x (defScope st) f cdv A outer s H E p).nox (defBody st) { nx := fun _ H' => Q .non H', rt := Q } (start N vs) H) : FnHt P w K mg base (k + 1) x sp := by
  obtain ⟨f, fd, F, hm⟩ := T.ex
  obtain ⟨oc, od, kV, doc, pm, an, cdv, ct, osl, rfl, lk, hcd⟩ := id F.ex
  exact ⟨f, _, ps, L2H.fn_ofH lk hcd S len (fun A outer s H vs Q E p hot hr h => ⟨_, PSs.nox pl, hbody f cdv A outer s H vs Q E p hr h ⟨O, ⟨[], (List.append_nil _).symm⟩, S.nd, rfl, rfl, PassesOwn.never⟩ ⟨p, ⟨hot.1, hot.2⟩, List.mem_cons_self⟩⟩), hm, F.kp, F.binds hb⟩
end
section
variable {X : Cx} {N G : List Str} {sc : Scope} {a e v o : Expr} {es : List Expr} {σ : L2.St} {H : Hp} {Q : VK} {pos p0 kpos apos : Pos}
theorem s_forRH {nx : L2.St → Hp → Prop} {rt : VK} {bk ct : L2.St → Hp → Prop} {g : Nat} {x : Str} {i : Nat} {body : List Stmt} {px p cp : Pos} (hm : X.mg "range" = none) (hot : L2H.HotC X)
    (q : wE X a σ H fun v H1 => ∃ n : Nat, v = .int n ∧ n < 2 ^ 62 ∧ ∃ Pv : Nat → L2.St → Hp → Prop, Pv 0 σ H1 ∧ (∀ k σ H, k < n → Pv k σ H → wL X body ⟨Pv (k + 1), rt, nx, Pv (k + 1)⟩ (σ.set i (some (.int (k : Int)))) H) ∧ ∀ σ H, Pv n σ H → nx σ H)
    (I : In X N G sc := by assumption) (hA : At N i x := by repeat (first | with_reducible apply At.z | with_reducible apply At.s))
    (hG : At G g ("range" : Str) := by repeat (first | with_reducible apply At.z | with_reducible apply At.s)) (hs : starEach [a] X.env = [(false, eval a X.env)] := by rfl) (hs2 : ∀ z, foldedSetIterable (.Call (.Name "range" p) [a] [] cp) X.env z = pure z := by intro _; rfl)
    (hs1 : starEach (a :: []) X.env = (false, eval a X.env) :: starEach [] X.env := by rfl) :
    wS X (.For (.Name x px) (.Call (.Name "range" p) [a] [] cp) body [] pos) ⟨nx, rt, bk, ct⟩ σ H := by
  refine s_of (L2H.ps_forH I.never hot (L2H.pi_range1H (I.g hG) hm (pa_cons pe pa_nil hs1) hs) (pg_name I.nd (I.hi hA) (I.loc hA) I.f) pl hs2) (e_mono q fun v H1 q1 => ?_)
  obtain ⟨n, rfl, hn, Pv, h0, hb, hd⟩ := q1
  refine ⟨(n : Int), rfl, by omega, by omega, ?_⟩
  rw [Int.toNat_natCast]
  refine for_range (n := n) Pv h0 (fun k σ H hk p => ?_) hd
  rw [Int.zero_add]
  exact hb k σ H hk p
/-- a def with one keyword-only parameter kw and its default d, that may raise -/
structure FnKw (P : Program) (w : World) (K : PySem.W.Frag) (mg : Str → Option Value) (base : Heap) (k : Nat) (x kw : Str) (m : Nat) (d : L2.V) (sp : Sp) : Prop where
  ex : ∃ (f : Addr) (fd : FuncData) (ps : List Str), FnOk P w K mg base (L2N.CX P w) k f fd ps sp ∧ mg x = some (.ref f) ∧ PySem.W.keepIn K (.ref f) = true ∧ (∃ ds, Vals [d] ds ∧ Binds K fd ps ds) ∧ ∃ g, KBn K fd ps m [kw] g (fun vs zs => vs ++ zs)
theorem e_callD {g k n m : Nat} {x kw : Str} {d : L2.V} {sp : Sp} {W : WX} (F : FnKw X.prog X.w X.K X.mg X.base k x kw m d sp) (tk : L2N.Takes X W) (hr : Room n X.A) (hk : k ≤ n) (q : wA X (e :: es) σ H fun vs H1 => sp (vs ++ [d]) H1 Q (fun cls d H' => W cls d σ H'))
    (I : In X N G sc := by assumption) (hG : At G g x := by repeat (first | with_reducible apply At.z | with_reducible apply At.s)) (he : starEach (e :: es) X.env = (false, eval e X.env) :: starEach es X.env := by rfl) (hpl : (backTo pos (starEach es X.env)).any (·.1) = false := by rfl) :
    wE X (.Call (.Name x p0) (e :: es) [] pos) σ H Q := by
  obtain ⟨f, fd, ps, F0, hm, hkp, ⟨ds, hd, hb⟩, _⟩ := F.ex
  exact e_of (pe_callSD (E := fun σ cls d H' => W cls d σ H') F0 (hr.mono hk) (I.g hG) hm hkp hb hd (fun σ => L2N.passAt tk σ) pa (I.gd hG) he hpl) q
theorem e_callK {g k n m : Nat} {x kw : Str} {d : L2.V} {sp : Sp} {W : WX} (F : FnKw X.prog X.w X.K X.mg X.base k x kw m d sp) (tk : L2N.Takes X W) (hr : Room n X.A) (hk : k ≤ n) (q : wA X (e :: es) σ H fun vs H1 => wE X v σ H1 fun z H2 => vs.length = m ∧ sp (vs ++ [z]) H2 Q (fun cls d H' => W cls d σ H'))
    (I : In X N G sc := by assumption) (hG : At G g x := by repeat (first | with_reducible apply At.z | with_reducible apply At.s))
    (hall : (backToKw pos (keywordEach [⟨some kw, v, kpos⟩] X.env)).all (·.1.isSome) = true := by rfl) (hks : (backToKw pos (keywordEach [⟨some kw, v, kpos⟩] X.env)).filterMap (·.1) = [kw] := by rfl)
    (he : starEach (e :: es) X.env = (false, eval e X.env) :: starEach es X.env := by rfl) (hpl : ((backTo pos (starEach (e :: es) X.env)).any (·.1) || (backToKw pos (keywordEach [⟨some kw, v, kpos⟩] X.env)).any (·.1.isNone)) = false := by rfl) :
    wE X (.Call (.Name x p0) (e :: es) [⟨some kw, v, kpos⟩] pos) σ H Q := by
  obtain ⟨f, fd, ps, F0, hm, hkp, _, g0, hb⟩ := F.ex
  unfold wE
  intro pins s I0
  refine wpAny_Call_Name_kw (ld_glob I0 (I.g hG) hm ?_ (I.gd hG))
  refine PySem.W.callWith_KW (h₀ := X.base) I0.ok.mod.kin hkp hall (thn (pa.run pos pins s σ H _ I0 q) fun us s1 ⟨vs, H1, I1, r, q1⟩ => ?_) hpl he
  refine thn ((pk_cons pe pk_nil).run pos pins s1 σ H1 (fun zs H2 => ∃ z, zs = [z] ∧ vs.length = m ∧ sp (vs ++ [z]) H2 Q (fun cls d H' => W cls d σ H')) I1 (e_mono q1 fun z H2 z2 => ⟨z, rfl, z2⟩)) fun ws s2 ⟨zs, H2, I2, rz, z, ez, l1, q2⟩ => ⟨I2.kIn, ?_⟩
  subst ez
  rw [hks]
  have r2 := hb.rel r rz
  have l2 : ws.length = [kw].length := rz.length.symm
  refine wpAny_call (codeAny_mono (F0.run X.A X.stack s2 H2 ⟨us, [kw].zip ws⟩ (g0 us ws) (vs ++ [z]) Q (fun cls d H' => W cls d σ H') (hr.mono hk) I2.env0 (hb.to s2 us ws I2.kIn (r.length.symm.trans l1) l2) r2 q2) fun r s' hq => ?_)
  cases r with
  | error e => exact L2N.passAt tk σ pins H2 s2 e s' I2 hq
  | ok fl =>
    cases fl with
    | ret u => exact I2.after hq
    | next => exact False.elim hq
    | brk => exact False.elim hq
    | cont => exact False.elim hq
/-- o.insert(0, v) and its like -/
theorem e_ins {i : Expr} (q : wE X o σ H fun x H1 => ∃ l xs0, x = .ref l ∧ SqL X.K H1 l xs0 ∧ wE X i σ H1 fun j H2 => wE X e σ H2 fun y H3 => ∃ n : Int, ∃ xs, j = .int n ∧ H3 l = some (.lst xs) ∧ xs.length < sizeLine ∧ 0 ≤ n ∧ n < 2 ^ 63 ∧ Q .non (upd H3 l (.lst (xs.take n.toNat ++ [y] ++ xs.drop n.toNat))))
    (hbase : attributeBase o "insert" X.env (eval o X.env) = eval o X.env := by rfl)
    (hfew : ((backTo pos (starEach (i :: [e]) X.env)).all (fun x => !x.1) && (backToKw pos (keywordEach [] X.env)).all (fun x => x.1.isSome)
      && decide ((i :: [e]).length + ([] : List Keyword).length + (if ([] : List Keyword).isEmpty then 0 else 1) < 30)) = true := by rfl)
    (hline : (apos.endLine == pos.line) = true := by rfl) (hs : starEach (i :: [e]) X.env = (false, eval i X.env) :: starEach [e] X.env := by rfl) (hs2 : starEach (e :: []) X.env = (false, eval e X.env) :: starEach [] X.env := by rfl) (hplain : (backTo pos (starEach [e] X.env)).any (·.1) = false := by rfl) :
    wE X (.Call (.Attribute o "insert" apos) [i, e] [] pos) σ H Q := by
  refine e_of (pe_bm PySem.F.plainAttrs_list PySem.F.slot_list_insert PySem.F.type_list_insert mt_insert pe (pa_cons pe (pa_cons pe pa_nil hs2) hs) hbase hfew hline hs hplain) (e_mono q fun x H1 z => ?_)
  obtain ⟨l, xs0, rfl, hl, z⟩ := z
  refine ⟨.inl ⟨rfl, _, hl⟩, e_mono z fun j H2 z2 => e_mono z2 fun y H3 z3 => ?_⟩
  obtain ⟨n, xs, rfl, h1, h2, h3, h4, h5⟩ := z3
  exact ⟨l, xs, n, y, rfl, rfl, h1, h2, h3, h4, h5⟩
end
end Wk
namespace Wk
open PySem PySem.Spec PyProof.Rows L2
section
variable {X : Cx} {N G : List Str} {sc : Scope} {a b e v o i : Expr} {es : List Expr} {σ : L2.St} {H : Hp} {Q : VK} {QT : Bool → Hp → Prop} {pos p0 p2 apos : Pos}
theorem t_tru (q : wE X a σ H fun x H' => ∃ k, TruV X.K x H' k ∧ QT k H') (he : ∀ whole, isTrue a X.env whole = (do let v ← whole; standAt a.pos; holding [v] (truthy v)) := by intro _; rfl) : wT X a σ H QT := t_of (pt_truth pe he) q
theorem tru_l {K : PySem.W.Frag} {l : Addr} {xs : List L2.V} (h : H l = some (.lst xs)) : TruV K (.ref l) H (!xs.isEmpty) := .inl ⟨xs, SqL.of h, rfl⟩
/-- o.pop() -/
theorem e_pop (q : wE X o σ H fun x H1 => ∃ l xs y, x = .ref l ∧ H1 l = some (.lst (xs ++ [y])) ∧ Q y (upd H1 l (.lst xs)))
    (hbase : attributeBase o "pop" X.env (eval o X.env) = eval o X.env := by rfl) (hline : (apos.endLine == pos.line) = true := by rfl) : wE X (.Call (.Attribute o "pop" apos) [] [] pos) σ H Q := by
  refine e_of (pe_bm0 PySem.F.plainAttrs_list PySem.F.slot_list_pop PySem.F.type_list_pop mt_pop pe hbase hline) (e_mono q fun x H1 z => ?_)
  obtain ⟨l, xs, y, rfl, h1, h2⟩ := z
  refine ⟨.inl ⟨rfl, _, SqL.of h1⟩, l, _, y, rfl, rfl, h1, by simp, ?_⟩
  rw [List.dropLast_concat]
  exact h2
theorem e_slL0 {r : L2.V → Option Int → Option Int → Hp → VK → Prop} (hr : SlR X r) (q : wE X e σ H fun x H1 => wE X a σ H1 fun y H2 => ∃ j, y = .int j ∧ r x (some j) none H2 Q) : wE X (.Subscript e (.Slice (some a) none none p2) pos) σ H Q :=
  e_of (pe_slice hr pe (po_some pe) po_none) (e_mono q fun x H1 z => e_mono z fun y H2 ⟨j, e, z2⟩ => ⟨j, e, z2⟩)
theorem e_slL1 {r : L2.V → Option Int → Option Int → Hp → VK → Prop} (hr : SlR X r) (q : wE X e σ H fun x H1 => wE X b σ H1 fun y H2 => ∃ j, y = .int j ∧ r x none (some j) H2 Q) : wE X (.Subscript e (.Slice none (some b) none p2) pos) σ H Q :=
  e_of (pe_slice hr pe po_none (po_some pe)) (e_mono q fun x H1 z => e_mono z fun y H2 ⟨j, e, z2⟩ => ⟨j, e, z2⟩)
theorem s_dput {nx : L2.St → Hp → Prop} {rt : VK} {bk ct : L2.St → Hp → Prop} {pos' : Pos} (hu : X.A.units + 1 < cLine) (q : wE X v σ H fun v H1 => wE X o σ H1 fun x H2 => wE X i σ H2 fun y H3 => ∃ a H4, x = .ref a ∧ DPut H3 a y v H4 ∧ nx σ H4)
    (hs : swapsWith v (some (.Subscript o i pos')) pos.line X.env = pure false := by rfl) : wS X (.Assign [.Subscript o i pos'] v pos) ⟨nx, rt, bk, ct⟩ σ H := s_of (ps_dput hu pe pe pe hs) q
theorem c_listD {p : Addr} {kvs : List (Key × L2.V)} (hc : X.calm = true) (h : H p = some (.dK kvs)) (q : ∀ l H2, Same H H2 → H2 l = some (.lst (kvs.map fun kv => kV kv.1)) → Q (.ref l) H2) : wC X (.type "list") [.ref p] H Q :=
  c_of (call_list_dK hc) ⟨p, kvs, rfl, h, fun l np => q l _ (fun c u eo => by rw [upd_ne (ne_of_none eo np)]; exact eo) upd_same⟩
theorem c_listL {p : Addr} {xs : List L2.V} (h : H p = some (.lst xs)) (q : ∀ l H2, Same H H2 → H l = none → H2 l = some (.lst xs) → Q (.ref l) H2) : wC X (.type "list") [.ref p] H Q :=
  c_of call_list_of ⟨p, xs, rfl, .inl (SqL.of h), fun l np => q l _ (fun c u eo => by rw [upd_ne (ne_of_none eo np)]; exact eo) np upd_same⟩
end
end Wk
namespace Wk
open PySem PySem.Spec PyProof.Rows L2
section
variable {X : Cx} {c e : Expr} {body : List Stmt} {σ : L2.St} {H : Hp} {pos : Pos} {N G : List Str} {sc : Scope}
theorem s_whileN {nx : L2.St → Hp → Prop} {rt : VK} {bk ct : L2.St → Hp → Prop} (Pv : Nat → L2.St → Hp → Prop) (n0 : Nat) (h0 : Pv n0 σ H)
    (hs : ∀ n σ H, Pv n σ H → wT X c σ H fun b H1 => if b = true then wL X body ⟨fun σ' H' => ∃ m, m < n ∧ Pv m σ' H', rt, nx, fun σ' H' => ∃ m, m < n ∧ Pv m σ' H'⟩ σ H1 else nx σ H1)
    (I : In X N G sc := by assumption) : wS X (.While c body [] pos) ⟨nx, rt, bk, ct⟩ σ H := by
  refine s_of (ps_while I.never pt pl) ⟨Pv, ⟨n0, h0⟩, fun n σ H p => ?_⟩
  refine t_mono (hs n σ H p) fun b H1 q => ?_
  cases b with
  | true => exact ⟨fun σ' H' => ∃ m, m < n ∧ Pv m σ' H', fun σ' H' z => z, q⟩
  | false => exact q
end
end Wk
namespace Wk
open PySem PySem.Spec PyProof.Rows L2
/-- a block with two own names -/
structure BkOk2 (N : List Str) (V : List (Nat × Str)) (G : List Str) (i j : Nat) (x y : Str) (sc scope : Scope) : Prop where
  lo : ∀ p ∈ V, N[p.1]? = some p.2 ∧ Vis (relS scope sc) p.2 ∧ (p.2 == ("__debug__" : Str)) = false ∧ (p.2 == ("__classdict__" : Str)) = false
  gl : ∀ x ∈ G, (relS scope sc).names.lookup x = some .globalImplicit ∧ (x == ("__debug__" : Str)) = false ∧ x ≠ "__name__"
  own : N[i]? = some x ∧ (relS scope sc).names.lookup x = some .local
  own2 : N[j]? = some y ∧ (relS scope sc).names.lookup y = some .local
  ne : i ≠ j
  blk : blkC N sc scope [(x, i), (y, j)] = true
section
variable {X : Cx} {e a b c elt : Expr} {es rest : List Expr} {σ : L2.St} {H : Hp} {Q : VK} {pos p0 : Pos} {N G G' : List Str} {Vn : List (Nat × Str)} {sc scope : Scope}
theorem BkOk2.inB {i j : Nat} {x y : Str} (B : BkOk2 X.N Vn G' i j x y sc scope) (I : In X N G sc) (s : Shared) (H : Hp) (C : Addr) (cl : List (Str × Addr)) (fp : List Addr) : InB (Bk X s H scope C cl fp) Vn G' := by
  have e : (compEnvC scope cl C X.env).scope = relS scope sc := rel_eq I.sc C cl
  refine ⟨I.nd, fun p hp => ?_, fun y hy => ?_⟩
  · obtain ⟨h1, h2, h3, h4⟩ := B.lo p hp
    exact ⟨h1, by show Vis (compEnvC scope cl C X.env).scope p.2; rw [e]; exact h2, h3, h4⟩
  · obtain ⟨h1, h2, h3⟩ := B.gl y hy
    exact ⟨by show (compEnvC scope cl C X.env).scope.names.lookup y = _; rw [e]; exact h1, h2, h3⟩
def gT2 (K : PySem.W.Frag) (i j : Nat) : TG := fun v σ H Q => ∃ a u w, v = .ref a ∧ SqT K H a [u, w] ∧ Q ((σ.set i (some u)).set j (some w)) H
theorem BkOk2.pg {i j : Nat} {x y : Str} {px py pt : Pos} {k : Nat} (B : BkOk2 X.N Vn G' i j x y sc scope) (hc : X.calm = true) (I : In X N G sc) (s : Shared) (H : Hp) (C : Addr) (cl : List (Str × Addr)) (fp : List Addr) : PG (Bk X s H scope C cl fp) (.Tuple [.Name x px, .Name y py] k pt) (gT2 X.K i j) := by
  have e : (compEnvC scope cl C X.env).scope = relS scope sc := rel_eq I.sc C cl
  have l : (Bk X s H scope C cl fp).env.scope.names.lookup x = some .local := by
    show (compEnvC scope cl C X.env).scope.names.lookup x = _
    rw [e]
    exact B.own.2
  have l2 : (Bk X s H scope C cl fp).env.scope.names.lookup y = some .local := by
    show (compEnvC scope cl C X.env).scope.names.lookup y = _
    rw [e]
    exact B.own2.2
  refine ⟨fun pins s σ H v u Q I0 r h => ?_⟩
  obtain ⟨ad, u1, w1, rfl, hq, q⟩ := h
  exact (pg_tup (X := Bk X _ _ scope C cl fp) hc (pgs_cons (pg_name I.nd B.own.1 (.inl l) (.inr l)) (pgs_cons (pg_name I.nd B.own2.1 (.inl l2) (.inr l2)) pgs_nil))).run pins s σ H _ u Q I0 r ⟨ad, [u1, w1], rfl, hq, rfl, u1, [w1], rfl, w1, [], rfl, rfl, q⟩
theorem BkOk2.ok {i j : Nat} {x y : Str} (B : BkOk2 X.N Vn G' i j x y sc scope) (I : In X N G sc) : BlkOk X.N X.env.scope scope [(x, i), (y, j)] := by
  rw [I.sc]
  exact blkOk_by B.blk
theorem wipe2 (σ : L2.St) (i j : Nat) : wipe σ [i, j] = (σ.set j none).set i none := rfl
theorem wipe_set2 (σ : L2.St) {i j : Nat} (h : i ≠ j) (u w : L2.V) : wipe (((wipe σ [i, j]).set i (some u)).set j (some w)) [i, j] = wipe σ [i, j] := by
  rw [wipe2, wipe2]
  apply List.ext_getElem?
  intro k
  by_cases h1 : i = k
  · subst h1
    simp [List.getElem?_set, h.symm]
  · by_cases h2 : j = k
    · subst h2
      simp [List.getElem?_set, h1]
    · simp [List.getElem?_set, h1, h2]
/-- [elt for x, y in a], a list of pairs -/
def LcL2 (X : Cx) (Vn : List (Nat × Str)) (G' : List Str) (elt : Expr) (scope : Scope) (i j : Nat) (ad : Addr) (xs : List L2.V) (D : Addr) (σ : L2.St) (H1 : Hp) (Qd : Hp → Prop) : Prop := ∃ Pv : Nat → Hp → Prop, Pv 0 (upd H1 D (.lst [])) ∧ (∀ k H2, k ≤ xs.length → Pv k H2 → SqL X.K H2 ad xs) ∧
  (∀ k x H2, xs[k]? = some x → Pv k H2 → ∃ t u w, x = .ref t ∧ SqT X.K H2 t [u, w] ∧ ∀ s0 H0 C cl fp, InB (Bk X s0 H0 scope C cl fp) Vn G' → wE (Bk X s0 H0 scope C cl fp) elt (((wipe σ [i, j]).set i (some u)).set j (some w)) H2 fun y H4 => ∃ acc, H4 D = some (.lst acc) ∧ acc.length < sizeLine ∧ Pv (k + 1) (upd H4 D (.lst (acc ++ [y])))) ∧
  ∀ H2, Pv xs.length H2 → Qd H2
theorem pe_bk2 {i j : Nat} {x y : Str} {s0 : Shared} {H0 : Hp} {C : Addr} {cl : List (Str × Addr)} {fp : List Addr} (I : InB (Bk X s0 H0 scope C cl fp) Vn G') : PE (Bk X s0 H0 scope C cl fp) elt (wBk X Vn G' elt scope) := pe_bk I
theorem lcL2_of {i j : Nat} (hij : i ≠ j) {ad : Addr} {xs : List L2.V} {D : Addr} {H1 : Hp} {Qd : Hp → Prop} (q : LcL2 X Vn G' elt scope i j ad xs D σ H1 Qd) : ∃ W : Nat → Nat → Hp → Prop, (∃ m, W 0 m (upd H1 D (.lst []))) ∧ ∀ k m H, W k m H →
    ((Itl X.K ad).stop k H ∧ Qd H) ∨ ((Itl X.K ad).go k H ∧ ∃ Nx : Hp → Prop, (∀ H', Nx H' → ∃ m', m' < m ∧ W (k + 1) m' H') ∧ ∀ x H', (Itl X.K ad).yld k H x H' → gT2 X.K i j x (wipe σ [i, j]) H' fun σ2 H2 => wipe σ2 [i, j] = wipe σ [i, j] ∧ tYes σ2 H2 fun b H3 =>
      if b = true then wBk X Vn G' elt scope σ2 H3 fun y H4 => ∃ acc, H4 D = some (.lst acc) ∧ acc.length < sizeLine ∧ Nx (upd H4 D (.lst (acc ++ [y]))) else Nx H3) := by
  obtain ⟨Pv, h0, hl, hs, hd⟩ := q
  refine lc_list Pv h0 hl (fun k x H hk p => ?_) hd
  obtain ⟨t, u, w, rfl, hq, z⟩ := hs k x H hk p
  refine ⟨t, u, w, rfl, hq, wipe_set2 σ hij u w, ?_⟩
  unfold tYes
  refine iteT ?_
  unfold wBk
  intro s0 H0 C cl fp I
  exact z s0 H0 C cl fp I
theorem e_lcL2 {i j : Nat} {x y : Str} {px py pt : Pos} {kt : Nat} (B : BkOk2 X.N Vn G' i j x y sc scope)
    (q : wE X a σ H fun v H1 => ∃ ad xs, v = .ref ad ∧ SqL X.K H1 ad xs ∧ ∀ D, H1 D = none → LcL2 X Vn G' elt scope i j ad xs D σ H1 fun H2 => Q (.ref D) H2)
    (I : In X N G sc := by assumption) (hc : X.calm = true := by rfl) (hs2 : ∀ z, foldedSetIterable a X.env z = pure z := by intro _; rfl) :
    wE X (.ListComp elt [⟨.Tuple [.Name x px, .Name y py] kt pt, a, [], 0⟩] scope pos) σ H Q := by
  refine e_of (pe_lc (own := [(x, i), (y, j)]) (g := gT2 X.K i j) (tt := tYes) (te := wBk X Vn G' elt scope) hc I.nd (pi_list pe) (B.ok I) (fun s H C cl fp => B.pg hc I s H C cl fp) (fun _ _ _ _ _ => pts_nil) (fun s H C cl fp => pe_bk (B.inB I s H C cl fp)) hs2) (e_mono q fun v H1 q1 => ?_)
  obtain ⟨ad, xs, rfl, hl, q2⟩ := q1
  exact ⟨ad, rfl, ⟨xs, hl⟩, fun D hD => lcL2_of B.ne (q2 D hD)⟩
end
end Wk
namespace Wk
open PySem PySem.Spec PyProof.Rows L2
section
variable {P : Program} {w : World} {K : PySem.W.Frag} {mg : Str → Option Value} {base : Heap}
/-- a def of the module with one keyword-only default -/
structure TopK (K : PySem.W.Frag) (mg : Str → Option Value) (x : Str) (st : Stmt) (kw : Str) (d : L2.V) : Prop where
  ex : ∃ (f : Addr) (fd : FuncData), FunD K x x (defArgs st) (defBody st) (defScope st) [] [(kw, d)] f fd ∧ mg x = some (.ref f)
theorem topK_mk {h : Heap} {x kw : Str} {d : L2.V} {u : Value} {st : Stmt} {f D : Addr} {oc : Value} {od an : Option Addr} {osl : Array (Option Value)} {doc pm cdv ct : Value} (X : K.In h) (G : h.Ns mainGlobals mg) (a : PySem.W.nsIn K mainGlobals x = some (some (.ref f)))
    (l : K.lookup f = some ⟨oc, od, .func (PySem.W.fnOf x x (defArgs st) (defBody st) (defScope st) .none (.ref D) doc pm an cdv ct), osl⟩) (c : PySem.W.codeIn K cdv x = true) (k : PySem.W.keepIn K (.ref f) = true)
    (hd : PySem.W.nsIn K D kw = some (some u)) (r : RelV d u) : TopK K mg x st kw d :=
  ⟨f, _, ⟨⟨oc, od, .none, .ref D, doc, pm, an, cdv, ct, osl, rfl, l, c, .inl ⟨rfl, rfl⟩, .inr ⟨D, rfl, fun q hq => by
    simp only [List.mem_singleton] at hq
    subst hq
    exact ⟨u, hd, r⟩⟩⟩, k⟩, PySem.W.mg_of X G a⟩
theorem fn_okKw {x kw : Str} {d : L2.V} {st : Stmt} {N G : List Str} {p1 p2 : Str} {k : Nat} {sp : Sp} (T : TopK K mg x st kw d) (S : FnScope N [p1, p2, kw] (defScope st)) (O : ScOk N G (defScope st)) (len : ∀ vs H Q E, sp vs H Q E → vs.length = 3)
    (hb : ∀ (D : Addr) (doc pm : Value) (an : Option Addr) (cdv ct : Value) (a b u : Value), KwChain D [(kw, u)] (bindArgs (PySem.W.fnOf x x (defArgs st) (defBody st) (defScope st) .none (.ref D) doc pm an cdv ct) ⟨[a, b], []⟩) [(p1, a), (p2, b), (kw, u)])
    (hb2 : ∀ (kV doc pm : Value) (an : Option Addr) (cdv ct : Value) (a b u : Value), bindArgs (PySem.W.fnOf x x (defArgs st) (defBody st) (defScope st) .none kV doc pm an cdv ct) ⟨[a, b], [(kw, u)]⟩ = pure [(p1, a), (p2, b), (kw, u)])
    (hbody : ∀ (f : Addr) (cdv : Value) (A : Around) (outer : List Env) (s : Shared) (H : Hp) (vs : List L2.V) (Q : VK) (E : XK), Room k (A.deeper (envOfC x (defScope st) s.heap.objs.size f cdv)) → sp vs H Q E → In (cxOf (L2N.CX P w) P w K mg base N x (defScope st) f cdv A outer s H E) N G (defScope st) →
      L2N.Takes (cxOf (L2N.CX P w) P w K mg base N x (defScope st) f cdv A outer s H E) (fun cls d _ H => E cls d H) →
      wL (cxOf (L2N.CX P w) P w K mg base N x (defScope st) f cdv A outer s H E) (defBody st) { nx := fun _ H' => Q .non H', rt := Q } (start N vs) H) : FnKw P w K mg base (k + 1) x kw 2 d sp := by
  obtain ⟨f, fd, F, hm⟩ := T.ex
  have hbd := FunD.binds0 (ps := [p1, p2, kw]) F 2 (by simp) rfl (fun D doc pm an cdv ct us ks l1 l2 => by
    match us, ks, l1, l2 with
    | [a, b], [u], _, _ => exact hb D doc pm an cdv ct a b u)
  obtain ⟨oc, od, dV, kV, doc, pm, an, cdv, ct, osl, rfl, lk, hcd, hD, hK⟩ := id F.ex
  obtain rfl : dV = .none := by
    rcases hD with ⟨_, h⟩ | ⟨h, _⟩
    · exact h
    · exact absurd rfl h
  refine ⟨f, _, [p1, p2, kw], fn_of lk hcd S len (fun A outer s H vs Q E hr h => ⟨_, pl, hbody f cdv A outer s H vs Q E hr h ⟨O, ⟨[], (List.append_nil _).symm⟩, S.nd, rfl, rfl, passes_of rfl⟩ (L2N.takes_of rfl rfl rfl rfl)⟩), hm, F.kp, ?_, fun us ws => us ++ ws, ⟨fun s us ws _ l1 l2 => ?_, fun r1 r2 => r1.append r2⟩⟩
  · obtain ⟨ds, h1, h2⟩ := hbd
    exact ⟨ds, h1, h2⟩
  · match us, ws, l1, l2 with
    | [a, b], [u], _, _ => exact .of_eq (hb2 kV doc pm an cdv ct a b u)
end
end Wk

set_option maxHeartbeats 4000000
/-! My own layer: sorted(set(xs)) of a list of texts. -/
namespace Wk
open PySem PySem.Spec PyProof.Rows L2
/-- one more text, if it is new -/
def addL (l : List Str) (z : Str) : List Str := if z ∈ l then l else l ++ [z]
def txE (e : Int × Value) : Str := strOf e.2
def TxE (w : World) (e : Int × Value) : Prop := ∃ z tk, e.2 = Value.str z tk ∧ e.1 = hashStr w z
/-- the set of the texts L -/
def SetTx (w : World) (h : Heap) (a : Addr) (L : List Str) : Prop :=
  ∃ ob es ep tb, h.get? a = some ob ∧ ob.ExactSet ∧ ob.data = .set es ep tb ∧ (∀ e ∈ es.toList, TxE w e) ∧ (es.toList.map txE).Perm L ∧ L.Nodup ∧
    es.size < scanBound ∧ tb.fits es.size = true ∧ Ris tb.place.toList ∧ (w.params.followText "set-order" = true ∨ tb.led = true)
section
variable {P : Program} {w : World} {h h' : Heap} {a : Addr} {L : List Str}
theorem SetTx.moves (R : SetTx w h a L) (k : ∀ o, h.get? a = some o → h'.get? a = some o) : SetTx w h' a L := by
  obtain ⟨ob, es, ep, tb, g1, rest⟩ := R
  exact ⟨ob, es, ep, tb, k ob g1, rest⟩
theorem tx_elems {l : List (Int × Value)} (g : ∀ e ∈ l, TxE w e) : ElemsOf (PySem.strKind P w) l := fun e m => by
  obtain ⟨z, tk, e1, e2⟩ := g e m
  refine ⟨⟨z, by rw [e1]; exact strKind_is P w z tk, e2⟩, ?_⟩
  rw [e1]
  rfl
theorem tx_is {e : Int × Value} (g : TxE w e) (z : Str) : (PySem.strKind P w).is z e.2 = true ↔ txE e = z := by
  obtain ⟨y, tk, e1, _⟩ := g
  have e2 : txE e = y := by unfold txE; rw [e1]; rfl
  rw [e2, e1]
  constructor
  · intro q
    obtain ⟨u, eu⟩ := Value.isStrOf_shape (x := z) (show Value.isStrOf z (.str y tk) = true from q)
    injection eu
  · rintro rfl
    exact strKind_is P w y tk
theorem tx_mem {l : List (Int × Value)} (g : ∀ e ∈ l, TxE w e) (z : Str) : z ∈ l.map txE ↔ ∃ e ∈ l, (PySem.strKind P w).is z e.2 = true := by
  rw [List.mem_map]
  exact ⟨fun ⟨e, m, q⟩ => ⟨e, m, (tx_is (g e m) z).2 q⟩, fun ⟨e, m, q⟩ => ⟨e, m, (tx_is (g e m) z).1 q⟩⟩
theorem tx_fresh (ho : h.get? a = some { cls := .type "set", dict := none, data := .set #[] 0 (.fresh 0 0 (!w.params.followText "set-order")) }) : SetTx w h a [] := by
  refine ⟨_, #[], 0, _, ho, ⟨rfl, rfl, rfl⟩, rfl, (fun e m => by simp at m), .refl _, List.nodup_nil, by decide, rfl, List.Pairwise.nil, ?_⟩
  show _ ∨ (!w.params.followText "set-order") = true
  cases w.params.followText "set-order" with
  | false => exact .inr rfl
  | true => exact .inl rfl
end
section
variable {P : Program} {w : World} {A : Around} {E : Value → Shared → Prop} {s : Shared} {a : Addr} {L : List Str}
theorem tx_tail {g : Bool → Sem Unit} (hg : ∀ (b : Bool) (s1 : Shared) (Q1 : Unit → Shared → Prop), Q1 () s1 → wpAny (model P w) A (g b) Q1 E s1)
    {ob : Obj} {es : Array (Int × Value)} {ep : Nat} {tb : SetTable} (g0 : s.heap.get? a = some ob) (gx : ob.ExactSet) (gd : ob.data = .set es ep tb)
    {fs : Array (Int × Value)} {t2 : SetTable} {M : List Str} (g1 : ∀ e ∈ fs.toList, TxE w e) (pm1 : (fs.toList.map txE).Perm M) (nd1 : M.Nodup)
    (b1 : fs.size < scanBound) (f1 : t2.fits fs.size = true) (r1 : Ris t2.place.toList) (l1 : w.params.followText "set-order" = true ∨ t2.led = true) {wd : Bool} {R : Option Bool → Shared → Prop}
    (hR : ∀ h1, Heap.SameBut a s.heap h1 → SetTx w h1 a M → R (some true) { s with heap := h1 }) :
    wpAny (model P w) A (do
        storeSet a fs t2
        if (!wd && t2.tooFull) = true then do
            g (relayAll t2 fs (SetTable.grown fs.size)).2.2
            storeSet a (relayAll t2 fs (SetTable.grown fs.size)).1 (relayAll t2 fs (SetTable.grown fs.size)).2.1
            pure (some true)
          else pure (some true)) R E s := by
  refine wpAny_bind (wpAny_storeSet_of g0 gd ?_ (fits_of_scanBound b1))
  have g02 := store_at (es' := fs) (t' := t2) g0 gd
  have sb := Heap.SameBut.update s.heap a (Obj.putSet fs t2)
  split
  · have pm := relayAll_perm t2 fs (SetTable.grown fs.size)
    have f3 := relayAll_fits t2 fs (SetTable.grown fs.size)
    have r3 := relayAll_ris t2 fs (SetTable.grown fs.size)
    have l3 := relayAll_led t2 fs (SetTable.grown fs.size)
    generalize relayAll t2 fs (SetTable.grown fs.size) = Z at pm f3 r3 l3 ⊢
    obtain ⟨gs, t3, gave⟩ := Z
    dsimp only at pm f3 r3 l3 ⊢
    have zs : gs.size = fs.size := by rw [← Array.length_toList, pm.length_eq, Array.length_toList]
    have b2 : gs.size < scanBound := zs ▸ b1
    refine wpAny_bind (hg _ _ _ (wpAny_bind (wpAny_storeSet_of g02 rfl ?_ (fits_of_scanBound b2))))
    have g03 := store_at (es' := gs) (t' := t3) g02 rfl
    refine wpAny_pure (hR _ (sb.trans (Heap.SameBut.update _ a _)) ⟨_, gs, _, t3, g03, gx, rfl, fun e m => g1 e (pm.mem_iff.mp m), (pm.map txE).trans pm1, nd1, b2, f3, r3, ?_⟩)
    rw [l3]
    exact l1
  · exact wpAny_pure (hR _ sb ⟨_, fs, _, t2, g02, gx, rfl, g1, pm1, nd1, b1, f1, r1, l1⟩)
theorem addL_in {z : Str} (m : z ∈ L) : addL L z = L := if_pos m
theorem addL_new {z : Str} (m : z ∉ L) : addL L z = L ++ [z] := if_neg m
theorem tx_add {z : Str} {tk : Tok} {Q : Bool → Shared → Prop} (R : SetTx w s.heap a L) (room : L.length + 1 < scanBound)
    (hQ : ∀ (b : Bool) h1, Heap.SameBut a s.heap h1 → SetTx w h1 a (addL L z) → Q b { s with heap := h1 }) :
    wpAny (model P w) A (setAddHashed a (.str z tk) ((PySem.strKind P w).hash z)) Q E s := by
  obtain ⟨ob, es, ep, tb, g0, gx, gd, g, pm0, nd, bb, ff, rr, ll⟩ := R
  have hkey : (PySem.strKind P w).is z (.str z tk) = true := strKind_is P w z tk
  have hsc : (Value.str z tk).scannable = true := rfl
  have hel : ElemsOf (PySem.strKind P w) es.toList := tx_elems g
  unfold setAddHashed setAddHashedIn
  refine wpAny_holding (wpAny_bind (wpAny_setState_of g0 gd ff ?_))
  dsimp only
  rw [byScan_of hsc bb hel]
  simp only [↓reduceIte]
  unfold setAddByScan
  refine wpAny_bind (wpAny_bind (wpAny_rule (wpAny_bind (wpAny_setScan_of hkey g0 gd ff hel ?_))))
  cases fi : List.findIdx? (fun e => (PySem.strKind P w).is z e.2) es.toList with
  | some j =>
    dsimp only
    obtain ⟨hj, pj, _⟩ := List.findIdx?_eq_some_iff_getElem.mp fi
    have m : z ∈ L := pm0.mem_iff.mp ((tx_mem (P := P) g z).2 ⟨es.toList[j], List.getElem_mem hj, pj⟩)
    refine wpAny_pure (wpAny_pure (hQ _ s.heap (Heap.SameBut.refl a s.heap) ?_))
    rw [addL_in m]
    exact ⟨ob, es, ep, tb, g0, gx, gd, g, pm0, nd, bb, ff, rr, ll⟩
  | none =>
    dsimp only
    have nz : z ∉ L := fun m => by
      obtain ⟨e, me, q⟩ := (tx_mem (P := P) g z).1 (pm0.mem_iff.mpr m)
      have c := List.findIdx?_eq_none_iff.mp fi e me
      rw [q] at c
      cases c
    have hgw : ∀ (b : Bool) {s1 : Shared} {Q1 : Unit → Shared → Prop}, Q1 () s1 → wpAny (model P w) A (match b with | true => rule "set.scan.the-table-gave-way" | false => pure ()) Q1 E s1 :=
      fun b s1 Q1 q => by cases b <;> first | exact wpAny_pure q | exact wpAny_rule q
    have pm := layNew_perm tb es ((PySem.strKind P w).hash z) (.str z tk)
    have f1 := layNew_fits tb es ((PySem.strKind P w).hash z) (.str z tk)
    have r1 := layNew_ris tb es ((PySem.strKind P w).hash z) (.str z tk) rr
    have l1 := layNew_led tb es ((PySem.strKind P w).hash z) (.str z tk)
    generalize layNew tb es ((PySem.strKind P w).hash z) (.str z tk) = Z at pm f1 r1 l1 ⊢
    obtain ⟨fs, t1, wd, gave⟩ := Z
    dsimp only at pm f1 r1 l1 ⊢
    rw [Array.toList_push] at pm
    have pk : (fs.toList.map txE).Perm (addL L z) := by
      rw [addL_new nz]
      refine (pm.map txE).trans ?_
      rw [List.map_append]
      exact pm0.append_right _
    have g1 : ∀ e ∈ fs.toList, TxE w e := fun e m => by
      rcases List.mem_append.mp (pm.mem_iff.mp m) with y | y
      · exact g e y
      · rw [List.mem_singleton.mp y]
        exact ⟨z, tk, rfl, rfl⟩
    have nd1 : (addL L z).Nodup := by
      rw [addL_new nz]
      exact List.nodup_append.mpr ⟨nd, by simp, fun x hx y hy e => by rw [List.mem_singleton] at hy; subst hy; subst e; exact nz hx⟩
    have zs : fs.size = L.length + 1 := by
      have q := pk.length_eq
      rw [addL_new nz, List.length_map, List.length_append, Array.length_toList] at q
      exact q
    have b1 : fs.size < scanBound := by rw [zs]; exact room
    have led : w.params.followText "set-order" = true ∨ t1.led = true := by rw [l1]; exact ll
    refine wpAny_bind (hgw _ ?_)
    split
    · refine wpAny_bind ?_
      rw [hashByValue_scannable 8 hsc]
      refine wpAny_pure (tx_tail ?_ g0 gx gd g1 pk nd1 b1 ?_ ?_ ?_ ?_)
      · intro b s1 Q1 q; cases b <;> first | exact wpAny_pure q | exact wpAny_rule q
      · first | (split <;> first | exact f1 | exact SetTable.fits_plain_off f1) | exact f1
      · first | (split <;> exact r1 rr) | exact r1 rr | (split <;> exact r1) | exact r1
      · first | (split <;> exact led) | exact led
      · intro h1 sb r; dsimp only; exact wpAny_pure (hQ true h1 sb r)
    · refine wpAny_bind (wpAny_pure ?_)
      simp only [↓reduceIte]
      refine tx_tail ?_ g0 gx gd g1 pk nd1 b1 f1 ?_ led ?_
      · intro b s1 Q1 q; cases b <;> first | exact wpAny_pure q | exact wpAny_rule q
      · first | exact r1 | exact r1 rr
      · intro h1 sb r; dsimp only; exact wpAny_pure (hQ true h1 sb r)
end
section
variable {P : Program} {w : World} {A : Around} {E : Value → Shared → Prop} {s : Shared}
def uniqL (zs : List Str) : List Str := zs.foldl addL []
theorem uniqL_snoc (zs : List Str) (z : Str) : uniqL (zs ++ [z]) = addL (uniqL zs) z := by unfold uniqL; rw [List.foldl_append]; rfl
theorem addL_len (l : List Str) (z : Str) : (addL l z).length ≤ l.length + 1 := by unfold addL; split <;> simp
theorem foldL_len : ∀ (zs l : List Str), (zs.foldl addL l).length ≤ l.length + zs.length
  | [], l => by simp
  | z :: zs, l => by
    have h1 := foldL_len zs (addL l z)
    have h2 := addL_len l z
    simp only [List.foldl_cons, List.length_cons]
    omega
theorem uniqL_len (zs : List Str) : (uniqL zs).length ≤ zs.length := by
  have h := foldL_len zs []
  simpa [uniqL] using h
theorem tx_loop {I : Addr} {fp wr : List Addr} {G : Array GenState → Array GenState → Prop} {n : Nat} {Pv : Nat → Value → Prop} {St : Nat → Shared → Prop} {R : Result → Shared → Prop}
    (W : WalksS P w A.in1 I fp wr G n Pv St) (D : Addr) (dfp : D ∉ fp) (zs : List Str) (en : n = zs.length) (hb : zs.length + 1 < scanBound) (hv : ∀ i v, Pv i v → ∃ z t, zs[i]? = some z ∧ v = .str z t) :
    ∀ (k i : Nat) (s : Shared), n - i = k → i ≤ n → St i s → SetTx w s.heap D (uniqL (zs.take i)) →
      (∀ s1, Moved (D :: wr) G s s1 → SetTx w s1.heap D (uniqL zs) → R (.ok (.ret .none)) s1) →
      codeAny (model P w) A (.builtin "set.update.loop" ⟨[.ref D, .ref I], []⟩) R s := by
  have dwr : D ∉ wr := fun m => dfp (W.sub _ m)
  have more : ∀ b ∈ wr, b ∈ D :: wr := fun b m => List.mem_cons_of_mem _ m
  intro k
  induction k with
  | zero =>
    intro i s ek hi st hD hR
    obtain rfl : i = n := by omega
    refine codeAny_builtin PyProof.Rows.F.entry_set_update_loop ?_
    rw [Around.under_plainId PyProof.Rows.F.plain_set_update_loop _]
    show wpAny _ A.in1 (pyNext (.ref I) >>= _) _ _ s
    refine wpAny_bind (W.done s _ _ st fun s1 mv => ?_)
    show wpAny _ A.in1 (ret Value.none) _ _ s1
    rw [List.take_of_length_le (by omega)] at hD
    exact wpAny_pure (hR s1 (mv.mono more) (hD.moves fun o e => mv.heap D o dwr e))
  | succ k ih =>
    intro i s ek hi st hD hR
    have lt : i < n := by omega
    refine codeAny_builtin PyProof.Rows.F.entry_set_update_loop ?_
    rw [Around.under_plainId PyProof.Rows.F.plain_set_update_loop _]
    show wpAny _ A.in1 (pyNext (.ref I) >>= _) _ _ s
    refine wpAny_bind (W.item i s _ _ lt st fun v s1 hp st1 mv => ?_)
    obtain ⟨z, t, hz, rfl⟩ := hv i v hp
    have hD1 : SetTx w s1.heap D (uniqL (zs.take i)) := hD.moves fun o e => mv.heap D o dwr e
    show wpAny _ A.in1 (holding [Value.str z t] (setAdd D (.str z t)) >>= _) _ _ s1
    refine wpAny_bind (wpAny_holding ?_)
    unfold setAdd
    refine wpAny_holding (wpAny_bind ((PySem.strKind P w).pyHash (k := z) (strKind_is _ _ _ _) ?_))
    have hl := uniqL_len (zs.take i)
    rw [List.length_take] at hl
    refine tx_add (s := { s1 with toks := s1.toks + 1 }) hD1 (by omega) fun b h1 sb hD2 => ?_
    rw [← uniqL_snoc, show zs.take i ++ [z] = zs.take (i + 1) by rw [List.take_add_one, hz]; rfl] at hD2
    refine wpAny_pure ⟨plainId_quiet PyProof.Rows.F.plain_set_update_loop _, ih (i + 1) _ (by omega) lt (W.frame _ s1 _ _ st1 (Nat.le_succ _) fun b m o e => ?_) hD2 fun s2 mv2 hD3 => ?_⟩
    · rw [sb.2 b (fun q : b = D => dfp (q ▸ m))]
      exact e
    · refine hR s2 (Moved.trans W.gtrans ((mv.mono more).then_heap (Nat.le_succ _) fun b o m e => ?_) mv2) hD3
      rw [sb.2 b (fun q : b = D => m (by rw [q]; exact List.mem_cons_self))]
      exact e
def freshSet (w : World) : Obj := { cls := .type "set", dict := none, data := .set #[] 0 (.fresh 0 0 (!w.params.followText "set-order")) }
theorem call_setTx {l : Addr} {items : Array Value} (zs : List Str) {Q : Value → Shared → Prop} (hh : A.handled = none) (hl : s.heap.IsList l items) (hit : StrsAre items.toList zs) (hb : zs.length + 1 < scanBound)
    (h : ∀ (h1 : Heap) (tk : Nat), SetTx w h1 s.heap.objs.size (uniqL zs) → (∀ b o, s.heap.get? b = some o → h1.get? b = some o) → Q (.ref s.heap.objs.size) { s with heap := h1, toks := tk }) :
    wpAny (model P w) A (call (.type "set") [.ref l]) Q E s := by
  have hisz : items.size = zs.length := by rw [← StrsAre.len_eq hit, Array.length_toList]
  obtain ⟨c, tl, hmro⟩ := PySem.F.called_set.mro
  have hmade := PySem.F.called_set.made
  have hsub := PySem.F.called_set.sub
  refine wpAny_call (codeAny_of_tree ?_)
  show wpAny _ _ (callAny (.type "set") _) _ _ _
  refine wpAny_pure ⟨Code.quiet_builtin _ (by decide +kernel), codeAny_builtin PySem.F.entry_type_call ?_⟩
  rw [Around.under_plain (weight_type_call_type "set" [.ref l] []) rfl]
  have h1 := PySem.F.called_set.notType
  have h2 := PySem.F.called_set.canCreate
  have hct := PySem.F.typeCall_set_1 (.ref l)
  repeat (any_goals (first | assumption | wp_step))
  refine codeAny_mono (code_set_led1 (.ref l) (E := E) (Q₁ := fun ov s1 => ov = .ref s.heap.objs.size ∧ s1 = { s with heap := s.heap.push (freshSet w) }) ⟨rfl, rfl⟩) fun r s1 hr => ?_
  cases r with
  | error e => exact hr
  | ok fl =>
    cases fl with
    | ret ov =>
      obtain ⟨rfl, rfl⟩ := hr
      have gS : (s.heap.push (freshSet w)).get? s.heap.objs.size = some (freshSet w) := Heap.get?_push_size _ rfl
      have gT : Shared.TypeIs { s with heap := s.heap.push (freshSet w) } (.ref s.heap.objs.size) "set" := ⟨_, gS, rfl⟩
      have hli := PySem.F.called_set.init.lookup
      have hbi := PySem.F.called_set.init.bind (.ref s.heap.objs.size)
      repeat (any_goals (first | assumption | wp_step))
      refine codeAny_mono (codeAny_call_builtin (R := wants (fun r s2 => r = .none ∧ ∃ h1 tk, s2 = { s with heap := h1, toks := tk } ∧ SetTx w h1 s.heap.objs.size (uniqL zs) ∧
          (∀ b o, s.heap.get? b = some o → h1.get? b = some o)) E) PySem.F.called_set.init.plain PySem.F.entry_set_init (check_set_init_1 gT ?_)) fun r2 s2 hr2 => ?_
      · obtain ⟨ol, hol, hcl, nl, hdl⟩ := hl
        obtain ⟨ocls, odict, odata, oslots⟩ := ol
        simp only at hcl hdl
        subst hcl; subst hdl
        have hol1 : (s.heap.push (freshSet w)).get? l = some { cls := .type "list", dict := odict, data := .seq items nl, slots := oslots } := Heap.get?_push_of_some _ hol
        have hsls := PySem.F.sub_list_set
        have hslf := PySem.F.sub_list_frozenset
        have hne : (Value.type "list" == Value.type "dict") = false := by decide
        have hl1 : (s.heap.push (freshSet w)).IsList l items := ⟨_, hol1, rfl, nl, rfl⟩
        unfold Builtin.«set.__init__» noKeywords Builtin.Frozenset.updateFrom
        generalize hPI : pyIter = PI
        wp_walk
        subst hPI
        refine wpAny_pyIter_list hl1 ?_
        refine wpAny_bind (wpAny_runValue ?_)
        have hlS : l < s.heap.objs.size := Heap.lt_size hol
        have hh3 : A.in1.in1.in1.handled = none := by simp [hh]
        have hneI : l ≠ (s.heap.push (freshSet w)).objs.size := by
          rw [Heap.size_push]; exact Nat.ne_of_lt (Nat.lt_succ_of_lt hlS)
        have hSf : s.heap.objs.size ∉ [(s.heap.push (freshSet w)).objs.size, l] := by
          rw [Heap.size_push]; simp only [List.mem_cons, List.mem_singleton, List.not_mem_nil, or_false, not_or]
          exact ⟨Nat.ne_of_lt (Nat.lt_succ_self _), Nat.ne_of_gt hlS⟩
        have hval : ∀ (i : Nat) (v : Value), items[i]? = some v → ∃ z t, zs[i]? = some z ∧ v = .str z t := fun i v hv => by
          have hi : i < zs.length := by rw [← hisz]; exact (Array.getElem?_eq_some_iff.mp hv).1
          obtain ⟨t, e⟩ := SS.strs_at hit i v (by rw [Array.getElem?_toList]; exact hv)
          refine ⟨zs[i], t, List.getElem?_eq_getElem hi, ?_⟩
          rw [e, List.getD_eq_getElem?_getD, List.getElem?_eq_getElem hi] <;> rfl
        refine tx_loop ((Walks.list hh3 _ l hneI items).toS) s.heap.objs.size hSf zs hisz hb hval (items.size - 0) 0 _ (by omega) (Nat.zero_le _)
          ⟨⟨_, Heap.get?_push_size _ rfl, rfl, rfl⟩, (hl1.push _)⟩ (tx_fresh (Heap.get?_push_of_some _ gS)) fun s3 hm hD => ?_
        obtain ⟨h3, g3, d3, tk3, os3⟩ := s3
        obtain rfl : g3 = s.gens := hm.gens
        obtain rfl : d3 = s.drawn := hm.drawn
        obtain rfl : os3 = s.os := hm.os
        show wpAny _ _ _ _ _ _
        refine wpAny_pure ?_
        show wpAny _ _ (ret Value.none) _ _ _
        refine wpAny_pure ⟨rfl, h3, tk3, rfl, hD, fun b o e => ?_⟩
        have hb0 : b < s.heap.objs.size := Heap.lt_size e
        refine hm.heap b o ?_ (Heap.get?_push_of_some _ (Heap.get?_push_of_some _ e))
        simp only [List.mem_cons, List.mem_singleton, List.not_mem_nil, or_false, not_or]
        exact ⟨Nat.ne_of_lt hb0, by rw [Heap.size_push]; exact Nat.ne_of_lt (Nat.lt_succ_of_lt hb0)⟩
      · cases r2 with
        | error e => exact hr2
        | ok fl2 =>
          cases fl2 with
          | ret r =>
            obtain ⟨rfl, h3, tk, rfl, hD, hk⟩ := hr2
            repeat (any_goals (first | assumption | wp_step))
            exact h _ _ hD hk
          | _ => exact hr2.elim
    | _ => exact hr.elim
end
end Wk

set_option maxHeartbeats 4000000
/-! My own layer: sorted of a set of texts, tuple(reversed(t)) of a tuple. -/
namespace Wk
open PySem PySem.Spec PyProof.Rows L2
section
variable {P : Program} {w : World} {A : Around} {E : Value → Shared → Prop} {s : Shared} {a : Addr} {L : List Str}
theorem sorted_setTx {Q : Value → Shared → Prop} (R : SetTx w s.heap a L) (hh : A.handled = none) (h64 : L.length < 64)
    (hQ : ∀ s1 p (out : Array Value) (c : Nat) (ys : List Str), (∀ b o, s.heap.get? b = some o → s1.heap.get? b = some o) → s1.gens = s.gens → s1.os = s.os → s.heap.objs.size ≤ p →
      s1.heap.get? p = some (seqObj "list" out c) → StrsAre out.toList ys → ys.Perm L → sortedS ys = true → Q (.ref p) s1) :
    wpAny (model P w) A (call (.builtin "sorted") [.ref a]) Q E s := by
  obtain ⟨ob, es, ep, tb, g0, gx, gd, g, pm0, nd, bb, ff, rr, ll⟩ := R
  refine Calls.call_function_entry kind_sorted plain_sorted entry_sorted (args_sorted1 _) ?_
  unfold Builtin.«sorted»
  refine wpAny_bind (m := checkCount "sorted" 1 1 _) (wpAny_pure ?_)
  refine wpAny_bind (collect_set (A := A.in1) hh ⟨ob, g0, gx.1, gd⟩ ff bb rr ll fun s1 vs k1 hz g1 o1 pm => ?_)
  have hI : StrsAre vs (vs.map strOf) := strsAre_map vs fun v hv => by
    obtain ⟨e, he, q⟩ := List.mem_map.mp (pm.mem_iff.mp hv)
    obtain ⟨z, tk, e1, _⟩ := g e he
    exact ⟨z, tk, q ▸ e1⟩
  have pk : (vs.map strOf).Perm L := by
    have q := pm.map strOf
    rw [List.map_map] at q
    exact q.trans pm0
  have hvl : vs.length = L.length := by have q := pk.length_eq; rwa [List.length_map] at q
  refine wpAny_bind (wpAny_newList ?_ (by rw [hvl, sizeLine_eq]; omega))
  have hoL : (s1.heap.push (seqObj "list" vs.toArray 0)).get? s1.heap.objs.size = some (seqObj "list" vs.toArray 0) := Heap.get?_push_size _ rfl
  refine wpAny_bind (wpAny_holding (wpAny_call_entry slot_list_sort ⟨_, hoL, rfl⟩ entry_list_sort (list_sort_treeK strKind_oneLt hoL hI.keysOf
    (fun v1 v2 rest e => keyKind_strs (ss := vs.map strOf) (by rw [← e]; exact hI)) (by rw [hvl]; exact h64) fun st hp hs => ⟨_, rfl, ?_⟩) (args_list_sort _)))
  obtain ⟨ys, y1, y2, y3⟩ := sorted_out_str hI hp hs
  obtain ⟨c, hc⟩ := sortedHeap_at (vs := vs) (out := (arrOf st).map (·.2)) hoL
  refine wpAny_pure ⟨_, rfl, hQ _ s1.heap.objs.size _ c ys (fun b u e => ?_) g1 o1 hz hc y1 (y2.trans pk) y3⟩
  have q := k1 b u e
  have lt := Heap.lt_size q
  show (sortedHeap (s1.heap.push (seqObj "list" vs.toArray 0)) s1.heap.objs.size vs ((arrOf st).map (·.2))).get? b = some u
  rw [sortedHeap_old (Nat.ne_of_lt lt) (by rw [size_push']; exact Nat.lt_succ_of_lt lt)]
  exact Heap.get?_push_of_some _ q
end
/-- the set of the texts L at a -/
def SetTO (w : World) (a : Addr) (L : List Str) : HO := .ext fun h => SetTx w h a L
section
variable {X : Cx}
theorem setTO_ok {w : World} {P : Program} {H : Hp} {h : Heap} {a : Addr} {L : List Str} (R : SetTx w h a L) : ObjOk P w H h a (SetTO w a L) := by
  have ⟨o, _, _, _, ho, _⟩ := R
  exact ⟨R, ⟨o, ho⟩, fun _ _ p k => SetTx.moves p k⟩
def rSetOfTx (w : World) (K : PySem.W.Frag) : List V → Hp → VK → Prop := fun xs H Q => ∃ (l : Addr) (zs : List Str), xs = [V.ref l] ∧ SqL K H l (zs.map V.str) ∧ zs.length + 1 < scanBound ∧ ∀ p, H p = none → Q (.ref p) (upd H p (SetTO w p (uniqL zs)))
theorem cr_setOfTx (hc : X.calm = true) : CallR X (.type "set") (rSetOfTx X.w X.K) := by
  intro pins s σ H xs us Q I r h
  obtain ⟨l, zs, rfl, hq, hb, q⟩ := h
  rw [Vals.ref1 r]
  obtain ⟨its, rv, pl, hz⟩ := I.list hq
  refine call_setTx zs (I.ok.hd hc) pl.isList (by simpa using strsAre_of rv) hb fun h1 tk hD k => ?_
  exact ⟨.ref _, upd H s.heap.objs.size (SetTO X.w s.heap.objs.size (uniqL zs)), I.laid (t' := tk) k (Nat.le_refl _) (setTO_ok hD), rfl, q _ (I.hok.fresh (Nat.le_refl _))⟩
def rSortedTx (w : World) : List V → Hp → VK → Prop := fun vs H Q => ∃ (a : Addr) (L : List Str), vs = [V.ref a] ∧ H a = some (SetTO w a L) ∧ L.length < 64 ∧
  ∀ (ys : List Str) (p : Addr), ys.Perm L → sortedS ys = true → H p = none → Q (.ref p) (upd H p (.lst (ys.map V.str)))
theorem cr_sortedTx (hc : X.calm = true) : CallR X (.builtin "sorted") (rSortedTx X.w) := by
  intro pins s σ H vs us Q I r h
  obtain ⟨a, L, rfl, ha, h64, q⟩ := h
  have R : SetTx X.w s.heap a L := (I.hok a _ ha).1
  rw [Vals.ref1 r]
  refine sorted_setTx R (I.ok.hd hc) h64 fun s1 p out c ys k g o hp hg hi pm hs => ?_
  have hlen : (ys.map V.str).length ≤ sizeLine := by rw [List.length_map, pm.length_eq, sizeLine_eq]; omega
  have hn : H p = none := I.hok.fresh hp
  have J : Inv X pins σ (upd H p (.lst (ys.map V.str))) { s with heap := s1.heap, gens := s1.gens, drawn := s1.drawn, toks := s1.toks } :=
    I.call (ch := []) (Un.laid k hp hn) (I.hok.laid k hp ⟨hlen, out.toList, c, vals_of_strs hi, hg⟩) (by rw [g]; exact I.bare) (fun _ z => nomatch z)
  have e : s1 = { s with heap := s1.heap, gens := s1.gens, drawn := s1.drawn, toks := s1.toks } := by
    cases s1
    cases s
    cases o
    rfl
  rw [e]
  exact ⟨.ref p, _, J, rfl, q ys p pm hs hn⟩
end
end Wk

set_option maxHeartbeats 4000000
/-! My own layer: tuple(reversed(t)) of a tuple. -/
namespace Wk
open PySem PySem.Spec PyProof.Rows L2 RT
theorem nolen_rt : typeLookup (.type "reversed") "__len__" = pure none := by rw [typeLookup_type, builtinLookup_eq_fast]; kernel_rfl
theorem hint_rt : typeLookup (.type "reversed") "__length_hint__" = pure (some (.builtin "reversed.__length_hint__")) := by rw [typeLookup_type, builtinLookup_eq_fast]; kernel_rfl
theorem slot_rt_hint : Slot "reversed" "__length_hint__" "reversed.__length_hint__" :=
  .of (owner := "reversed") (n := "__length_hint__") (by rw [typeLookup_type, builtinLookup_eq_fast]; kernel_rfl) (by decide +kernel) (by decide +kernel) (by decide +kernel)
    (by first | exact .inl (by decide +kernel) | exact .inr (by decide +kernel)) (by rw [isSubtype_type]; kernel_rfl)
theorem entry_rt_hint : entryFor table "reversed.__length_hint__" = some Builtin.«reversed.__length_hint__» := entryFor_of_tree (by kernel_rfl)
theorem args_rt_hint (a : Value) : argsOk "reversed.__length_hint__" ⟨[a], []⟩ := by
  unfold argsOk; rw [signature?_of (id := "reversed.__length_hint__") (n := ['_', '_', 't', 'n', 'i', 'h', '_', 'h', 't', 'g', 'n', 'e', 'l', '_', '_']) (o := ['d', 'e', 's', 'r', 'e', 'v', 'e', 'r']) (by kernel_rfl) owner_rt]; kernel_rfl
theorem bind_rt_hint (x : Value) : bindSpecial (.builtin "reversed.__length_hint__") x = pure (.builtin "reversed.__length_hint__", [x]) := by
  unfold bindSpecial
  rw [show typeOf (.builtin "reversed.__length_hint__") = pure (.type "method_descriptor") from by kernel_rfl]
  rfl
section
variable {prog : Program} {w : World} {A : Around} {E : Value → Shared → Prop} {s : Shared}
theorem walks_rt (hh : A.handled = none) (it t : Addr) (ne : t ≠ it) (items : Array Value) (hz : items.size ≤ sizeLine) :
    Walks prog w A it [it, t] [it] items.size (fun i v => items[items.size - 1 - i]? = some v) (fun i h => i ≤ items.size ∧ IsRt h it t ((items.size : Int) - 1 - (i : Int)) ∧ IsTup h t items) where
  sub := fun b m => by simp at m; simp [m]
  frame := fun _ _ _ x k => ⟨x.1, x.2.1.at fun o e => k it (by simp) o e, let ⟨o, e, z⟩ := x.2.2; ⟨o, k t (by simp) o e, z⟩⟩
  item := fun i s Q E hi x hQ => by
    have e1 : (items.size : Int) - 1 - (i : Int) = ((items.size - 1 - i : Nat) : Int) := by omega
    have hit := x.2.1
    rw [e1] at hit
    have hx : items[items.size - 1 - i]? = some (items[items.size - 1 - i]'(by omega)) := Array.getElem?_eq_getElem (by omega)
    refine next_rt_item hit x.2.2 hx hz fun h1 st sb => ?_
    have e2 : ((items.size - 1 - i : Nat) : Int) - 1 = (items.size : Int) - 1 - ((i + 1 : Nat) : Int) := by omega
    rw [e2] at st
    exact hQ _ h1 _ hx ⟨hi, st, let ⟨o, eo, z⟩ := x.2.2; ⟨o, (sb.2 t ne).trans eo, z⟩⟩ fun b o nb eo => sb.extBut b o (fun q => nb (by simp [q])) eo
  done := fun s Q E x hQ => by
    have e1 : (items.size : Int) - 1 - (items.size : Int) = -1 := by omega
    have hit := x.2.1
    rw [e1] at hit
    exact next_rt_end hh hit fun h1 he => hQ h1 s.toks fun b o nb eo => he b o (fun q => nb (by simp [q])) eo
  self := fun _ _ _ _ x hQ => iter_rt x.2.1 hQ
theorem call_rt_hint {it t : Addr} {items : Array Value} {Q : Value → Shared → Prop} (hit : IsRt s.heap it t ((items.size : Int) - 1)) (ht : IsTup s.heap t items) (hz : items.size ≤ sizeLine)
    (hQ : ∀ tk u, Q (.int items.size tk) { s with toks := u }) : wpAny (model prog w) A (call (.builtin "reversed.__length_hint__") [.ref it]) Q E s := by
  obtain ⟨o, ho, hc, hd⟩ := id hit
  have z2 := hz
  rw [sizeLine_eq] at z2
  refine wpAny_call_entry slot_rt_hint hit.typeIs entry_rt_hint ?_ (args_rt_hint _)
  unfold Builtin.«reversed.__length_hint__»
  refine wpAny_bind (wpAny_of_eq (a := Value.ref it) rfl ?_)
  try dsimp only
  refine wpAny_bind (wpAny_field ho hd (x := .ref t) rfl ?_)
  try dsimp only
  have nn : (Value.ref t == Value.none) = false := by
    first | rfl | exact beq_eq_false_iff_ne.mpr (fun z => nomatch z)
  rw [nn]
  simp only [Bool.false_eq_true, ↓reduceIte]
  refine wpAny_bind (len_tuple ht (by omega) ?_)
  refine wpAny_bind (wpAny_of_eq (a := some ((items.size : Nat) : Int)) rfl ?_)
  try dsimp only
  refine wpAny_bind (wpAny_field (s := { s with toks := s.toks + 1 + 1 }) ho hd (x := rawInt ((items.size : Int) - 1)) rfl ?_)
  show wpAny _ _ (if (items.size : Int) < (items.size : Int) - 1 + 1 then _ else _) _ _ _
  rw [if_neg (by omega)]
  have e1 : (items.size : Int) - 1 + 1 = items.size := by omega
  show wpAny _ _ (retInt ((items.size : Int) - 1 + 1)) _ _ _
  rw [e1]
  unfold retInt
  refine wpAny_bind (wpAny_mkInt ?_)
  exact wpAny_pure ⟨_, rfl, hQ _ _⟩
theorem collect_rt {it t : Addr} {items : Array Value} {Q : List Value → Shared → Prop} (hh : A.handled = none) (hit : IsRt s.heap it t ((items.size : Int) - 1)) (ht : IsTup s.heap t items) (ne : t ≠ it) (hz : items.size ≤ sizeLine)
    (hQ : ∀ (h1 : Heap) (tk : Nat) (acc : Array Value), (∀ b o, b ≠ it → s.heap.get? b = some o → h1.get? b = some o) → ItemsOf (fun i v => items[items.size - 1 - i]? = some v) acc items.size → Q acc.toList { s with heap := h1, toks := tk }) :
    wpAny (model prog w) A (collect (.ref it)) Q E s := by
  have W := (walks_rt (prog := prog) (w := w) (A := A.in1) hh it t ne items hz).toS
  obtain ⟨oi, hoi, _⟩ := id hit
  obtain ⟨ot, hot, _⟩ := id ht
  have nSi : s.heap.objs.size ≠ it := Nat.ne_of_gt (Heap.lt_size hoi)
  have nSt : s.heap.objs.size ≠ t := Nat.ne_of_gt (Heap.lt_size hot)
  have nSf : s.heap.objs.size ∉ [it, t] := by simp only [List.mem_cons, List.not_mem_nil, or_false, not_or]; exact ⟨nSi, nSt⟩
  unfold collect
  refine wpAny_bind (wpAny_runValue (codeAny_builtin F.entry_proto_collect ?_))
  rw [Around.under_plainId F.plain_proto_collect _]
  show wpAny _ A.in1 (newList [] >>= fun l' => again (.builtin "list.__iadd__" ⟨[l', .ref it], []⟩)) _ _ s
  refine wpAny_bind (wpAny_newObj_type ?_)
  refine wpAny_pure ⟨plainId_quiet F.plain_list_iadd _, codeAny_builtin F.entry_list_iadd ?_⟩
  rw [Around.under_plainId F.plain_list_iadd _]
  have gS : (s.heap.push { cls := .type "list", data := .seq ([] : List Value).toArray }).get? s.heap.objs.size = some { cls := .type "list", data := .seq ([] : List Value).toArray } := Heap.get?_push_size _ rfl
  have hit1 : IsRt (s.heap.push { cls := .type "list", data := .seq ([] : List Value).toArray }) it t ((items.size : Int) - 1) := hit.at fun o e => Heap.get?_push_of_some _ e
  have ht1 : IsTup (s.heap.push { cls := .type "list", data := .seq ([] : List Value).toArray }) t items := let ⟨o, e, z⟩ := ht; ⟨o, Heap.get?_push_of_some _ e, z⟩
  have hT : ({ s with heap := s.heap.push { cls := .type "list", data := .seq ([] : List Value).toArray } } : Shared).TypeIs (.ref it) "reversed" := IsRt.typeIs (s := { s with heap := s.heap.push { cls := .type "list", data := .seq ([] : List Value).toArray } }) hit1
  have q1 : Builtin.List.listSameRef (.ref s.heap.objs.size) (.ref it) = false := by simp [Builtin.List.listSameRef, nSi]
  show wpAny _ A.in1 (Builtin.List.listExtendWith (.ref s.heap.objs.size) (.ref it) (.ref s.heap.objs.size)) _ _ _
  unfold Builtin.List.listExtendWith
  refine wpAny_bind (wpAny_typeOf hT ?_)
  rw [if_neg (by rw [q1]; decide)]
  refine wpAny_bind (iter_rt (s := { s with heap := s.heap.push { cls := .type "list", data := .seq ([] : List Value).toArray } }) hit1 ?_)
  refine wpAny_bind (wpAny_holding ?_)
  unfold Builtin.List.listLengthHint
  refine wpAny_bind (wpAny_specialOf hT nolen_rt ?_)
  show wpAny _ A.in1 (specialOf (Value.ref it) (Str.ofString "__length_hint__") >>= _) _ _ _
  refine wpAny_bind (wpAny_specialOf hT hint_rt ?_)
  generalize hid : ("reversed.__length_hint__" : String) = id0
  wp_delta
  rw [show splitId id0 = some ("reversed", "__length_hint__") from by subst hid; decide +kernel]
  subst hid
  refine wpAny_bind (wpAny_isInstance (b := true) hT (by rw [isSubtype_type]; kernel_rfl) ?_)
  simp only [Bool.not_true, Bool.false_eq_true, ↓reduceIte]
  rw [if_neg (by decide +kernel)]
  refine wpAny_bind (wpAny_rule ?_)
  refine wpAny_bind (wpAny_of_eq (bind_rt_hint _) ?_)
  dsimp only
  have hh1 : A.in1.handled = none := hh
  refine wpAny_bind (wpAny_attempt (call_rt_hint hit1 ht1 hz fun tk u => ?_))
  have ea : asInt? (Value.int ((items.size : Nat) : Int) tk) = pure (some ((items.size : Nat) : Int)) := rfl
  simp only [ea, pure_bind]
  have z2 := hz
  rw [sizeLine_eq] at z2
  have f1 : Builtin.List.listFitsIndex ((items.size : Nat) : Int) = true := by
    unfold Builtin.List.listFitsIndex
    simp only [Bool.and_eq_true, decide_eq_true_eq]
    omega
  have f2 : ¬ (((items.size : Nat) : Int) < 0) := by omega
  have f3 : Builtin.List.listTooLong ((items.size : Nat) : Int).toNat = false := by
    unfold Builtin.List.listTooLong
    simp only [Int.toNat_natCast, decide_eq_false_iff_not]
    omega
  rw [f1]
  simp only [Bool.not_true, Bool.false_eq_true, ↓reduceIte]
  rw [if_neg f2, f3]
  simp only [Bool.false_eq_true, ↓reduceIte]
  refine wpAny_pure ?_
  have e0 : ((items.size : Nat) : Int) - 1 - ((0 : Nat) : Int) = (items.size : Int) - 1 := by omega
  split
  · refine wpAny_bind (wpAny_rule ?_)
    refine wpAny_bind ?_
    show wpAny _ A.in1 (updateSeq s.heap.objs.size (·.push .none) >>= fun _ => updateSeq s.heap.objs.size (·.pop)) _ _ _
    refine wpAny_bind (wpAny_updateSeq gS rfl ?_ (by rw [sizeLine_eq]; decide) (by rw [sizeLine_eq]; decide))
    have gS3 := Heap.get?_update_self (Obj.mapSeq (·.push Value.none)) gS rfl
    refine wpAny_updateSeq gS3 rfl ?_ (by rw [sizeLine_eq]; decide) (by rw [sizeLine_eq]; decide)
    have gS4 := Heap.get?_update_self (Obj.mapSeq (·.pop)) gS3 rfl
    have oth : ∀ b o, b ≠ s.heap.objs.size → (s.heap.push { cls := .type "list", data := .seq ([] : List Value).toArray }).get? b = some o → (((s.heap.push { cls := .type "list", data := .seq ([] : List Value).toArray }).update s.heap.objs.size (Obj.mapSeq (·.push Value.none))).update s.heap.objs.size (Obj.mapSeq (·.pop))).get? b = some o :=
      fun b o nb e => (Heap.get?_update_other _ _ (Ne.symm nb)).trans ((Heap.get?_update_other _ _ (Ne.symm nb)).trans e)
    refine wpAny_pure ⟨plainId_quiet F.plain_extend_loop _, codeAny_extend_loopS W hz _ nSf _ items.size 0 _ _ _ rfl (Nat.zero_le _) ⟨Nat.zero_le _, ?_, ?_⟩ gS4 (ItemsOf.nil _) fun s1 acc c1 hm hS1 hacc => ?_⟩
    · rw [e0]
      exact hit1.at fun o e => oth it o nSi.symm e
    · exact let ⟨o, e, z⟩ := ht1; ⟨o, oth t o nSt.symm e, z⟩
    · show wpAny _ A (load s.heap.objs.size >>= _) _ _ s1
      refine wpAny_bind (wpAny_load hS1 (wpAny_pure ?_))
      rw [Moved.eq_with hm]
      refine hQ s1.heap s1.toks acc (fun b o nb e => ?_) hacc
      have lt := Heap.lt_size e
      refine hm.heap b o (fun mm => ?_) (oth b o (Nat.ne_of_lt lt) (Heap.get?_push_of_some _ e))
      rcases List.mem_cons.mp mm with e' | mm
      · exact absurd lt (by rw [e']; exact Nat.lt_irrefl _)
      · exact nb (List.mem_singleton.mp mm)
  · have oth : ∀ b o, b ≠ s.heap.objs.size → (s.heap.push { cls := .type "list", data := .seq ([] : List Value).toArray }).get? b = some o → (s.heap.push { cls := .type "list", data := .seq ([] : List Value).toArray }).get? b = some o := fun b o _ e => e
    refine wpAny_pure ⟨plainId_quiet F.plain_extend_loop _, codeAny_extend_loopS W hz _ nSf _ items.size 0 _ _ _ rfl (Nat.zero_le _) ⟨Nat.zero_le _, ?_, ?_⟩ gS (ItemsOf.nil _) fun s1 acc c1 hm hS1 hacc => ?_⟩
    · rw [e0]
      exact hit1.at fun o e => oth it o nSi.symm e
    · exact let ⟨o, e, z⟩ := ht1; ⟨o, oth t o nSt.symm e, z⟩
    · show wpAny _ A (load s.heap.objs.size >>= _) _ _ s1
      refine wpAny_bind (wpAny_load hS1 (wpAny_pure ?_))
      rw [Moved.eq_with hm]
      refine hQ s1.heap s1.toks acc (fun b o nb e => ?_) hacc
      have lt := Heap.lt_size e
      refine hm.heap b o (fun mm => ?_) (oth b o (Nat.ne_of_lt lt) (Heap.get?_push_of_some _ e))
      rcases List.mem_cons.mp mm with e' | mm
      · exact absurd lt (by rw [e']; exact Nat.lt_irrefl _)
      · exact nb (List.mem_singleton.mp mm)
theorem code_tuple_rt {it t : Addr} {items : Array Value} {Q1 : Value → Shared → Prop} (hh : A.handled = none) (hit : IsRt s.heap it t ((items.size : Int) - 1)) (ht : IsTup s.heap t items) (ne : t ≠ it) (hz : items.size ≤ sizeLine)
    (hq : ∀ (h1 : Heap) (tk : Nat) (acc : Array Value), (∀ b o, b ≠ it → s.heap.get? b = some o → h1.get? b = some o) → ItemsOf (fun i v => items[items.size - 1 - i]? = some v) acc items.size →
      Q1 (.ref h1.objs.size) { s with heap := h1.push { cls := .type "tuple", data := .seq acc }, toks := tk }) :
    codeAny (model prog w) A (.call (.builtin "tuple.__new__") ⟨[.type "tuple", .ref it], []⟩) (wants Q1 E) s := by
  refine codeAny_of_tree ?_
  show wpAny _ A.in1 (do checkBuiltinCall "tuple.__new__" ⟨[.type "tuple", .ref it], []⟩; again (.builtin "tuple.__new__" ⟨[.type "tuple", .ref it], []⟩)) _ _ s
  refine wpAny_bind (wpAny_of_eq (F.newCall_tuple_1 _) (wpAny_pure ⟨plainId_quiet F.plain_tuple_new _, codeAny_builtin F.entry_tuple_new ?_⟩))
  rw [Around.under_plainId F.plain_tuple_new _]
  have hsub := sub_tuple_self
  have hinit := init_tuple_lookup
  have hmh := madeHere_tuple
  have hTI : s.TypeIs (.ref it) "reversed" := hit.typeIs
  have hh1 : A.in1.handled = none := hh
  wp_walk using wpAny_typeOf hTI, collect_rt (A := A.in1) hh1 hit ht ne hz
  intro h1 tk acc k hacc
  show wpAny _ _ (Builtin.Tuple.tupleExact acc.toList.toArray >>= fun v => ret v) _ _ _
  unfold Builtin.Tuple.tupleExact
  refine wpAny_bind (wpAny_newObj_type ?_ (by show acc.toList.toArray.size ≤ sizeLine; simp only [Array.toArray_toList]; rw [hacc.1]; exact hz))
  refine wpAny_pure ?_
  have e : acc.toList.toArray = acc := by simp
  rw [e]
  exact hq h1 tk acc k hacc
theorem call_tuple_rt {it t : Addr} {items : Array Value} {Q : Value → Shared → Prop} (hh : A.handled = none) (hit : IsRt s.heap it t ((items.size : Int) - 1)) (ht : IsTup s.heap t items) (ne : t ≠ it) (hz : items.size ≤ sizeLine)
    (hQ : ∀ (h1 : Heap) (tk : Nat) (acc : Array Value), (∀ b o, b ≠ it → s.heap.get? b = some o → h1.get? b = some o) → ItemsOf (fun i v => items[items.size - 1 - i]? = some v) acc items.size →
      Q (.ref h1.objs.size) { s with heap := h1.push { cls := .type "tuple", data := .seq acc }, toks := tk }) :
    wpAny (model prog w) A (call (.type "tuple") [.ref it]) Q E s := by
  refine callType_codes (Q₁ := fun ov s1 => s1.TypeIs ov "tuple" ∧ Q ov s1) F.called_tuple (F.typeCall_tuple_1 _) F.entry_object_init
    (code_tuple_rt (A := A.in1) hh hit ht ne hz fun h1 tk acc k hacc => ⟨⟨_, Heap.get?_push_size _ rfl, rfl⟩, hQ h1 tk acc k hacc⟩) fun ov s1 z => ?_
  exact ⟨z.1, F.args_object_init_2 ov _, object_init_meets F.called_tuple.init.lookup F.called_tuple.made (by decide) prog w A.in1 _ s1 ⟨z.1, rfl, z.2⟩⟩
end
section
variable {X : Cx}
/-- tuple(reversed(x)), x a tuple -/
def tTupRt (K : PySem.W.Frag) (te : TE) : TE := fun σ H Q => te σ H fun v H1 => ∃ (a : Addr) (xs : List V), v = .ref a ∧ SqT K H1 a xs ∧ ∀ q, H1 q = none → Q (.ref q) (upd H1 q (.tup xs.reverse))
theorem pe_tupRt {e : Expr} {te : TE} {p p2 pos pos2 : Pos} (hc : X.calm = true) (hg : Gl X "tuple") (hm : X.mg "tuple" = none) (hg2 : Gl X "reversed") (hm2 : X.mg "reversed" = none) (he : PE X e te)
    (hs : starEach [e] X.env = (false, eval e X.env) :: starEach [] X.env := by rfl)
    (hs2 : starEach [.Call (.Name "reversed" p2) [e] [] pos2] X.env = (false, eval (.Call (.Name "reversed" p2) [e] [] pos2) X.env) :: starEach [] X.env := by rfl) :
    PE X (.Call (.Name "tuple" p) [.Call (.Name "reversed" p2) [e] [] pos2] [] pos) (tTupRt X.K te) := by
  refine ⟨fun pins s σ H Q I h => ?_⟩
  refine Call_ (ld_blt I hg hm boot_tuple (PyProof.Rows.callWith_type1 (args_cons (Call_ (ld_blt I hg2 hm2 PyProof.Rows.boot_reversed (PyProof.Rows.callWith_type1 (args_cons (thn (he.run pins s σ H _ I h) fun u s1 ⟨v, H1, I1, r1, q1⟩ => args_nil ?_) hs) hs rfl))) hs2) hs2 rfl))
  obtain ⟨a, xs, ev, hq, q⟩ := q1
  subst ev
  obtain rfl : u = Value.ref a := r1
  obtain ⟨its, rv, p1, hz⟩ := I1.tuple hq
  have hn : its.toArray.size ≤ sizeLine := by rw [List.size_toArray, ← rv.length]; exact hz
  have hn2 := hn
  rw [sizeLine_eq] at hn2
  refine call_reversed_tup p1 (fun A E Q k => len_tuple p1 (by omega) k) (args_nil ?_)
  have I1' : Inv X pins σ H1 { s1 with toks := s1.toks + 1 + 1 } := I1.tok _
  have k0 : ∀ b o, s1.heap.get? b = some o → (s1.heap.push (rtObj a ((its.toArray.size : Int) - 1))).get? b = some o := fun b o e => Heap.get?_push_of_some _ e
  have I2 : Inv X pins σ H1 { s1 with heap := s1.heap.push (rtObj a ((its.toArray.size : Int) - 1)), toks := s1.toks + 1 + 1 } := I1.kept (t' := s1.toks + 1 + 1) k0
  obtain ⟨f0, f1, f2, f3, f4, f5⟩ := I1.fpOk (H' := H1) (b := s1.heap.objs.size) (Nat.le_refl _) (I1.hok.fresh (Nat.le_refl _))
  obtain ⟨ol, hol, hol2⟩ := id p1
  have ne : a ≠ s1.heap.objs.size := Nat.ne_of_lt (Heap.lt_size hol)
  refine call_tuple_rt (s := { s1 with heap := s1.heap.push (rtObj a ((its.toArray.size : Int) - 1)), toks := s1.toks + 1 + 1 }) (I1.ok.hd hc) ⟨_, Heap.get?_push_size _ rfl, rfl, rfl⟩ ⟨ol, k0 _ _ hol, hol2⟩ ne hn fun h1 tk acc hk hi => ?_
  have I3 : Inv X pins σ H1 { s1 with heap := h1, toks := tk } := I2.turned (t' := tk) (fun b o nb e => hk b o nb e) f0 f1 f3 f4 f5
  refine ⟨.ref h1.objs.size, upd H1 h1.objs.size (.tup xs.reverse), I3.laid (t' := tk) (fun c o e => Heap.get?_push_of_some _ e) (Nat.le_refl _) (show ObjOk X.prog X.w _ _ _ (.tup xs.reverse) from ⟨by rw [List.length_reverse]; exact hz, acc.toList, vals_rev rv hi, ?_⟩), rfl, q _ (I3.hok.fresh (Nat.le_refl _))⟩
  rw [Array.toArray_toList]
  exact IsTup.new _ _
end
end Wk

set_option maxHeartbeats 4000000
/-! My own layer: comprehensions with a test, over a list and over a dict; dict comprehensions; dicts; loops over tuples of three. -/
namespace Wk
open PySem PySem.Spec PyProof.Rows L2
section
variable {X : Cx} {e a b c elt kx vx : Expr} {es rest : List Expr} {σ : L2.St} {H : Hp} {Q : VK} {pos p0 : Pos} {N G G' : List Str} {Vn : List (Nat × Str)} {sc scope : Scope}
@[irreducible] def wBkT (X : Cx) (Vn : List (Nat × Str)) (G' : List Str) (c : Expr) (scope : Scope) : TT := fun σ H Q => ∀ s0 H0 C cl fp, InB (Bk X s0 H0 scope C cl fp) Vn G' → wT (Bk X s0 H0 scope C cl fp) c σ H Q
theorem pts_bk {s0 : Shared} {H0 : Hp} {C : Addr} {cl : List (Str × Addr)} {fp : List Addr} (I : InB (Bk X s0 H0 scope C cl fp) Vn G') : PTs (Bk X s0 H0 scope C cl fp) [c] (wBkT X Vn G' c scope) :=
  pts_one ⟨fun pins s σ H Q Iv h => by unfold wBkT at h; exact pt.run pins s σ H Q Iv (h s0 H0 C cl fp I)⟩
/-- what the turns ask where there is a test -/
def Turn1 (X : Cx) (Vn : List (Nat × Str)) (G' : List Str) (elt c : Expr) (scope : Scope) (i : Nat) (D : Addr) (σ : L2.St) (x : L2.V) (H2 : Hp) (Nx : Hp → Prop) : Prop :=
  ∀ s0 H0 C cl fp, InB (Bk X s0 H0 scope C cl fp) Vn G' → wT (Bk X s0 H0 scope C cl fp) c ((wipe σ [i]).set i (some x)) H2 fun b H3 =>
    if b = true then ∀ s0 H0 C cl fp, InB (Bk X s0 H0 scope C cl fp) Vn G' → wE (Bk X s0 H0 scope C cl fp) elt ((wipe σ [i]).set i (some x)) H3 fun y H4 => ∃ acc, H4 D = some (.lst acc) ∧ acc.length < sizeLine ∧ Nx (upd H4 D (.lst (acc ++ [y]))) else Nx H3
theorem turn1_of {i : Nat} {D : Addr} {x : L2.V} {H2 : Hp} {Nx : Hp → Prop} (q : Turn1 X Vn G' elt c scope i D σ x H2 Nx) : gName i x (wipe σ [i]) H2 fun σ2 H3 => wipe σ2 [i] = wipe σ [i] ∧ wBkT X Vn G' c scope σ2 H3 fun b H4 =>
    if b = true then wBk X Vn G' elt scope σ2 H4 fun y H5 => ∃ acc, H5 D = some (.lst acc) ∧ acc.length < sizeLine ∧ Nx (upd H5 D (.lst (acc ++ [y]))) else Nx H4 := by
  refine ⟨wipe_set σ i _, ?_⟩
  unfold wBkT
  intro s0 H0 C cl fp I
  refine t_mono (q s0 H0 C cl fp I) fun b H4 z => ?_
  cases b with
  | true =>
    unfold wBk
    exact iteT z
  | false => exact iteF z
def LcLf (X : Cx) (Vn : List (Nat × Str)) (G' : List Str) (elt c : Expr) (scope : Scope) (i : Nat) (ad : Addr) (xs : List L2.V) (D : Addr) (σ : L2.St) (H1 : Hp) (Qd : Hp → Prop) : Prop := ∃ Pv : Nat → Hp → Prop, Pv 0 (upd H1 D (.lst [])) ∧ (∀ k H2, k ≤ xs.length → Pv k H2 → SqL X.K H2 ad xs) ∧
  (∀ k x H2, xs[k]? = some x → Pv k H2 → Turn1 X Vn G' elt c scope i D σ x H2 (Pv (k + 1))) ∧ ∀ H2, Pv xs.length H2 → Qd H2
def LcDf (X : Cx) (Vn : List (Nat × Str)) (G' : List Str) (elt c : Expr) (scope : Scope) (i : Nat) (d : Addr) (o : Obj) (kvs : List (Key × L2.V)) (D : Addr) (σ : L2.St) (H1 : Hp) (Qd : Hp → Prop) : Prop := ∃ Pv : Nat → Hp → Prop, Pv 0 (upd H1 D (.lst [])) ∧ (∀ k H2, k ≤ kvs.length → Pv k H2 → H2 d = some (.frz o (.dK kvs))) ∧
  (∀ k y v H2, kvs[k]? = some (y, v) → Pv k H2 → Turn1 X Vn G' elt c scope i D σ (kV y) H2 (Pv (k + 1))) ∧ ∀ H2, Pv kvs.length H2 → Qd H2
theorem lcLf_of {i : Nat} {ad : Addr} {xs : List L2.V} {D : Addr} {H1 : Hp} {Qd : Hp → Prop} (q : LcLf X Vn G' elt c scope i ad xs D σ H1 Qd) : ∃ W : Nat → Nat → Hp → Prop, (∃ m, W 0 m (upd H1 D (.lst []))) ∧ ∀ k m H, W k m H →
    ((Itl X.K ad).stop k H ∧ Qd H) ∨ ((Itl X.K ad).go k H ∧ ∃ Nx : Hp → Prop, (∀ H', Nx H' → ∃ m', m' < m ∧ W (k + 1) m' H') ∧ ∀ x H', (Itl X.K ad).yld k H x H' → gName i x (wipe σ [i]) H' fun σ2 H2 => wipe σ2 [i] = wipe σ [i] ∧ wBkT X Vn G' c scope σ2 H2 fun b H3 =>
      if b = true then wBk X Vn G' elt scope σ2 H3 fun y H4 => ∃ acc, H4 D = some (.lst acc) ∧ acc.length < sizeLine ∧ Nx (upd H4 D (.lst (acc ++ [y]))) else Nx H3) := by
  obtain ⟨Pv, h0, hl, hs, hd⟩ := q
  exact lc_list Pv h0 hl (fun k x H hk p => turn1_of (hs k x H hk p)) hd
theorem lcDf_of {i : Nat} {d : Addr} {o : Obj} {kvs : List (Key × L2.V)} {D : Addr} {H1 : Hp} {Qd : Hp → Prop} (q : LcDf X Vn G' elt c scope i d o kvs D σ H1 Qd) : ∃ W : Nat → Nat → Hp → Prop, (∃ m, W 0 m (upd H1 D (.lst []))) ∧ ∀ k m H, W k m H →
    ((Itk d o kvs).stop k H ∧ Qd H) ∨ ((Itk d o kvs).go k H ∧ ∃ Nx : Hp → Prop, (∀ H', Nx H' → ∃ m', m' < m ∧ W (k + 1) m' H') ∧ ∀ x H', (Itk d o kvs).yld k H x H' → gName i x (wipe σ [i]) H' fun σ2 H2 => wipe σ2 [i] = wipe σ [i] ∧ wBkT X Vn G' c scope σ2 H2 fun b H3 =>
      if b = true then wBk X Vn G' elt scope σ2 H3 fun y H4 => ∃ acc, H4 D = some (.lst acc) ∧ acc.length < sizeLine ∧ Nx (upd H4 D (.lst (acc ++ [y]))) else Nx H3) := by
  obtain ⟨Pv, h0, hl, hs, hd⟩ := q
  refine ⟨fun k m H => m = kvs.length - k ∧ k ≤ kvs.length ∧ Pv k H, ⟨kvs.length, rfl, Nat.zero_le _, h0⟩, ?_⟩
  rintro k m H ⟨rfl, hk, p⟩
  have fz := hl k H hk p
  by_cases lt : k < kvs.length
  · refine .inr ⟨⟨fz, lt⟩, Pv (k + 1), fun H' p' => ⟨kvs.length - (k + 1), by omega, rfl, lt, p'⟩, fun x H' y => ?_⟩
    obtain ⟨rfl, ky, v, hkv, rfl⟩ := y
    exact turn1_of (hs k ky v _ hkv p)
  · have ek : k = kvs.length := by omega
    subst ek
    exact .inl ⟨⟨fz, Nat.le_refl _⟩, hd H p⟩
theorem e_lcLf {i : Nat} {x : Str} {px : Pos} (B : BkOk X.N Vn G' i x sc scope)
    (q : wE X a σ H fun v H1 => ∃ ad xs, v = .ref ad ∧ SqL X.K H1 ad xs ∧ ∀ D, H1 D = none → LcLf X Vn G' elt c scope i ad xs D σ H1 fun H2 => Q (.ref D) H2)
    (I : In X N G sc := by assumption) (hc : X.calm = true := by rfl) (hs2 : ∀ z, foldedSetIterable a X.env z = pure z := by intro _; rfl) :
    wE X (.ListComp elt [⟨.Name x px, a, [c], 0⟩] scope pos) σ H Q := by
  refine e_of (pe_lc (own := [(x, i)]) (g := gName i) (tt := wBkT X Vn G' c scope) (te := wBk X Vn G' elt scope) hc I.nd (pi_list pe) (B.ok I) (fun s H C cl fp => B.pg I s H C cl fp) (fun s H C cl fp => pts_bk (B.inB I s H C cl fp)) (fun s H C cl fp => pe_bk (B.inB I s H C cl fp)) hs2) (e_mono q fun v H1 q1 => ?_)
  obtain ⟨ad, xs, rfl, hl, q2⟩ := q1
  exact ⟨ad, rfl, ⟨xs, hl⟩, fun D hD => lcLf_of (q2 D hD)⟩
theorem s_lcLf {nx : L2.St → Hp → Prop} {rt : VK} {bk ct : L2.St → Hp → Prop} {i j : Nat} {x y : Str} {px py spos : Pos} (B : BkOk X.N Vn G' i x sc scope)
    (q : wE X a σ H fun v H1 => ∃ ad xs, v = .ref ad ∧ SqL X.K H1 ad xs ∧ ∀ D, H1 D = none → LcLf X Vn G' elt c scope i ad xs D σ H1 fun H2 => nx (σ.set j (some (.ref D))) H2)
    (I : In X N G sc := by assumption) (hc : X.calm = true := by rfl) (hA : At N j y := by repeat (first | with_reducible apply At.z | with_reducible apply At.s))
    (hk : X.env.scope.kind = .function := by rfl) (hy : X.env.scope.names.lookup y = some .local := by rfl) (hl : (py.line == pos.line) = true := by rfl) (ha : (scope.names.any fun (n, k) => n == y && (k == .local || k == .cell)) = false := by decide +kernel) (hs2 : ∀ z, foldedSetIterable a X.env z = pure z := by intro _; rfl) :
    wS X (.Assign [.Name y py] (.ListComp elt [⟨.Name x px, a, [c], 0⟩] scope pos) spos) ⟨nx, rt, bk, ct⟩ σ H := by
  refine s_of (ps_setLc (own := [(x, i)]) (g := gName i) (tt := wBkT X Vn G' c scope) (te := wBk X Vn G' elt scope) hc I.nd (I.hi hA) hy (sw_true hk hy hl ha) (pi_list pe) (B.ok I) (fun s H C cl fp => B.pg I s H C cl fp) (fun s H C cl fp => pts_bk (B.inB I s H C cl fp)) (fun s H C cl fp => pe_bk (B.inB I s H C cl fp)) hs2) (e_mono q fun v H1 q1 => ?_)
  obtain ⟨ad, xs, rfl, hl, q2⟩ := q1
  exact ⟨ad, rfl, ⟨xs, hl⟩, fun D hD => lcLf_of (q2 D hD)⟩
/-- [elt for x in d if c], d a dict that stands at ad -/
theorem e_lcDf {i : Nat} {x : Str} {px : Pos} {ad : Addr} {kvs : List (Key × L2.V)} (B : BkOk X.N Vn G' i x sc scope) (hd : H ad = some (.dK kvs))
    (q : ∀ o, wE X a σ (upd H ad (.frz o (.dK kvs))) fun v H1 => v = .ref ad ∧ H1 ad = some (.frz o (.dK kvs)) ∧ ∀ D, H1 D = none → LcDf X Vn G' elt c scope i ad o kvs D σ H1 fun H2 => H2 ad = some (.frz o (.dK kvs)) ∧ Q (.ref D) (upd H2 ad (.dK kvs)))
    (I : In X N G sc := by assumption) (hc : X.calm = true := by rfl) (hs2 : ∀ z, foldedSetIterable a X.env z = pure z := by intro _; rfl) :
    wE X (.ListComp elt [⟨.Name x px, a, [c], 0⟩] scope pos) σ H Q := by
  refine e_of (pe_lock (pe_lc (own := [(x, i)]) (g := gName i) (tt := wBkT X Vn G' c scope) (te := wBk X Vn G' elt scope) hc I.nd (pi_keys pe) (B.ok I) (fun s H C cl fp => B.pg I s H C cl fp) (fun s H C cl fp => pts_bk (B.inB I s H C cl fp)) (fun s H C cl fp => pe_bk (B.inB I s H C cl fp)) hs2)) ?_
  refine ⟨ad, .dK kvs, hd, trivial, fun o => e_mono (q o) fun v H1 q1 => ?_⟩
  obtain ⟨rfl, h1, q2⟩ := q1
  exact ⟨ad, o, rfl, .inl ⟨kvs, h1, fun D hD => lcDf_of (q2 D hD)⟩⟩
end
end Wk
namespace Wk
open PySem PySem.Spec PyProof.Rows L2
section
variable {X : Cx} {e a b c elt kx vx o : Expr} {es rest : List Expr} {σ : L2.St} {H : Hp} {Q : VK} {pos p0 apos : Pos} {N G G' : List Str} {Vn : List (Nat × Str)} {sc scope : Scope}
theorem sw_trueD {gs : List Comprehension} {py : Pos} {y : Str} {l : Nat} {env : Env} (hk : env.scope.kind = .function) (hy : env.scope.names.lookup y = some .local) (hl : (py.line == pos.line) = true)
    (ha : (scope.names.any fun (n, k) => n == y && (k == .local || k == .cell)) = false) : swapsWith (.DictComp kx vx gs scope pos) (some (.Name y py)) l env = pure true := by
  have ky : env.kindOf y = some .local := hy
  have hb : env.blockKind = .function := by unfold Env.blockKind; rw [hk]; rfl
  unfold swapsWith
  simp only [hb, ky, ha, Expr.pos, hl]
  rfl
theorem ps_setDc {i : Nat} {y : Str} {py : Pos} {tg iter : Expr} {ifs : List Expr} {own : List (Str × Nat)} {spos : Pos} {wi : TI} {g : TG} {tt : TT} {tk tv : TE} (hc : X.calm = true) (hN : X.N.Nodup) (hy : X.N[i]? = some y) (hyl : X.env.scope.names.lookup y = some .local)
    (hsw : swapsWith (.DictComp kx vx [⟨tg, iter, ifs, 0⟩] scope pos) (some (.Name y py)) spos.line X.env = pure true) (hi : PI X tg iter wi) (ok : BlkOk X.N X.env.scope scope own)
    (hg : ∀ (s : Shared) (H : Hp) (C : Addr) (cl : List (Str × Addr)) (fp : List Addr), PG (X.blk s H scope (compEnvC scope cl C X.env) fp) tg g) (ht : ∀ (s : Shared) (H : Hp) (C : Addr) (cl : List (Str × Addr)) (fp : List Addr), PTs (X.blk s H scope (compEnvC scope cl C X.env) fp) ifs tt)
    (hkx : ∀ (s : Shared) (H : Hp) (C : Addr) (cl : List (Str × Addr)) (fp : List Addr), PE (X.blk s H scope (compEnvC scope cl C X.env) fp) kx tk)
    (hvx : ∀ (s : Shared) (H : Hp) (C : Addr) (cl : List (Str × Addr)) (fp : List Addr), PE (X.blk s H scope (compEnvC scope cl C X.env) fp) vx tv) (hs : ∀ x, foldedSetIterable iter X.env x = pure x) :
    PS X (.Assign [.Name y py] (.DictComp kx vx [⟨tg, iter, ifs, 0⟩] scope pos) spos) (tAsg (tDc wi g tt tk tv (own.map (·.2))) (gName i)) := by
  refine ⟨fun pins s σ H D I h => ?_⟩
  rw [exec_Assign_Name_used _ _ _ _ hsw]
  refine wpAny_bind (wpAny_standAt (wpAny_bind ?_))
  show wpAny _ X.A (do let _ ← comprehension (.DictComp kx vx [⟨tg, iter, ifs, 0⟩] scope pos) scope X.env (firstIterPos [⟨tg, iter, ifs, 0⟩] pos) newDict false (eval iter X.env) (some (assign (.Name y py) X.env))) _ _ s
  have h : tDc wi g tt tk tv (own.map (·.2)) σ H (fun x H1 => gName i x σ H1 D.nx) := h
  refine wpAny_bind (thn (dc_core (Qf := fun _ s' => SP X pins D .next s') hc hN I hi ok hg ht hkx hvx hs h fun L C s' m H' I' q hn f => ?_) fun _ s' hq => wpAny_pure (wpAny_pure hq))
  show wpAny _ _ (assign (.Name y py) X.env (.ref L)) _ _ _
  refine wpAny_assign_Name (store_ok2 (v := V.ref L) I' hN hy (.inl hyl) rfl (fun s2 I2 ⟨ad, sb, had⟩ => ?_) (.inr hyl))
  obtain ⟨f0, f1, f2, f3, f4, f5⟩ := f
  have nC : C ≠ ad := by
    rcases had with z | z
    · rw [z]; exact f1
    · exact fun e => f4 y ad z e.symm
  exact ⟨m, hn.sameBut sb nC, fun h3 sb3 => ⟨_, H', I2.turned (t' := s2.toks) (fun b o hb e => (sb3.2 b hb).trans e) f0 f1 f3 f4 f5, q⟩⟩
/-- d = {k: v for x in a}, a a list that stays -/
def DcL (X : Cx) (Vn : List (Nat × Str)) (G' : List Str) (kx vx : Expr) (scope : Scope) (i : Nat) (ad : Addr) (xs : List L2.V) (D : Addr) (σ : L2.St) (H1 : Hp) (Qd : Hp → Prop) : Prop := ∃ Pv : Nat → Hp → Prop, Pv 0 (upd H1 D (.dK [])) ∧ (∀ k H2, k ≤ xs.length → Pv k H2 → SqL X.K H2 ad xs) ∧
  (∀ k x H2, xs[k]? = some x → Pv k H2 → ∀ s0 H0 C cl fp, InB (Bk X s0 H0 scope C cl fp) Vn G' → wE (Bk X s0 H0 scope C cl fp) kx ((wipe σ [i]).set i (some x)) H2 fun y H3 => ∀ s0 H0 C cl fp, InB (Bk X s0 H0 scope C cl fp) Vn G' →
    wE (Bk X s0 H0 scope C cl fp) vx ((wipe σ [i]).set i (some x)) H3 fun z H4 => ∃ kvs ky, y = kV ky ∧ H4 D = some (.dK kvs) ∧ kvs.length < sizeLine ∧ Pv (k + 1) (upd H4 D (.dK (putK kvs ky z)))) ∧
  ∀ H2, Pv xs.length H2 → Qd H2
theorem dcL_of {i : Nat} {ad : Addr} {xs : List L2.V} {D : Addr} {H1 : Hp} {Qd : Hp → Prop} (q : DcL X Vn G' kx vx scope i ad xs D σ H1 Qd) : ∃ W : Nat → Nat → Hp → Prop, (∃ m, W 0 m (upd H1 D (.dK []))) ∧ ∀ k m H, W k m H →
    ((Itl X.K ad).stop k H ∧ Qd H) ∨ ((Itl X.K ad).go k H ∧ ∃ Nx : Hp → Prop, (∀ H', Nx H' → ∃ m', m' < m ∧ W (k + 1) m' H') ∧ ∀ x H', (Itl X.K ad).yld k H x H' → gName i x (wipe σ [i]) H' fun σ2 H2 => wipe σ2 [i] = wipe σ [i] ∧ tYes σ2 H2 fun b H3 =>
      if b = true then wBk X Vn G' kx scope σ2 H3 fun y H4 => wBk X Vn G' vx scope σ2 H4 fun z H5 => ∃ kvs k, y = kV k ∧ H5 D = some (.dK kvs) ∧ kvs.length < sizeLine ∧ Nx (upd H5 D (.dK (putK kvs k z))) else Nx H3) := by
  obtain ⟨Pv, h0, hl, hs, hd⟩ := q
  refine ⟨fun k m H => m = xs.length - k ∧ k ≤ xs.length ∧ Pv k H, ⟨xs.length, rfl, Nat.zero_le _, h0⟩, ?_⟩
  rintro k m H ⟨rfl, hk, p⟩
  have sq := hl k H hk p
  by_cases lt : k < xs.length
  · refine .inr ⟨⟨xs, xs[k], sq, by simp [lt]⟩, Pv (k + 1), fun H' p' => ⟨xs.length - (k + 1), by omega, rfl, lt, p'⟩, fun x H' y => ?_⟩
    obtain ⟨rfl, y⟩ := y
    refine ⟨wipe_set σ i _, ?_⟩
    unfold tYes
    refine iteT ?_
    unfold wBk
    intro s0 H0 C cl fp I
    exact hs k x _ (y xs sq) p s0 H0 C cl fp I
  · have ek : k = xs.length := by omega
    subst ek
    exact .inl ⟨⟨xs, sq, Nat.le_refl _⟩, hd H p⟩
theorem s_dcL {nx : L2.St → Hp → Prop} {rt : VK} {bk ct : L2.St → Hp → Prop} {i j : Nat} {x y : Str} {px py spos : Pos} (B : BkOk X.N Vn G' i x sc scope)
    (q : wE X a σ H fun v H1 => ∃ ad xs, v = .ref ad ∧ SqL X.K H1 ad xs ∧ ∀ D, H1 D = none → DcL X Vn G' kx vx scope i ad xs D σ H1 fun H2 => nx (σ.set j (some (.ref D))) H2)
    (I : In X N G sc := by assumption) (hc : X.calm = true := by rfl) (hA : At N j y := by repeat (first | with_reducible apply At.z | with_reducible apply At.s))
    (hk : X.env.scope.kind = .function := by rfl) (hy : X.env.scope.names.lookup y = some .local := by rfl) (hl : (py.line == pos.line) = true := by rfl) (ha : (scope.names.any fun (n, k) => n == y && (k == .local || k == .cell)) = false := by decide +kernel) (hs2 : ∀ z, foldedSetIterable a X.env z = pure z := by intro _; rfl) :
    wS X (.Assign [.Name y py] (.DictComp kx vx [⟨.Name x px, a, [], 0⟩] scope pos) spos) ⟨nx, rt, bk, ct⟩ σ H := by
  refine s_of (ps_setDc (own := [(x, i)]) (g := gName i) (tt := tYes) (tk := wBk X Vn G' kx scope) (tv := wBk X Vn G' vx scope) hc I.nd (I.hi hA) hy (sw_trueD hk hy hl ha) (pi_list pe) (B.ok I) (fun s H C cl fp => B.pg I s H C cl fp) (fun _ _ _ _ _ => pts_nil) (fun s H C cl fp => pe_bk (B.inB I s H C cl fp)) (fun s H C cl fp => pe_bk (B.inB I s H C cl fp)) hs2) (e_mono q fun v H1 q1 => ?_)
  obtain ⟨ad, xs, rfl, hl, q2⟩ := q1
  exact ⟨ad, rfl, ⟨xs, hl⟩, fun D hD => dcL_of (q2 D hD)⟩
theorem e_dcL {i : Nat} {x : Str} {px : Pos} (B : BkOk X.N Vn G' i x sc scope)
    (q : wE X a σ H fun v H1 => ∃ ad xs, v = .ref ad ∧ SqL X.K H1 ad xs ∧ ∀ D, H1 D = none → DcL X Vn G' kx vx scope i ad xs D σ H1 fun H2 => Q (.ref D) H2)
    (I : In X N G sc := by assumption) (hc : X.calm = true := by rfl) (hs2 : ∀ z, foldedSetIterable a X.env z = pure z := by intro _; rfl) :
    wE X (.DictComp kx vx [⟨.Name x px, a, [], 0⟩] scope pos) σ H Q := by
  refine e_of (pe_dc (own := [(x, i)]) (g := gName i) (tt := tYes) (tk := wBk X Vn G' kx scope) (tv := wBk X Vn G' vx scope) hc I.nd (pi_list pe) (B.ok I) (fun s H C cl fp => B.pg I s H C cl fp) (fun _ _ _ _ _ => pts_nil) (fun s H C cl fp => pe_bk (B.inB I s H C cl fp)) (fun s H C cl fp => pe_bk (B.inB I s H C cl fp)) hs2) (e_mono q fun v H1 q1 => ?_)
  obtain ⟨ad, xs, rfl, hl, q2⟩ := q1
  exact ⟨ad, rfl, ⟨xs, hl⟩, fun D hD => dcL_of (q2 D hD)⟩
/-- for x, y, z in t, a tuple of triples -/
theorem s_forT3 {nx : L2.St → Hp → Prop} {rt : VK} {bk ct : L2.St → Hp → Prop} {x y z : Str} {i j k : Nat} {body : List Stmt} {px py pz pt : Pos} {kk : Nat}
    (q : wE X a σ H fun v H1 => ∃ ad xs, v = .ref ad ∧ SqT X.K H1 ad xs ∧ ∃ Pv : Nat → L2.St → Hp → Prop, Pv 0 σ H1 ∧ (∀ n σ H, n ≤ xs.length → Pv n σ H → SqT X.K H ad xs) ∧
      (∀ n u σ H, xs[n]? = some u → Pv n σ H → ∃ t u1 u2 u3, u = .ref t ∧ SqT X.K H t [u1, u2, u3] ∧ wL X body ⟨Pv (n + 1), rt, nx, Pv (n + 1)⟩ (((σ.set i (some u1)).set j (some u2)).set k (some u3)) H) ∧ ∀ σ H, Pv xs.length σ H → nx σ H)
    (I : In X N G sc := by assumption) (hc : X.calm = true := by rfl) (hA : At N i x := by repeat (first | with_reducible apply At.z | with_reducible apply At.s)) (hB : At N j y := by repeat (first | with_reducible apply At.z | with_reducible apply At.s)) (hC : At N k z := by repeat (first | with_reducible apply At.z | with_reducible apply At.s))
    (hs2 : ∀ z, foldedSetIterable a X.env z = pure z := by intro _; rfl) :
    wS X (.For (.Tuple [.Name x px, .Name y py, .Name z pz] kk pt) a body [] pos) ⟨nx, rt, bk, ct⟩ σ H := by
  refine s_of (ps_for I.never hc (pi_tup pe) (pg_tup hc (pgs_cons (pg_name I.nd (I.hi hA) (I.loc hA) I.f) (pgs_cons (pg_name I.nd (I.hi hB) (I.loc hB) I.f) (pgs_cons (pg_name I.nd (I.hi hC) (I.loc hC) I.f) pgs_nil)))) pl hs2) (e_mono q fun v H1 q1 => ?_)
  obtain ⟨ad, xs, rfl, hl, Pv, h0, hk, hb, hd⟩ := q1
  refine ⟨ad, rfl, ⟨xs, hl⟩, for_tup Pv h0 hk (fun n u σ H hu p => ?_) hd⟩
  obtain ⟨t, u1, u2, u3, rfl, hq, z⟩ := hb n u σ H hu p
  exact ⟨t, [u1, u2, u3], rfl, hq, rfl, u1, [u2, u3], rfl, u2, [u3], rfl, u3, [], rfl, rfl, z⟩
end
end Wk

set_option maxHeartbeats 4000000
/-! My own layer: dicts, membership, least and greatest of a list, and the like. -/
namespace Wk
open PySem PySem.Spec PyProof.Rows L2
section
variable {X : Cx} {e a b c f o i : Expr} {es rest : List Expr} {σ : L2.St} {H : Hp} {Q : VK} {pos p0 apos : Pos} {N G G' : List Str} {Vn : List (Nat × Str)} {sc scope : Scope} {n : Nat}
theorem e_dg (hr : Room n X.A) (q : wE X o σ H fun x H1 => wE X i σ H1 fun y H2 => ∃ a v, x = .ref a ∧ DGet H2 a y (some v) ∧ Q v H2) (hs : NoSl i := by intro _ _; rfl) : wE X (.Subscript o i pos) σ H Q := e_of (pe_dget (hu_of hr) pe pe hs) q
theorem dg_k {ad : Addr} {kvs : List (Key × L2.V)} {z : Str} {v : L2.V} (h : H ad = some (.dK kvs)) (e : valV kvs (Sum.inr z) = some v) : DGet H ad (.str z) (some v) := by
  have g := DGet.k (k := (Sum.inr z : Key)) h
  rw [e] at g
  exact g
theorem dg_f {ad : Addr} {ob : Obj} {kvs : List (Key × L2.V)} {z : Str} {v : L2.V} (h : H ad = some (.frz ob (.dK kvs))) (e : valV kvs (Sum.inr z) = some v) : DGet H ad (.str z) (some v) :=
  .inl ⟨kvs, Sum.inr z, .inr ⟨ob, h⟩, rfl, e.symm⟩
theorem e_dget2 (hr : Room n X.A) (q : wE X o σ H fun x H1 => ∃ a, x = .ref a ∧ IsD H1 a ∧ wE X e σ H1 fun y H2 => wE X f σ H2 fun z H3 => ∃ o, DGet H3 a y o ∧ Q (o.getD z) H3)
    (m : M2 X o "get" apos e f pos := by exact ⟨rfl, rfl, rfl, rfl⟩) : wE X (.Call (.Attribute o "get" apos) [e, f] [] pos) σ H Q := e_of (pe_dget2 (hu_of hr) pe pe pe m) q
theorem e_dnew (q : ∀ p, H p = none → Q (.ref p) (upd H p (.dK []))) : wE X (.Dict [] [] pos) σ H Q := e_of pe_dnewK q
theorem o_in {x : L2.V} {p : Addr} {xs : List L2.V} (h : SqL X.K H p xs) (hx : flatV x = true) (hs : xs.all flatV = true) (q : Q (.bl (inV x xs)) H) : wK X .In x (.ref p) H Q := k_of op_in_seq ⟨p, xs, rfl, .inl h, hx, hs, q⟩
theorem o_nin {x : L2.V} {p : Addr} {xs : List L2.V} (h : SqL X.K H p xs) (hx : flatV x = true) (hs : xs.all flatV = true) (q : Q (.bl (!inV x xs)) H) : wK X .NotIn x (.ref p) H Q := k_of op_notIn_seq ⟨p, xs, rfl, .inl h, hx, hs, q⟩
theorem o_inS {c : Nat} {z : Str} (q : Q (.bl (decide (c ∈ z.cps.toList))) H) : wK X .In (.str ⟨#[c]⟩) (.str z) H Q := k_of op_in_sign ⟨c, z, rfl, rfl, q⟩
theorem c_minL {p : Addr} {ns : List Int} (hc : X.calm = true) (h : SqL X.K H p (ns.map V.int)) (h0 : 0 < ns.length) {m0 : Int} (h1 : m0 ∈ ns) (h2 : ∀ y ∈ ns, m0 ≤ y) (q : Q (.int m0) H) : wC X (.builtin "min") [.ref p] H Q :=
  c_of (cr_min hc) ⟨p, ns, rfl, h, h0, fun m hm hle => by
    have e : m = m0 := Int.le_antisymm (hle m0 h1) (h2 m hm)
    rw [e]
    exact q⟩
theorem c_maxL {p : Addr} {ns : List Int} (hc : X.calm = true) (h : SqL X.K H p (ns.map V.int)) (h0 : 0 < ns.length) {m0 : Int} (h1 : m0 ∈ ns) (h2 : ∀ y ∈ ns, y ≤ m0) (q : Q (.int m0) H) : wC X (.builtin "max") [.ref p] H Q :=
  c_of (cr_max hc) ⟨p, ns, rfl, h, h0, fun m hm hle => by
    have e : m = m0 := Int.le_antisymm (h2 m hm) (hle m0 h1)
    rw [e]
    exact q⟩
theorem c_setTx {l : Addr} {zs : List Str} (hc : X.calm = true) (h : SqL X.K H l (zs.map V.str)) (hb : zs.length + 1 < scanBound) (q : ∀ p, H p = none → Q (.ref p) (upd H p (SetTO X.w p (uniqL zs)))) : wC X (.type "set") [.ref l] H Q := c_of (cr_setOfTx hc) ⟨l, zs, rfl, h, hb, q⟩
theorem c_sortedTx {p : Addr} {L : List Str} (hc : X.calm = true) (h : H p = some (SetTO X.w p L)) (h64 : L.length < 64) (q : ∀ (ys : List Str) (l : Addr) H2, ys.Perm L → sortedS ys = true → Same H H2 → H l = none → H2 l = some (.lst (ys.map V.str)) → Q (.ref l) H2) : wC X (.builtin "sorted") [.ref p] H Q :=
  c_of (cr_sortedTx hc) ⟨p, L, rfl, h, h64, fun ys l pm hs np => q ys l _ pm hs (fun b o eo => by rw [upd_ne (ne_of_none eo np)]; exact eo) np upd_same⟩
theorem c_sortedL {p : Addr} {zs : List Str} (h : SqL X.K H p (zs.map V.str)) (h64 : zs.length < 64) (q : ∀ (ys : List Str) (l : Addr) H2, ys.Perm zs → sortedS ys = true → Same H H2 → H l = none → H2 l = some (.lst (ys.map V.str)) → Q (.ref l) H2) : wC X (.builtin "sorted") [.ref p] H Q :=
  c_of cr_sortedS ⟨p, zs, rfl, h, h64, fun ys l pm hs np => q ys l _ pm hs (fun b o eo => by rw [upd_ne (ne_of_none eo np)]; exact eo) np upd_same⟩
theorem c_tupL {p : Addr} {xs : List L2.V} (h : SqL X.K H p xs) (q : ∀ l H2, Same H H2 → H l = none → H2 l = some (.tup xs) → Q (.ref l) H2) : wC X (.type "tuple") [.ref p] H Q :=
  c_of call_tuple_of ⟨p, xs, rfl, .inl ⟨h, fun l np => q l _ (fun b o eo => by rw [upd_ne (ne_of_none eo np)]; exact eo) np upd_same⟩⟩
theorem c_strI {k : Int} (h : k.natAbs.log2 < 1920) (q : Q (.str (toString k)) H) : wC X (.type "str") [.int k] H Q := c_of call_str_int ⟨k, rfl, h, q⟩
theorem c_intB {k : Bool} (q : Q (.int (if k then 1 else 0)) H) : wC X (.type "int") [.bl k] H Q := c_of call_int1 (.inr ⟨k, rfl, q⟩)
theorem e_tupRev {g1 g2 : Nat} {p p2 pos2 : Pos} (hm : X.mg "tuple" = none) (hm2 : X.mg "reversed" = none) (q : wE X e σ H fun v H1 => ∃ (a : Addr) (xs : List L2.V), v = .ref a ∧ SqT X.K H1 a xs ∧ ∀ q H2, Same H1 H2 → H1 q = none → H2 q = some (.tup xs.reverse) → Q (.ref q) H2)
    (I : In X N G sc := by assumption) (hc : X.calm = true := by rfl) (hG : At G g1 ("tuple" : Str) := by repeat (first | with_reducible apply At.z | with_reducible apply At.s)) (hG2 : At G g2 ("reversed" : Str) := by repeat (first | with_reducible apply At.z | with_reducible apply At.s))
    (hs : starEach [e] X.env = (false, eval e X.env) :: starEach [] X.env := by rfl) (hs2 : starEach [.Call (.Name "reversed" p2) [e] [] pos2] X.env = (false, eval (.Call (.Name "reversed" p2) [e] [] pos2) X.env) :: starEach [] X.env := by rfl) :
    wE X (.Call (.Name "tuple" p) [.Call (.Name "reversed" p2) [e] [] pos2] [] pos) σ H Q :=
  e_of (pe_tupRt hc (I.g hG) hm (I.g hG2) hm2 pe hs hs2) (e_mono q fun v H1 ⟨a, xs, ev, hq, z⟩ => ⟨a, xs, ev, hq, fun l np => z l _ (fun b o eo => by rw [upd_ne (ne_of_none eo np)]; exact eo) np upd_same⟩)
theorem e_clear (q : wE X o σ H fun x H1 => ∃ l xs, x = .ref l ∧ H1 l = some (.lst xs) ∧ Q .non (upd H1 l (.lst [])))
    (hbase : attributeBase o "clear" X.env (eval o X.env) = eval o X.env := by rfl) (hline : (apos.endLine == pos.line) = true := by rfl) : wE X (.Call (.Attribute o "clear" apos) [] [] pos) σ H Q := by
  refine e_of (pe_bm0 PySem.F.plainAttrs_list PySem.F.slot_list_clear PySem.F.type_list_clear mt_clear pe hbase hline) (e_mono q fun x H1 z => ?_)
  obtain ⟨l, xs, rfl, h1, h2⟩ := z
  exact ⟨.inl ⟨rfl, _, SqL.of h1⟩, l, xs, rfl, rfl, h1, h2⟩
theorem b_callTy {g : Nat} {x : Str} {T : String} (hm : X.mg x = none) (hv : bootBuiltins x = some (.type T)) (q : wA X (e :: es) σ H fun vs H1 => wC X (.type T) vs H1 Q) (I : InB X Vn G := by assumption) (hG : At G g x := by repeat (first | with_reducible apply At.z | with_reducible apply At.s))
    (he : starEach (e :: es) X.env = (false, eval e X.env) :: starEach es X.env := by rfl) (hpl : (backTo pos (starEach es X.env)).any (·.1) = false := by rfl) : wE X (.Call (.Name x p0) (e :: es) [] pos) σ H Q := e_of (pe_callTy cr (I.g hG) hm hv pa (I.gn hG) (I.gd hG) he hpl) q
theorem b_bltn {g : Nat} {x : Str} {v : L2.V} {u : Value} (hm : X.mg x = none) (hv : bootBuiltins x = some u) (r : RelV v u) (q : Q v H) (I : InB X Vn G := by assumption) (hG : At G g x := by repeat (first | with_reducible apply At.z | with_reducible apply At.s)) : wE X (.Name x pos) σ H Q := e_of (pe_bltn (I.g hG) hm hv r (I.gn hG) (I.gd hG)) q
theorem o_eqD {x y : L2.V} {d e : PyData} (hr : Room n X.A) (h1 : Dp X.K H x d) (h2 : Dp X.K H y e) (s1 : SeqAt.shaped d = true) (s2 : SeqAt.shaped e = true) (q : Q (.bl (PyData.eqv d e)) H) : wK X .Eq x y H Q := k_of (op_eqD hr.units) ⟨d, e, h1, h2, s1, s2, q⟩
theorem o_neD {x y : L2.V} {d e : PyData} (hr : Room n X.A) (h1 : Dp X.K H x d) (h2 : Dp X.K H y e) (s1 : SeqAt.shaped d = true) (s2 : SeqAt.shaped e = true) (q : Q (.bl (!PyData.eqv d e)) H) : wK X .NotEq x y H Q := k_of (op_neD hr.units) ⟨d, e, h1, h2, s1, s2, q⟩
theorem b_set : bootBuiltins "set" = some (.type "set") := by decide +kernel
theorem b_sorted : bootBuiltins "sorted" = some (.builtin "sorted") := by decide +kernel
theorem ixr_d (hu : X.A.units + 1 < cLine) : IxR X (fun x y H Q => ∃ a v, x = .ref a ∧ DGet H a y (some v) ∧ Q v H) := by
  intro value slice pins s σ H x y v u Q I rx ry h hs
  obtain ⟨ad, z, rfl, g, q⟩ := h
  cases rx
  have hT := dict_typeIs I g
  unfold subscriptTail
  refine wpAny_bind ?_
  rw [getitemInPython_of_ne hT.not_modules]
  refine wpAny_bind (wpAny_specialOf hT PySem.F.slot_dict_getitem.lookup ?_)
  have fin : wpAny (model X.prog X.w) X.A (subscripted slice false (.ref ad) u) (fun r s3 => wpAny (model X.prog X.w) X.A (letTemporaryGo value (.ref ad) r >>= fun _ => pure r) (EP X pins σ Q) X.xe s3) X.xe s := by
    rw [hs]
    refine wpAny_operating (d_getItem hu I g ry fun w2 s2 I2 r2 => wpAny_bind (wpAny_letTemporaryGo (wpAny_pure ?_)))
    exact ⟨z, H, I2, r2, q⟩
  first
    | exact wpAny_pure (wpAny_bind fin)
    | exact wpAny_bind fin
    | exact wpAny_pure fin
theorem ix_d {x y : L2.V} (hr : Room n X.A) (q : ∃ a v, x = .ref a ∧ DGet H a y (some v) ∧ Q v H) : wIx X x y H Q := ix_of (ixr_d (hu_of hr)) q
end
end Wk

set_option maxHeartbeats 4000000
/-! My own layer: dicts of the module's top, comprehensions over a tuple with a test, slices of tuples, xs[::-1], extend, reversed, displayed dicts, copies and == of dicts, walks over a dict. -/
namespace Wk
open PySem PySem.Spec PyProof.Rows L2
/-- a dict of the module's top, its keys ints and texts -/
def KDict (w : World) (K : PySem.W.Frag) (D : Addr) (kvs : List (Key × L2.V)) : Prop := ∃ (o : Obj) (vs : List (Key × Value)), K.lookup D = some o ∧ KV kvs vs ∧ ∀ P, PySem.Obj.IsDictOf (mixKind P w) o vs
theorem pairs_mk {P : Program} {w : World} : ∀ (ts : List (Str × Tok × Value)), Pairs (mixKind P w) (ts.map fun x => (⟨hashStr w x.1, .str x.1 x.2.1, x.2.2⟩ : DictEntry)) (ts.map fun x => ((Sum.inr x.1 : Key), x.2.2))
  | [] => .nil
  | t :: ts => .cons (mixKind_str P w _ _) rfl (pairs_mk ts)
theorem kdict_mk {w : World} {K : PySem.W.Frag} {D : Addr} {o : Obj} {n : Nat} {kvs : List (Key × L2.V)} (ts : List (Str × Tok × Value)) (l : K.lookup D = some o) (hx : o.ExactDict) (hd : o.data = .dict (ts.map fun x => (⟨hashStr w x.1, .str x.1 x.2.1, x.2.2⟩ : DictEntry)).toArray n)
    (hk : KV kvs (ts.map fun x => ((Sum.inr x.1 : Key), x.2.2))) (nd : (ts.map (·.1)).Nodup) : KDict w K D kvs := by
  refine ⟨o, _, l, hk, fun P => ⟨_, n, hx, hd, ?_, ?_, ?_⟩⟩
  · intro e he
    obtain ⟨t, ht, rfl⟩ := List.mem_map.mp (List.mem_toArray.mp he)
    exact ⟨Sum.inr t.1, mixKind_str P w _ _, rfl⟩
  · rw [List.toList_toArray]
    exact pairs_mk ts
  · rw [List.map_map]
    have e : (ts.map ((fun x : Key × Value => x.1) ∘ fun x : Str × Tok × Value => ((Sum.inr x.1 : Key), x.2.2))) = (ts.map (·.1)).map Sum.inr := by rw [List.map_map]; rfl
    rw [e]
    exact List.pairwise_map.mpr (List.Pairwise.imp (fun h e => h (Sum.inr.inj e)) nd)
section
variable {X : Cx} {e a b c elt : Expr} {es rest : List Expr} {σ : L2.St} {H : Hp} {Q : VK} {pos p0 : Pos} {N G G' : List Str} {Vn : List (Nat × Str)} {sc scope : Scope}
theorem ixr_kd : IxR X (fun x y H Q => ∃ a kvs z v, x = .ref a ∧ y = .str z ∧ KDict X.w X.K a kvs ∧ valV kvs (Sum.inr z) = some v ∧ Q v H) := by
  intro value slice pins s σ H x y v u Q I rx ry h hs
  obtain ⟨ad, kvs, z, v0, rfl, rfl, ⟨o, vs, hl, hkv, hd⟩, hv, q⟩ := h
  cases rx
  have dd : s.heap.DictOf (mixKind X.prog X.w) ad vs := Heap.dictOf_iff.mpr ⟨o, I.kIn ad o hl, hd X.prog⟩
  have hT := dd.typeIs
  unfold subscriptTail
  refine wpAny_bind ?_
  rw [getitemInPython_of_ne hT.not_modules]
  refine wpAny_bind (wpAny_specialOf hT PySem.F.slot_dict_getitem.lookup ?_)
  obtain ⟨w', hw, rw'⟩ := RelO.some_of (v := v0) (o := valueAt vs (Sum.inr z)) (by rw [← hv]; exact hkv.val (Sum.inr z))
  have fin : wpAny (model X.prog X.w) X.A (subscripted slice false (.ref ad) u) (fun r s3 => wpAny (model X.prog X.w) X.A (letTemporaryGo value (.ref ad) r >>= fun _ => pure r) (EP X pins σ Q) X.xe s3) X.xe s := by
    rw [hs]
    refine wpAny_operating (wpAny_getItem_of (knd := mixKind X.prog X.w) (k := (Sum.inr z : Key)) (kV_is (k := Sum.inr z) ry) dd.mapOf hw ?_)
    refine wpAny_bind (wpAny_letTemporaryGo (wpAny_pure ?_))
    exact ⟨v0, H, I.tok _, rw', q⟩
  first
    | exact wpAny_pure (wpAny_bind fin)
    | exact wpAny_bind fin
    | exact wpAny_pure fin
theorem ix_kd {D : Addr} {kvs : List (Key × L2.V)} {z : Str} {v : L2.V} (h : KDict X.w X.K D kvs) (e : valV kvs (Sum.inr z) = some v) (q : Q v H) : wIx X (.ref D) (.str z) H Q := ix_of ixr_kd ⟨D, kvs, z, v, rfl, rfl, h, e, q⟩
theorem o_inT {x : L2.V} {p : Addr} {xs : List L2.V} (h : SqT X.K H p xs) (hx : flatV x = true) (hs : xs.all flatV = true) (q : Q (.bl (inV x xs)) H) : wK X .In x (.ref p) H Q := k_of op_in_seq ⟨p, xs, rfl, .inr h, hx, hs, q⟩
theorem o_catA {p r : Addr} {xs ys : List L2.V} (h1 : H p = some (.tup xs)) (h2 : H r = some (.tup ys)) (hz : xs.length + ys.length ≤ 200000) (q : ∀ t H2, Same H H2 → H2 t = some (.tup (xs ++ ys)) → Q (.ref t) H2) : wB X .Add (.ref p) (.ref r) H Q := by
  refine b_of op_catA ⟨p, r, xs, ys, rfl, rfl, SqT.of h1, SqT.of h2, by show _ ≤ 2 ^ 24; omega, fun e => ?_, fun _ e => ?_, fun _ _ t ht => ?_⟩
  · subst e
    exact q r H (Same.refl H) h2
  · subst e
    refine q p H (Same.refl H) ?_
    rw [List.append_nil]
    exact h1
  · exact q t _ (fun c u eo => by rw [upd_ne (ne_of_none eo ht)]; exact eo) upd_same
theorem cut_hi {xs ys : List L2.V} : cutV (xs ++ ys) none (some (xs.length : Int)) = xs := by
  unfold cutV
  rw [HT.sIx_none, HT.sIx_nat, List.length_append, Nat.min_eq_left (by omega), List.drop_zero, Nat.sub_zero, List.take_left]
theorem cut_lo {xs ys : List L2.V} : cutV (xs ++ ys) (some (xs.length : Int)) none = ys := by
  unfold cutV
  rw [HT.sIx_none, HT.sIx_nat, List.length_append, Nat.min_eq_left (by omega), List.drop_left, Nat.add_sub_cancel_left, List.take_length]
/-- t[:k] of t = xs ++ ys, k the length of xs -/
theorem e_tHi (q : wE X e σ H fun x H1 => wE X b σ H1 fun y H2 => ∃ p xs ys, x = .ref p ∧ y = .int (xs.length : Int) ∧ H2 p = some (.tup (xs ++ ys)) ∧ ∀ t H3, Same H2 H3 → H3 t = some (.tup xs) → Q (.ref t) H3) {p2 : Pos} : wE X (.Subscript e (.Slice none (some b) none p2) pos) σ H Q := by
  refine e_slL1 sl_tupA (e_mono q fun x H1 z => e_mono z fun y H2 ⟨p, xs, ys, ex, ey, ht, q⟩ => ⟨_, ey, p, xs ++ ys, ex, SqT.of ht, fun hw => ?_, fun _ t nt => ?_⟩)
  · refine q p H2 (Same.refl H2) ?_
    have e : xs ++ ys = xs := by
      have h2 := hw.2
      rw [HT.sIx_nat, List.length_append] at h2
      have : ys = [] := by
        cases ys with
        | nil => rfl
        | cons y ys => simp only [List.length_cons] at h2; omega
      rw [this, List.append_nil]
    rw [e] at ht
    exact ht
  · refine q t _ (fun c u eo => by rw [upd_ne (ne_of_none eo nt)]; exact eo) ?_
    rw [cut_hi]
    exact upd_same
theorem e_tLo (q : wE X e σ H fun x H1 => wE X a σ H1 fun y H2 => ∃ p xs ys, x = .ref p ∧ y = .int (xs.length : Int) ∧ H2 p = some (.tup (xs ++ ys)) ∧ ∀ t H3, Same H2 H3 → H3 t = some (.tup ys) → Q (.ref t) H3) {p2 : Pos} : wE X (.Subscript e (.Slice (some a) none none p2) pos) σ H Q := by
  refine e_slL0 sl_tupA (e_mono q fun x H1 z => e_mono z fun y H2 ⟨p, xs, ys, ex, ey, ht, q⟩ => ⟨_, ey, p, xs ++ ys, ex, SqT.of ht, fun hw => ?_, fun _ t nt => ?_⟩)
  · refine q p H2 (Same.refl H2) ?_
    have e : xs ++ ys = ys := by
      have h2 := hw.1
      rw [HT.sIx_nat, List.length_append] at h2
      have : xs = [] := by
        cases xs with
        | nil => rfl
        | cons y xs => simp only [List.length_cons] at h2; omega
      rw [this, List.nil_append]
    rw [e] at ht
    exact ht
  · refine q t _ (fun c u eo => by rw [upd_ne (ne_of_none eo nt)]; exact eo) ?_
    rw [cut_lo]
    exact upd_same
theorem e_rev {k : Nat} {p1 p2 p3 : Pos} (q : wE X e σ H fun x H1 => ∃ p xs, x = .ref p ∧ SqL X.K H1 p xs ∧ ∀ t H2, Same H1 H2 → H1 t = none → H2 t = some (.lst xs.reverse) → Q (.ref t) H2) : wE X (.Subscript e (.Slice none none (some (.UnaryOp .USub (.Constant (.int 1) k p1) p2)) p3) pos) σ H Q :=
  e_of (pe_revL pe) (e_mono q fun x H1 ⟨p, xs, ex, h, q⟩ => ⟨p, xs, ex, h, fun t nt => q t _ (fun c u eo => by rw [upd_ne (ne_of_none eo nt)]; exact eo) nt upd_same⟩)
theorem e_ext {o : Expr} {apos : Pos} (q : wE X o σ H fun x H1 => ∃ l xs0, x = .ref l ∧ SqL X.K H1 l xs0 ∧ wE X e σ H1 fun y H2 => ∃ r xs zs, y = .ref r ∧ H2 l = some (.lst xs) ∧ H2 r = some (.lst zs) ∧ xs.length + zs.length ≤ 200000 ∧ Q .non (upd H2 l (.lst (xs ++ zs))))
    (hbase : attributeBase o "extend" X.env (eval o X.env) = eval o X.env := by rfl)
    (hfew : ((backTo pos (starEach (e :: []) X.env)).all (fun x => !x.1) && (backToKw pos (keywordEach [] X.env)).all (fun x => x.1.isSome)
      && decide ((e :: []).length + ([] : List Keyword).length + (if ([] : List Keyword).isEmpty then 0 else 1) < 30)) = true := by rfl)
    (hline : (apos.endLine == pos.line) = true := by rfl) (hs : starEach (e :: []) X.env = (false, eval e X.env) :: starEach [] X.env := by rfl) (hplain : (backTo pos (starEach [] X.env)).any (·.1) = false := by rfl) :
    wE X (.Call (.Attribute o "extend" apos) [e] [] pos) σ H Q := by
  refine e_of (pe_bm PySem.F.plainAttrs_list PySem.F.slot_list_extend PySem.F.type_list_extend mt_extend pe (pa_cons pe pa_nil hs) hbase hfew hline hs hplain) (e_mono q fun x H1 z => ?_)
  obtain ⟨l, xs0, rfl, hl, z⟩ := z
  refine ⟨.inl ⟨rfl, _, hl⟩, e_mono z fun y H2 z2 => ?_⟩
  obtain ⟨r, xs, zs, rfl, h1, h2, h3, h4⟩ := z2
  exact ⟨l, r, xs, zs, rfl, rfl, h1, h2, by show _ ≤ 2 ^ 24; omega, h4⟩
theorem c_dict {p : Addr} {kvs : List (Key × L2.V)} (h : H p = some (.dK kvs)) (q : ∀ t H2, Same H H2 → H t = none → H2 t = some (.dK kvs) → Q (.ref t) H2) : wC X (.type "dict") [.ref p] H Q :=
  c_of call_dictD ⟨p, kvs, rfl, .inl h, fun t nt => q t _ (fun c u eo => by rw [upd_ne (ne_of_none eo nt)]; exact eo) nt upd_same⟩
theorem c_listT {p : Addr} {xs : List L2.V} (h : H p = some (.tup xs)) (q : ∀ l H2, Same H H2 → H l = none → H2 l = some (.lst xs) → Q (.ref l) H2) : wC X (.type "list") [.ref p] H Q :=
  c_of call_list_of ⟨p, xs, rfl, .inr (SqT.of h), fun l np => q l _ (fun c u eo => by rw [upd_ne (ne_of_none eo np)]; exact eo) np upd_same⟩
theorem c_listDn {p : Addr} {kvs : List (Key × L2.V)} (hc : X.calm = true) (h : H p = some (.dK kvs)) (q : ∀ l H2, Same H H2 → H l = none → H2 l = some (.lst (kvs.map fun kv => kV kv.1)) → Q (.ref l) H2) : wC X (.type "list") [.ref p] H Q :=
  c_of (call_list_dK hc) ⟨p, kvs, rfl, h, fun l np => q l _ (fun c u eo => by rw [upd_ne (ne_of_none eo np)]; exact eo) np upd_same⟩
theorem o_eqDt {n : Nat} {p r : Addr} {ks ls : List (Key × L2.V)} (hr : Room n X.A) (h1 : H p = some (.dK ks)) (h2 : H r = some (.dK ls)) (hl : ks.length = ls.length) (hv : ∀ p ∈ ks, valV ls p.1 = some p.2 ∧ flatB p.2 = true) (q : Q (.bl true) H) : wK X .Eq (.ref p) (.ref r) H Q :=
  k_of (op_eq_dictA (by have := hr.units; omega)) ⟨p, r, ks, ls, rfl, rfl, h1, h2, hl, hv, q⟩
/-- {k: v} and {k: v, k2: v2} -/
theorem e_d1 {k v : Expr} (q : ∀ p, H p = none → wE X k σ (upd H p (.dK [])) fun x H1 => wE X v σ H1 fun y H2 => H2 p = some (.dK []) ∧ ∃ z, x = .str z ∧ Q (.ref p) (upd H2 p (.dK [(Sum.inr z, y)]))) : wE X (.Dict [some k] [v] pos) σ H Q := by
  refine e_of (pe_disp (pps_cons pe pe pps_nil) rfl rfl (by simp) (by simp)) fun p np => e_mono (q p np) fun x H1 q1 => e_mono q1 fun y H2 q2 => ?_
  obtain ⟨h, z, rfl, q3⟩ := q2
  exact ⟨h, [(Sum.inr z, y)], rfl, by simp, q3⟩
theorem e_d2 {k v k2 v2 : Expr} (q : ∀ p, H p = none → wE X k σ (upd H p (.dK [])) fun x H1 => wE X v σ H1 fun y H2 => wE X k2 σ H2 fun x2 H3 => wE X v2 σ H3 fun y2 H4 => H4 p = some (.dK []) ∧ ∃ z z2, x = .str z ∧ x2 = .str z2 ∧ z ≠ z2 ∧ Q (.ref p) (upd H4 p (.dK [(Sum.inr z, y), (Sum.inr z2, y2)]))) :
    wE X (.Dict [some k, some k2] [v, v2] pos) σ H Q := by
  refine e_of (pe_disp (pps_cons pe pe (pps_cons pe pe pps_nil)) rfl rfl (by simp) (by simp)) fun p np => e_mono (q p np) fun x H1 q1 => e_mono q1 fun y H2 q2 => e_mono q2 fun x2 H3 q3 => e_mono q3 fun y2 H4 q4 => ?_
  obtain ⟨h, z, z2, rfl, rfl, ne, q5⟩ := q4
  refine ⟨h, [(Sum.inr z, y), (Sum.inr z2, y2)], rfl, by simp, ?_⟩
  have e : mergeK [] [((Sum.inr z : Key), y), (Sum.inr z2, y2)] = [(Sum.inr z, y), (Sum.inr z2, y2)] := by
    show putK (putK [] (Sum.inr z) y) (Sum.inr z2) y2 = _
    unfold putK
    simp [ne]
  rw [e]
  exact q5
/-- for x in reversed(xs), xs a list -/
theorem s_forRv {nx : L2.St → Hp → Prop} {rt : VK} {bk ct : L2.St → Hp → Prop} {g : Nat} {x : Str} {i : Nat} {body : List Stmt} {px p cp pos : Pos} (hm : X.mg "reversed" = none)
    (q : wE X a σ H fun v H1 => ∃ ad xs, v = .ref ad ∧ SqL X.K H1 ad xs ∧ ∃ Pv : Nat → L2.St → Hp → Prop, Pv 0 σ H1 ∧ (∀ k σ H, k ≤ xs.length → Pv k σ H → SqL X.K H ad xs) ∧ (∀ k y σ H, xs.reverse[k]? = some y → Pv k σ H → wL X body ⟨Pv (k + 1), rt, nx, Pv (k + 1)⟩ (σ.set i (some y)) H) ∧ ∀ σ H, Pv xs.length σ H → nx σ H)
    (I : In X N G sc := by assumption) (hc : X.calm = true := by rfl) (hA : At N i x := by repeat (first | with_reducible apply At.z | with_reducible apply At.s)) (hG : At G g ("reversed" : Str) := by repeat (first | with_reducible apply At.z | with_reducible apply At.s))
    (hs : starEach [a] X.env = (false, eval a X.env) :: starEach [] X.env := by rfl) (hs2 : ∀ z, foldedSetIterable (.Call (.Name "reversed" p) [a] [] cp) X.env z = pure z := by intro _; rfl) :
    wS X (.For (.Name x px) (.Call (.Name "reversed" p) [a] [] cp) body [] pos) ⟨nx, rt, bk, ct⟩ σ H := by
  refine s_of (ps_for I.never hc (RT.pi_revA (I.g hG) hm pe hs) (pg_name I.nd (I.hi hA) (I.loc hA) I.f) pl hs2) (e_mono q fun v H1 q1 => ?_)
  obtain ⟨ad, xs, rfl, hl, Pv, h0, hk, hb, hd⟩ := q1
  refine ⟨ad, xs, rfl, .inl ⟨hl, fun k m σ H => m = xs.length - k ∧ k ≤ xs.length ∧ Pv k σ H, ⟨xs.length, by simp, Nat.zero_le _, h0⟩, ?_⟩⟩
  rintro k m σ H ⟨rfl, hi, p⟩
  have q := hk k σ H hi p
  by_cases hlt : k < xs.length
  · refine .inr ⟨⟨hlt, xs, xs[xs.length - 1 - k]'(by omega), q, by simp⟩, Pv (k + 1), fun σ' H' p' => ⟨xs.length - (k + 1), by omega, rfl, hlt, p'⟩, fun x H' y => ?_⟩
    obtain ⟨e, y⟩ := y
    subst e
    refine hb k x σ _ ?_ p
    rw [List.getElem?_reverse hlt]
    exact y xs q
  · have e : k = xs.length := by omega
    subst e
    exact .inl ⟨Nat.le_refl _, hd σ H p⟩
/-- for x in d, d a dict that stands at ad -/
theorem s_forD {nx : L2.St → Hp → Prop} {rt : VK} {bk ct : L2.St → Hp → Prop} {x : Str} {i : Nat} {body : List Stmt} {px pos : Pos} {ad : Addr} {kvs : List (Key × L2.V)} (h : H ad = some (.dK kvs))
    (q : ∀ o, wE X a σ (upd H ad (.frz o (.dK kvs))) fun v H1 => v = .ref ad ∧ H1 ad = some (.frz o (.dK kvs)) ∧ ∃ Pv : Nat → L2.St → Hp → Prop, Pv 0 σ H1 ∧ (∀ k σ H, k ≤ kvs.length → Pv k σ H → H ad = some (.frz o (.dK kvs))) ∧
      (∀ k y v σ H, kvs[k]? = some (y, v) → Pv k σ H → wL X body ⟨Pv (k + 1), fun v H' => H' ad = some (.frz o (.dK kvs)) ∧ rt v (upd H' ad (.dK kvs)), fun σ' H' => H' ad = some (.frz o (.dK kvs)) ∧ nx σ' (upd H' ad (.dK kvs)), Pv (k + 1)⟩ (σ.set i (some (kV y))) H) ∧ ∀ σ H, Pv kvs.length σ H → nx σ (upd H ad (.dK kvs)))
    (I : In X N G sc := by assumption) (hc : X.calm = true := by rfl) (hA : At N i x := by repeat (first | with_reducible apply At.z | with_reducible apply At.s)) (hs2 : ∀ z, foldedSetIterable a X.env z = pure z := by intro _; rfl) :
    wS X (.For (.Name x px) a body [] pos) ⟨nx, rt, bk, ct⟩ σ H := by
  refine s_of (ps_lock (ps_for I.never hc (pi_keys pe) (pg_name I.nd (I.hi hA) (I.loc hA) I.f) pl hs2)) ?_
  refine ⟨ad, .dK kvs, h, trivial, fun o => e_mono (q o) fun v H1 q1 => ?_⟩
  obtain ⟨rfl, h1, Pv, h0, hk, hb, hd⟩ := q1
  refine ⟨ad, o, rfl, .inl ⟨kvs, h1, fun k m σ H => m = kvs.length - k ∧ k ≤ kvs.length ∧ Pv k σ H, ⟨kvs.length, by simp, Nat.zero_le _, h0⟩, ?_⟩⟩
  rintro k m σ H ⟨rfl, hi, p⟩
  have q := hk k σ H hi p
  by_cases hlt : k < kvs.length
  · refine .inr ⟨⟨q, hlt⟩, Pv (k + 1), fun σ' H' p' => ⟨kvs.length - (k + 1), by omega, rfl, hlt, p'⟩, fun x H' y => ?_⟩
    obtain ⟨rfl, ky, v, hkv, rfl⟩ := y
    exact hb k ky v σ _ hkv p
  · have e : k = kvs.length := by omega
    subst e
    exact .inl ⟨⟨q, Nat.le_refl _⟩, q, hd σ H p⟩
/-- [elt for x in t if c], t a tuple -/
def LcTf (X : Cx) (Vn : List (Nat × Str)) (G' : List Str) (elt c : Expr) (scope : Scope) (i : Nat) (ad : Addr) (xs : List L2.V) (D : Addr) (σ : L2.St) (H1 : Hp) (Qd : Hp → Prop) : Prop := ∃ Pv : Nat → Hp → Prop, Pv 0 (upd H1 D (.lst [])) ∧ (∀ k H2, k ≤ xs.length → Pv k H2 → SqT X.K H2 ad xs) ∧
  (∀ k x H2, xs[k]? = some x → Pv k H2 → Turn1 X Vn G' elt c scope i D σ x H2 (Pv (k + 1))) ∧ ∀ H2, Pv xs.length H2 → Qd H2
theorem e_lcTf {i : Nat} {x : Str} {px : Pos} (B : BkOk X.N Vn G' i x sc scope)
    (q : wE X a σ H fun v H1 => ∃ ad xs, v = .ref ad ∧ SqT X.K H1 ad xs ∧ ∀ D, H1 D = none → LcTf X Vn G' elt c scope i ad xs D σ H1 fun H2 => Q (.ref D) H2)
    (I : In X N G sc := by assumption) (hc : X.calm = true := by rfl) (hs2 : ∀ z, foldedSetIterable a X.env z = pure z := by intro _; rfl) :
    wE X (.ListComp elt [⟨.Name x px, a, [c], 0⟩] scope pos) σ H Q := by
  refine e_of (pe_lc (own := [(x, i)]) (g := gName i) (tt := wBkT X Vn G' c scope) (te := wBk X Vn G' elt scope) hc I.nd (pi_tup pe) (B.ok I) (fun s H C cl fp => B.pg I s H C cl fp) (fun s H C cl fp => pts_bk (B.inB I s H C cl fp)) (fun s H C cl fp => pe_bk (B.inB I s H C cl fp)) hs2) (e_mono q fun v H1 q1 => ?_)
  obtain ⟨ad, xs, rfl, hl, q2⟩ := q1
  refine ⟨ad, rfl, ⟨xs, hl⟩, fun D hD => ?_⟩
  obtain ⟨Pv, h0, hk, hs, hd⟩ := q2 D hD
  exact lc_tup Pv h0 hk (fun k x H hx p => turn1_of (hs k x H hx p)) hd
/-- y = [elt for x in range(a) if c] -/
def LcRf (X : Cx) (Vn : List (Nat × Str)) (G' : List Str) (elt c : Expr) (scope : Scope) (i n : Nat) (D : Addr) (σ : L2.St) (H1 : Hp) (Qd : Hp → Prop) : Prop := ∃ Pv : Nat → Hp → Prop, Pv 0 (upd H1 D (.lst [])) ∧
  (∀ k H2, k < n → Pv k H2 → Turn1 X Vn G' elt c scope i D σ (.int (k : Int)) H2 (Pv (k + 1))) ∧ ∀ H2, Pv n H2 → Qd H2
theorem lcRf_of {i n : Nat} {D : Addr} {H1 : Hp} {Qd : Hp → Prop} (q : LcRf X Vn G' elt c scope i n D σ H1 Qd) : ∃ W : Nat → Nat → Hp → Prop, (∃ m, W 0 m (upd H1 D (.lst []))) ∧ ∀ k m H, W k m H →
    ((Itr 0 n).stop k H ∧ Qd H) ∨ ((Itr 0 n).go k H ∧ ∃ Nx : Hp → Prop, (∀ H', Nx H' → ∃ m', m' < m ∧ W (k + 1) m' H') ∧ ∀ x H', (Itr 0 n).yld k H x H' → gName i x (wipe σ [i]) H' fun σ2 H2 => wipe σ2 [i] = wipe σ [i] ∧ wBkT X Vn G' c scope σ2 H2 fun b H3 =>
      if b = true then wBk X Vn G' elt scope σ2 H3 fun y H4 => ∃ acc, H4 D = some (.lst acc) ∧ acc.length < sizeLine ∧ Nx (upd H4 D (.lst (acc ++ [y]))) else Nx H3) := by
  obtain ⟨Pv, h0, hs, hd⟩ := q
  refine lc_range Pv h0 (fun k H hk p => ?_) hd
  rw [Int.zero_add]
  exact turn1_of (hs k H hk p)
theorem s_lcRf {nx : L2.St → Hp → Prop} {rt : VK} {bk ct : L2.St → Hp → Prop} {i j g : Nat} {x y : Str} {px py p cp spos : Pos} (B : BkOk X.N Vn G' i x sc scope) (hm : X.mg "range" = none)
    (q : wE X a σ H fun v H1 => ∃ n : Nat, v = .int n ∧ n < 2 ^ 62 ∧ ∀ D, H1 D = none → LcRf X Vn G' elt c scope i n D σ H1 fun H2 => nx (σ.set j (some (.ref D))) H2)
    (I : In X N G sc := by assumption) (hc : X.calm = true := by rfl) (hA : At N j y := by repeat (first | with_reducible apply At.z | with_reducible apply At.s)) (hG : At G g ("range" : Str) := by repeat (first | with_reducible apply At.z | with_reducible apply At.s))
    (hk : X.env.scope.kind = .function := by rfl) (hy : X.env.scope.names.lookup y = some .local := by rfl) (hl : (py.line == pos.line) = true := by rfl) (ha : (scope.names.any fun (n, k) => n == y && (k == .local || k == .cell)) = false := by decide +kernel)
    (hs : starEach [a] X.env = [(false, eval a X.env)] := by rfl) (hs2 : ∀ z, foldedSetIterable (.Call (.Name "range" p) [a] [] cp) X.env z = pure z := by intro _; rfl) (hs1 : starEach (a :: []) X.env = (false, eval a X.env) :: starEach [] X.env := by rfl) :
    wS X (.Assign [.Name y py] (.ListComp elt [⟨.Name x px, .Call (.Name "range" p) [a] [] cp, [c], 0⟩] scope pos) spos) ⟨nx, rt, bk, ct⟩ σ H := by
  refine s_of (ps_setLc (own := [(x, i)]) (g := gName i) (tt := wBkT X Vn G' c scope) (te := wBk X Vn G' elt scope) hc I.nd (I.hi hA) hy (sw_true hk hy hl ha) (pi_range1 (I.g hG) hm (pa_cons pe pa_nil hs1) hs) (B.ok I) (fun s H C cl fp => B.pg I s H C cl fp) (fun s H C cl fp => pts_bk (B.inB I s H C cl fp)) (fun s H C cl fp => pe_bk (B.inB I s H C cl fp)) hs2) (e_mono q fun v H1 q1 => ?_)
  obtain ⟨n, rfl, hn, q2⟩ := q1
  refine ⟨(n : Int), rfl, by omega, by omega, ?_⟩
  rw [Int.toNat_natCast]
  exact fun D hD => lcRf_of (q2 D hD)
end
end Wk

set_option maxHeartbeats 4000000
/-! My own layer: a walk over zip(a, b), each of the two a list or a tuple. -/
namespace Wk
open PySem PySem.Spec PyProof.Rows L2
/-- what stands on one side of a zip -/
inductive Side where
  | l | t
def Side.con : Side → Heap → Addr → Array Value → Prop
  | .l => fun h a xs => h.IsList a xs
  | .t => fun h a xs => h.IsTuple a xs
def Side.itr : Side → Heap → Addr → Addr → Nat → Prop
  | .l => fun h it a i => h.IsListIter it a i
  | .t => fun h it a i => h.IsTupleIter it a i
def Side.ob : Side → Addr → Obj
  | .l => fun a => { cls := .type "list_iterator", data := .fields #[.ref a, .int 0 0] }
  | .t => fun a => { cls := .type "tuple_iterator", data := .fields #[.ref a, .int 0 0] }
def Side.sq (K : PySem.W.Frag) : Side → Hp → Addr → List V → Prop
  | .l => SqL K
  | .t => SqT K
theorem Side.begins (c : Side) (a : Addr) (xs : Array Value) : Begins (.ref a) (c.ob a) fun h => c.con h a xs := by
  cases c with
  | l => exact begins_list a xs
  | t => exact begins_tuple a xs
theorem Side.draws {P : Program} {w : World} {A : Around} (c : Side) (hh : A.handled = none) (it a : Addr) (ne : a ≠ it) (xs : Array Value) : Draws P w A it [it, a] xs.size (fun i v => xs[i]? = some v) (fun i h => c.itr h it a i ∧ c.con h a xs) := by
  cases c with
  | l => exact Draws.list hh it a ne xs
  | t => exact Draws.tuple hh it a ne xs
theorem Side.own {X : Cx} {pins : List (Addr × Obj)} {σ : L2.St} {H : Hp} {s : Shared} {a : Addr} {xs : List V} (I : Inv X pins σ H s) (c : Side) (h : c.sq X.K H a xs) : ∃ its : List Value, Vals xs its ∧ c.con s.heap a its.toArray := by
  cases c with
  | l => obtain ⟨its, r, p, _⟩ := I.list h; exact ⟨its, r, p.isList⟩
  | t => obtain ⟨its, r, p, _⟩ := I.tuple h; exact ⟨its, r, p⟩
theorem Side.inj {X : Cx} {pins : List (Addr × Obj)} {σ : L2.St} {H : Hp} {s : Shared} {a : Addr} {xs ys : List V} (I : Inv X pins σ H s) (c : Side) (h : c.sq X.K H a xs) (h' : c.sq X.K H a ys) : xs = ys := by
  cases c with
  | l => exact I.list_inj h h'
  | t => exact I.tuple_inj h h'
theorem Side.up {h h' : Heap} {it a : Addr} {i : Nat} (c : Side) (x : c.itr h it a i) (k : ∀ o, h.get? it = some o → h'.get? it = some o) : c.itr h' it a i := by
  cases c with
  | l => exact x.at k
  | t => exact x.at k
theorem Side.nocell {h : Heap} {it a : Addr} {i : Nat} (c : Side) (x : c.itr h it a i) : ∃ o, h.get? it = some o ∧ ∀ v, o.data ≠ .cell v := by
  cases c with
  | l => obtain ⟨o, e, _, d⟩ := x; exact ⟨o, e, fun v q => by rw [d] at q; cases q⟩
  | t => obtain ⟨o, e, _, d⟩ := x; exact ⟨o, e, fun v q => by rw [d] at q; cases q⟩
theorem Side.start {h : Heap} {it a : Addr} (c : Side) (e : h.get? it = some (c.ob a)) : c.itr h it a 0 := by
  cases c with
  | l => exact ⟨_, e, rfl, rfl⟩
  | t => exact ⟨_, e, rfl, rfl⟩
theorem Side.lt {h : Heap} {a : Addr} {xs : Array Value} (c : Side) (x : c.con h a xs) : a < h.objs.size := by
  cases c with
  | l => obtain ⟨o, e, _⟩ := x; exact Heap.lt_size e
  | t => obtain ⟨o, e, _⟩ := x; exact Heap.lt_size e
/-- pairs out of the two sides, as they stand at each turn -/
def ItM (K : PySem.W.Frag) (c d : Side) (a b : Addr) : It :=
  ⟨fun i H => ∃ (xs ys : List V) (x y : V), c.sq K H a xs ∧ d.sq K H b ys ∧ xs[i]? = some x ∧ ys[i]? = some y,
    fun i H v H' => ∃ T x y, v = .ref T ∧ H T = none ∧ H' = upd H T (.tup [x, y]) ∧ (∀ xs, c.sq K H a xs → xs[i]? = some x) ∧ ∀ ys, d.sq K H b ys → ys[i]? = some y,
    fun i H => ∃ xs ys : List V, c.sq K H a xs ∧ d.sq K H b ys ∧ i ≤ xs.length ∧ i ≤ ys.length ∧ (i = xs.length ∨ i = ys.length)⟩
theorem turn_zipM {P : Program} {w : World} {K : PySem.W.Frag} {es : List Expr} {kk : Nat} {tp : Pos} {c d : Side} {a b z TI TO i1 i2 : Addr} (S : ZipSep2 z TI TO i1 i2 [i1, a] [i2, b]) (na : a ≠ i1) (nb : b ≠ i2) :
    Turn P w K (.Tuple es kk tp) (ItM K c d a b) [z, TI, TO, i1, i2] z (fun i h => IsZip h z TI TO .none ∧ IsTupOf2 h TI (.ref i1) (.ref i2) ∧ (∃ u v, IsTupOf2 h TO u v) ∧ c.itr h i1 a i ∧ d.itr h i2 b i) where
  mem := List.mem_cons_self ..
  obj := fun i h ⟨q1, q2, ⟨u, v, q3⟩, q4, q5⟩ e he => by
    simp only [List.mem_cons, List.not_mem_nil, or_false] at he
    rcases he with rfl | rfl | rfl | rfl | rfl
    · exact ⟨_, q1, fun _ r => nomatch r⟩
    · exact ⟨_, q2, fun _ r => nomatch r⟩
    · exact ⟨_, q3, fun _ r => nomatch r⟩
    · exact c.nocell q4
    · exact d.nocell q5
  keep := fun i h h' ⟨q1, q2, ⟨u, v, q3⟩, q4, q5⟩ kp => ⟨kp z (by simp) _ q1, kp TI (by simp) _ q2, ⟨u, v, kp TO (by simp) _ q3⟩, c.up q4 (kp i1 (by simp)), d.up q5 (kp i2 (by simp))⟩
  item := by
    intro X hP hw hK hc i pins s σ H E I fpk ⟨q1, q2, ⟨u, v, q3⟩, q4, q5⟩ ⟨xs, ys, x, y, sx, sy, ex, ey⟩
    subst hP hw hK
    obtain ⟨us, rus, cx⟩ := c.own I sx
    obtain ⟨vs, rvs, cy⟩ := d.own I sy
    obtain ⟨g, eg, rg⟩ := rus.get ex
    obtain ⟨g2, eg2, rg2⟩ := rvs.get ey
    have hh : X.A.in1.handled = none := I.ok.hd hc
    refine wpAny_pyNext_zipD2_item S (c.draws hh i1 a na us.toArray) (d.draws hh i2 b nb vs.toArray) q1 q2 q3 ⟨q4, cx⟩ ⟨q5, cy⟩ ?_ ?_ fun x1 x2 h1 tk p1 p2 n1 n2 n3 n4 n5 _ n7 => ?_
    · rw [List.size_toArray]; exact (List.getElem?_eq_some_iff.mp eg).1
    · rw [List.size_toArray]; exact (List.getElem?_eq_some_iff.mp eg2).1
    rw [List.getElem?_toArray, eg] at p1
    rw [List.getElem?_toArray, eg2] at p2
    cases p1
    cases p2
    have zl : z < s.heap.objs.size := Heap.lt_size q1
    refine ⟨_, rfl, wpAny_letOwnedTupleGo_zip (s := { s with heap := h1, toks := tk }) n1 fun h2 m1 sb => ?_⟩
    have tup2 : h2.get? s.heap.objs.size = some { cls := .type "tuple", data := .seq #[g, g2] } := (sb.2 _ (Nat.ne_of_gt zl)).trans n5
    have I1 : Inv X pins σ (upd H s.heap.objs.size (.tup [x, y])) { s with heap := h2, toks := tk } := by
      refine I.turnedNew (t' := tk) (ch := [z, TI, TO, i1, i2]) (fun e o hb q => ?_) fpk (Nat.le_refl _) ⟨by show 2 ≤ 2 ^ 24; decide, [g, g2], .cons rg (.cons rg2 .nil), ⟨_, tup2, rfl, _, rfl⟩⟩
      simp only [List.mem_cons, List.not_mem_nil, or_false, not_or] at hb
      exact (sb.2 e hb.1).trans (n7 e o hb.1 hb.2.2.1 hb.2.2.2.1 hb.2.2.2.2 q)
    have up : ∀ {e : Addr} {o : Obj}, e ≠ z → h1.get? e = some o → h2.get? e = some o := fun ne q => (sb.2 _ ne).trans q
    refine ⟨.ref s.heap.objs.size, _, I1, rfl, ⟨_, x, y, rfl, I.hok.fresh (Nat.le_refl _), rfl, fun l hl => by rw [c.inj I hl sx]; exact ex, fun l hl => by rw [d.inj I hl sy]; exact ey⟩,
      ⟨m1, up S.TIz (n7 TI _ S.TIz S.TITO S.TIi1 S.TIi2 q2), ⟨g, g2, up S.TOz n2⟩, c.up n3.1 fun o q => up (Ne.symm S.zi1) q, d.up n4.1 fun o q => up (Ne.symm S.zi2) q⟩, fun e he => ?_⟩
    rw [upd_ne]
    · exact (fpk e he).1
    · have : e < s.heap.objs.size := by
        simp only [List.mem_cons, List.not_mem_nil, or_false] at he
        rcases he with rfl | rfl | rfl | rfl | rfl
        · exact zl
        · exact Heap.lt_size q2
        · exact Heap.lt_size q3
        · obtain ⟨o, eo, _⟩ := c.nocell q4; exact Heap.lt_size eo
        · obtain ⟨o, eo, _⟩ := d.nocell q5; exact Heap.lt_size eo
      exact Nat.ne_of_lt this
  done := by
    intro X hP hw hK hc i pins s σ H E I fpk ⟨q1, q2, ⟨u, v, q3⟩, q4, q5⟩ ⟨xs, ys, sx, sy, l1, l2, le⟩
    subst hP hw hK
    obtain ⟨us, rus, cx⟩ := c.own I sx
    obtain ⟨vs, rvs, cy⟩ := d.own I sy
    have g1 := rus.length
    have g2 := rvs.length
    have hh : X.A.in1.handled = none := I.ok.hd hc
    refine wpAny_pyNext_zipD2_end S (c.draws hh i1 a na us.toArray) (d.draws hh i2 b nb vs.toArray) q1 q2 q3 ⟨q4, cx⟩ ⟨q5, cy⟩ (by rw [List.size_toArray]; omega) (by rw [List.size_toArray]; omega) (by rw [List.size_toArray, List.size_toArray]; omega) fun h1 tk kp => ⟨rfl, ?_⟩
    refine I.turnedL (t' := tk) (ch := [z, TI, TO, i1, i2]) (fun e o hb q => ?_) fpk
    simp only [List.mem_cons, List.not_mem_nil, or_false, not_or] at hb
    exact kp e o hb.1 hb.2.2.1 hb.2.2.2.1 hb.2.2.2.2 q
  self := fun A i s Q E st h => wpAny_pyIter_zip st.1 h
/-- zip(e, e2) -/
def iZipM (K : PySem.W.Frag) (c d : Side) (ta : TA) : TI := fun σ H R => ta σ H fun vs H1 => ∃ a b xs ys, vs = [.ref a, .ref b] ∧ c.sq K H1 a xs ∧ d.sq K H1 b ys ∧ R (ItM K c d a b) H1
theorem pi_zipM {X : Cx} {e e2 : Expr} {ta : TA} {p pos tp : Pos} {es : List Expr} {kk : Nat} {c d : Side} (hg : Gl X "zip") (hm : X.mg "zip" = none) (ha : PA X [e, e2] ta)
    (hs : starEach [e, e2] X.env = (false, eval e X.env) :: starEach [e2] X.env := by rfl) (hpl : (backTo pos (starEach [e2] X.env)).any (·.1) = false := by rfl) :
    PI X (.Tuple es kk tp) (.Call (.Name "zip" p) [e, e2] [] pos) (iZipM X.K c d ta) := by
  refine ⟨fun pins s σ H R I h => Call_ (ld_blt I hg hm PyProof.Rows.boot_zip (PyProof.Rows.callWith_type1 (thn (ha.run pos pins s σ H _ I h) fun us s1 ⟨vs, H1, I1, r1, a, b, xs, ys, ev, sx, sy, q⟩ => ?_) hs hpl))⟩
  subst ev
  obtain ⟨u, v, rfl, ru, rv⟩ : ∃ u v, us = [u, v] ∧ RelV (.ref a) u ∧ RelV (.ref b) v := by
    cases r1 with
    | cons r t => cases t with
      | cons r' t => cases t; exact ⟨_, _, rfl, r, r'⟩
  cases ru
  cases rv
  obtain ⟨ws, rw1, cx⟩ := c.own I1 sx
  obtain ⟨zs, rw2, cy⟩ := d.own I1 sy
  have la := c.lt cx
  have lb := d.lt cy
  generalize hN : s1.heap.objs.size = N at la lb
  have nw : ∀ e ∈ [N + 4, N + 2, N + 3, N, N + 1], FpOk X pins H1 e := fun e he => by
    have hle : s1.heap.objs.size ≤ e := by
      rw [hN]
      simp only [List.mem_cons, List.not_mem_nil, or_false] at he
      rcases he with z | z | z | z | z <;> (rw [z]; first | exact Nat.le_refl _ | exact Nat.le_add_right _ _)
    exact I1.fpOk hle (I1.hok.fresh hle)
  refine zip_begins2 (c.begins a ws.toArray) (d.begins b zs.toArray) cx cy fun h1 g1 g2 g3 g4 g5 _ kp => wpAny_pyIter_zip g1 ?_
  rw [hN] at g1 g2 g3 g4 g5 ⊢
  have S : ZipSep2 (N + 4) (N + 2) (N + 3) N (N + 1) [N, a] [N + 1, b] := zip_sep2 (fun e he => by rw [List.mem_singleton.mp he]; exact la) (fun e he => by rw [List.mem_singleton.mp he]; exact lb)
  exact ⟨N + 4, [N + 4, N + 2, N + 3, N, N + 1], _, ItM X.K c d a b, H1, rfl, I1.kept (t' := s1.toks) kp, turn_zipM S (Nat.ne_of_lt la) (Nat.ne_of_lt (Nat.lt_succ_of_lt lb)), ⟨g1, g2, ⟨_, _, g3⟩, c.start g4, d.start g5⟩, nw, q⟩
section
variable {X : Cx} {e a b : Expr} {σ : L2.St} {H : Hp} {N G : List Str} {sc : Scope}
/-- for x, y in zip(a, b): both sides stay while the loop goes -/
theorem s_forZ {nx : L2.St → Hp → Prop} {rt : VK} {bk ct : L2.St → Hp → Prop} (c d : Side) {g : Nat} {x y : Str} {i j : Nat} {body : List Stmt} {px py pt p cp pos : Pos} {kk : Nat} (hm : X.mg "zip" = none)
    (q : wE X a σ H fun v H1 => wE X b σ H1 fun u H2 => ∃ va vb xs ys, v = .ref va ∧ u = .ref vb ∧ c.sq X.K H2 va xs ∧ d.sq X.K H2 vb ys ∧ ∃ Pv : Nat → L2.St → Hp → Prop, Pv 0 σ H2 ∧ (∀ k σ H, k ≤ min xs.length ys.length → Pv k σ H → c.sq X.K H va xs ∧ d.sq X.K H vb ys) ∧
      (∀ k u1 u2 T σ H, xs[k]? = some u1 → ys[k]? = some u2 → Pv k σ H → H T = none → wL X body ⟨Pv (k + 1), rt, nx, Pv (k + 1)⟩ ((σ.set i (some u1)).set j (some u2)) (upd H T (.tup [u1, u2]))) ∧ ∀ σ H, Pv (min xs.length ys.length) σ H → nx σ H)
    (I : In X N G sc := by assumption) (hc : X.calm = true := by rfl) (hA : At N i x := by repeat (first | with_reducible apply At.z | with_reducible apply At.s)) (hB : At N j y := by repeat (first | with_reducible apply At.z | with_reducible apply At.s))
    (hG : At G g ("zip" : Str) := by repeat (first | with_reducible apply At.z | with_reducible apply At.s)) (hs : starEach [a, b] X.env = (false, eval a X.env) :: starEach [b] X.env := by rfl) (hpl : (backTo cp (starEach [b] X.env)).any (·.1) = false := by rfl)
    (hs1 : starEach (b :: []) X.env = (false, eval b X.env) :: starEach [] X.env := by rfl) (hs2 : ∀ z, foldedSetIterable (.Call (.Name "zip" p) [a, b] [] cp) X.env z = pure z := by intro _; rfl) :
    wS X (.For (.Tuple [.Name x px, .Name y py] kk pt) (.Call (.Name "zip" p) [a, b] [] cp) body [] pos) ⟨nx, rt, bk, ct⟩ σ H := by
  refine s_of (ps_for I.never hc (pi_zipM (c := c) (d := d) (I.g hG) hm (pa_cons pe (pa_cons pe pa_nil hs1) hs) hs hpl) (pg_tup hc (pgs_cons (pg_name I.nd (I.hi hA) (I.loc hA) I.f) (pgs_cons (pg_name I.nd (I.hi hB) (I.loc hB) I.f) pgs_nil))) pl hs2) (e_mono q fun v H1 q1 => e_mono q1 fun u H2 q2 => ?_)
  obtain ⟨va, vb, xs, ys, rfl, rfl, sx, sy, Pv, h0, hk, hb, hd⟩ := q2
  refine ⟨va, vb, xs, ys, rfl, sx, sy, fun k m σ H => m = min xs.length ys.length - k ∧ k ≤ min xs.length ys.length ∧ Pv k σ H, ⟨_, rfl, Nat.zero_le _, h0⟩, ?_⟩
  rintro k m σ H ⟨rfl, hle, pv⟩
  obtain ⟨tx, ty⟩ := hk k σ H hle pv
  by_cases lt : k < min xs.length ys.length
  · have l1 : k < xs.length := by omega
    have l2 : k < ys.length := by omega
    refine .inr ⟨⟨xs, ys, xs[k], ys[k], tx, ty, List.getElem?_eq_getElem l1, List.getElem?_eq_getElem l2⟩, Pv (k + 1), fun σ' H' p' => ⟨_, by omega, rfl, lt, p'⟩, fun w H' yl => ?_⟩
    obtain ⟨T, u1, u2, rfl, nT, rfl, y1, y2⟩ := yl
    exact ⟨T, [u1, u2], rfl, SqT.of upd_same, rfl, u1, [u2], rfl, u2, [], rfl, rfl, hb k u1 u2 T σ H (y1 xs tx) (y2 ys ty) pv nT⟩
  · have ek : k = min xs.length ys.length := by omega
    subst ek
    refine .inl ⟨⟨xs, ys, tx, ty, by omega, by omega, by omega⟩, hd σ H pv⟩
/-- [elt for x in range(a) if c], as a value -/
theorem e_lcRf {X : Cx} {elt c a : Expr} {σ : L2.St} {H : Hp} {Q : VK} {pos : Pos} {N G G' : List Str} {Vn : List (Nat × Str)} {sc scope : Scope} {i g : Nat} {x : Str} {px p cp : Pos} (B : BkOk X.N Vn G' i x sc scope) (hm : X.mg "range" = none)
    (q : wE X a σ H fun v H1 => ∃ n : Nat, v = .int n ∧ n < 2 ^ 62 ∧ ∀ D, H1 D = none → LcRf X Vn G' elt c scope i n D σ H1 fun H2 => Q (.ref D) H2)
    (I : In X N G sc := by assumption) (hc : X.calm = true := by rfl) (hG : At G g ("range" : Str) := by repeat (first | with_reducible apply At.z | with_reducible apply At.s))
    (hs : starEach [a] X.env = [(false, eval a X.env)] := by rfl) (hs2 : ∀ z, foldedSetIterable (.Call (.Name "range" p) [a] [] cp) X.env z = pure z := by intro _; rfl) (hs1 : starEach (a :: []) X.env = (false, eval a X.env) :: starEach [] X.env := by rfl) :
    wE X (.ListComp elt [⟨.Name x px, .Call (.Name "range" p) [a] [] cp, [c], 0⟩] scope pos) σ H Q := by
  refine e_of (pe_lc (own := [(x, i)]) (g := gName i) (tt := wBkT X Vn G' c scope) (te := wBk X Vn G' elt scope) hc I.nd (pi_range1 (I.g hG) hm (pa_cons pe pa_nil hs1) hs) (B.ok I) (fun s H C cl fp => B.pg I s H C cl fp) (fun s H C cl fp => pts_bk (B.inB I s H C cl fp)) (fun s H C cl fp => pe_bk (B.inB I s H C cl fp)) hs2) (e_mono q fun v H1 q1 => ?_)
  obtain ⟨n, rfl, hn, q2⟩ := q1
  refine ⟨(n : Int), rfl, by omega, by omega, ?_⟩
  rw [Int.toNat_natCast]
  exact fun D hD => lcRf_of (q2 D hD)
/-- for x in reversed(range(a)) -/
theorem s_forRR {X : Cx} {a : Expr} {σ : L2.St} {H : Hp} {N G : List Str} {sc : Scope} {nx : L2.St → Hp → Prop} {rt : VK} {bk ct : L2.St → Hp → Prop} {g g2 : Nat} {x : Str} {i : Nat} {body : List Stmt} {px p p2 cp cp2 pos : Pos} (hm : X.mg "reversed" = none) (hm2 : X.mg "range" = none)
    (q : wE X a σ H fun v H1 => ∃ n : Nat, v = .int n ∧ n < 2 ^ 62 ∧ ∃ Pv : Nat → L2.St → Hp → Prop, Pv 0 σ H1 ∧ (∀ k σ H, k < n → Pv k σ H → wL X body ⟨Pv (k + 1), rt, nx, Pv (k + 1)⟩ (σ.set i (some (.int ((n - 1 - k : Nat) : Int)))) H) ∧ ∀ σ H, Pv n σ H → nx σ H)
    (I : In X N G sc := by assumption) (hc : X.calm = true := by rfl) (hA : At N i x := by repeat (first | with_reducible apply At.z | with_reducible apply At.s))
    (hG : At G g ("reversed" : Str) := by repeat (first | with_reducible apply At.z | with_reducible apply At.s)) (hG2 : At G g2 ("range" : Str) := by repeat (first | with_reducible apply At.z | with_reducible apply At.s))
    (hs : starEach [.Call (.Name "range" p2) [a] [] cp2] X.env = (false, eval (.Call (.Name "range" p2) [a] [] cp2) X.env) :: starEach [] X.env := by rfl) (hs1 : starEach [a] X.env = (false, eval a X.env) :: starEach [] X.env := by rfl)
    (hs2 : ∀ z, foldedSetIterable (.Call (.Name "reversed" p) [.Call (.Name "range" p2) [a] [] cp2] [] cp) X.env z = pure z := by intro _; rfl) :
    wS X (.For (.Name x px) (.Call (.Name "reversed" p) [.Call (.Name "range" p2) [a] [] cp2] [] cp) body [] pos) ⟨nx, rt, bk, ct⟩ σ H := by
  refine s_of (ps_for I.never hc (pi_revR (I.g hG) hm (prg_1 (I.g hG2) hm2 pe hs1) hs) (pg_name I.nd (I.hi hA) (I.loc hA) I.f) pl hs2) (e_mono q fun v H1 q1 => ?_)
  obtain ⟨n, rfl, hn, Pv, h0, hb, hd⟩ := q1
  refine ⟨(n : Int), rfl, by omega, by omega, by omega, by omega, ?_⟩
  rw [show ((n : Int) - 0).toNat = n by omega]
  refine for_rangeC (n := n) Pv h0 (fun k σ H hk pv => ?_) hd
  rw [show (0 : Int) + ((n : Nat) : Int) - 1 + ((k : Nat) : Int) * (-1) = ((n - 1 - k : Nat) : Int) by omega]
  exact hb k σ H hk pv
end
end Wk

set_option maxHeartbeats 4000000
/-! My own layer: list(zip(a, b)), whose pairs the list holds. -/
namespace Wk
open PySem PySem.Spec PyProof.Rows L2
section
variable {prog : Program} {w : World} {A : Around} {E : Value → Shared → Prop} {s : Shared} {z TI TO T i1 i2 : Addr} {fa fb : List Addr} {n1 n2 i : Nat} {Pa Pb : Nat → Value → Prop} {Sa Sb : Nat → Heap → Prop} {fl : Bool} {oT : Obj}
/-- a turn of a zip whose last tuple is still held -/
theorem zh_item {Q : Value → Shared → Prop} (Z : ZipSep2 z TI TO i1 i2 fa fb) (Da : Draws prog w A i1 fa n1 Pa Sa) (Db : Draws prog w A i2 fb n2 Pb Sb)
    (hz : IsZipHeld s.heap z TI TO T fl) (hT : s.heap.get? T = some oT) (hI : IsTupOf2 s.heap TI (.ref i1) (.ref i2)) (ta : Sa i s.heap) (tb : Sb i s.heap) (la : i < n1) (lb : i < n2)
    (k : ∀ x y g tk, Pa i x → Pb i y → IsZipHeld g z TI TO T true → Sa (i + 1) g → Sb (i + 1) g → IsTupOf2 g s.heap.objs.size x y → g.objs.size = s.heap.objs.size + 1 →
      (∀ e o, e ≠ z → e ≠ i1 → e ≠ i2 → s.heap.get? e = some o → g.get? e = some o) → Q (.ref s.heap.objs.size) { s with heap := g, toks := tk }) :
    wpAny (model prog w) A (Builtin.«zip.__next__» ⟨[.ref z], []⟩) (fun r s' => ∃ v, r = .done (.ret v) ∧ Q v s') E s := by
  obtain ⟨h0, gn, dr, t0, os⟩ := s
  show wpAny _ A (field (.ref z) 2 >>= _) _ E _
  refine wpAny_bind (wpAny_field hz rfl (x := Value.bool false) rfl ?_)
  show wpAny _ A (field (.ref z) 3 >>= _) _ E _
  refine wpAny_bind (wpAny_field hz rfl (x := Value.ref TI) rfl ?_)
  refine wpAny_bind (wpAny_seqItems (s := ⟨h0, gn, dr, t0, os⟩) hI rfl ?_)
  show wpAny _ A (Builtin.SmallTypes.ownedTupleIsFree (.ref z) >>= _) _ E _
  refine wpAny_bind (wpAny_tupleHeld_zip (s := ⟨h0, gn, dr, t0, os⟩) hz hT fun h1 z1 b1 => ?_)
  replace b1 : Heap.SameBut z h0 h1 := b1
  simp only [Bool.false_eq_true, if_false]
  refine wpAny_bind ?_
  rw [← Array.forIn_toList]
  simp only [List.forIn_cons, List.forIn_nil]
  refine wpAny_bind (wpAny_bind (wpAny_holding ?_))
  show wpAny _ A (Builtin.SmallTypes.nextOf (.ref i1) >>= _) _ E ⟨h1, gn, dr, t0, os⟩
  refine wpAny_bind (Da.item i _ _ _ la (Da.over ta b1 Z.zf1) fun x h2 t2 px sx b2 => wpAny_pure ?_)
  replace b2 : Heap.SameBut i1 h1 h2 := b2
  refine wpAny_pure ?_
  refine wpAny_bind (wpAny_bind (wpAny_holding ?_))
  show wpAny _ A (Builtin.SmallTypes.nextOf (.ref i2) >>= _) _ E ⟨h2, gn, dr, t2, os⟩
  refine wpAny_bind (Db.item i _ _ _ lb (Db.over (Db.over tb b1 Z.zf2) b2 Z.sep1_2) fun y h3 t3 py sy b3 => wpAny_pure ?_)
  replace b3 : Heap.SameBut i2 h2 h3 := b3
  refine wpAny_pure (wpAny_pure ?_)
  show wpAny _ A (newTuple [x, y] >>= _) _ E ⟨h3, gn, dr, t3, os⟩
  refine wpAny_bind (wpAny_newTuple ?_)
  have sz : h3.objs.size = h0.objs.size := by rw [b3.1, b2.1, b1.1]
  have z3 : IsZipHeld h3 z TI TO T true := b3.extBut _ _ Z.zi2 (b2.extBut _ _ Z.zi1 z1)
  have kp : ∀ e o, e ≠ z → e ≠ i1 → e ≠ i2 → h0.get? e = some o → h3.get? e = some o := fun e o c1 c2 c3 q => b3.extBut _ _ c3 (b2.extBut _ _ c2 (b1.extBut _ _ c1 q))
  have tp : IsTupOf2 (h3.push { cls := .type "tuple", data := .seq #[x, y] }) h3.objs.size x y := Heap.get?_push_size _ rfl
  have s4 : (h3.push { cls := .type "tuple", data := .seq #[x, y] }).objs.size = h3.objs.size + 1 := Heap.size_push ..
  refine wpAny_pure ⟨_, rfl, ?_⟩
  show Q (.ref h3.objs.size) _
  rw [sz] at tp s4 ⊢
  exact k x y _ t3 px py (Heap.get?_push_of_some _ z3) (Da.frame _ _ _ (Da.over sx b3 Z.sep2_1) fun e _ o q => Heap.get?_push_of_some _ q) (Db.frame _ _ _ sy fun e _ o q => Heap.get?_push_of_some _ q) tp s4 fun e o c1 c2 c3 q => Heap.get?_push_of_some _ (kp e o c1 c2 c3 q)
theorem zh_stop {Q : PySem.Fin → Shared → Prop} (Z : ZipSep2 z TI TO i1 i2 fa fb) (Da : Draws prog w A i1 fa n1 Pa Sa) (Db : Draws prog w A i2 fb n2 Pb Sb)
    (hz : IsZipHeld s.heap z TI TO T fl) (hT : s.heap.get? T = some oT) (hI : IsTupOf2 s.heap TI (.ref i1) (.ref i2)) (ta : Sa i s.heap) (tb : Sb i s.heap) (la : i ≤ n1) (lb : i ≤ n2) (hend : i = n1 ∨ i = n2)
    (k : ∀ g tk e, (∀ c o, c ≠ z → c ≠ i1 → c ≠ i2 → s.heap.get? c = some o → g.get? c = some o) → (∃ o, g.get? e = some o ∧ o.cls = .type "StopIteration") → E (.ref e) { s with heap := g, toks := tk }) :
    wpAny (model prog w) A (Builtin.«zip.__next__» ⟨[.ref z], []⟩) Q E s := by
  obtain ⟨h0, gn, dr, t0, os⟩ := s
  show wpAny _ A (field (.ref z) 2 >>= _) _ E _
  refine wpAny_bind (wpAny_field hz rfl (x := Value.bool false) rfl ?_)
  show wpAny _ A (field (.ref z) 3 >>= _) _ E _
  refine wpAny_bind (wpAny_field hz rfl (x := Value.ref TI) rfl ?_)
  refine wpAny_bind (wpAny_seqItems (s := ⟨h0, gn, dr, t0, os⟩) hI rfl ?_)
  show wpAny _ A (Builtin.SmallTypes.ownedTupleIsFree (.ref z) >>= _) _ E _
  refine wpAny_bind (wpAny_tupleHeld_zip (s := ⟨h0, gn, dr, t0, os⟩) hz hT fun h1 z1 b1 => ?_)
  replace b1 : Heap.SameBut z h0 h1 := b1
  simp only [Bool.false_eq_true, if_false]
  refine wpAny_bind ?_
  rw [← Array.forIn_toList]
  simp only [List.forIn_cons, List.forIn_nil]
  refine wpAny_bind (wpAny_bind (wpAny_holding ?_))
  show wpAny _ A (Builtin.SmallTypes.nextOf (.ref i1) >>= _) _ E ⟨h1, gn, dr, t0, os⟩
  by_cases lt : i < n1
  · have e2 : i = n2 := by omega
    refine wpAny_bind (Da.item i _ _ _ lt (Da.over ta b1 Z.zf1) fun x h2 t2 px sx b2 => wpAny_pure ?_)
    replace b2 : Heap.SameBut i1 h1 h2 := b2
    refine wpAny_pure ?_
    refine wpAny_bind (wpAny_bind (wpAny_holding ?_))
    show wpAny _ A (Builtin.SmallTypes.nextOf (.ref i2) >>= _) _ E ⟨h2, gn, dr, t2, os⟩
    refine wpAny_bind (Db.done ⟨h2, gn, dr, t2, os⟩ _ _ (by rw [← e2]; exact Db.over (Db.over tb b1 Z.zf2) b2 Z.sep1_2) fun h3 e b3 he => ?_)
    replace b3 : Heap.ExtBut i2 h2 h3 := b3
    exact k h3 t2 e (fun c o c1 c2 c3 q => b3 _ _ c3 (b2.extBut _ _ c2 (b1.extBut _ _ c1 q))) he
  · have e1 : i = n1 := by omega
    refine wpAny_bind (Da.done ⟨h1, gn, dr, t0, os⟩ _ _ (by rw [← e1]; exact Da.over ta b1 Z.zf1) fun h3 e b3 he => ?_)
    replace b3 : Heap.ExtBut i1 h1 h3 := b3
    exact k h3 t0 e (fun c o c1 c2 _ q => b3 _ _ c2 (b1.extBut _ _ c1 q)) he
/-- how a zip stands whose tuples the list at L holds -/
def ZS (z TI TO i1 i2 L : Addr) (Sa Sb : Nat → Heap → Prop) (i : Nat) (h : Heap) : Prop := IsTupOf2 h TI (.ref i1) (.ref i2) ∧ Sa i h ∧ Sb i h ∧
  ((IsZip h z TI TO .none ∧ ∃ u v, IsTupOf2 h TO u v) ∨ ∃ T fl oT, IsZipHeld h z TI TO T fl ∧ h.get? T = some oT ∧ T ≠ z ∧ T ≠ i1 ∧ T ≠ i2 ∧ T ≠ L)
theorem zs_item {L : Addr} {Q : Option Value → Shared → Prop} (Z : ZipSep2 z TI TO i1 i2 fa fb) (Da : Draws prog w A.in1 i1 fa n1 Pa Sa) (Db : Draws prog w A.in1 i2 fb n2 Pb Sb) (st : ZS z TI TO i1 i2 L Sa Sb i s.heap) (hL : L < s.heap.objs.size) (la : i < n1) (lb : i < n2)
    (k : ∀ x y g tk, Pa i x → Pb i y → ZS z TI TO i1 i2 L Sa Sb (i + 1) g → IsTupOf2 g s.heap.objs.size x y → g.objs.size = s.heap.objs.size + 1 →
      (∀ e o, e ≠ z → e ≠ TO → e ≠ i1 → e ≠ i2 → s.heap.get? e = some o → g.get? e = some o) → Q (some (.ref s.heap.objs.size)) { s with heap := g, toks := tk }) :
    wpAny (model prog w) A (pyNext (.ref z)) Q E s := by
  obtain ⟨hI, ta, tb, hz⟩ := st
  obtain ⟨o1, l1⟩ := Da.live _ _ ta
  obtain ⟨o2, l2⟩ := Db.live _ _ tb
  have n1' : s.heap.objs.size ≠ i1 := Nat.ne_of_gt (Heap.lt_size l1)
  have n2' : s.heap.objs.size ≠ i2 := Nat.ne_of_gt (Heap.lt_size l2)
  rcases hz with ⟨hz, u, v, hO⟩ | ⟨T, fl, oT, hz, hT, r1, r2, r3, r4⟩
  · have nz : s.heap.objs.size ≠ z := Nat.ne_of_gt (Heap.lt_size hz)
    refine wpAny_pyNext_zipD2_item Z Da Db hz hI hO ta tb la lb fun x y g tk px py z' O' sa sb tp sz kp => ?_
    exact k x y g tk px py ⟨kp _ _ Z.TIz Z.TITO Z.TIi1 Z.TIi2 hI, sa, sb, .inr ⟨_, false, _, z', tp, nz, n1', n2', Nat.ne_of_gt hL⟩⟩ tp sz kp
  · have tz : s.TypeIs (.ref z) "zip" := ⟨_, hz, rfl⟩
    unfold pyNext
    exact wpAny_bind (wpAny_attempt (wpAny_callSpecial?_slot (name := Str.ofString "__next__") tz F.slot_zip_next (wpAny_call_entry F.slot_zip_next tz F.entry_zip_next
      (zh_item Z Da Db hz hT hI ta tb la lb fun x y g tk px py z' sa sb tp sz kp => wpAny_pure (k x y g tk px py ⟨kp _ _ Z.TIz Z.TIi1 Z.TIi2 hI, sa, sb, .inr ⟨T, true, oT, z', kp _ _ r1 r2 r3 hT, r1, r2, r3, r4⟩⟩ tp sz fun e o c1 _ c2 c3 q => kp e o c1 c2 c3 q)) (F.args_zip_next_1 _))))
theorem zs_stop {L : Addr} {Q : Option Value → Shared → Prop} (Z : ZipSep2 z TI TO i1 i2 fa fb) (Da : Draws prog w A.in1 i1 fa n1 Pa Sa) (Db : Draws prog w A.in1 i2 fb n2 Pb Sb) (st : ZS z TI TO i1 i2 L Sa Sb i s.heap) (la : i ≤ n1) (lb : i ≤ n2) (hend : i = n1 ∨ i = n2)
    (k : ∀ g tk, (∀ e o, e ≠ z → e ≠ TO → e ≠ i1 → e ≠ i2 → s.heap.get? e = some o → g.get? e = some o) → Q none { s with heap := g, toks := tk }) :
    wpAny (model prog w) A (pyNext (.ref z)) Q E s := by
  obtain ⟨hI, ta, tb, hz⟩ := st
  rcases hz with ⟨hz, u, v, hO⟩ | ⟨T, fl, oT, hz, hT, r1, r2, r3, r4⟩
  · exact wpAny_pyNext_zipD2_end Z Da Db hz hI hO ta tb la lb hend fun g tk kp => k g tk kp
  · have tz : s.TypeIs (.ref z) "zip" := ⟨_, hz, rfl⟩
    unfold pyNext
    refine wpAny_bind (wpAny_attempt (wpAny_callSpecial?_slot (name := Str.ofString "__next__") tz F.slot_zip_next (wpAny_call_entry F.slot_zip_next tz F.entry_zip_next (zh_stop Z Da Db hz hT hI ta tb la lb hend fun g tk e kp he => ?_) (F.args_zip_next_1 _))))
    obtain ⟨o, ho, hc⟩ := he
    refine wpAny_bind (wpAny_isInstance (T := "StopIteration") (b := true) ⟨o, ho, hc⟩ isSubtype_stop ?_)
    exact wpAny_pure (k g tk fun e o c1 _ c2 c3 q => kp e o c1 c2 c3 q)
/-- the pairs in the list: at rising addresses above lo -/
structure ZG (Pa Pb : Nat → Value → Prop) (lo : Addr) (h : Heap) (as : List Addr) : Prop where
  rise : as.Pairwise (· < ·)
  above : ∀ a ∈ as, lo < a
  pr : ∀ (j : Nat) (a : Addr), as[j]? = some a → ∃ x y, Pa j x ∧ Pb j y ∧ IsTupOf2 h a x y
theorem ZG.there {lo : Addr} {h : Heap} {as : List Addr} (g : ZG Pa Pb lo h as) {a : Addr} (ha : a ∈ as) : a < h.objs.size := by
  obtain ⟨j, hj⟩ := List.mem_iff_getElem?.mp ha
  obtain ⟨_, _, _, _, e⟩ := g.pr j a hj
  exact Heap.lt_size e
end
section
variable {prog : Program} {w : World} {A : Around} {s : Shared} {R : Result → Shared → Prop} {z TI TO i1 i2 : Addr} {fa fb : List Addr} {n1 n2 : Nat} {Pa Pb : Nat → Value → Prop} {Sa Sb : Nat → Heap → Prop}
theorem zs_loop {L lo : Addr} (Z : ZipSep2 z TI TO i1 i2 fa fb) (Da : Draws prog w A.in1.in1 i1 fa n1 Pa Sa) (Db : Draws prog w A.in1.in1 i2 fb n2 Pb Sb) (cz : z ≤ lo) (cO : TO ≤ lo) (c1 : i1 ≤ lo) (c2 : i2 ≤ lo) (cL : L ≤ lo) (lz : L ≠ z) (lI : L ≠ TI) (lO : L ≠ TO) (l1 : L ≠ i1) (l2 : L ≠ i2) (la : L ∉ fa) (lb : L ∉ fb) (hn : min n1 n2 ≤ sizeLine) (res : Value) {hb : Heap}
    (hR : ∀ g tk acc c as, (∀ b o, b ≠ L → b ≠ z → b ≠ TO → b ≠ i1 → b ≠ i2 → hb.get? b = some o → g.get? b = some o) → g.get? L = some { cls := .type "list", dict := none, data := .seq acc c, slots := #[] } → as.length = min n1 n2 → ZG Pa Pb lo g as → acc.toList = as.map Value.ref → R (.ok (.ret res)) { s with heap := g, toks := tk }) :
    ∀ (k i : Nat) (h : Heap) (tk c : Nat) (acc : Array Value) (as : List Addr), min n1 n2 - i = k → i ≤ min n1 n2 → ZS z TI TO i1 i2 L Sa Sb i h → (∀ b o, b ≠ L → b ≠ z → b ≠ TO → b ≠ i1 → b ≠ i2 → hb.get? b = some o → h.get? b = some o) →
      h.get? L = some { cls := .type "list", dict := none, data := .seq acc c, slots := #[] } → acc.toList = as.map Value.ref → as.length = i → ZG Pa Pb lo h as → lo < h.objs.size →
      codeAny (model prog w) A (.builtin "list.extend.loop" ⟨[.ref L, .ref z, res], []⟩) R { s with heap := h, toks := tk } := by
  intro k
  induction k with
  | zero =>
    intro i h tk c acc as hk hi st hkp hL hacc hl hG hlo
    refine codeAny_builtin F.entry_extend_loop ?_
    rw [Around.under_plainId F.plain_extend_loop _]
    show wpAny _ A.in1 (pyNext (.ref z) >>= _) _ _ _
    refine wpAny_bind (zs_stop (s := { s with heap := h, toks := tk }) (A := A.in1) Z Da Db st (by omega) (by omega) (by omega) fun g t' kp => ?_)
    refine wpAny_pure (hR g t' acc c as (fun b o q0 q1 q2 q3 q4 e => kp b o q1 q2 q3 q4 (hkp b o q0 q1 q2 q3 q4 e)) (kp L _ lz lO l1 l2 hL) (by omega) ⟨hG.rise, hG.above, fun j a hj => ?_⟩ hacc)
    obtain ⟨x, y, p1, p2, p3⟩ := hG.pr j a hj
    have ab := hG.above a (List.mem_of_getElem? hj)
    exact ⟨x, y, p1, p2, kp a _ (Nat.ne_of_gt (Nat.lt_of_le_of_lt cz ab)) (Nat.ne_of_gt (Nat.lt_of_le_of_lt cO ab)) (Nat.ne_of_gt (Nat.lt_of_le_of_lt c1 ab)) (Nat.ne_of_gt (Nat.lt_of_le_of_lt c2 ab)) p3⟩
  | succ k ih =>
    intro i h tk c acc as hk hi st hkp hL hacc hl hG hlo
    have lt1 : i < n1 := by omega
    have lt2 : i < n2 := by omega
    have hsz : acc.size = i := by rw [← Array.length_toList, hacc, List.length_map, hl]
    refine codeAny_builtin F.entry_extend_loop ?_
    rw [Around.under_plainId F.plain_extend_loop _]
    show wpAny _ A.in1 (pyNext (.ref z) >>= _) _ _ _
    refine wpAny_bind (zs_item (s := { s with heap := h, toks := tk }) (A := A.in1) Z Da Db st (Heap.lt_size hL) lt1 lt2 fun x y g t' px py st' tp sz kp => ?_)
    dsimp only at tp sz kp ⊢
    have hL' := kp L _ lz lO l1 l2 hL
    have Llt : L < h.objs.size := Heap.lt_size hL
    have up : ∀ b o, b ≠ L → g.get? b = some o → (g.update L (Obj.mapSeq (·.push (Value.ref h.objs.size)))).get? b = some o := fun b o nb e => (Heap.get?_update_other _ _ (Ne.symm nb)).trans e
    show wpAny _ A.in1 (updateSeq L (·.push (Value.ref h.objs.size)) >>= _) _ _ _
    refine wpAny_bind ?_
    refine wpAny_updateSeq hL' rfl (wpAny_pure ⟨plainId_quiet F.plain_extend_loop _, ih (i + 1) _ t' _ (acc.push (Value.ref h.objs.size)) (as ++ [h.objs.size]) (by omega) (by omega) ?_
      (fun b o q0 q1 q2 q3 q4 e => up b o q0 (kp b o q1 q2 q3 q4 (hkp b o q0 q1 q2 q3 q4 e))) (Heap.get?_update_self _ hL' rfl) (by rw [Array.toList_push, hacc, List.map_append]; rfl) (by rw [List.length_append, hl]; rfl) ⟨?_, ?_, ?_⟩ ?_⟩) (by rw [hsz]; omega) (by show (acc.push (Value.ref h.objs.size)).size ≤ sizeLine + 1; rw [Array.size_push, hsz]; omega)
    · obtain ⟨q1, q2, q3, q4⟩ := st'
      refine ⟨up _ _ (Ne.symm lI) q1, Da.frame _ _ _ q2 fun b hb o e => up b o (fun q => la (q ▸ hb)) e, Db.frame _ _ _ q3 fun b hb o e => up b o (fun q => lb (q ▸ hb)) e, ?_⟩
      rcases q4 with ⟨q5, u, v, q6⟩ | ⟨T, fl, oT, q5, q6, r1, r2, r3, r4⟩
      · exact .inl ⟨up _ _ (Ne.symm lz) q5, u, v, up _ _ (Ne.symm lO) q6⟩
      · exact .inr ⟨T, fl, oT, up _ _ (Ne.symm lz) q5, up _ _ r4 q6, r1, r2, r3, r4⟩
    · refine List.pairwise_append.mpr ⟨hG.rise, List.pairwise_singleton _ _, fun a ha b hb' => ?_⟩
      rw [List.mem_singleton.mp hb']
      exact hG.there ha
    · intro a ha
      rcases List.mem_append.mp ha with ha | ha
      · exact hG.above a ha
      · rw [List.mem_singleton.mp ha]; exact hlo
    · intro j b hj
      rcases Nat.lt_trichotomy j as.length with q | q | q
      · rw [List.getElem?_append_left q] at hj
        obtain ⟨x', y', p1, p2, p3⟩ := hG.pr j b hj
        have ab := hG.above b (List.mem_of_getElem? hj)
        exact ⟨x', y', p1, p2, up b _ (Nat.ne_of_gt (Nat.lt_of_le_of_lt cL ab)) (kp b _ (Nat.ne_of_gt (Nat.lt_of_le_of_lt cz ab)) (Nat.ne_of_gt (Nat.lt_of_le_of_lt cO ab)) (Nat.ne_of_gt (Nat.lt_of_le_of_lt c1 ab)) (Nat.ne_of_gt (Nat.lt_of_le_of_lt c2 ab)) p3)⟩
      · subst q
        have eb : h.objs.size = b := by simpa using hj
        subst eb
        exact ⟨x, y, by rw [hl]; exact px, by rw [hl]; exact py, up _ _ (Nat.ne_of_gt Llt) tp⟩
      · rw [List.getElem?_eq_none (by rw [List.length_append, List.length_singleton]; omega)] at hj
        cases hj
    · have e : (g.update L (Obj.mapSeq (·.push (Value.ref h.objs.size)))).get? h.objs.size = _ := up _ _ (Nat.ne_of_gt Llt) tp
      exact Nat.lt_trans hlo (Heap.lt_size e)
end
theorem zip_nolen : typeLookup (.type "zip") "__len__" = pure none := by rw [typeLookup_type, builtinLookup_eq_fast]; kernel_rfl
theorem zip_nohint : typeLookup (.type "zip") "__length_hint__" = pure none := by rw [typeLookup_type, builtinLookup_eq_fast]; kernel_rfl
section
variable {prog : Program} {w : World} {A : Around} {E : Value → Shared → Prop} {s : Shared} {z TI TO i1 i2 : Addr} {fa fb : List Addr} {n1 n2 : Nat} {Pa Pb : Nat → Value → Prop} {Sa Sb : Nat → Heap → Prop}
/-- list(z), z a zip that has not begun -/
theorem list_zip {Q : Value → Shared → Prop} (Z : ZipSep2 z TI TO i1 i2 fa fb) (D4 : Draws prog w A.in1.in1.in1 i1 fa n1 Pa Sa) (D5 : Draws prog w A.in1.in1.in1 i2 fb n2 Pb Sb)
    (hz : IsZip s.heap z TI TO .none) (hI : IsTupOf2 s.heap TI (.ref i1) (.ref i2)) (hO : ∃ u v, IsTupOf2 s.heap TO u v) (ta : Sa 0 s.heap) (tb : Sb 0 s.heap) (fa1 : ∀ b ∈ fa, b < s.heap.objs.size) (fb1 : ∀ b ∈ fb, b < s.heap.objs.size) (hn : min n1 n2 ≤ sizeLine)
    (hQ : ∀ g tk acc c as, (∀ b o, b ≠ z → b ≠ TO → b ≠ i1 → b ≠ i2 → s.heap.get? b = some o → g.get? b = some o) → g.get? s.heap.objs.size = some { cls := .type "list", dict := none, data := .seq acc c, slots := #[] } → as.length = min n1 n2 → ZG Pa Pb s.heap.objs.size g as → acc.toList = as.map Value.ref → Q (.ref s.heap.objs.size) { s with heap := g, toks := tk }) :
    wpAny (model prog w) A (call (.type "list") [.ref z]) Q E s := by
  refine callType_codes (Q₁ := fun ob t => ob = .ref s.heap.objs.size ∧ t = { s with heap := s.heap.push { cls := .type "list", data := .seq #[] } }) F.called_list (F.typeCall_list_1 _) F.entry_list_init (code_list_new _ ⟨rfl, rfl⟩) fun ob t h => ?_
  obtain ⟨rfl, rfl⟩ := h
  have hS : (s.heap.push { cls := .type "list", data := .seq #[] }).get? s.heap.objs.size = some { cls := .type "list", data := .seq #[] } := Heap.get?_push_size _ rfl
  have zlt : z < s.heap.objs.size := Heap.lt_size hz
  have Olt : TO < s.heap.objs.size := let ⟨_, _, e⟩ := hO; Heap.lt_size e
  have Ilt : TI < s.heap.objs.size := Heap.lt_size hI
  have lt1 : i1 < s.heap.objs.size := fa1 _ Z.mem1
  have lt2 : i2 < s.heap.objs.size := fb1 _ Z.mem2
  refine ⟨⟨_, hS, rfl⟩, F.args_list_init_2 _ _, ?_⟩
  show wpAny _ A.in1.in1 (do let old ← Builtin.List.listItems (.ref s.heap.objs.size); Builtin.List.listUpdate (.ref s.heap.objs.size) (fun _ => #[]); letGo old.toList.reverse; Builtin.List.listExtendWith (.ref s.heap.objs.size) (.ref z) .none) _ _ _
  refine wpAny_bind ?_
  unfold Builtin.List.listItems
  refine wpAny_bind (wpAny_seqItems hS rfl (wpAny_pure ?_))
  show wpAny _ A.in1.in1 (updateSeq s.heap.objs.size (fun _ => #[]) >>= fun _ => letGo (#[] : Array Value).toList.reverse >>= fun _ => Builtin.List.listExtendWith (.ref s.heap.objs.size) (.ref z) .none) _ _ _
  refine wpAny_bind (wpAny_updateSeq hS rfl ?_)
  have hS2 := Heap.get?_update_self (Obj.mapSeq (fun _ => (#[] : Array Value))) hS rfl
  refine wpAny_bind (wpAny_letGo ?_)
  have up : ∀ (h : Heap) (f : Obj → Obj), (∀ b o, s.heap.get? b = some o → h.get? b = some o) → ∀ b o, s.heap.get? b = some o → (h.update s.heap.objs.size f).get? b = some o := fun h f q b o e => (Heap.get?_update_other _ _ (Ne.symm (Nat.ne_of_lt (Heap.lt_size e)))).trans (q b o e)
  have k1 : ∀ b o, s.heap.get? b = some o → (s.heap.push { cls := .type "list", data := .seq #[] }).get? b = some o := fun b o e => Heap.get?_push_of_some _ e
  have k2 := up _ (Obj.mapSeq (fun _ => (#[] : Array Value))) k1
  unfold Builtin.List.listExtendWith
  have zt : ∀ {h : Heap} {g : Array GenState} {d : Drawn} {tk : Nat} {os : OsState}, (∀ b o, s.heap.get? b = some o → h.get? b = some o) → Shared.TypeIs ⟨h, g, d, tk, os⟩ (.ref z) "zip" := fun {h g d tk os} q => ⟨_, q _ _ hz, rfl⟩
  refine wpAny_bind (wpAny_typeOf (T := "zip") (zt k2) ?_)
  have e1 : Builtin.List.listSameRef (.ref s.heap.objs.size) (.ref z) = false := by simp [Builtin.List.listSameRef, Nat.ne_of_gt zlt]
  have e2 : (Value.type "zip" == Value.type "list") = false := by decide
  have e3 : (Value.type "zip" == Value.type "tuple") = false := by decide
  simp only [e1, e2, e3, Bool.or_false, Bool.false_eq_true, if_false]
  refine wpAny_bind (wpAny_pyIter_zip (s := { s with heap := _ }) (k2 _ _ hz) ?_)
  refine wpAny_bind (wpAny_holding ?_)
  unfold Builtin.List.listLengthHint
  refine wpAny_bind (wpAny_specialOf (zt k2) zip_nolen ?_)
  show wpAny _ A.in1.in1 (specialOf (Value.ref z) (Str.ofString "__length_hint__") >>= _) _ _ _
  refine wpAny_bind (wpAny_specialOf (zt k2) zip_nohint ?_)
  refine wpAny_pure ?_
  show wpAny _ A.in1.in1 (rule "list.extend.makes-room" >>= fun _ => Builtin.List.listTouch (.ref s.heap.objs.size) >>= fun _ => again (.builtin "list.extend.loop" ⟨[.ref s.heap.objs.size, .ref z, .none], []⟩)) _ _ _
  refine wpAny_bind (wpAny_rule ?_)
  refine wpAny_bind ?_
  show wpAny _ A.in1.in1 (updateSeq s.heap.objs.size (·.push .none) >>= fun _ => updateSeq s.heap.objs.size (·.pop)) _ _ _
  refine wpAny_bind (wpAny_updateSeq hS2 rfl ?_)
  have hS3 := Heap.get?_update_self (Obj.mapSeq (·.push Value.none)) hS2 rfl
  refine wpAny_updateSeq (hz := by seq_fits) hS3 rfl ?_
  have hS4 := Heap.get?_update_self (Obj.mapSeq (·.pop)) hS3 rfl
  have k3 := up _ (Obj.mapSeq (·.push Value.none)) k2
  have k4 := up _ (Obj.mapSeq (·.pop)) k3
  refine wpAny_pure ⟨plainId_quiet F.plain_extend_loop _, zs_loop (A := A.in1) (s := s) (L := s.heap.objs.size) (lo := s.heap.objs.size) (hb := s.heap) Z D4 D5 (Nat.le_of_lt zlt) (Nat.le_of_lt Olt) (Nat.le_of_lt lt1) (Nat.le_of_lt lt2) (Nat.le_refl _) (Nat.ne_of_gt zlt) (Nat.ne_of_gt Ilt) (Nat.ne_of_gt Olt) (Nat.ne_of_gt lt1) (Nat.ne_of_gt lt2)
    (fun q => Nat.lt_irrefl _ (fa1 _ q)) (fun q => Nat.lt_irrefl _ (fb1 _ q)) hn .none (fun g tk acc c as kp hL hl hG hacc => ?_) (min n1 n2) 0 _ s.toks _ #[] [] (Nat.sub_zero _) (Nat.zero_le _)
    ⟨k4 _ _ hI, D4.frame _ _ _ ta fun b _ o e => k4 b o e, D5.frame _ _ _ tb fun b _ o e => k4 b o e, .inl ⟨k4 _ _ hz, let ⟨u, v, e⟩ := hO; ⟨u, v, k4 _ _ e⟩⟩⟩ (fun b o _ _ _ _ _ e => k4 b o e) hS4 rfl rfl ⟨List.Pairwise.nil, (fun a ha => by cases ha), fun j a hj => by simp at hj⟩ (Heap.lt_size hS4)⟩
  exact ⟨rfl, hQ g tk acc c as (fun b o q1 q2 q3 q4 e => kp b o (Nat.ne_of_lt (Heap.lt_size e)) q1 q2 q3 q4 e) hL hl hG hacc⟩
end
/-! ### in the abstract heap -/
def putP : Hp → List Addr → List (V × V) → Hp
  | H, a :: as, p :: ps => putP (upd H a (.tup [p.1, p.2])) as ps
  | H, [], _ => H
  | H, _ :: _, [] => H
theorem putP_off {b : Addr} : ∀ (as : List Addr) (ps : List (V × V)) (H : Hp), b ∉ as → putP H as ps b = H b
  | [], _, _, _ => by unfold putP; rfl
  | _ :: _, [], _, _ => by unfold putP; rfl
  | a :: as, p :: ps, H, h => by
    unfold putP
    rw [putP_off as ps _ (fun q => h (List.mem_cons_of_mem _ q)), upd_ne (fun q => h (by rw [q]; exact List.mem_cons_self))]
theorem putP_at : ∀ (as : List Addr) (ps : List (V × V)) (H : Hp), as.length = ps.length → as.Nodup → ∀ (j : Nat) (a : Addr), as[j]? = some a → ∃ q, ps[j]? = some q ∧ putP H as ps a = some (.tup [q.1, q.2])
  | [], _, _, _, _, j, a, h => by simp at h
  | _ :: _, [], _, h, _, _, _, _ => by simp at h
  | b :: as, p :: ps, H, h, nd, j, a, hj => by
    have nd' := List.nodup_cons.mp nd
    cases j with
    | zero =>
      have e : b = a := by simpa using hj
      subst e
      refine ⟨p, rfl, ?_⟩
      unfold putP
      rw [putP_off as ps _ nd'.1, upd_same]
    | succ j =>
      obtain ⟨q, h1, h2⟩ := putP_at as ps (upd H b (.tup [p.1, p.2])) (by simpa using h) nd'.2 j a (by simpa using hj)
      refine ⟨q, by simpa using h1, ?_⟩
      unfold putP
      exact h2
theorem refs_vals : ∀ as : List Addr, Vals (as.map V.ref) (as.map Value.ref)
  | [] => .nil
  | _ :: as => .cons rfl (refs_vals as)
/-- the list and its pairs are tracked -/
theorem pairs_laid {X : Cx} {pins : List (Addr × Obj)} {σ : L2.St} {H : Hp} {s : Shared} {g : Heap} {tk : Nat} {ps : List (V × V)} {acc : Array Value} {c : Nat} {as : List Addr} {L : Addr} (I : Inv X pins σ H s) (hz : ps.length ≤ sizeLine) (kp : ∀ b o, s.heap.get? b = some o → g.get? b = some o) (hL : s.heap.objs.size ≤ L)
    (hS : g.get? L = some { cls := .type "list", dict := none, data := .seq acc c, slots := #[] }) (hl : as.length = ps.length) (rise : as.Pairwise (· < ·)) (ab : ∀ a ∈ as, L < a) (hacc : acc.toList = as.map Value.ref)
    (pr : ∀ (j : Nat) (a : Addr) (q : V × V), as[j]? = some a → ps[j]? = some q → ∃ x y, RelV q.1 x ∧ RelV q.2 y ∧ IsTupOf2 g a x y) :
    ∃ H' : Hp, Same H H' ∧ H L = none ∧ H' L = some (.lst (as.map V.ref)) ∧ (∀ (j : Nat) (a : Addr), as[j]? = some a → ∃ q, ps[j]? = some q ∧ H' a = some (.tup [q.1, q.2])) ∧ Inv X pins σ H' { s with heap := g, toks := tk } := by
  have nL : L ∉ as := fun q => Nat.lt_irrefl _ (ab _ q)
  have nd : as.Nodup := List.Pairwise.imp (fun {a b} (h : a < b) => Nat.ne_of_lt h) rise
  have nw : ∀ t ∈ as, H t = none := fun t ht => I.hok.fresh (Nat.le_trans hL (Nat.le_of_lt (ab t ht)))
  have nwL : H L = none := I.hok.fresh hL
  have at' := putP_at as ps (upd H L (.lst (as.map V.ref))) hl nd
  have off : ∀ b, b ∉ as → b ≠ L → putP (upd H L (.lst (as.map V.ref))) as ps b = H b := fun b h1 h2 => by rw [putP_off as ps _ h1, upd_ne h2]
  have low : ∀ b o, s.heap.get? b = some o → b ∉ as ∧ b ≠ L := fun b o e => ⟨fun q => absurd (Nat.lt_trans (Nat.lt_of_lt_of_le (Heap.lt_size e) hL) (ab b q)) (Nat.lt_irrefl _), fun q => absurd (Nat.lt_of_lt_of_le (Heap.lt_size e) hL) (by rw [q]; exact Nat.lt_irrefl _)⟩
  have kH : ∀ b u, H b = some u → putP (upd H L (.lst (as.map V.ref))) as ps b = some u := fun b u e => by
    rw [off b (fun q => by rw [nw b q] at e; cases e) (fun q => by rw [q, nwL] at e; cases e)]
    exact e
  have eL : putP (upd H L (.lst (as.map V.ref))) as ps L = some (.lst (as.map V.ref)) := by rw [putP_off as ps _ nL, upd_same]
  refine ⟨_, kH, nwL, eL, at', ?_⟩
  refine I.call' (ch := []) rfl ⟨fun b o q _ _ _ => kp b o q, fun b o q _ _ _ => ⟨o.slots, kp b o q⟩, fun b o q n _ => ?_, fun b o q _ => ⟨o, kp b o q⟩, fun b xs q => kH b _ q, fun b o u q => kH b _ q, fun b qs q => ⟨#[], by rw [kH b _ q]; simp⟩⟩ (fun b u q => ?_) I.bare fun b q => by simp at q
  · obtain ⟨z1, z2⟩ := low b o q
    rw [off b z1 z2]
    exact n
  · by_cases hb : b ∈ as
    · obtain ⟨j, hj⟩ := List.mem_iff_getElem?.mp hb
      obtain ⟨pq, e1, e2⟩ := at' j b hj
      rw [e2] at q
      cases q
      obtain ⟨x, y, r1, r2, tp⟩ := pr j b pq hj e1
      exact ⟨by show 2 ≤ 2 ^ 24; decide, [x, y], .cons r1 (.cons r2 .nil), ⟨_, tp, rfl, _, rfl⟩⟩
    · by_cases hb2 : b = L
      · rw [hb2] at q ⊢
        rw [eL] at q
        cases q
        refine ⟨by rw [List.length_map]; omega, acc.toList, c, by rw [hacc]; exact refs_vals as, ?_⟩
        rw [Array.toArray_toList]
        exact hS
      · rw [off b hb hb2] at q
        exact (I.hok b u q).stay (fun d v _ y => kp d v y) (fun d y => kH d _ y) fun d xs y => kH d _ y
end Wk
namespace Wk
open PySem PySem.Spec PyProof.Rows L2
section
variable {X : Cx} {e a b c elt kx vx o : Expr} {es rest : List Expr} {σ : L2.St} {H : Hp} {Q : VK} {pos p0 apos : Pos} {N G G' : List Str} {Vn : List (Nat × Str)} {sc scope : Scope}
/-- list(zip(a, b)) -/
theorem e_listZ (c d : Side) {g g2 : Nat} {p p2 pos2 : Pos} (hm : X.mg "list" = none) (hmz : X.mg "zip" = none)
    (q : wE X a σ H fun v H1 => wE X b σ H1 fun u H2 => ∃ va vb xs ys, v = .ref va ∧ u = .ref vb ∧ c.sq X.K H2 va xs ∧ d.sq X.K H2 vb ys ∧ min xs.length ys.length ≤ 200000 ∧
      ∀ (L : Addr) (as : List Addr) (H3 : Hp), Same H2 H3 → H2 L = none → H3 L = some (.lst (as.map V.ref)) → as.length = min xs.length ys.length → (∀ (j : Nat) (t : Addr), as[j]? = some t → ∃ x y, xs[j]? = some x ∧ ys[j]? = some y ∧ H3 t = some (.tup [x, y])) → Q (.ref L) H3)
    (I : In X N G sc := by assumption) (hc : X.calm = true := by rfl) (hG : At G g ("list" : Str) := by repeat (first | with_reducible apply At.z | with_reducible apply At.s)) (hGz : At G g2 ("zip" : Str) := by repeat (first | with_reducible apply At.z | with_reducible apply At.s))
    (hs : starEach [.Call (.Name "zip" p2) [a, b] [] pos2] X.env = (false, eval (.Call (.Name "zip" p2) [a, b] [] pos2) X.env) :: starEach [] X.env := by rfl) (hs0 : starEach [a, b] X.env = (false, eval a X.env) :: starEach [b] X.env := by rfl) (hpl : (backTo pos2 (starEach [b] X.env)).any (·.1) = false := by rfl)
    (hs1 : starEach (b :: []) X.env = (false, eval b X.env) :: starEach [] X.env := by rfl) :
    wE X (.Call (.Name "list" p) [.Call (.Name "zip" p2) [a, b] [] pos2] [] pos) σ H Q := by
  unfold wE
  intro pins s I0
  refine wpAny_Call_Name_kw (ld_blt I0 (I.g hG) hm b_list ?_ (I.gn hG) (I.gd hG))
  refine PyProof.Rows.callWith_type1 ?_ hs rfl
  rw [hs]
  show wpAny _ _ (spliced ((false, eval (.Call (.Name "zip" p2) [a, b] [] pos2) X.env) :: backTo pos (starEach [] X.env))) _ _ s
  refine Calls.spliced_cons ?_
  refine Call_ (ld_blt I0 (I.g hGz) hmz PyProof.Rows.boot_zip (PyProof.Rows.callWith_type1 (thn ((pa_cons pe (pa_cons pe pa_nil hs1) hs0).run pos2 pins s σ H (fun vs H2 => ∃ va vb xs ys, vs = [.ref va, .ref vb] ∧ c.sq X.K H2 va xs ∧ d.sq X.K H2 vb ys ∧ min xs.length ys.length ≤ 200000 ∧
      ∀ (L : Addr) (as : List Addr) (H3 : Hp), Same H2 H3 → H2 L = none → H3 L = some (.lst (as.map V.ref)) → as.length = min xs.length ys.length → (∀ (j : Nat) (t : Addr), as[j]? = some t → ∃ x y, xs[j]? = some x ∧ ys[j]? = some y ∧ H3 t = some (.tup [x, y])) → Q (.ref L) H3) I0 (e_mono q fun v H1 q1 => e_mono q1 fun u H2 ⟨va, vb, xs, ys, e1, e2, z⟩ => ⟨va, vb, xs, ys, by rw [e1, e2], z⟩)) fun us s1 ⟨vs, H1, I1, r1, va, vb, xs, ys, ev, sx, sy, hz, k⟩ => ?_) hs0 hpl))
  subst ev
  obtain ⟨u, v, rfl, ru, rv⟩ : ∃ u v, us = [u, v] ∧ RelV (.ref va) u ∧ RelV (.ref vb) v := by
    cases r1 with
    | cons r t => cases t with
      | cons r' t => cases t; exact ⟨_, _, rfl, r, r'⟩
  cases ru
  cases rv
  obtain ⟨ws, rw1, cx⟩ := c.own I1 sx
  obtain ⟨zs, rw2, cy⟩ := d.own I1 sy
  have la := c.lt cx
  have lb := d.lt cy
  have hh : X.A.handled = none := I1.ok.hd hc
  have lw := rw1.length
  have lz := rw2.length
  generalize hN : s1.heap.objs.size = M at la lb
  refine zip_begins2 (c.begins va ws.toArray) (d.begins vb zs.toArray) cx cy fun h1 g1 g2 g3 g4 g5 gsz kp => ?_
  rw [hN] at g1 g2 g3 g4 g5 gsz ⊢
  refine Calls.spliced_nil ?_
  have S : ZipSep2 (M + 4) (M + 2) (M + 3) M (M + 1) [M, va] [M + 1, vb] := zip_sep2 (fun e he => by rw [List.mem_singleton.mp he]; exact la) (fun e he => by rw [List.mem_singleton.mp he]; exact lb)
  have cu : ∀ (cc : Side) (x : Addr) (us : Array Value), cc.con s1.heap x us → cc.con h1 x us := fun cc x us hx => by
    cases cc with
    | l => exact hx.at fun o q => kp _ o q
    | t => exact hx.at fun o q => kp _ o q
  refine list_zip (s := { s1 with heap := h1 }) S (c.draws (A := X.A.in1.in1.in1) hh M va (Nat.ne_of_lt la) ws.toArray) (d.draws (A := X.A.in1.in1.in1) hh (M + 1) vb (Nat.ne_of_lt (Nat.lt_succ_of_lt lb)) zs.toArray) g1 g2 ⟨_, _, g3⟩ ⟨c.start g4, cu c _ _ cx⟩ ⟨d.start g5, cu d _ _ cy⟩ (fun e he => ?_) (fun e he => ?_) ?_ fun g tk acc cc as kg hL hl hG hacc => ?_
  · show e < h1.objs.size
    rw [gsz]
    simp only [List.mem_cons, List.not_mem_nil, or_false] at he
    rcases he with rfl | rfl
    · exact Nat.lt_add_of_pos_right (by decide)
    · exact Nat.lt_of_lt_of_le la (Nat.le_add_right _ _)
  · show e < h1.objs.size
    rw [gsz]
    simp only [List.mem_cons, List.not_mem_nil, or_false] at he
    rcases he with rfl | rfl
    · exact Nat.add_lt_add_left (by decide) M
    · exact Nat.lt_of_lt_of_le lb (Nat.le_add_right _ _)
  · rw [List.size_toArray, List.size_toArray, ← lw, ← lz]
    show _ ≤ 2 ^ 24
    omega
  · dsimp only at kg hL hG
    have lo : ∀ b o, s1.heap.get? b = some o → b < M := fun b o q => hN ▸ Heap.lt_size q
    have lm : min xs.length ys.length = (xs.zip ys).length := by rw [List.length_zip]
    have hl2 : as.length = (xs.zip ys).length := by rw [hl, List.size_toArray, List.size_toArray, ← lw, ← lz, lm]
    obtain ⟨H', e1, e2, e3, e4, J⟩ := pairs_laid (tk := tk) (ps := xs.zip ys) (L := h1.objs.size) I1 (by rw [← lm]; show _ ≤ 2 ^ 24; omega) (fun b o q => kg b o (Nat.ne_of_lt (Nat.lt_of_lt_of_le (lo b o q) (Nat.le_add_right M 4))) (Nat.ne_of_lt (Nat.lt_of_lt_of_le (lo b o q) (Nat.le_add_right M 3))) (Nat.ne_of_lt (lo b o q)) (Nat.ne_of_lt (Nat.lt_of_lt_of_le (lo b o q) (Nat.le_add_right M 1))) (kp b o q)) (by omega) hL hl2 hG.rise hG.above hacc
      (fun j t pq hj hq => by
        obtain ⟨x', y', p1, p2, p3⟩ := hG.pr j t hj
        obtain ⟨q1, q2⟩ := List.getElem?_zip_eq_some.mp hq
        obtain ⟨w1, f1, f2⟩ := rw1.get q1
        obtain ⟨w2, f3, f4⟩ := rw2.get q2
        rw [List.getElem?_toArray, f1] at p1
        rw [List.getElem?_toArray, f3] at p2
        cases p1
        cases p2
        exact ⟨_, _, f2, f4, p3⟩)
    refine ⟨.ref h1.objs.size, H', J, rfl, k _ as H' e1 e2 e3 (by rw [hl2, lm]) fun j t hj => ?_⟩
    obtain ⟨pq, q1, q2⟩ := e4 j t hj
    obtain ⟨q3, q4⟩ := List.getElem?_zip_eq_some.mp q1
    exact ⟨pq.1, pq.2, q3, q4, q2⟩
/-- for x, y in reversed(xs), xs a list of pairs -/
theorem s_forRv2 {nx : L2.St → Hp → Prop} {rt : VK} {bk ct : L2.St → Hp → Prop} {g : Nat} {x y : Str} {i j : Nat} {body : List Stmt} {px py pt p cp pos : Pos} {kk : Nat} (hm : X.mg "reversed" = none)
    (q : wE X a σ H fun v H1 => ∃ ad xs, v = .ref ad ∧ SqL X.K H1 ad xs ∧ ∃ Pv : Nat → L2.St → Hp → Prop, Pv 0 σ H1 ∧ (∀ k σ H, k ≤ xs.length → Pv k σ H → SqL X.K H ad xs) ∧
      (∀ k y σ H, xs.reverse[k]? = some y → Pv k σ H → ∃ t u1 u2, y = .ref t ∧ SqT X.K H t [u1, u2] ∧ wL X body ⟨Pv (k + 1), rt, nx, Pv (k + 1)⟩ ((σ.set i (some u1)).set j (some u2)) H) ∧ ∀ σ H, Pv xs.length σ H → nx σ H)
    (I : In X N G sc := by assumption) (hc : X.calm = true := by rfl) (hA : At N i x := by repeat (first | with_reducible apply At.z | with_reducible apply At.s)) (hB : At N j y := by repeat (first | with_reducible apply At.z | with_reducible apply At.s)) (hG : At G g ("reversed" : Str) := by repeat (first | with_reducible apply At.z | with_reducible apply At.s))
    (hs : starEach [a] X.env = (false, eval a X.env) :: starEach [] X.env := by rfl) (hs2 : ∀ z, foldedSetIterable (.Call (.Name "reversed" p) [a] [] cp) X.env z = pure z := by intro _; rfl) :
    wS X (.For (.Tuple [.Name x px, .Name y py] kk pt) (.Call (.Name "reversed" p) [a] [] cp) body [] pos) ⟨nx, rt, bk, ct⟩ σ H := by
  refine s_of (ps_for I.never hc (RT.pi_revA (I.g hG) hm pe hs) (pg_tup hc (pgs_cons (pg_name I.nd (I.hi hA) (I.loc hA) I.f) (pgs_cons (pg_name I.nd (I.hi hB) (I.loc hB) I.f) pgs_nil))) pl hs2) (e_mono q fun v H1 q1 => ?_)
  obtain ⟨ad, xs, rfl, hl, Pv, h0, hk, hb, hd⟩ := q1
  refine ⟨ad, xs, rfl, .inl ⟨hl, fun k m σ H => m = xs.length - k ∧ k ≤ xs.length ∧ Pv k σ H, ⟨xs.length, by simp, Nat.zero_le _, h0⟩, ?_⟩⟩
  rintro k m σ H ⟨rfl, hi, p⟩
  have q := hk k σ H hi p
  by_cases hlt : k < xs.length
  · refine .inr ⟨⟨hlt, xs, xs[xs.length - 1 - k]'(by omega), q, by simp⟩, Pv (k + 1), fun σ' H' p' => ⟨xs.length - (k + 1), by omega, rfl, hlt, p'⟩, fun x H' y => ?_⟩
    obtain ⟨e, y⟩ := y
    subst e
    obtain ⟨t, u1, u2, rfl, hq, z⟩ := hb k x σ _ (by rw [List.getElem?_reverse hlt]; exact y xs q) p
    exact ⟨t, [u1, u2], rfl, hq, rfl, u1, [u2], rfl, u2, [], rfl, rfl, z⟩
  · have e : k = xs.length := by omega
    subst e
    exact .inl ⟨Nat.le_refl _, hd σ H p⟩
/-- what the turns of a dict's comprehension over a dict ask, with a test or without -/
def DTurn (X : Cx) (Vn : List (Nat × Str)) (G' : List Str) (kx vx : Expr) (scope : Scope) (i : Nat) (D : Addr) (σ : L2.St) (x : V) (H2 : Hp) (nxt : Hp → Prop) : Prop := ∀ s0 H0 C cl fp, InB (Bk X s0 H0 scope C cl fp) Vn G' →
  wE (Bk X s0 H0 scope C cl fp) kx ((wipe σ [i]).set i (some x)) H2 fun y H3 => ∀ s0 H0 C cl fp, InB (Bk X s0 H0 scope C cl fp) Vn G' →
    wE (Bk X s0 H0 scope C cl fp) vx ((wipe σ [i]).set i (some x)) H3 fun z H4 => ∃ kvs ky, y = kV ky ∧ H4 D = some (.dK kvs) ∧ kvs.length < sizeLine ∧ nxt (upd H4 D (.dK (putK kvs ky z)))
def DcD (X : Cx) (Vn : List (Nat × Str)) (G' : List Str) (kx vx : Expr) (scope : Scope) (i : Nat) (d : Addr) (o : Obj) (kvs : List (Key × V)) (D : Addr) (σ : L2.St) (H1 : Hp) (Qd : Hp → Prop) : Prop := ∃ Pv : Nat → Hp → Prop, Pv 0 (upd H1 D (.dK [])) ∧ (∀ k H2, k ≤ kvs.length → Pv k H2 → H2 d = some (.frz o (.dK kvs))) ∧
  (∀ k y v H2, kvs[k]? = some (y, v) → Pv k H2 → DTurn X Vn G' kx vx scope i D σ (kV y) H2 (Pv (k + 1))) ∧ ∀ H2, Pv kvs.length H2 → Qd H2
def DcDf (X : Cx) (Vn : List (Nat × Str)) (G' : List Str) (kx vx c : Expr) (scope : Scope) (i : Nat) (d : Addr) (o : Obj) (kvs : List (Key × V)) (D : Addr) (σ : L2.St) (H1 : Hp) (Qd : Hp → Prop) : Prop := ∃ Pv : Nat → Hp → Prop, Pv 0 (upd H1 D (.dK [])) ∧ (∀ k H2, k ≤ kvs.length → Pv k H2 → H2 d = some (.frz o (.dK kvs))) ∧
  (∀ k y v H2, kvs[k]? = some (y, v) → Pv k H2 → ∀ s0 H0 C cl fp, InB (Bk X s0 H0 scope C cl fp) Vn G' → wT (Bk X s0 H0 scope C cl fp) c ((wipe σ [i]).set i (some (kV y))) H2 fun t H3 => if t = true then DTurn X Vn G' kx vx scope i D σ (kV y) H3 (Pv (k + 1)) else Pv (k + 1) H3) ∧ ∀ H2, Pv kvs.length H2 → Qd H2
theorem dturn_of {i : Nat} {D : Addr} {x : V} {H2 : Hp} {nxt : Hp → Prop} (q : DTurn X Vn G' kx vx scope i D σ x H2 nxt) : wBk X Vn G' kx scope ((wipe σ [i]).set i (some x)) H2 fun y H4 => wBk X Vn G' vx scope ((wipe σ [i]).set i (some x)) H4 fun z H5 => ∃ kvs k, y = kV k ∧ H5 D = some (.dK kvs) ∧ kvs.length < sizeLine ∧ nxt (upd H5 D (.dK (putK kvs k z))) := by
  unfold wBk
  exact q
theorem dcD_of {i : Nat} {d : Addr} {ob : Obj} {kvs : List (Key × V)} {D : Addr} {H1 : Hp} {Qd : Hp → Prop} (q : DcD X Vn G' kx vx scope i d ob kvs D σ H1 Qd) : ∃ W : Nat → Nat → Hp → Prop, (∃ m, W 0 m (upd H1 D (.dK []))) ∧ ∀ k m H, W k m H →
    ((Itk d ob kvs).stop k H ∧ Qd H) ∨ ((Itk d ob kvs).go k H ∧ ∃ Nx : Hp → Prop, (∀ H', Nx H' → ∃ m', m' < m ∧ W (k + 1) m' H') ∧ ∀ x H', (Itk d ob kvs).yld k H x H' → gName i x (wipe σ [i]) H' fun σ2 H2 => wipe σ2 [i] = wipe σ [i] ∧ tYes σ2 H2 fun b H3 =>
      if b = true then wBk X Vn G' kx scope σ2 H3 fun y H4 => wBk X Vn G' vx scope σ2 H4 fun z H5 => ∃ kvs k, y = kV k ∧ H5 D = some (.dK kvs) ∧ kvs.length < sizeLine ∧ Nx (upd H5 D (.dK (putK kvs k z))) else Nx H3) := by
  obtain ⟨Pv, h0, hl, hs, hd⟩ := q
  refine ⟨fun k m H => m = kvs.length - k ∧ k ≤ kvs.length ∧ Pv k H, ⟨kvs.length, rfl, Nat.zero_le _, h0⟩, ?_⟩
  rintro k m H ⟨rfl, hk, p⟩
  have fz := hl k H hk p
  by_cases lt : k < kvs.length
  · refine .inr ⟨⟨fz, lt⟩, Pv (k + 1), fun H' p' => ⟨kvs.length - (k + 1), by omega, rfl, lt, p'⟩, fun x H' y => ?_⟩
    obtain ⟨rfl, ky, v, hkv, rfl⟩ := y
    refine ⟨wipe_set σ i _, ?_⟩
    unfold tYes
    exact iteT (dturn_of (hs k ky v _ hkv p))
  · have ek : k = kvs.length := by omega
    subst ek
    exact .inl ⟨⟨fz, Nat.le_refl _⟩, hd H p⟩
theorem dcDf_of {i : Nat} {d : Addr} {ob : Obj} {kvs : List (Key × V)} {D : Addr} {H1 : Hp} {Qd : Hp → Prop} (q : DcDf X Vn G' kx vx c scope i d ob kvs D σ H1 Qd) : ∃ W : Nat → Nat → Hp → Prop, (∃ m, W 0 m (upd H1 D (.dK []))) ∧ ∀ k m H, W k m H →
    ((Itk d ob kvs).stop k H ∧ Qd H) ∨ ((Itk d ob kvs).go k H ∧ ∃ Nx : Hp → Prop, (∀ H', Nx H' → ∃ m', m' < m ∧ W (k + 1) m' H') ∧ ∀ x H', (Itk d ob kvs).yld k H x H' → gName i x (wipe σ [i]) H' fun σ2 H2 => wipe σ2 [i] = wipe σ [i] ∧ wBkT X Vn G' c scope σ2 H2 fun b H3 =>
      if b = true then wBk X Vn G' kx scope σ2 H3 fun y H4 => wBk X Vn G' vx scope σ2 H4 fun z H5 => ∃ kvs k, y = kV k ∧ H5 D = some (.dK kvs) ∧ kvs.length < sizeLine ∧ Nx (upd H5 D (.dK (putK kvs k z))) else Nx H3) := by
  obtain ⟨Pv, h0, hl, hs, hd⟩ := q
  refine ⟨fun k m H => m = kvs.length - k ∧ k ≤ kvs.length ∧ Pv k H, ⟨kvs.length, rfl, Nat.zero_le _, h0⟩, ?_⟩
  rintro k m H ⟨rfl, hk, p⟩
  have fz := hl k H hk p
  by_cases lt : k < kvs.length
  · refine .inr ⟨⟨fz, lt⟩, Pv (k + 1), fun H' p' => ⟨kvs.length - (k + 1), by omega, rfl, lt, p'⟩, fun x H' y => ?_⟩
    obtain ⟨rfl, ky, v, hkv, rfl⟩ := y
    refine ⟨wipe_set σ i _, ?_⟩
    unfold wBkT
    intro s0 H0 C cl fp IB
    refine t_mono (hs k ky v _ hkv p s0 H0 C cl fp IB) fun t H3 z => ?_
    cases t with
    | true => exact iteT (dturn_of z)
    | false => exact z
  · have ek : k = kvs.length := by omega
    subst ek
    exact .inl ⟨⟨fz, Nat.le_refl _⟩, hd H p⟩
/-- {kx: vx for x in d}, d a dict that stands at ad -/
theorem e_dcD {i : Nat} {x : Str} {px : Pos} {ad : Addr} {kvs : List (Key × V)} (B : BkOk X.N Vn G' i x sc scope) (hd : H ad = some (.dK kvs))
    (q : ∀ o, wE X a σ (upd H ad (.frz o (.dK kvs))) fun v H1 => v = .ref ad ∧ H1 ad = some (.frz o (.dK kvs)) ∧ ∀ D, H1 D = none → DcD X Vn G' kx vx scope i ad o kvs D σ H1 fun H2 => H2 ad = some (.frz o (.dK kvs)) ∧ Q (.ref D) (upd H2 ad (.dK kvs)))
    (I : In X N G sc := by assumption) (hc : X.calm = true := by rfl) (hs2 : ∀ z, foldedSetIterable a X.env z = pure z := by intro _; rfl) :
    wE X (.DictComp kx vx [⟨.Name x px, a, [], 0⟩] scope pos) σ H Q := by
  refine e_of (pe_lock (pe_dc (own := [(x, i)]) (g := gName i) (tt := tYes) (tk := wBk X Vn G' kx scope) (tv := wBk X Vn G' vx scope) hc I.nd (pi_keys pe) (B.ok I) (fun s H C cl fp => B.pg I s H C cl fp) (fun _ _ _ _ _ => pts_nil) (fun s H C cl fp => pe_bk (B.inB I s H C cl fp)) (fun s H C cl fp => pe_bk (B.inB I s H C cl fp)) hs2)) ?_
  refine ⟨ad, .dK kvs, hd, trivial, fun o => e_mono (q o) fun v H1 q1 => ?_⟩
  obtain ⟨rfl, h1, q2⟩ := q1
  exact ⟨ad, o, rfl, .inl ⟨kvs, h1, fun D hD => dcD_of (q2 D hD)⟩⟩
theorem s_dcD {nx : L2.St → Hp → Prop} {rt : VK} {bk ct : L2.St → Hp → Prop} {i j : Nat} {x y : Str} {px py spos : Pos} {ad : Addr} {kvs : List (Key × V)} (B : BkOk X.N Vn G' i x sc scope) (hd : H ad = some (.dK kvs))
    (q : ∀ o, wE X a σ (upd H ad (.frz o (.dK kvs))) fun v H1 => v = .ref ad ∧ H1 ad = some (.frz o (.dK kvs)) ∧ ∀ D, H1 D = none → DcD X Vn G' kx vx scope i ad o kvs D σ H1 fun H2 => H2 ad = some (.frz o (.dK kvs)) ∧ nx (σ.set j (some (.ref D))) (upd H2 ad (.dK kvs)))
    (I : In X N G sc := by assumption) (hc : X.calm = true := by rfl) (hA : At N j y := by repeat (first | with_reducible apply At.z | with_reducible apply At.s))
    (hk : X.env.scope.kind = .function := by rfl) (hy : X.env.scope.names.lookup y = some .local := by rfl) (hl : (py.line == pos.line) = true := by rfl) (ha : (scope.names.any fun (n, k) => n == y && (k == .local || k == .cell)) = false := by decide +kernel) (hs2 : ∀ z, foldedSetIterable a X.env z = pure z := by intro _; rfl) :
    wS X (.Assign [.Name y py] (.DictComp kx vx [⟨.Name x px, a, [], 0⟩] scope pos) spos) ⟨nx, rt, bk, ct⟩ σ H := by
  refine s_of (ps_lock (ps_setDc (own := [(x, i)]) (g := gName i) (tt := tYes) (tk := wBk X Vn G' kx scope) (tv := wBk X Vn G' vx scope) hc I.nd (I.hi hA) hy (sw_trueD hk hy hl ha) (pi_keys pe) (B.ok I) (fun s H C cl fp => B.pg I s H C cl fp) (fun _ _ _ _ _ => pts_nil) (fun s H C cl fp => pe_bk (B.inB I s H C cl fp)) (fun s H C cl fp => pe_bk (B.inB I s H C cl fp)) hs2)) ?_
  refine ⟨ad, .dK kvs, hd, trivial, fun o => e_mono (q o) fun v H1 q1 => ?_⟩
  obtain ⟨rfl, h1, q2⟩ := q1
  exact ⟨ad, o, rfl, .inl ⟨kvs, h1, fun D hD => dcD_of (q2 D hD)⟩⟩
theorem s_dcDf {nx : L2.St → Hp → Prop} {rt : VK} {bk ct : L2.St → Hp → Prop} {i j : Nat} {x y : Str} {px py spos : Pos} {ad : Addr} {kvs : List (Key × V)} (B : BkOk X.N Vn G' i x sc scope) (hd : H ad = some (.dK kvs))
    (q : ∀ o, wE X a σ (upd H ad (.frz o (.dK kvs))) fun v H1 => v = .ref ad ∧ H1 ad = some (.frz o (.dK kvs)) ∧ ∀ D, H1 D = none → DcDf X Vn G' kx vx c scope i ad o kvs D σ H1 fun H2 => H2 ad = some (.frz o (.dK kvs)) ∧ nx (σ.set j (some (.ref D))) (upd H2 ad (.dK kvs)))
    (I : In X N G sc := by assumption) (hc : X.calm = true := by rfl) (hA : At N j y := by repeat (first | with_reducible apply At.z | with_reducible apply At.s))
    (hk : X.env.scope.kind = .function := by rfl) (hy : X.env.scope.names.lookup y = some .local := by rfl) (hl : (py.line == pos.line) = true := by rfl) (ha : (scope.names.any fun (n, k) => n == y && (k == .local || k == .cell)) = false := by decide +kernel) (hs2 : ∀ z, foldedSetIterable a X.env z = pure z := by intro _; rfl) :
    wS X (.Assign [.Name y py] (.DictComp kx vx [⟨.Name x px, a, [c], 0⟩] scope pos) spos) ⟨nx, rt, bk, ct⟩ σ H := by
  refine s_of (ps_lock (ps_setDc (own := [(x, i)]) (g := gName i) (tt := wBkT X Vn G' c scope) (tk := wBk X Vn G' kx scope) (tv := wBk X Vn G' vx scope) hc I.nd (I.hi hA) hy (sw_trueD hk hy hl ha) (pi_keys pe) (B.ok I) (fun s H C cl fp => B.pg I s H C cl fp) (fun s H C cl fp => pts_bk (B.inB I s H C cl fp)) (fun s H C cl fp => pe_bk (B.inB I s H C cl fp)) (fun s H C cl fp => pe_bk (B.inB I s H C cl fp)) hs2)) ?_
  refine ⟨ad, .dK kvs, hd, trivial, fun o => e_mono (q o) fun v H1 q1 => ?_⟩
  obtain ⟨rfl, h1, q2⟩ := q1
  exact ⟨ad, o, rfl, .inl ⟨kvs, h1, fun D hD => dcDf_of (q2 D hD)⟩⟩
/-- w, x, y, z = a tuple -/
theorem s_tup4 {nx : L2.St → Hp → Prop} {rt : VK} {bk ct : L2.St → Hp → Prop} {i1 i2 i3 i4 : Nat} {x1 x2 x3 x4 : Str} {k : Nat} {p1 p2 p3 p4 pt : Pos} (q : wE X e σ H fun v H1 => ∃ a u1 u2 u3 u4, v = .ref a ∧ SqT X.K H1 a [u1, u2, u3, u4] ∧ nx ((((σ.set i1 (some u1)).set i2 (some u2)).set i3 (some u3)).set i4 (some u4)) H1)
    (I : In X N G sc := by assumption) (hc : X.calm = true := by rfl) (h1 : At N i1 x1 := by repeat (first | with_reducible apply At.z | with_reducible apply At.s)) (h2 : At N i2 x2 := by repeat (first | with_reducible apply At.z | with_reducible apply At.s)) (h3 : At N i3 x3 := by repeat (first | with_reducible apply At.z | with_reducible apply At.s)) (h4 : At N i4 x4 := by repeat (first | with_reducible apply At.z | with_reducible apply At.s))
    (hs : swapsWithSole [.Tuple [.Name x1 p1, .Name x2 p2, .Name x3 p3, .Name x4 p4] k pt] e pos.line X.env = pure false := by rfl) (hw : swappedStores [.Tuple [.Name x1 p1, .Name x2 p2, .Name x3 p3, .Name x4 p4] k pt] e X.env = pure none := by rfl) (hp : (assignEach [.Tuple [.Name x1 p1, .Name x2 p2, .Name x3 p3, .Name x4 p4] k pt] X.env).map (·.2) = [assign (.Tuple [.Name x1 p1, .Name x2 p2, .Name x3 p3, .Name x4 p4] k pt) X.env] := by rfl) :
    wS X (.Assign [.Tuple [.Name x1 p1, .Name x2 p2, .Name x3 p3, .Name x4 p4] k pt] e pos) ⟨nx, rt, bk, ct⟩ σ H := by
  refine s_of (ps_asg pe (pg_tup hc (pgs_cons (pg_name I.nd (I.hi h1) (I.loc h1) I.f) (pgs_cons (pg_name I.nd (I.hi h2) (I.loc h2) I.f) (pgs_cons (pg_name I.nd (I.hi h3) (I.loc h3) I.f) (pgs_cons (pg_name I.nd (I.hi h4) (I.loc h4) I.f) pgs_nil))))) hs hw hp) (e_mono q fun v H1 q1 => ?_)
  obtain ⟨ad, u1, u2, u3, u4, ev, hq, q2⟩ := q1
  exact ⟨ad, [u1, u2, u3, u4], ev, hq, rfl, u1, [u2, u3, u4], rfl, u2, [u3, u4], rfl, u3, [u4], rfl, u4, [], rfl, rfl, q2⟩
theorem op_inDt (hu : X.A.units + 1 < cLine) : OpR X (compareOp .In) (fun x y H Q => ∃ a o, y = .ref a ∧ DGet H a x o ∧ Q (.bl o.isSome) H) := by
  intro pins s σ H x y v u Q I rx ry h
  obtain ⟨ad, ov, rfl, g, q⟩ := h
  cases ry
  exact d_in hu I g rx fun s3 I3 => ⟨.bl ov.isSome, H, I3, rfl, q⟩
theorem op_ninDt (hu : X.A.units + 1 < cLine) : OpR X (compareOp .NotIn) (fun x y H Q => ∃ a o, y = .ref a ∧ DGet H a x o ∧ Q (.bl (!o.isSome)) H) := by
  intro pins s σ H x y v u Q I rx ry h
  obtain ⟨ad, ov, rfl, g, q⟩ := h
  cases ry
  exact d_notIn hu I g rx fun s3 I3 => ⟨.bl (!ov.isSome), H, I3, rfl, q⟩
theorem o_inD {n : Nat} {x : V} {d : Addr} {ov : Option V} (hr : Room n X.A) (g : DGet H d x ov) (q : Q (.bl ov.isSome) H) : wK X .In x (.ref d) H Q := k_of (op_inDt (hu_of hr)) ⟨d, ov, rfl, g, q⟩
theorem o_ninD {n : Nat} {x : V} {d : Addr} {ov : Option V} (hr : Room n X.A) (g : DGet H d x ov) (q : Q (.bl (!ov.isSome)) H) : wK X .NotIn x (.ref d) H Q := k_of (op_ninDt (hu_of hr)) ⟨d, ov, rfl, g, q⟩
theorem dg_K {ad : Addr} {kvs : List (Key × V)} {k : Key} (h : H ad = some (.dK kvs)) : DGet H ad (kV k) (valV kvs k) := .inl ⟨kvs, k, .inl h, rfl, rfl⟩
theorem dg_F {ad : Addr} {ob : Obj} {kvs : List (Key × V)} {k : Key} (h : H ad = some (.frz ob (.dK kvs))) : DGet H ad (kV k) (valV kvs k) := .inl ⟨kvs, k, .inr ⟨ob, h⟩, rfl, rfl⟩
theorem c_lenD {d : Addr} {kvs : List (Key × V)} (h : H d = some (.dK kvs)) (q : Q (.int kvs.length) H) : wC X (.builtin "len") [.ref d] H Q := c_of call_lenD ⟨d, kvs, rfl, h, q⟩
theorem c_sumL {l : Addr} {ns : List Int} (hc : X.calm = true) (h : SqL X.K H l (ns.map V.int)) (q : Q (.int ns.sum) H) : wC X (.builtin "sum") [.ref l] H Q := c_of (cr_sum hc) ⟨l, ns, rfl, h, q⟩
theorem ty_dk {K : PySem.W.Frag} {H : Hp} {d : Addr} {kvs : List (Key × V)} (h : H d = some (.dK kvs)) : TyX K H (.ref d) (.type "dict") := .base (.dK h)
theorem e_dclr (q : wE X o σ H fun x H1 => ∃ d kvs, x = .ref d ∧ H1 d = some (.dK kvs) ∧ Q .non (upd H1 d (.dK [])))
    (hbase : attributeBase o "clear" X.env (eval o X.env) = eval o X.env := by rfl) (hline : (apos.endLine == pos.line) = true := by rfl) : wE X (.Call (.Attribute o "clear" apos) [] [] pos) σ H Q := by
  refine e_of (pe_dclear pe hbase hline) (e_mono q fun x H1 z => ?_)
  obtain ⟨d, kvs, rfl, h1, h2⟩ := z
  exact ⟨.inr (.inr (.inl ⟨rfl, .inl ⟨kvs, h1⟩⟩)), d, kvs, rfl, rfl, h1, h2⟩
/-- {k: v}, k a text or a number -/
theorem e_dk1 {k v : Expr} (q : ∀ p, H p = none → wE X k σ (upd H p (.dK [])) fun x H1 => wE X v σ H1 fun y H2 => H2 p = some (.dK []) ∧ ∃ z, x = kV z ∧ Q (.ref p) (upd H2 p (.dK [(z, y)]))) : wE X (.Dict [some k] [v] pos) σ H Q := by
  refine e_of (pe_disp (pps_cons pe pe pps_nil) rfl rfl (by simp) (by simp)) fun p np => e_mono (q p np) fun x H1 q1 => e_mono q1 fun y H2 q2 => ?_
  obtain ⟨h, z, rfl, q3⟩ := q2
  exact ⟨h, [(z, y)], rfl, by simp, q3⟩
end
end Wk
namespace Wk
open PySem PySem.Spec
/-! places in a text -/
def nE : Expr := .Name "" ⟨0, 0, 0, 0⟩
def exA : Expr → Nat → Expr
  | .BoolOp _ es _, n => es.getD n nE
  | .BinOp a _ b _, n => [a, b].getD n nE
  | .UnaryOp _ a _, _ => a
  | .IfExp c a b _, n => [c, a, b].getD n nE
  | .Dict _ vs _, n => vs.getD n nE
  | .ListComp e gs _ _, n => (e :: gs.flatMap fun g => g.iter :: g.ifs).getD n nE
  | .DictComp e f gs _ _, n => (e :: f :: gs.flatMap fun g => g.iter :: g.ifs).getD n nE
  | .Compare a _ bs _, n => (a :: bs).getD n nE
  | .Call f as ks _, n => (f :: as ++ ks.map (·.value)).getD n nE
  | .Attribute a _ _, _ => a
  | .Subscript a b _, n => [a, b].getD n nE
  | .List es _, n => es.getD n nE
  | .Tuple es _ _, n => es.getD n nE
  | e, _ => e
def stE : Stmt → Expr
  | .Return (some e) _ => e
  | .Assign _ e _ => e
  | .For _ e _ _ _ => e
  | .While e _ _ _ => e
  | .If e _ _ _ => e
  | .Expr e _ => e
  | _ => nE
def nS : Stmt := .Pass ⟨0, 0, 0, 0⟩
def stB : Stmt → Nat → Nat → Stmt
  | .For _ _ a b _, j, n => ((if j = 0 then a else b).getD n nS)
  | .While _ a b _, j, n => ((if j = 0 then a else b).getD n nS)
  | .If _ a b _, j, n => ((if j = 0 then a else b).getD n nS)
  | .Try a _ b _ _, j, n => ((if j = 0 then a else b).getD n nS)
  | _, _, _ => nS
def xSc : Expr → Scope
  | .ListComp _ _ sc _ => sc
  | .DictComp _ _ _ sc _ => sc
  | _ => { kind := .function, names := [], isGenerator := false, isCoroutine := false }
end Wk
namespace Wk
open PySem PySem.Spec PyProof.Rows L2
section
variable {X : Cx} {o e : Expr} {σ : L2.St} {H : Hp} {Q : VK} {pos apos : Pos}
/-- t.index(e), t a tuple of texts of the module's top -/
theorem e_tIx (q : wE X o σ H fun x H1 => ∃ p, x = .ref p ∧ (∃ ob, X.K.lookup p = some ob ∧ ob.cls = .type "tuple" ∧ ob.dict = none) ∧ wE X e σ H1 fun y H2 => ∃ (ys : List Str) (z : Str) (j : Nat), y = .str z ∧ SqT X.K H2 p (ys.map V.str) ∧ ys[j]? = some z ∧ (∀ m, m < j → ys[m]? ≠ some z) ∧ Q (.int (j : Int)) H2)
    (hbase : attributeBase o "index" X.env (eval o X.env) = eval o X.env := by rfl)
    (hfew : ((backTo pos (starEach (e :: []) X.env)).all (fun x => !x.1) && (backToKw pos (keywordEach [] X.env)).all (fun x => x.1.isSome)
      && decide ((e :: []).length + ([] : List Keyword).length + (if ([] : List Keyword).isEmpty then 0 else 1) < 30)) = true := by rfl)
    (hline : (apos.endLine == pos.line) = true := by rfl) (hs : starEach (e :: []) X.env = (false, eval e X.env) :: starEach [] X.env := by rfl) (hplain : (backTo pos (starEach [] X.env)).any (·.1) = false := by rfl) :
    wE X (.Call (.Attribute o "index" apos) [e] [] pos) σ H Q := by
  refine e_of (pe_bm PySem.F.plainAttrs_tuple PySem.F.slot_tuple_index PySem.F.type_tuple_index mt_tup_index pe (pa_cons pe pa_nil hs) hbase hfew hline hs hplain) (e_mono q fun x H1 z => ?_)
  obtain ⟨p, rfl, ho, z⟩ := z
  refine ⟨.inr (.inl ⟨rfl, ho⟩), e_mono z fun y H2 z2 => ?_⟩
  obtain ⟨ys, z, j, rfl, h1, h2, h3, h4⟩ := z2
  exact ⟨p, ys, z, j, rfl, rfl, h1, h2, h3, h4⟩
end
end Wk

set_option maxHeartbeats 4000000
namespace K27
open PySem PySem.Spec PyProof.Rows L2 Wk
def topS (i : Nat) : Stmt := PySem.Challenge.pw_heldproofs_k27_whole_counts_by_choices.main.body.getD i (.Pass ⟨0, 0, 0, 0⟩)
abbrev s_wall : Stmt := topS 0
abbrev N_wall : List Str := ["k"]
abbrev P_wall : List Str := ["k"]
abbrev G_wall : List Str := []
theorem so_wall : ScOk N_wall G_wall (defScope s_wall) := ⟨by decide +kernel, by decide +kernel, by decide +kernel⟩
theorem sc_wall : FnScope N_wall P_wall (defScope s_wall) := ⟨rfl, rfl, rfl, by decide +kernel, rfl, by decide +kernel, by decide +kernel⟩
abbrev s_field_of : Stmt := topS 5
abbrev N_field_of : List Str := ["row", "field"]
abbrev P_field_of : List Str := ["row", "field"]
abbrev G_field_of : List Str := ["FIELDS"]
theorem so_field_of : ScOk N_field_of G_field_of (defScope s_field_of) := ⟨by decide +kernel, by decide +kernel, by decide +kernel⟩
theorem sc_field_of : FnScope N_field_of P_field_of (defScope s_field_of) := ⟨rfl, rfl, rfl, by decide +kernel, rfl, by decide +kernel, by decide +kernel⟩
abbrev s_refers : Stmt := topS 6
abbrev N_refers : List Str := ["row"]
abbrev P_refers : List Str := ["row"]
abbrev G_refers : List Str := ["FIELDS"]
theorem so_refers : ScOk N_refers G_refers (defScope s_refers) := ⟨by decide +kernel, by decide +kernel, by decide +kernel⟩
theorem sc_refers : FnScope N_refers P_refers (defScope s_refers) := ⟨rfl, rfl, rfl, by decide +kernel, rfl, by decide +kernel, by decide +kernel⟩
abbrev s_premise_count : Stmt := topS 7
abbrev N_premise_count : List Str := ["name"]
abbrev P_premise_count : List Str := ["name"]
abbrev G_premise_count : List Str := ["PREMISES"]
theorem so_premise_count : ScOk N_premise_count G_premise_count (defScope s_premise_count) := ⟨by decide +kernel, by decide +kernel, by decide +kernel⟩
theorem sc_premise_count : FnScope N_premise_count P_premise_count (defScope s_premise_count) := ⟨rfl, rfl, rfl, by decide +kernel, rfl, by decide +kernel, by decide +kernel⟩
abbrev s_premises : Stmt := topS 8
abbrev N_premises : List Str := ["derivation"]
abbrev P_premises : List Str := ["derivation"]
abbrev G_premises : List Str := ["list", "len", "FIELDS"]
theorem so_premises : ScOk N_premises G_premises (defScope s_premises) := ⟨by decide +kernel, by decide +kernel, by decide +kernel⟩
theorem sc_premises : FnScope N_premises P_premises (defScope s_premises) := ⟨rfl, rfl, rfl, by decide +kernel, rfl, by decide +kernel, by decide +kernel⟩
abbrev s_premise_levels : Stmt := topS 9
abbrev N_premise_levels : List Str := ["row", "level", "levels"]
abbrev P_premise_levels : List Str := ["row", "level"]
abbrev G_premise_levels : List Str := ["PREMISES", "BRINGING"]
theorem so_premise_levels : ScOk N_premise_levels G_premise_levels (defScope s_premise_levels) := ⟨by decide +kernel, by decide +kernel, by decide +kernel⟩
theorem sc_premise_levels : FnScope N_premise_levels P_premise_levels (defScope s_premise_levels) := ⟨rfl, rfl, rfl, by decide +kernel, rfl, by decide +kernel, by decide +kernel⟩
abbrev s_head_of : Stmt := topS 10
abbrev N_head_of : List Str := ["row"]
abbrev P_head_of : List Str := ["row"]
abbrev G_head_of : List Str := ["len", "FIELDS"]
theorem so_head_of : ScOk N_head_of G_head_of (defScope s_head_of) := ⟨by decide +kernel, by decide +kernel, by decide +kernel⟩
theorem sc_head_of : FnScope N_head_of P_head_of (defScope s_head_of) := ⟨rfl, rfl, rfl, by decide +kernel, rfl, by decide +kernel, by decide +kernel⟩
abbrev s_placed_heads : Stmt := topS 11
abbrev N_placed_heads : List Str := ["derivation", "level", "found", "waiting", "row", "here"]
abbrev P_placed_heads : List Str := ["derivation", "level"]
abbrev G_placed_heads : List Str := ["head_of", "list", "zip", "premises", "premise_levels"]
theorem so_placed_heads : ScOk N_placed_heads G_placed_heads (defScope s_placed_heads) := ⟨by decide +kernel, by decide +kernel, by decide +kernel⟩
theorem sc_placed_heads : FnScope N_placed_heads P_placed_heads (defScope s_placed_heads) := ⟨rfl, rfl, rfl, by decide +kernel, rfl, by decide +kernel, by decide +kernel⟩
abbrev s_is_below : Stmt := topS 13
abbrev N_is_below : List Str := ["ref", "level"]
abbrev P_is_below : List Str := ["ref", "level"]
abbrev G_is_below : List Str := ["isinstance", "str"]
theorem so_is_below : ScOk N_is_below G_is_below (defScope s_is_below) := ⟨by decide +kernel, by decide +kernel, by decide +kernel⟩
theorem sc_is_below : FnScope N_is_below P_is_below (defScope s_is_below) := ⟨rfl, rfl, rfl, by decide +kernel, rfl, by decide +kernel, by decide +kernel⟩
abbrev s_Count___init : Stmt := inClass (topS 15) 0
abbrev N_Count___init : List Str := ["self", "least", "most", "days"]
abbrev P_Count___init : List Str := ["self", "least", "most", "days"]
abbrev G_Count___init : List Str := []
theorem so_Count___init : ScOk N_Count___init G_Count___init (defScope s_Count___init) := ⟨by decide +kernel, by decide +kernel, by decide +kernel⟩
theorem sc_Count___init : FnScope N_Count___init P_Count___init (defScope s_Count___init) := ⟨rfl, rfl, rfl, by decide +kernel, rfl, by decide +kernel, by decide +kernel⟩
abbrev s_Count___add : Stmt := inClass (topS 15) 1
abbrev N_Count___add : List Str := ["self", "other"]
abbrev P_Count___add : List Str := ["self", "other"]
abbrev G_Count___add : List Str := ["Count", "max"]
theorem so_Count___add : ScOk N_Count___add G_Count___add (defScope s_Count___add) := ⟨by decide +kernel, by decide +kernel, by decide +kernel⟩
theorem sc_Count___add : FnScope N_Count___add P_Count___add (defScope s_Count___add) := ⟨rfl, rfl, rfl, by decide +kernel, rfl, by decide +kernel, by decide +kernel⟩
abbrev s_Count___or : Stmt := inClass (topS 15) 2
abbrev N_Count___or : List Str := ["self", "other"]
abbrev P_Count___or : List Str := ["self", "other"]
abbrev G_Count___or : List Str := ["Count", "min", "max"]
theorem so_Count___or : ScOk N_Count___or G_Count___or (defScope s_Count___or) := ⟨by decide +kernel, by decide +kernel, by decide +kernel⟩
theorem sc_Count___or : FnScope N_Count___or P_Count___or (defScope s_Count___or) := ⟨rfl, rfl, rfl, by decide +kernel, rfl, by decide +kernel, by decide +kernel⟩
abbrev s_Count_boxed : Stmt := inClass (topS 15) 3
abbrev N_Count_boxed : List Str := ["self", "kind", "uses", "days"]
abbrev P_Count_boxed : List Str := ["self", "kind"]
abbrev G_Count_boxed : List Str := ["Count"]
theorem so_Count_boxed : ScOk N_Count_boxed G_Count_boxed (defScope s_Count_boxed) := ⟨by decide +kernel, by decide +kernel, by decide +kernel⟩
theorem sc_Count_boxed : FnScope N_Count_boxed P_Count_boxed (defScope s_Count_boxed) := ⟨rfl, rfl, rfl, by decide +kernel, rfl, by decide +kernel, by decide +kernel⟩
abbrev s_Count_fits : Stmt := inClass (topS 15) 4
abbrev N_Count_fits : List Str := ["self", "kind"]
abbrev P_Count_fits : List Str := ["self", "kind"]
abbrev G_Count_fits : List Str := ["_wall"]
theorem so_Count_fits : ScOk N_Count_fits G_Count_fits (defScope s_Count_fits) := ⟨by decide +kernel, by decide +kernel, by decide +kernel⟩
theorem sc_Count_fits : FnScope N_Count_fits P_Count_fits (defScope s_Count_fits) := ⟨rfl, rfl, rfl, by decide +kernel, rfl, by decide +kernel, by decide +kernel⟩
abbrev s_Count_triple : Stmt := inClass (topS 15) 5
abbrev N_Count_triple : List Str := ["self"]
abbrev P_Count_triple : List Str := ["self"]
abbrev G_Count_triple : List Str := []
theorem so_Count_triple : ScOk N_Count_triple G_Count_triple (defScope s_Count_triple) := ⟨by decide +kernel, by decide +kernel, by decide +kernel⟩
theorem sc_Count_triple : FnScope N_Count_triple P_Count_triple (defScope s_Count_triple) := ⟨rfl, rfl, rfl, by decide +kernel, rfl, by decide +kernel, by decide +kernel⟩
abbrev s_counts : Stmt := topS 16
abbrev N_counts : List Str := ["derivation", "level", "made", "head", "here", "above"]
abbrev P_counts : List Str := ["derivation", "level"]
abbrev G_counts : List Str := ["reversed", "placed_heads", "range", "premise_count", "row_counts"]
theorem so_counts : ScOk N_counts G_counts (defScope s_counts) := ⟨by decide +kernel, by decide +kernel, by decide +kernel⟩
abbrev C_counts : List Str := ["_"]
theorem sc_counts : FnScope (N_counts ++ C_counts) P_counts (defScope s_counts) := ⟨rfl, rfl, rfl, by decide +kernel, rfl, by decide +kernel, by decide +kernel⟩
abbrev s_row_counts : Stmt := topS 17
abbrev N_row_counts : List Str := ["row", "level", "above", "found"]
abbrev P_row_counts : List Str := ["row", "level", "above"]
abbrev G_row_counts : List Str := ["chosen", "refers", "is_below", "summed", "Count", "packed", "field_of"]
theorem so_row_counts : ScOk N_row_counts G_row_counts (defScope s_row_counts) := ⟨by decide +kernel, by decide +kernel, by decide +kernel⟩
abbrev C_row_counts : List Str := ["ref"]
theorem sc_row_counts : FnScope (N_row_counts ++ C_row_counts) P_row_counts (defScope s_row_counts) := ⟨rfl, rfl, rfl, by decide +kernel, rfl, by decide +kernel, by decide +kernel⟩
abbrev s_chosen : Stmt := topS 18
abbrev N_chosen : List Str := ["left", "right", "made", "ref"]
abbrev P_chosen : List Str := ["left", "right"]
abbrev G_chosen : List Str := ["list", "Count"]
theorem so_chosen : ScOk N_chosen G_chosen (defScope s_chosen) := ⟨by decide +kernel, by decide +kernel, by decide +kernel⟩
theorem sc_chosen : FnScope N_chosen P_chosen (defScope s_chosen) := ⟨rfl, rfl, rfl, by decide +kernel, rfl, by decide +kernel, by decide +kernel⟩
abbrev s_summed : Stmt := topS 19
abbrev N_summed : List Str := ["first", "second", "made", "used"]
abbrev P_summed : List Str := ["first", "second"]
abbrev G_summed : List Str := []
theorem so_summed : ScOk N_summed G_summed (defScope s_summed) := ⟨by decide +kernel, by decide +kernel, by decide +kernel⟩
abbrev C_summed : List Str := ["ref"]
theorem sc_summed : FnScope (N_summed ++ C_summed) P_summed (defScope s_summed) := ⟨rfl, rfl, rfl, by decide +kernel, rfl, by decide +kernel, by decide +kernel⟩
abbrev s_packed : Stmt := topS 20
abbrev N_packed : List Str := ["found", "kind"]
abbrev P_packed : List Str := ["found", "kind"]
abbrev G_packed : List Str := []
theorem so_packed : ScOk N_packed G_packed (defScope s_packed) := ⟨by decide +kernel, by decide +kernel, by decide +kernel⟩
abbrev C_packed : List Str := ["ref"]
theorem sc_packed : FnScope (N_packed ++ C_packed) P_packed (defScope s_packed) := ⟨rfl, rfl, rfl, by decide +kernel, rfl, by decide +kernel, by decide +kernel⟩
abbrev s_cell : Stmt := topS 22
abbrev N_cell : List Str := ["_law_script", "_law_k"]
abbrev P_cell : List Str := ["_law_script", "_law_k"]
abbrev G_cell : List Str := ["len", "abs"]
theorem so_cell : ScOk N_cell G_cell (defScope s_cell) := ⟨by decide +kernel, by decide +kernel, by decide +kernel⟩
theorem sc_cell : FnScope N_cell P_cell (defScope s_cell) := ⟨rfl, rfl, rfl, by decide +kernel, rfl, by decide +kernel, by decide +kernel⟩
abbrev s_pool : Stmt := topS 23
abbrev N_pool : List Str := ["_law_script", "_law_k", "_law_cell_here"]
abbrev P_pool : List Str := ["_law_script", "_law_k"]
abbrev G_pool : List Str := ["_law_cell", "int"]
theorem so_pool : ScOk N_pool G_pool (defScope s_pool) := ⟨by decide +kernel, by decide +kernel, by decide +kernel⟩
theorem sc_pool : FnScope N_pool P_pool (defScope s_pool) := ⟨rfl, rfl, rfl, by decide +kernel, rfl, by decide +kernel, by decide +kernel⟩
abbrev s_next : Stmt := topS 24
abbrev N_next : List Str := ["_law_pool_here", "_law_many", "_law_digit", "_law_mixed"]
abbrev P_next : List Str := ["_law_pool_here", "_law_many"]
abbrev G_next : List Str := ["int"]
theorem so_next : ScOk N_next G_next (defScope s_next) := ⟨by decide +kernel, by decide +kernel, by decide +kernel⟩
theorem sc_next : FnScope N_next P_next (defScope s_next) := ⟨rfl, rfl, rfl, by decide +kernel, rfl, by decide +kernel, by decide +kernel⟩
abbrev s_is_number : Stmt := topS 25
abbrev N_is_number : List Str := ["_law_value"]
abbrev P_is_number : List Str := ["_law_value"]
abbrev G_is_number : List Str := ["isinstance", "int", "bool"]
theorem so_is_number : ScOk N_is_number G_is_number (defScope s_is_number) := ⟨by decide +kernel, by decide +kernel, by decide +kernel⟩
theorem sc_is_number : FnScope N_is_number P_is_number (defScope s_is_number) := ⟨rfl, rfl, rfl, by decide +kernel, rfl, by decide +kernel, by decide +kernel⟩
abbrev s_row : Stmt := topS 26
abbrev N_row : List Str := ["_law_item", "_law_names"]
abbrev P_row : List Str := ["_law_item"]
abbrev G_row : List Str := ["isinstance", "tuple", "len"]
theorem so_row : ScOk N_row G_row (defScope s_row) := ⟨by decide +kernel, by decide +kernel, by decide +kernel⟩
theorem sc_row : FnScope N_row P_row (defScope s_row) := ⟨rfl, rfl, rfl, by decide +kernel, rfl, by decide +kernel, by decide +kernel⟩
abbrev s_parts : Stmt := topS 27
abbrev N_parts : List Str := ["_law_tree"]
abbrev P_parts : List Str := ["_law_tree"]
abbrev G_parts : List Str := []
theorem so_parts : ScOk N_parts G_parts (defScope s_parts) := ⟨by decide +kernel, by decide +kernel, by decide +kernel⟩
abbrev C_parts : List Str := ["_law_item"]
theorem sc_parts : FnScope (N_parts ++ C_parts) P_parts (defScope s_parts) := ⟨rfl, rfl, rfl, by decide +kernel, rfl, by decide +kernel, by decide +kernel⟩
abbrev s_paths : Stmt := topS 28
abbrev N_paths : List Str := ["_law_tree", "_law_path", "_law_found", "_law_parts_here", "_law_k"]
abbrev P_paths : List Str := ["_law_tree", "_law_path"]
abbrev G_paths : List Str := ["_law_parts", "range", "len", "_law_paths"]
theorem so_paths : ScOk N_paths G_paths (defScope s_paths) := ⟨by decide +kernel, by decide +kernel, by decide +kernel⟩
theorem sc_paths : FnScope N_paths P_paths (defScope s_paths) := ⟨rfl, rfl, rfl, by decide +kernel, rfl, by decide +kernel, by decide +kernel⟩
abbrev s_at : Stmt := topS 29
abbrev N_at : List Str := ["_law_tree", "_law_path", "_law_k"]
abbrev P_at : List Str := ["_law_tree", "_law_path"]
abbrev G_at : List Str := ["_law_parts"]
theorem so_at : ScOk N_at G_at (defScope s_at) := ⟨by decide +kernel, by decide +kernel, by decide +kernel⟩
theorem sc_at : FnScope N_at P_at (defScope s_at) := ⟨rfl, rfl, rfl, by decide +kernel, rfl, by decide +kernel, by decide +kernel⟩
abbrev s_same : Stmt := topS 30
abbrev N_same : List Str := ["_law_told_here", "_law_due_here", "_law_k"]
abbrev P_same : List Str := ["_law_told_here", "_law_due_here"]
abbrev G_same : List Str := ["isinstance", "str", "tuple", "list", "_law_is_number", "len", "range", "_law_same"]
theorem so_same : ScOk N_same G_same (defScope s_same) := ⟨by decide +kernel, by decide +kernel, by decide +kernel⟩
theorem sc_same : FnScope N_same P_same (defScope s_same) := ⟨rfl, rfl, rfl, by decide +kernel, rfl, by decide +kernel, by decide +kernel⟩
abbrev s_mode : Stmt := topS 31
abbrev N_mode : List Str := ["_law_pool_here", "_law_room", "_law_mode_here"]
abbrev P_mode : List Str := ["_law_pool_here", "_law_room"]
abbrev G_mode : List Str := ["_law_next"]
theorem so_mode : ScOk N_mode G_mode (defScope s_mode) := ⟨by decide +kernel, by decide +kernel, by decide +kernel⟩
theorem sc_mode : FnScope N_mode P_mode (defScope s_mode) := ⟨rfl, rfl, rfl, by decide +kernel, rfl, by decide +kernel, by decide +kernel⟩
abbrev s_free_one : Stmt := topS 32
abbrev N_free_one : List Str := ["_law_way", "_law_many", "_law_level", "_law_room", "_law_name", "_law_ref", "_law_which", "_law_index", "_law_body"]
abbrev P_free_one : List Str := ["_law_way", "_law_many", "_law_level", "_law_room", "_law_name", "_law_ref", "_law_which"]
abbrev G_free_one : List Str := ["_law_next", "_law_free", "int"]
theorem so_free_one : ScOk N_free_one G_free_one (defScope s_free_one) := ⟨by decide +kernel, by decide +kernel, by decide +kernel⟩
theorem sc_free_one : FnScope N_free_one P_free_one (defScope s_free_one) := ⟨rfl, rfl, rfl, by decide +kernel, rfl, by decide +kernel, by decide +kernel⟩
abbrev s_free_two : Stmt := topS 33
abbrev N_free_two : List Str := ["_law_way", "_law_many", "_law_level", "_law_room", "_law_name", "_law_ref", "_law_which", "_law_pool_here", "_law_first", "_law_mode_here", "_law_one", "_law_inner", "_law_two"]
abbrev P_free_two : List Str := ["_law_way", "_law_many", "_law_level", "_law_room", "_law_name", "_law_ref", "_law_which"]
abbrev G_free_two : List Str := ["_law_next", "_law_mode", "_law_free"]
theorem so_free_two : ScOk N_free_two G_free_two (defScope s_free_two) := ⟨by decide +kernel, by decide +kernel, by decide +kernel⟩
theorem sc_free_two : FnScope N_free_two P_free_two (defScope s_free_two) := ⟨rfl, rfl, rfl, by decide +kernel, rfl, by decide +kernel, by decide +kernel⟩
abbrev s_free : Stmt := topS 34
abbrev N_free : List Str := ["_law_way", "_law_many", "_law_level", "_law_room", "_law_pool_here", "_law_names", "_law_name", "_law_ref", "_law_pick"]
abbrev P_free : List Str := ["_law_way", "_law_many", "_law_level", "_law_room"]
abbrev G_free : List Str := ["_law_next", "_law_free_one", "int", "_law_free_two"]
theorem so_free : ScOk N_free G_free (defScope s_free) := ⟨by decide +kernel, by decide +kernel, by decide +kernel⟩
theorem sc_free : FnScope N_free P_free (defScope s_free) := ⟨rfl, rfl, rfl, by decide +kernel, rfl, by decide +kernel, by decide +kernel⟩
abbrev s_above : Stmt := topS 35
abbrev N_above : List Str := ["_law_row_here", "_law_product", "_law_days", "_law_plain", "_law_found", "_law_mode_here"]
abbrev P_above : List Str := ["_law_row_here", "_law_product", "_law_days", "_law_plain"]
abbrev G_above : List Str := ["_law_parts"]
theorem so_above : ScOk N_above G_above (defScope s_above) := ⟨by decide +kernel, by decide +kernel, by decide +kernel⟩
abbrev C_above : List Str := ["_law_premise"]
theorem sc_above : FnScope (N_above ++ C_above) P_above (defScope s_above) := ⟨rfl, rfl, rfl, by decide +kernel, rfl, by decide +kernel, by decide +kernel⟩
abbrev s_uses : Stmt := topS 36
abbrev N_uses : List Str := ["_law_tree", "_law_level", "_law_number", "_law_uses_here", "_law_work", "_law_k", "_law_row_here", "_law_product", "_law_days", "_law_plain", "_law_above_here"]
abbrev P_uses : List Str := ["_law_tree", "_law_level", "_law_number"]
abbrev G_uses : List Str := ["range", "isinstance", "str", "_law_above", "int"]
theorem so_uses : ScOk N_uses G_uses (defScope s_uses) := ⟨by decide +kernel, by decide +kernel, by decide +kernel⟩
theorem sc_uses : FnScope N_uses P_uses (defScope s_uses) := ⟨rfl, rfl, rfl, by decide +kernel, rfl, by decide +kernel, by decide +kernel⟩
abbrev s_due : Stmt := topS 37
abbrev N_due : List Str := ["_law_tree", "_law_level", "_law_due_here", "_law_use", "_law_old", "_law_total", "_law_path", "_law_number", "_law_uses_here", "_law_ref", "_law_least", "_law_most"]
abbrev P_due : List Str := ["_law_tree", "_law_level"]
abbrev G_due : List Str := ["_law_uses", "max", "_law_paths", "_law_at", "range", "list", "sum", "min"]
theorem so_due : ScOk N_due G_due (defScope s_due) := ⟨by decide +kernel, by decide +kernel, by decide +kernel⟩
theorem sc_due : FnScope N_due P_due (defScope s_due) := ⟨rfl, rfl, rfl, by decide +kernel, rfl, by decide +kernel, by decide +kernel⟩
abbrev s_told : Stmt := topS 38
abbrev N_told : List Str := ["_law_told_here", "_law_due_here", "_law_ref", "_law_found"]
abbrev P_told : List Str := ["_law_told_here", "_law_due_here"]
abbrev G_told : List Str := ["isinstance", "dict", "len", "str", "_law_is_number", "Count", "_law_same"]
theorem so_told : ScOk N_told G_told (defScope s_told) := ⟨by decide +kernel, by decide +kernel, by decide +kernel⟩
theorem sc_told : FnScope N_told P_told (defScope s_told) := ⟨rfl, rfl, rfl, by decide +kernel, rfl, by decide +kernel, by decide +kernel⟩
abbrev s_law : Stmt := topS 39
abbrev N_law : List Str := ["_law_script", "_law_pool_here", "_law_level", "_law_many", "_law_tree", "_law_due_here", "_law_told_here"]
abbrev P_law : List Str := ["_law_script"]
abbrev G_law : List Str := ["_law_pool", "_law_next", "_law_free", "_law_due", "counts", "_law_told", "Count"]
theorem so_law : ScOk N_law G_law (defScope s_law) := ⟨by decide +kernel, by decide +kernel, by decide +kernel⟩
theorem sc_law : FnScope N_law P_law (defScope s_law) := ⟨rfl, rfl, rfl, by decide +kernel, rfl, by decide +kernel, by decide +kernel⟩
theorem bk_counts0 : BkOk (N_counts ++ C_counts) [(2, "made")] [] 6 "_" (defScope s_counts) (xSc (stE (stB ((defBody s_counts).getD 1 nS) 0 0))) := ⟨by decide +kernel, by decide +kernel, by decide +kernel, by decide +kernel⟩
theorem bk_row_counts0 : BkOk (N_row_counts ++ C_row_counts) [(4, "ref"), (2, "above"), (1, "level")] [] 4 "ref" (defScope s_row_counts) (xSc (stE (stB ((defBody s_row_counts).getD 2 nS) 0 0))) := ⟨by decide +kernel, by decide +kernel, by decide +kernel, by decide +kernel⟩
theorem bk_summed0 : BkOk (N_summed ++ C_summed) [(4, "ref"), (0, "first")] [] 4 "ref" (defScope s_summed) (xSc (stE ((defBody s_summed).getD 0 nS))) := ⟨by decide +kernel, by decide +kernel, by decide +kernel, by decide +kernel⟩
theorem bk_packed0 : BkOk (N_packed ++ C_packed) [(2, "ref"), (1, "kind"), (0, "found")] [] 2 "ref" (defScope s_packed) (xSc (stE ((defBody s_packed).getD 0 nS))) := ⟨by decide +kernel, by decide +kernel, by decide +kernel, by decide +kernel⟩
theorem bk_parts0 : BkOk (N_parts ++ C_parts) [(1, "_law_item")] ["_law_row"] 1 "_law_item" (defScope s_parts) (xSc (stE ((defBody s_parts).getD 0 nS))) := ⟨by decide +kernel, by decide +kernel, by decide +kernel, by decide +kernel⟩
theorem bk_above0 : BkOk (N_above ++ C_above) [(6, "_law_premise"), (1, "_law_product"), (2, "_law_days"), (3, "_law_plain")] [] 6 "_law_premise" (defScope s_above) (xSc (stE ((defBody s_above).getD 0 nS))) := ⟨by decide +kernel, by decide +kernel, by decide +kernel, by decide +kernel⟩
theorem bk_due0 : BkOk N_due [(3, "_law_use"), (9, "_law_ref")] ["int"] 3 "_law_use" (defScope s_due) (xSc (exA (stE (stB (stB ((defBody s_due).getD 4 nS) 0 1) 0 1)) 1)) := ⟨by decide +kernel, by decide +kernel, by decide +kernel, by decide +kernel⟩
theorem bk_due1 : BkOk N_due [(3, "_law_use"), (9, "_law_ref")] [] 3 "_law_use" (defScope s_due) (xSc (exA (stE (stB (stB ((defBody s_due).getD 4 nS) 0 1) 0 2)) 1)) := ⟨by decide +kernel, by decide +kernel, by decide +kernel, by decide +kernel⟩
local macro_rules | `(tactic| walk_at "bl") => `(tactic| first
  | refine e_callB (x := "len") (by assumption) b_len ?_
  | refine e_callB (x := "isinstance") (by assumption) b_isi ?_
  | refine e_callB (x := "abs") (by assumption) b_abs ?_
  | refine e_callB (x := "max") (by assumption) b_max ?_
  | refine e_callB (x := "min") (by assumption) b_min ?_
  | refine e_callTy (x := "str") (by assumption) b_str ?_
  | refine e_callTy (x := "int") (by assumption) b_int ?_)
local macro_rules | `(tactic| walk_at "gl") => `(tactic| first
  | refine e_bltn (x := "int") (v := .ty "int") (by assumption) b_int rfl ?_
  | refine e_bltn (x := "bool") (v := .ty "bool") (by assumption) b_bool rfl ?_
  | refine e_bltn (x := "str") (v := .ty "str") (by assumption) b_str rfl ?_
  | refine e_bltn (x := "tuple") (v := .ty "tuple") (by assumption) b_tuple rfl ?_
  | refine e_bltn (x := "list") (v := .ty "list") (by assumption) b_list rfl ?_)
local macro_rules | `(tactic| walk_at "st") => `(tactic| first
  | refine l_cons ?_
  | refine s_ret ?_
  | refine s_if ?_
  | refine s_set ?_
  | refine s_sub ?_
  | refine e_var ?_
  | refine e_int ?_
  | refine e_ix ?_
  | refine a_cons ?_
  | refine a_nil ?_
  | refine t_cmp ?_
  | refine t_not ?_
  | refine t_w (w_and ?_)
  | refine t_w (w_or ?_)
  | refine w_and ?_
  | refine w_or ?_
  | refine w_and1 ?_
  | refine w_or1 ?_
  | refine t_val ?_
  | refine e_str ?_
  | refine e_bl ?_
  | refine e_non ?_
  | refine e_bin ?_
  | refine e_cmp ?_
  | refine e_and ?_
  | refine e_or ?_
  | refine e_not ?_
  | refine e_one ?_
  | refine l_nil ?_
  | refine s_expr ?_
  | refine e_tup ?_
  | refine e_lst ?_
  | refine ⟨_, rfl, ?_⟩
  | ((with_reducible refine ite_t ?hc ?_); (case hc => exact rfl))
  | ((with_reducible refine ite_f ?hc ?_); (case hc => exact rfl))
  | refine o_add ?_
  | refine o_sub ?_
  | refine o_lt ?_
  | refine o_le ?_
  | refine o_gt ?_
  | refine o_ge ?_
  | refine o_eqI ?_
  | refine o_neI ?_
  | refine o_eqS ?_
  | refine o_neB ?_
  | refine o_isN ?_
  | refine o_nisB ?_
  | refine o_isB ?_
  | refine e_neg ?_
  | refine o_eqB ?_
  | refine c_int ?_
  | refine c_abs ?_
  | refine c_max rfl ?_
  | refine c_min rfl ?_
  | refine a_cons (e_fld ?_)
  | walk_at "bl"
  | walk_at "gl")
local macro_rules | `(tactic| walk_at "sts") => `(tactic| repeat walk_at "st")
section
variable {P : Program} {w : World} {K : PySem.W.Frag} {mg : Str → Option Value} {base : Heap}
def PoolAt (H : Hp) (a : Addr) : Prop := ∃ x y z : Int, H a = some (.lst [.int x, .int y, .int z])
def spCell (K : PySem.W.Frag) : Sp := fun vs H Q _ => ∃ (a : Addr) (ns : List Int) (k : Nat), vs = [.ref a, .int k] ∧ SqL K H a (ns.map V.int) ∧ ∀ z : Int, 0 ≤ z → Q (.int z) H
theorem ok_cell (T : Top K mg "_law_cell" s_cell) (mLen : mg "len" = none) (mAbs : mg "abs" = none) : Fn P w K mg base 1 "_law_cell" (spCell K) := by
  refine fn_ok T sc_cell so_cell (fun vs H Q E h => ?_) (fun _ _ _ _ _ _ us hl => match us, hl with | [_, _], _ => rfl) fun f cdv A outer s H vs Q E hr h nd => ?_
  · obtain ⟨a, ns, k, rfl, _⟩ := h
    rfl
  · obtain ⟨a, ns, k, rfl, hS, q⟩ := h
    walk_at "sts"
    refine c_lenL (by exact hS) ?_
    walk_at "sts"
    refine if2 (fun h => ?_) (fun h => ?_)
    · rw [List.length_map] at h
      have hk : k < ns.length := by omega
      walk_at "sts"
      refine ix_l (by exact hS) (atI_nat (v := .int ns[k]) (by simp [hk])) ?_
      walk_at "sts"
      exact q _ (by split <;> omega)
    · walk_at "sts"
      exact q _ (Int.le_refl _)
def spPool (K : PySem.W.Frag) : Sp := fun vs H Q _ => ∃ (a : Addr) (ns : List Int) (k : Nat), vs = [.ref a, .int k] ∧ SqL K H a (ns.map V.int) ∧ ∀ p H', Same H H' → H p = none → PoolAt H' p → Q (.ref p) H'
theorem ok_pool (T : Top K mg "_law_pool" s_pool) (F : Fn P w K mg base 1 "_law_cell" (spCell K)) (mInt : mg "int" = none) : Fn P w K mg base 2 "_law_pool" (spPool K) := by
  refine fn_ok T sc_pool so_pool (fun vs H Q E h => ?_) (fun _ _ _ _ _ _ us hl => match us, hl with | [_, _], _ => rfl) fun f cdv A outer s H vs Q E hr h nd => ?_
  · obtain ⟨a, ns, k, rfl, _⟩ := h
    rfl
  · obtain ⟨a, ns, k, rfl, hS, q⟩ := h
    walk_at "sts"
    refine e_call (by exact F) (by exact hr) (by decide) ?_
    walk_at "sts"
    refine ⟨a, ns, k, rfl, hS, fun z hz => ?_⟩
    walk_at "sts"
    refine o_pow ⟨by decide, by decide, by decide⟩ ?_
    walk_at "sts"
    refine if2 (fun h => ?_) (fun h => ?_)
    · walk_at "sts"
      refine o_mod (by decide) ?_
      walk_at "sts"
      refine ⟨by show 3 ≤ sizeLine; decide, fun p H2 e np hp => ?_⟩
      exact q p H2 e np ⟨_, _, _, hp⟩
    · walk_at "sts"
      refine ⟨by show 3 ≤ sizeLine; decide, fun p H2 e np hp => ?_⟩
      exact q p H2 e np ⟨_, _, _, hp⟩
def spNext : Sp := fun vs H Q _ => ∃ (a : Addr) (m : Int), vs = [.ref a, .int m] ∧ 0 < m ∧ m < 1073741824 ∧ PoolAt H a ∧ ∀ d H', 0 ≤ d → d < m → But a H H' → PoolAt H' a → Q (.int d) H'
theorem ok_next (T : Top K mg "_law_next" s_next) (mInt : mg "int" = none) : Fn P w K mg base 1 "_law_next" spNext := by
  refine fn_ok T sc_next so_next (fun vs H Q E h => ?_) (fun _ _ _ _ _ _ us hl => match us, hl with | [_, _], _ => rfl) fun f cdv A outer s H vs Q E hr h nd => ?_
  · obtain ⟨a, m, rfl, _⟩ := h
    rfl
  · obtain ⟨a, m, rfl, m0, m1, ⟨x, y, z, hp⟩, q⟩ := h
    walk_at "sts"
    refine ix_l (by exact SqL.of hp) rfl ?_
    walk_at "sts"
    refine if2 (fun h => ?_) (fun h => ?_)
    · walk_at "sts"
      refine ix_l (by exact SqL.of hp) rfl ?_
      walk_at "sts"
      refine o_mod m0 ?_
      walk_at "sts"
      refine ix_l (by exact SqL.of hp) rfl ?_
      walk_at "sts"
      refine o_fdiv ⟨m0, m1⟩ ?_
      walk_at "sts"
      refine set_l hp rfl ?_
      walk_at "sts"
      exact q _ _ (Int.emod_nonneg _ (by omega)) (Int.emod_lt_of_pos _ m0) (But.refl.upd) ⟨_, _, _, upd_same⟩
    · walk_at "sts"
      refine ix_l (by exact SqL.of hp) rfl ?_
      walk_at "sts"
      refine set_l hp rfl ?_
      walk_at "sts"
      refine ix_l (by exact SqL.of upd_same) rfl ?_
      walk_at "sts"
      refine ix_l (by exact SqL.of upd_same) rfl ?_
      walk_at "sts"
      refine o_mul (.inl (by decide)) ?_
      walk_at "sts"
      refine o_mod (by decide) ?_
      walk_at "sts"
      have b1 := Int.emod_nonneg (z + 7919 * (y + 1) + 13) (show (2147483647 : Int) ≠ 0 by decide)
      have b2 := Int.emod_lt_of_pos (z + 7919 * (y + 1) + 13) (show (0 : Int) < 2147483647 by decide)
      refine o_mul (.inl ⟨by omega, by omega⟩) ?_
      walk_at "sts"
      refine o_mod (by decide) ?_
      walk_at "sts"
      generalize (z + 7919 * (y + 1) + 13) % 2147483647 = u at *
      have c1 := Int.emod_nonneg (u * (u + 48271)) (show (2147483629 : Int) ≠ 0 by decide)
      have c2 := Int.emod_lt_of_pos (u * (u + 48271)) (show (0 : Int) < 2147483629 by decide)
      refine o_mul (.inl ⟨by omega, by omega⟩) ?_
      walk_at "sts"
      refine ix_l (by exact SqL.of upd_same) rfl ?_
      walk_at "sts"
      refine o_mul (.inl (by decide)) ?_
      walk_at "sts"
      refine o_mod (by decide) ?_
      walk_at "sts"
      refine o_fdiv (by decide) ?_
      walk_at "sts"
      refine o_mod m0 ?_
      walk_at "sts"
      exact q _ _ (Int.emod_nonneg _ (by omega)) (Int.emod_lt_of_pos _ m0) (But.refl.upd) ⟨_, _, _, upd_same⟩
end
theorem none_of {H H' : Hp} {p : Addr} (s : Same H H') (n : H' p = none) : H p = none := by
  cases hz : H p with
  | none => rfl
  | some o => exact absurd (s p o hz) (by rw [n]; intro z; cases z)
/-- all tuples stay -/
def TS (H H' : Hp) : Prop := ∀ t xs, H t = some (.tup xs) → H' t = some (.tup xs)
theorem Same.ts {H H' : Hp} (s : Same H H') : TS H H' := fun t xs h => s t _ h
theorem But.ts {a : Addr} {H H' : Hp} {l : List V} (b : But a H H') (ha : H a = some (.lst l)) : TS H H' := fun t xs h => b.tup ha h
theorem PoolAt.ts {a : Addr} {H H' : Hp} (h : PoolAt H a) (b : But a H H') : TS H H' := let ⟨_, _, _, e⟩ := h; But.ts b e
theorem TS.upd {a : Addr} {H : Hp} {l : List V} {o : HO} (ha : H a = some (.lst l)) : TS H (L2.upd H a o) := fun t xs h => by
  rw [upd_ne (ne_of h ha (by intro z; cases z))]
  exact h
theorem TS.trans {H H1 H2 : Hp} (a : TS H H1) (b : TS H1 H2) : TS H H2 := fun t xs h => b t xs (a t xs h)
/-! ### rows, as data -/
inductive Kd where
  | own | take | offer | pick | pay | make | open_ | cut | cite
  deriving DecidableEq
def Kd.nm : Kd → Str
  | .own => "own" | .take => "take" | .offer => "offer" | .pick => "pick" | .pay => "pay" | .make => "make" | .open_ => "open" | .cut => "cut" | .cite => "cite"
def Kd.fs : Kd → List Str
  | .own => ["ref"] | .take => [] | .offer => [] | .pick => ["ref", "side"] | .pay => ["ref", "kind"] | .make => ["name", "index"] | .open_ => ["ref", "name", "index"] | .cut => ["kind", "sentence"] | .cite => ["name"]
def Kd.pr : Kd → Nat
  | .own => 0 | .take => 1 | .offer => 2 | .pick => 1 | .pay => 2 | .make => 1 | .open_ => 1 | .cut => 2 | .cite => 0
def Kd.rf : Kd → Bool
  | .own => true | .pick => true | .pay => true | .open_ => true | _ => false
abbrev allKd : List Kd := [.own, .take, .offer, .pick, .pay, .make, .open_, .cut, .cite]
/-- a field that is no row and no reference: a number, a text, a kind in stock, a cut's sentence -/
inductive Fd where
  | i (n : Int) | s (z : Str) | p (a b : Int) | c (z : Str)
def FdV (H : Hp) : Fd → V → Prop
  | .i n, v => v = .int n
  | .s z, v => v = .str z
  | .p a b, v => ∃ t, v = .ref t ∧ H t = some (.tup [.int a, .int b])
  | .c z, v => ∃ t a b, v = .ref t ∧ H t = some (.tup [.str "menu", .ref a, .ref b]) ∧ H a = some (.tup [.str "word", .str "own"]) ∧ H b = some (.tup [.str "word", .str z])
theorem FdV.ts {H H' : Hp} (e : TS H H') : ∀ {f : Fd} {v : V}, FdV H f v → FdV H' f v
  | .i _, _, h => h
  | .s _, _, h => h
  | .p _ _, _, ⟨t, h1, h2⟩ => ⟨t, h1, e _ _ h2⟩
  | .c _, _, ⟨t, a, b, h1, h2, h3, h4⟩ => ⟨t, a, b, h1, e _ _ h2, e _ _ h3, e _ _ h4⟩
def FsV (H : Hp) : List Fd → List V → Prop
  | [], vs => vs = []
  | f :: fs, vs => ∃ v us, vs = v :: us ∧ FdV H f v ∧ FsV H fs us
theorem FsV.ts {H H' : Hp} (e : TS H H') : ∀ {f : List Fd} {v : List V}, FsV H f v → FsV H' f v
  | [], _, h => h
  | _ :: _, _, ⟨v, us, h1, h2, h3⟩ => ⟨v, us, h1, h2.ts e, h3.ts e⟩
theorem FsV.len {H : Hp} : ∀ {f : List Fd} {v : List V}, FsV H f v → v.length = f.length
  | [], _, h => by rw [show _ = _ from h]; rfl
  | _ :: _, _, ⟨v, us, h1, h2, h3⟩ => by rw [h1, List.length_cons, List.length_cons, h3.len]
structure Hd where
  k : Kd
  r : Option Key
  f : List Fd
def rL (r : Option Key) : List V := (r.map kV).toList
/-- a head that is well formed -/
def Hd.Ok (h : Hd) : Prop := h.r.isSome = h.k.rf ∧ (rL h.r).length + h.f.length = h.k.fs.length
def HdL (H : Hp) (h : Hd) (xs : List V) : Prop := ∃ fs, xs = .str h.k.nm :: (rL h.r ++ fs) ∧ FsV H h.f fs
theorem HdL.ts {H H' : Hp} (e : TS H H') {h : Hd} {xs : List V} : HdL H h xs → HdL H' h xs := fun ⟨fs, h1, h2⟩ => ⟨fs, h1, h2.ts e⟩
theorem HdL.len {H : Hp} {h : Hd} {xs : List V} (o : h.Ok) : HdL H h xs → xs.length = 1 + h.k.fs.length := fun ⟨fs, h1, h2⟩ => by
  rw [h1, List.length_cons, List.length_append, h2.len, ← o.2, Nat.add_comm]
def HdV (H : Hp) (h : Hd) (v : V) : Prop := ∃ t xs, v = .ref t ∧ H t = some (.tup xs) ∧ HdL H h xs
theorem HdV.ts {H H' : Hp} (e : TS H H') {h : Hd} {v : V} : HdV H h v → HdV H' h v := fun ⟨t, xs, h1, h2, h3⟩ => ⟨t, xs, h1, e _ _ h2, h3.ts e⟩
inductive Tr where
  | le (h : Hd) | un (h : Hd) (a : Tr) | bi (h : Hd) (a b : Tr)
def Tr.hd : Tr → Hd
  | .le h => h | .un h _ => h | .bi h _ _ => h
def Tr.ks : Tr → List Tr
  | .le _ => [] | .un _ a => [a] | .bi _ a b => [a, b]
def Tr.Ok : Tr → Prop
  | .le h => h.Ok ∧ h.k.pr = 0
  | .un h a => h.Ok ∧ h.k.pr = 1 ∧ a.Ok
  | .bi h a b => h.Ok ∧ h.k.pr = 2 ∧ a.Ok ∧ b.Ok
def Tr.size : Tr → Nat
  | .le _ => 1 | .un _ a => a.size + 1 | .bi _ a b => a.size + b.size + 1
def Tr.dep : Tr → Nat
  | .le _ => 0 | .un _ a => a.dep + 1 | .bi _ a b => max a.dep b.dep + 1
def TrV (H : Hp) : Tr → V → Prop
  | .le h, v => ∃ t xs, v = .ref t ∧ H t = some (.tup (xs ++ [])) ∧ HdL H h xs
  | .un h a, v => ∃ t xs x, v = .ref t ∧ H t = some (.tup (xs ++ [x])) ∧ HdL H h xs ∧ TrV H a x
  | .bi h a b, v => ∃ t xs x y, v = .ref t ∧ H t = some (.tup (xs ++ [x, y])) ∧ HdL H h xs ∧ TrV H a x ∧ TrV H b y
theorem TrV.ts {H H' : Hp} (e : TS H H') : ∀ {t : Tr} {v : V}, TrV H t v → TrV H' t v
  | .le _, _, ⟨t, xs, h1, h2, h3⟩ => ⟨t, xs, h1, e _ _ h2, h3.ts e⟩
  | .un _ _, _, ⟨t, xs, x, h1, h2, h3, h4⟩ => ⟨t, xs, x, h1, e _ _ h2, h3.ts e, h4.ts e⟩
  | .bi _ _ _, _, ⟨t, xs, x, y, h1, h2, h3, h4, h5⟩ => ⟨t, xs, x, y, h1, e _ _ h2, h3.ts e, h4.ts e, h5.ts e⟩
def TrsV (H : Hp) : List Tr → List V → Prop
  | [], vs => vs = []
  | t :: ts, vs => ∃ v us, vs = v :: us ∧ TrV H t v ∧ TrsV H ts us
theorem TrsV.ts {H H' : Hp} (e : TS H H') : ∀ {f : List Tr} {v : List V}, TrsV H f v → TrsV H' f v
  | [], _, h => h
  | _ :: _, _, ⟨v, us, h1, h2, h3⟩ => ⟨v, us, h1, h2.ts e, h3.ts e⟩
theorem TrsV.len {H : Hp} : ∀ {f : List Tr} {v : List V}, TrsV H f v → v.length = f.length
  | [], _, h => by rw [show _ = _ from h]; rfl
  | _ :: _, _, ⟨v, us, h1, h2, h3⟩ => by rw [h1, List.length_cons, List.length_cons, h3.len]
theorem TrsV.append {H : Hp} : ∀ {f g : List Tr} {v u : List V}, TrsV H f v → TrsV H g u → TrsV H (f ++ g) (v ++ u)
  | [], _, _, _, h, k => by rw [show _ = _ from h]; exact k
  | _ :: _, _, _, _, ⟨v, us, h1, h2, h3⟩, k => by
    subst h1
    exact ⟨v, _, rfl, h2, h3.append k⟩
theorem TrsV.reverse {H : Hp} : ∀ {f : List Tr} {v : List V}, TrsV H f v → TrsV H f.reverse v.reverse
  | [], _, h => by rw [show _ = _ from h]; exact rfl
  | _ :: _, _, ⟨v, us, h1, h2, h3⟩ => by
    subst h1
    rw [List.reverse_cons, List.reverse_cons]
    exact h3.reverse.append ⟨v, [], rfl, h2, rfl⟩
/-- a tree's tuple: the head's items, then the premises -/
theorem TrV.split {H : Hp} : ∀ {t : Tr} {v : V}, TrV H t v → ∃ p xs ys, v = .ref p ∧ H p = some (.tup (xs ++ ys)) ∧ HdL H t.hd xs ∧ TrsV H t.ks ys
  | .le _, _, ⟨t, xs, h1, h2, h3⟩ => ⟨t, xs, [], h1, h2, h3, rfl⟩
  | .un _ _, _, ⟨t, xs, x, h1, h2, h3, h4⟩ => ⟨t, xs, [x], h1, h2, h3, x, [], rfl, h4, rfl⟩
  | .bi _ _ _, _, ⟨t, xs, x, y, h1, h2, h3, h4, h5⟩ => ⟨t, xs, [x, y], h1, h2, h3, x, [y], rfl, h4, y, [], rfl, h5, rfl⟩
theorem Tr.Ok.hd : ∀ {t : Tr}, t.Ok → t.hd.Ok ∧ t.hd.k.pr = t.ks.length ∧ ∀ a ∈ t.ks, a.Ok
  | .le _, ⟨h1, h2⟩ => ⟨h1, h2, by simp [Tr.ks]⟩
  | .un _ a, ⟨h1, h2, h3⟩ => ⟨h1, h2, by simpa [Tr.ks] using h3⟩
  | .bi _ a b, ⟨h1, h2, h3, h4⟩ => ⟨h1, h2, by simpa [Tr.ks] using ⟨h3, h4⟩⟩
/-- the heads in preorder -/
def hds : Tr → List Hd
  | .le h => [h] | .un h a => h :: hds a | .bi h a b => h :: (hds a ++ hds b)
def hdsL (ts : List Tr) : List Hd := ts.flatMap hds
theorem hds_eq (t : Tr) : hds t = t.hd :: hdsL t.ks := by
  cases t <;> simp [hds, hdsL, Tr.hd, Tr.ks]
/-- a stack of trees out of heads -/
def fstep (h : Hd) : Nat → List Tr → List Tr
  | 0, ts => .le h :: ts
  | 1, a :: ts => .un h a :: ts
  | 2, a :: b :: ts => .bi h a b :: ts
  | _, ts => ts
def fh : List Hd → List Tr
  | [] => []
  | h :: hs => fstep h h.k.pr (fh hs)
def Enough : List Hd → Prop
  | [] => True
  | h :: hs => Enough hs ∧ h.k.pr ≤ (fh hs).length
theorem fh_hds : ∀ {t : Tr} (_ : t.Ok) (s : List Hd), fh (hds t ++ s) = t :: fh s
  | .le h, ⟨_, h2⟩, s => by
    show fstep h h.k.pr (fh s) = _
    rw [h2]; rfl
  | .un h a, ⟨_, h2, h3⟩, s => by
    show fstep h h.k.pr (fh (hds a ++ s)) = _
    rw [h2, fh_hds h3]; rfl
  | .bi h a b, ⟨_, h2, h3, h4⟩, s => by
    show fstep h h.k.pr (fh (hds a ++ hds b ++ s)) = _
    rw [h2, List.append_assoc, fh_hds h3, fh_hds h4]; rfl
theorem enough_hds : ∀ {t : Tr} (_ : t.Ok) (s : List Hd), Enough s → Enough (hds t ++ s)
  | .le h, ⟨_, h2⟩, s, e => ⟨e, by rw [h2]; omega⟩
  | .un h a, ⟨_, h2, h3⟩, s, e => ⟨enough_hds h3 s e, by rw [h2]; show 1 ≤ (fh (hds a ++ s)).length; rw [fh_hds h3]; simp⟩
  | .bi h a b, ⟨_, h2, h3, h4⟩, s, e => by
    show Enough (h :: (hds a ++ hds b ++ s))
    rw [List.append_assoc]
    exact ⟨enough_hds h3 _ (enough_hds h4 s e), by rw [h2, fh_hds h3, fh_hds h4]; simp⟩
def Tr.map (g : Hd → Hd) : Tr → Tr
  | .le h => .le (g h) | .un h a => .un (g h) (a.map g) | .bi h a b => .bi (g h) (a.map g) (b.map g)
theorem hds_map (g : Hd → Hd) : ∀ t : Tr, hds (t.map g) = (hds t).map g
  | .le h => rfl
  | .un h a => by simp [Tr.map, hds, hds_map g a]
  | .bi h a b => by simp [Tr.map, hds, hds_map g a, hds_map g b]
/-- the tables of the module's top -/
def fsK (T : Kd → Addr) : List (Key × V) := allKd.map fun k => ((Sum.inr k.nm : Key), V.ref (T k))
def prK : List (Key × V) := allKd.map fun k => ((Sum.inr k.nm : Key), V.int (k.pr : Int))
structure Tabs (w : World) (K : PySem.W.Frag) (mg : Str → Option Value) : Prop where
  ex : ∃ (F D : Addr) (T : Kd → Addr), mg "FIELDS" = some (.ref F) ∧ mg "PREMISES" = some (.ref D) ∧ KDict w K F (fsK T) ∧ KDict w K D prK ∧ (∀ (H : Hp) k, SqT K H (T k) (k.fs.map V.str)) ∧ ∀ k, ∃ o, K.lookup (T k) = some o ∧ o.cls = .type "tuple" ∧ o.dict = none
theorem fs_val (T : Kd → Addr) (k : Kd) : valV (fsK T) (Sum.inr k.nm) = some (V.ref (T k)) := by
  cases k <;> rfl
theorem pr_val (k : Kd) : valV prK (Sum.inr k.nm) = some (V.int (k.pr : Int)) := by
  cases k <;> rfl
theorem rf_in (k : Kd) : inV (.str "ref") (k.fs.map V.str) = k.rf := by
  cases k <;> decide +kernel
theorem fs_flat (k : Kd) : (k.fs.map V.str).all flatV = true := by
  cases k <;> rfl
theorem at0 {x : V} {l : List V} : atI (x :: l) 0 = some x := atI_nat (j := 0) rfl
theorem at1 {x y : V} {l : List V} : atI (x :: y :: l) 1 = some y := atI_nat (j := 1) rfl



section
variable {P : Program} {w : World} {K : PySem.W.Frag} {mg : Str → Option Value} {base : Heap}
def spRef : Sp := fun vs H Q _ => ∃ p k rest, vs = [.ref p] ∧ H p = some (.tup (.str (Kd.nm k) :: rest)) ∧ Q (.bl k.rf) H
theorem ok_refers (T : Top K mg "refers" s_refers) (TB : Tabs w K mg) : Fn P w K mg base 1 "refers" spRef := by
  refine fn_ok T sc_refers so_refers (fun vs H Q E h => by obtain ⟨p, k, rest, rfl, _⟩ := h; rfl) (fun _ _ _ _ _ _ us hl => match us, hl with | [_], _ => rfl) fun f cdv A outer s H vs Q E hr h nd => ?_
  obtain ⟨p, k, rest, rfl, hp, q⟩ := h
  obtain ⟨FA, DA, TT, hF, hD, kF, kD, hT, hO⟩ := TB.ex
  walk_at "sts"
  refine e_glob (x := "FIELDS") (v := .ref FA) (u := .ref FA) (by exact hF) (by exact rfl) ?_
  walk_at "sts"
  refine ix_t (by exact SqT.of hp) at0 ?_
  refine ix_kd (by exact kF) (by exact fs_val TT k) ?_
  refine o_inT (hT _ k) rfl (fs_flat k) ?_
  rw [rf_in]
  exact q
def spPrem : Sp := fun vs H Q _ => ∃ p k rest xs ys, vs = [.ref p] ∧ H p = some (.tup (xs ++ ys)) ∧ xs = .str (Kd.nm k) :: rest ∧ xs.length = 1 + k.fs.length ∧ ∀ l H', Same H H' → H l = none → H' l = some (.lst ys) → Q (.ref l) H'
theorem ok_premises (T : Top K mg "premises" s_premises) (TB : Tabs w K mg) (mList : mg "list" = none) (mLen : mg "len" = none) : Fn P w K mg base 1 "premises" spPrem := by
  refine fn_ok T sc_premises so_premises (fun vs H Q E h => by obtain ⟨p, k, rest, xs, ys, rfl, _⟩ := h; rfl) (fun _ _ _ _ _ _ us hl => match us, hl with | [_], _ => rfl) fun f cdv A outer s H vs Q E hr h nd => ?_
  obtain ⟨p, k, rest, xs, ys, rfl, hp, ex, hl, q⟩ := h
  obtain ⟨FA, DA, TT, hF, hD, kF, kD, hT, hO⟩ := TB.ex
  have hp0 : H p = some (.tup (.str (Kd.nm k) :: (rest ++ ys))) := by rw [hp, ex]; rfl
  refine l_cons (s_ret (e_callTy (x := "list") (by assumption) b_list (a_cons (e_tLo ?_))))
  walk_at "sts"
  refine e_glob (x := "FIELDS") (v := .ref FA) (u := .ref FA) (by exact hF) (by exact rfl) ?_
  walk_at "sts"
  refine ix_t (by exact SqT.of hp0) at0 ?_
  refine ix_kd (by exact kF) (by exact fs_val TT k) ?_
  walk_at "sts"
  refine c_lenT (hT _ k) ?_
  walk_at "sts"
  refine ⟨p, xs, ys, rfl, congrArg V.int ?_, hp, fun t H1 e1 h1 => ?_⟩
  · rw [List.length_map, hl]; omega
  · refine a_nil (c_listT h1 fun l H2 e2 n2 h2 => q l H2 (e1.trans e2) (none_of e1 n2) h2)
def spHead : Sp := fun vs H Q _ => ∃ p k rest xs ys, vs = [.ref p] ∧ H p = some (.tup (xs ++ ys)) ∧ xs = .str (Kd.nm k) :: rest ∧ xs.length = 1 + k.fs.length ∧ ∀ l H', Same H H' → H' l = some (.tup xs) → Q (.ref l) H'
theorem ok_head_of (T : Top K mg "head_of" s_head_of) (TB : Tabs w K mg) (mLen : mg "len" = none) : Fn P w K mg base 1 "head_of" spHead := by
  refine fn_ok T sc_head_of so_head_of (fun vs H Q E h => by obtain ⟨p, k, rest, xs, ys, rfl, _⟩ := h; rfl) (fun _ _ _ _ _ _ us hl => match us, hl with | [_], _ => rfl) fun f cdv A outer s H vs Q E hr h nd => ?_
  obtain ⟨p, k, rest, xs, ys, rfl, hp, ex, hl, q⟩ := h
  obtain ⟨FA, DA, TT, hF, hD, kF, kD, hT, hO⟩ := TB.ex
  have hp0 : H p = some (.tup (.str (Kd.nm k) :: (rest ++ ys))) := by rw [hp, ex]; rfl
  refine l_cons (s_ret (e_tHi ?_))
  walk_at "sts"
  refine e_glob (x := "FIELDS") (v := .ref FA) (u := .ref FA) (by exact hF) (by exact rfl) ?_
  walk_at "sts"
  refine ix_t (by exact SqT.of hp0) at0 ?_
  refine ix_kd (by exact kF) (by exact fs_val TT k) ?_
  walk_at "sts"
  refine c_lenT (hT _ k) ?_
  walk_at "sts"
  refine ⟨p, xs, ys, rfl, congrArg V.int ?_, hp, fun t H1 e1 h1 => q t H1 e1 h1⟩
  rw [List.length_map, hl]; omega
def HdsV (H : Hp) : List Hd → List V → Prop
  | [], vs => vs = []
  | f :: fs, vs => ∃ v us, vs = v :: us ∧ HdV H f v ∧ HdsV H fs us
theorem HdsV.ts {H H' : Hp} (e : TS H H') : ∀ {f : List Hd} {v : List V}, HdsV H f v → HdsV H' f v
  | [], _, h => h
  | _ :: _, _, ⟨v, us, h1, h2, h3⟩ => ⟨v, us, h1, h2.ts e, h3.ts e⟩
theorem HdsV.len {H : Hp} : ∀ {f : List Hd} {v : List V}, HdsV H f v → v.length = f.length
  | [], _, h => by rw [show _ = _ from h]; rfl
  | _ :: _, _, ⟨v, us, h1, h2, h3⟩ => by rw [h1, List.length_cons, List.length_cons, h3.len]
theorem HdsV.snoc {H : Hp} {h : Hd} {x : V} (hx : HdV H h x) : ∀ {f : List Hd} {v : List V}, HdsV H f v → HdsV H (f ++ [h]) (v ++ [x])
  | [], _, e => by rw [show _ = _ from e]; exact ⟨x, [], rfl, hx, rfl⟩
  | _ :: _, _, ⟨v, us, h1, h2, h3⟩ => by
    subst h1
    exact ⟨v, _, rfl, h2, h3.snoc hx⟩
theorem HdsV.get {H : Hp} : ∀ {f : List Hd} {v : List V} {i : Nat} {x : V}, HdsV H f v → v[i]? = some x → ∃ h, f[i]? = some h ∧ HdV H h x
  | [], _, i, x, h, e => by rw [show _ = _ from h] at e; cases e
  | f :: _, _, 0, x, ⟨v, us, h1, h2, h3⟩, e => by subst h1; cases e; exact ⟨f, rfl, h2⟩
  | _ :: fs, _, i + 1, x, ⟨v, us, h1, h2, h3⟩, e => by
    subst h1
    exact h3.get (i := i) (by simpa using e)
def szL (ts : List Tr) : Nat := (ts.map Tr.size).foldr (· + ·) 0
theorem szL_cons (t : Tr) (ts : List Tr) : szL (t :: ts) = t.size + szL ts := rfl
theorem szL_app : ∀ (a b : List Tr), szL (a ++ b) = szL a + szL b
  | [], b => by simp [szL]
  | t :: a, b => by rw [List.cons_append, szL_cons, szL_cons, szL_app a b]; omega
theorem size_ks (t : Tr) : t.size = 1 + szL t.ks := by
  cases t <;> simp [Tr.size, Tr.ks, szL] <;> omega
theorem hds_size : ∀ t : Tr, (hds t).length = t.size
  | .le _ => rfl
  | .un _ a => by simp [hds, Tr.size, hds_size a]
  | .bi _ a b => by simp [hds, Tr.size, hds_size a, hds_size b]
theorem ks_le (t : Tr) : t.ks.length ≤ 2 := by cases t <;> simp [Tr.ks]
theorem size_pos (t : Tr) : 1 ≤ t.size := by rw [size_ks]; omega
theorem len_szL : ∀ ts : List Tr, ts.length ≤ szL ts
  | [] => Nat.le_refl _
  | t :: ts => by have := len_szL ts; have := size_pos t; rw [List.length_cons, szL_cons]; omega
theorem hdsL_len : ∀ ts : List Tr, (hdsL ts).length = szL ts
  | [] => rfl
  | t :: ts => by rw [show hdsL (t :: ts) = hds t ++ hdsL ts from rfl, List.length_append, hds_size, hdsL_len ts, szL_cons]
theorem hdsL_app (a b : List Tr) : hdsL (a ++ b) = hdsL a ++ hdsL b := List.flatMap_append
end
theorem pr_le (k : Kd) : k.pr ≤ 2 := by cases k <;> decide
theorem fs_le (k : Kd) : k.fs.length ≤ 3 := by cases k <;> decide
def Kd.br : Kd → Bool
  | .take => true | .pick => true | .pay => true | .open_ => true | .cut => true | _ => false
abbrev brS : List V := [.str "take", .str "pick", .str "pay", .str "open", .str "cut"]
theorem br_nm (k : Kd) : inV (.str k.nm) brS = k.br := by cases k <;> decide +kernel
structure Brg (K : PySem.W.Frag) (mg : Str → Option Value) : Prop where
  ex : ∃ BA : Addr, mg "BRINGING" = some (.ref BA) ∧ ∀ H : Hp, SqT K H BA brS
/-- the levels of a row's premises -/
def plv (k : Kd) (lv : Int) : List Int := match k.pr with
  | 0 => []
  | 1 => [if k.br = true then lv + 1 else lv]
  | _ => [lv, if k.br = true then lv + 1 else lv]
theorem plv_len (k : Kd) (lv : Int) : (plv k lv).length = k.pr := by cases k <;> rfl
theorem rep1 (n : Nat) (x : V) : (List.replicate n [x]).flatten = List.replicate n x := by
  induction n with
  | zero => rfl
  | succ n ih => rw [List.replicate_succ, List.flatten_cons, ih]; rfl
theorem o_rep1 {X : Cx} {H : Hp} {Q : VK} {l : Addr} {x : V} {n : Nat} (h : H l = some (.lst [x])) (hn : n ≤ 1000) (q : ∀ p H2, Same H H2 → H p = none → H2 p = some (.lst (List.replicate n x)) → Q (.ref p) H2) : wB X .Mult (.ref l) (.int (n : Int)) H Q :=
  b_of op_rep ⟨l, (n : Int), [x], rfl, rfl, h, by omega, by omega, by show 1 * n ≤ 2 ^ 24; omega, fun p np => by
    rw [Int.toNat_natCast, rep1]
    exact q p _ (fun c u eo => by rw [upd_ne (ne_of_none eo np)]; exact eo) np upd_same⟩
section
variable {P : Program} {w : World} {K : PySem.W.Frag} {mg : Str → Option Value} {base : Heap}
def spPL : Sp := fun vs H Q _ => ∃ p k rest lv, vs = [.ref p, .int lv] ∧ H p = some (.tup (.str (Kd.nm k) :: rest)) ∧ ∀ l H', Same H H' → H l = none → H' l = some (.lst ((plv k lv).map V.int)) → Q (.ref l) H'
theorem ok_premise_levels (T : Top K mg "premise_levels" s_premise_levels) (TB : Tabs w K mg) (B : Brg K mg) : Fn P w K mg base 1 "premise_levels" spPL := by
  refine fn_ok T sc_premise_levels so_premise_levels (fun vs H Q E h => by obtain ⟨p, k, rest, lv, rfl, _⟩ := h; rfl) (fun _ _ _ _ _ _ us hl => match us, hl with | [_, _], _ => rfl) fun f cdv A outer s H vs Q E hr h nd => ?_
  obtain ⟨p, k, rest, lv, rfl, hp, q⟩ := h
  obtain ⟨FA, DA, TT, hF, hD, kF, kD, hT, hO⟩ := TB.ex
  obtain ⟨BA, hB, hBS⟩ := B.ex
  refine l_cons (s_set (e_bin (e_lst (a_cons (e_var (a_nil ⟨by show 1 ≤ sizeLine; decide, fun l0 H1 e1 n1 h1 => ?_⟩))))))
  refine e_ix (e_glob (x := "PREMISES") (v := .ref DA) (u := .ref DA) (by exact hD) (by exact rfl) ?_)
  walk_at "sts"
  refine ix_t (by exact SqT.of (e1 _ _ hp)) at0 ?_
  refine ix_kd (by exact kD) (by exact pr_val k) ?_
  refine o_rep1 h1 (by have := pr_le k; omega) fun l H2 e2 n2 h2 => ?_
  show wL _ _ _ [some (.ref p), some (.int lv), some (.ref l)] _
  have nl : H l = none := none_of e1 n2
  refine l_cons (s_if (t_cmp (e_ix ?_)))
  walk_at "sts"
  refine ix_t (by exact SqT.of (e2 _ _ (e1 _ _ hp))) at0 ?_
  refine e_glob (x := "BRINGING") (v := .ref BA) (u := .ref BA) (by exact hB) (by exact rfl) ?_
  refine o_inT (hBS _) rfl rfl ⟨_, rfl, ?_⟩
  rw [br_nm]
  cases hb : k.br with
  | false =>
    refine iteF (l_nil (l_cons (s_ret (e_var ?_))))
    refine q l H2 (e1.trans e2) nl ?_
    rw [h2]
    cases k <;> first | rfl | cases hb
  | true =>
    have hp1 : 1 ≤ k.pr := by cases k <;> first | decide | cases hb
    refine iteT (l_cons (s_sub ?_))
    walk_at "sts"
    refine set_l h2 (k := k.pr - 1) ?_ ?_
    · rw [List.length_replicate]
      unfold ixN
      rw [if_neg (by decide), if_pos (by omega)]
      congr 1
      omega
    refine l_nil (l_cons (s_ret (e_var ?_)))
    refine q l _ (fun c u hc => by rw [upd_ne (fun z => by subst z; rw [nl] at hc; cases hc)]; exact e2 _ _ (e1 _ _ hc)) nl ?_
    rw [upd_same]
    cases k <;> first | rfl | cases hb
end
abbrev fs_rest (h : Hd) (ys fs : List V) : List V := (rL h.r ++ fs) ++ ys
/-- what waits: a tree and its level -/
def WtV (H : Hp) (x : Tr × Int) (v : V) : Prop := ∃ t u, v = .ref t ∧ H t = some (.tup [u, .int x.2]) ∧ TrV H x.1 u
theorem WtV.ts {H H' : Hp} (e : TS H H') {x : Tr × Int} {v : V} : WtV H x v → WtV H' x v := fun ⟨t, u, h1, h2, h3⟩ => ⟨t, u, h1, e _ _ h2, h3.ts e⟩
def WtsV (H : Hp) : List (Tr × Int) → List V → Prop
  | [], vs => vs = []
  | x :: xs, vs => ∃ v us, vs = v :: us ∧ WtV H x v ∧ WtsV H xs us
theorem WtsV.ts {H H' : Hp} (e : TS H H') : ∀ {f : List (Tr × Int)} {v : List V}, WtsV H f v → WtsV H' f v
  | [], _, h => h
  | _ :: _, _, ⟨v, us, h1, h2, h3⟩ => ⟨v, us, h1, h2.ts e, h3.ts e⟩
theorem WtsV.len {H : Hp} : ∀ {f : List (Tr × Int)} {v : List V}, WtsV H f v → v.length = f.length
  | [], _, h => by rw [show _ = _ from h]; rfl
  | _ :: _, _, ⟨v, us, h1, h2, h3⟩ => by rw [h1, List.length_cons, List.length_cons, h3.len]
theorem WtsV.append {H : Hp} : ∀ {f g : List (Tr × Int)} {v u : List V}, WtsV H f v → WtsV H g u → WtsV H (f ++ g) (v ++ u)
  | [], _, _, _, h, k => by rw [show _ = _ from h]; exact k
  | _ :: _, _, _, _, ⟨v, us, h1, h2, h3⟩, k => by
    subst h1
    exact ⟨v, _, rfl, h2, h3.append k⟩
theorem WtsV.of {H : Hp} : ∀ {f : List (Tr × Int)} {v : List V}, v.length = f.length → (∀ (j : Nat) (x : Tr × Int) (u : V), f[j]? = some x → v[j]? = some u → WtV H x u) → WtsV H f v
  | [], [], _, _ => rfl
  | [], _ :: _, h, _ => by cases h
  | _ :: _, [], h, _ => by cases h
  | x :: f, u :: v, h, k => ⟨u, v, rfl, k 0 x u rfl rfl, WtsV.of (by simpa using h) fun j y w h1 h2 => k (j + 1) y w (by simpa using h1) (by simpa using h2)⟩
theorem TrsV.get' {H : Hp} : ∀ {f : List Tr} {v : List V} {i : Nat} {x : V}, TrsV H f v → v[i]? = some x → ∃ h, f[i]? = some h ∧ TrV H h x
  | [], _, i, x, h, e => by rw [show _ = _ from h] at e; cases e
  | f :: _, _, 0, x, ⟨v, us, h1, h2, h3⟩, e => by subst h1; cases e; exact ⟨f, rfl, h2⟩
  | _ :: fs, _, i + 1, x, ⟨v, us, h1, h2, h3⟩, e => by
    subst h1
    exact h3.get' (i := i) (by simpa using e)
/-- the heads in preorder, each with its level -/
def phd : Tr → Int → List (Hd × Int)
  | .le h, lv => [(h, lv)]
  | .un h a, lv => (h, lv) :: phd a (if h.k.br = true then lv + 1 else lv)
  | .bi h a b, lv => (h, lv) :: (phd a lv ++ phd b (if h.k.br = true then lv + 1 else lv))
def phL (q : List (Tr × Int)) : List (Hd × Int) := q.flatMap fun x => phd x.1 x.2
theorem phd_eq {t : Tr} (o : t.Ok) (lv : Int) : phd t lv = (t.hd, lv) :: phL (t.ks.zip (plv t.hd.k lv)) := by
  cases t with
  | le h => simp [phd, phL, Tr.hd, Tr.ks]
  | un h a => obtain ⟨_, h2, _⟩ := o; by_cases hb : h.k.br = true <;> simp [phd, phL, Tr.hd, Tr.ks, plv, h2, hb]
  | bi h a b => obtain ⟨_, h2, _⟩ := o; by_cases hb : h.k.br = true <;> simp [phd, phL, Tr.hd, Tr.ks, plv, h2, hb]
theorem phd_len : ∀ (t : Tr) (lv : Int), (phd t lv).length = t.size
  | .le _, _ => rfl
  | .un _ a, _ => by simp [phd, Tr.size, phd_len a]
  | .bi _ a b, _ => by simp [phd, Tr.size, phd_len a, phd_len b]
def szW (q : List (Tr × Int)) : Nat := szL (q.map (·.1))
theorem szW_app (a b : List (Tr × Int)) : szW (a ++ b) = szW a + szW b := by unfold szW; rw [List.map_append, szL_app]
theorem szW_ph : ∀ q : List (Tr × Int), (phL q).length = szW q
  | [] => rfl
  | x :: q => by
    rw [show phL (x :: q) = phd x.1 x.2 ++ phL q from rfl, List.length_append, phd_len, szW_ph q]
    rfl
theorem phL_app (a b : List (Tr × Int)) : phL (a ++ b) = phL a ++ phL b := List.flatMap_append
theorem ks_plv {t : Tr} (o : t.Ok) (lv : Int) : (plv t.hd.k lv).length = t.ks.length := by rw [plv_len, o.hd.2.1]
theorem szW_zip {t : Tr} (o : t.Ok) (lv : Int) : szW (t.ks.zip (plv t.hd.k lv)) = szL t.ks := by
  unfold szW
  rw [List.map_fst_zip (by rw [ks_plv o]; exact Nat.le_refl _)]
def PhV (H : Hp) (x : Hd × Int) (v : V) : Prop := ∃ t r, v = .ref t ∧ H t = some (.tup [r, .int x.2]) ∧ HdV H x.1 r
theorem PhV.ts {H H' : Hp} (e : TS H H') {x : Hd × Int} {v : V} : PhV H x v → PhV H' x v := fun ⟨t, u, h1, h2, h3⟩ => ⟨t, u, h1, e _ _ h2, h3.ts e⟩
def PhsV (H : Hp) : List (Hd × Int) → List V → Prop
  | [], vs => vs = []
  | x :: xs, vs => ∃ v us, vs = v :: us ∧ PhV H x v ∧ PhsV H xs us
theorem PhsV.ts {H H' : Hp} (e : TS H H') : ∀ {f : List (Hd × Int)} {v : List V}, PhsV H f v → PhsV H' f v
  | [], _, h => h
  | _ :: _, _, ⟨v, us, h1, h2, h3⟩ => ⟨v, us, h1, h2.ts e, h3.ts e⟩
theorem PhsV.len {H : Hp} : ∀ {f : List (Hd × Int)} {v : List V}, PhsV H f v → v.length = f.length
  | [], _, h => by rw [show _ = _ from h]; rfl
  | _ :: _, _, ⟨v, us, h1, h2, h3⟩ => by rw [h1, List.length_cons, List.length_cons, h3.len]
theorem PhsV.snoc {H : Hp} {h : Hd × Int} {x : V} (hx : PhV H h x) : ∀ {f : List (Hd × Int)} {v : List V}, PhsV H f v → PhsV H (f ++ [h]) (v ++ [x])
  | [], _, e => by rw [show _ = _ from e]; exact ⟨x, [], rfl, hx, rfl⟩
  | _ :: _, _, ⟨v, us, h1, h2, h3⟩ => by
    subst h1
    exact ⟨v, _, rfl, h2, h3.snoc hx⟩
theorem PhsV.get {H : Hp} : ∀ {f : List (Hd × Int)} {v : List V} {i : Nat} {x : V}, PhsV H f v → v[i]? = some x → ∃ h, f[i]? = some h ∧ PhV H h x
  | [], _, i, x, h, e => by rw [show _ = _ from h] at e; cases e
  | f :: _, _, 0, x, ⟨v, us, h1, h2, h3⟩, e => by subst h1; cases e; exact ⟨f, rfl, h2⟩
  | _ :: fs, _, i + 1, x, ⟨v, us, h1, h2, h3⟩, e => by
    subst h1
    exact h3.get (i := i) (by simpa using e)
section
variable {P : Program} {w : World} {K : PySem.W.Frag} {mg : Str → Option Value} {base : Heap}
def spPH : Sp := fun vs H Q _ => ∃ v t lv, vs = [v, .int lv] ∧ TrV H t v ∧ t.Ok ∧ t.size ≤ 1000 ∧ ∀ l us H', Same H H' → H l = none → H' l = some (.lst us) → PhsV H' (phd t lv) us → Q (.ref l) H'
theorem ok_placed (T : Top K mg "placed_heads" s_placed_heads) (mL : mg "list" = none) (mZ : mg "zip" = none) (FH : Fn P w K mg base 1 "head_of" spHead) (FP : Fn P w K mg base 1 "premises" spPrem) (FL : Fn P w K mg base 1 "premise_levels" spPL) : Fn P w K mg base 2 "placed_heads" spPH := by
  refine fn_ok T sc_placed_heads so_placed_heads (fun vs H Q E h => by obtain ⟨v, t, lv, rfl, _⟩ := h; rfl) (fun _ _ _ _ _ _ us hl => match us, hl with | [_, _], _ => rfl) fun f cdv A outer s H vs Q E hr h nd => ?_
  obtain ⟨v, t, lv, rfl, hv, ho, hz, q⟩ := h
  refine l_cons (s_set (e_lst (a_nil ⟨by show 0 ≤ sizeLine; decide, fun fa H1 e1 n1 h1 => ?_⟩)))
  refine l_cons (s_set (e_lst (a_cons (e_tup (a_cons (e_var (a_cons (e_var (a_nil ⟨by show 2 ≤ sizeLine; decide, fun ta H2 e2 n2 h2 => ?_⟩)))))))))
  refine a_nil ⟨by show 1 ≤ sizeLine; decide, fun wa H3 e3 n3 h3 => ?_⟩
  have hfa3 := e3 _ _ (e2 _ _ h1)
  have nfw : fa ≠ wa := fun z => by subst z; rw [e2 _ _ h1] at n3; cases n3
  have e13 := (e1.trans e2).trans e3
  have nwH : H wa = none := none_of (e1.trans e2) n3
  show wL _ _ _ [some v, some (.int lv), some (.ref fa), some (.ref wa), none, none] _
  refine l_cons (s_whileN (fun n σ H' => ∃ (ts : List (Tr × Int)) (ws hs : List V) (em : List (Hd × Int)) (x y : Option V), σ = [some v, some (.int lv), some (.ref fa), some (.ref wa), x, y] ∧ H' fa = some (.lst hs) ∧ H' wa = some (.lst ws.reverse) ∧ n = szW ts ∧ WtsV H' ts ws ∧ (∀ a ∈ ts, a.1.Ok) ∧ PhsV H' em hs ∧ em ++ phL ts = phd t lv ∧ TS H H' ∧ Same H H')
    t.size ⟨[(t, lv)], [.ref ta], [], [], none, none, rfl, hfa3, h3, (Nat.add_zero _).symm, ⟨.ref ta, [], rfl, ⟨ta, v, rfl, e3 _ _ h2, hv.ts (Same.ts e13)⟩, rfl⟩, fun a ha => by rw [List.mem_singleton.mp ha]; exact ho, rfl, by simp [phL], Same.ts e13, e13⟩ fun n σ H4 hI => ?_)
  obtain ⟨ts, ws, hs, em, x, y, rfl, hfa, hwa, rfl, hts, hok, hem, heq, tsm, keep⟩ := hI
  refine t_tru (e_var ⟨_, tru_l hwa, ?_⟩)
  cases ts with
  | nil =>
    cases (show ws = [] from hts)
    refine ite_f rfl ?_
    rw [show phL [] = [] from rfl, List.append_nil] at heq
    subst heq
    refine l_cons (s_ret (e_var ?_))
    exact q fa hs H4 keep n1 hfa hem
  | cons a ts =>
    obtain ⟨u, us, rfl, ha, hts⟩ := hts
    rw [List.reverse_cons] at hwa ⊢
    refine ite_t (by simp) ?_
    refine l_cons (s_tup2 (e_pop (e_var ⟨wa, us.reverse, u, rfl, hwa, ?_⟩)))
    have t1 : TS H4 (upd H4 wa (.lst us.reverse)) := TS.upd hwa
    obtain ⟨at_, av, rfl, hat, hav⟩ := ha.ts t1
    refine ⟨at_, av, .int a.2, rfl, SqT.of hat, ?_⟩
    obtain ⟨p, xs, ys, rfl, hp, hx, hy⟩ := hav.split
    show wL _ _ _ [some v, some (.int lv), some (.ref fa), some (.ref wa), some (.ref p), some (.int a.2)] _
    have oa := hok a (List.mem_cons_self ..)
    obtain ⟨o1, o2, o3⟩ := oa.hd
    have hlen := hx.len o1
    obtain ⟨fs, ex, hfs⟩ := id hx
    have hfa1 : upd H4 wa (.lst us.reverse) fa = some (.lst hs) := by rw [upd_ne nfw]; exact hfa
    have leh := congrArg List.length heq
    rw [List.length_append, szW_ph, phd_len] at leh
    have szc : szW (a :: ts) = a.1.size + szW ts := rfl
    have lhs := hem.len
    have lus := hts.len
    have lts : ts.length ≤ szW ts := by have := len_szL (ts.map (·.1)); rw [List.length_map] at this; exact this
    have la := size_ks a.1
    have lk := ks_le a.1
    have lys := hy.len
    refine l_cons (s_expr (e_app ?_))
    refine e_var ⟨fa, hs, rfl, SqL.of hfa1, ?_⟩
    refine e_tup (a_cons (e_call (by exact FH) (by exact hr) (by decide) ?_))
    walk_at "sts"
    refine ⟨p, a.1.hd.k, _, xs, ys, rfl, hp, ex, hlen, fun r H5 e5 h5 => ?_⟩
    walk_at "sts"
    refine ⟨by show 2 ≤ sizeLine; decide, fun pr H6 e6 n6 h6 => ?_⟩
    have e56 := e5.trans e6
    have hfa6 := e56 _ _ hfa1
    refine ⟨hs, hfa6, by show hs.length < 2 ^ 24; omega, ?_⟩
    have hwa6 : upd H6 fa (.lst (hs ++ [.ref pr])) wa = some (.lst us.reverse) := by rw [upd_ne (Ne.symm nfw)]; exact e56 _ _ upd_same
    have t6 : TS (upd H4 wa (.lst us.reverse)) (upd H6 fa (.lst (hs ++ [.ref pr]))) := (Same.ts e56).trans (TS.upd hfa6)
    have hp6 := t6 _ _ hp
    refine l_cons (s_expr (e_ext ?_))
    refine e_var ⟨wa, _, rfl, SqL.of hwa6, ?_⟩
    refine e_rev (e_listZ .l .l (by assumption) (by assumption) ?_)
    refine e_call (by exact FP) (by exact hr) (by decide) ?_
    walk_at "sts"
    refine ⟨p, a.1.hd.k, _, xs, ys, rfl, hp6, ex, hlen, fun l7 H7 e7 n7 h7 => ?_⟩
    refine e_call (by exact FL) (by exact hr) (by decide) ?_
    walk_at "sts"
    refine ⟨p, a.1.hd.k, fs_rest a.1.hd ys fs, a.2, rfl, by rw [e7 _ _ hp6, ex]; rfl, fun l8 H8 e8 n8 h8 => ?_⟩
    have e78 := e7.trans e8
    refine ⟨l7, l8, ys, _, rfl, rfl, SqL.of (e8 _ _ h7), SqL.of h8, ?_, fun l9 as H9 e9 n9 h9 las has => ?_⟩
    · rw [List.length_map, plv_len, o2]; omega
    rw [List.length_map, ks_plv oa, lys, Nat.min_self] at las
    refine ⟨l9, _, rfl, SqL.of h9, fun l10 H10 e10 n10 h10 => ?_⟩
    have e710 := (e78.trans e9).trans e10
    have hwa10 := e710 _ _ hwa6
    have hfa10 := e710 _ _ (upd_same (H := H6) (a := fa) (o := .lst (hs ++ [.ref pr])))
    refine ⟨l10, us.reverse, _, rfl, hwa10, h10, by rw [List.length_reverse, List.length_reverse, List.length_map]; omega, ?_⟩
    have t10 : TS (upd H6 fa (.lst (hs ++ [.ref pr]))) (upd H10 wa (.lst (us.reverse ++ (as.map V.ref).reverse))) := (Same.ts e710).trans (TS.upd hwa10)
    have tall := (t1.trans t6).trans t10
    have tall6 := t6.trans t10
    have hw : WtsV (upd H10 wa (.lst (us.reverse ++ (as.map V.ref).reverse))) (a.1.ks.zip (plv a.1.hd.k a.2)) (as.map V.ref) := by
      refine WtsV.of (by rw [List.length_map, las, List.length_zip, ks_plv oa, Nat.min_self]) fun j z w h1 h2 => ?_
      rw [List.getElem?_map] at h2
      obtain ⟨tj, hj, rfl⟩ := Option.map_eq_some_iff.mp h2
      obtain ⟨x1, y1, f1, f2, f3⟩ := has j tj hj
      obtain ⟨z1, z2⟩ := List.getElem?_zip_eq_some.mp h1
      rw [List.getElem?_map, z2] at f2
      cases f2
      obtain ⟨z3, g1, g2⟩ := (hy.ts tall6).get' f1
      rw [z1] at g1
      cases g1
      exact ⟨tj, x1, rfl, (TS.upd hwa10) _ _ (e10 _ _ f3), g2⟩
    refine l_nil ⟨szW (a.1.ks.zip (plv a.1.hd.k a.2) ++ ts), by rw [szW_app, szW_zip oa, szc]; omega, _, as.map V.ref ++ us, hs ++ [.ref pr], em ++ [(a.1.hd, a.2)], some (.ref p), some (.int a.2), rfl, ?_, ?_, rfl, hw.append (hts.ts tall), ?_, (hem.ts tall).snoc ?_, ?_, tsm.trans tall, ?_⟩
    · rw [upd_ne nfw]; exact hfa10
    · rw [List.reverse_append]; exact upd_same
    · intro b hb
      rcases List.mem_append.mp hb with hb | hb
      · exact o3 b.1 (List.of_mem_zip hb).1
      · exact hok b (List.mem_cons_of_mem _ hb)
    · exact ⟨pr, .ref r, rfl, t10 _ _ (TS.upd hfa6 _ _ h6), ⟨r, xs, rfl, t10 _ _ (TS.upd hfa6 _ _ (e6 _ _ h5)), hx.ts tall6⟩⟩
    · rw [← heq, show phL (a :: ts) = phd a.1 a.2 ++ phL ts from rfl, phd_eq oa, phL_app]
      simp
    · intro c o hc
      have h3 := keep c o hc
      have cw : c ≠ wa := fun z => by subst z; rw [nwH] at hc; cases hc
      have cf : c ≠ fa := fun z => by subst z; rw [n1] at hc; cases hc
      rw [upd_ne cw]
      refine e710 _ _ ?_
      rw [upd_ne cf]
      refine e56 _ _ ?_
      rw [upd_ne cw]
      exact h3
end



section
variable {P : Program} {w : World} {K : PySem.W.Frag} {mg : Str → Option Value} {base : Heap}
def below : Key → Int → Bool
  | .inr _, _ => true
  | .inl i, lv => decide (i < lv)
def spBelow : Sp := fun vs H Q _ => ∃ (r : Key) (lv : Int), vs = [kV r, .int lv] ∧ Q (.bl (below r lv)) H
theorem ok_is_below (T : Top K mg "is_below" s_is_below) (mIs : mg "isinstance" = none) (mStr : mg "str" = none) : Fn P w K mg base 1 "is_below" spBelow := by
  refine fn_ok T sc_is_below so_is_below (fun vs H Q E h => by obtain ⟨r, lv, rfl, _⟩ := h; rfl) (fun _ _ _ _ _ _ us hl => match us, hl with | [_, _], _ => rfl) fun f cdv A outer s H vs Q E hr h nd => ?_
  obtain ⟨r, lv, rfl, q⟩ := h
  cases r with
  | inl i =>
    show wL _ _ _ (start N_is_below [.int i, .int lv]) _
    walk_at "sts"
    refine c_isi ty_int (.ty _) (kit_ty kb_int_str) ?_
    walk_at "sts"
    exact q
  | inr z =>
    show wL _ _ _ (start N_is_below [.str z, .int lv]) _
    walk_at "sts"
    refine c_isi ty_str (.ty _) (kit_ty kb_str_str) ?_
    walk_at "sts"
    exact q
end
section
variable {P : Program} {w : World} {K : PySem.W.Frag} {mg : Str → Option Value} {base : Heap}
def spPC : Sp := fun vs H Q _ => ∃ k : Kd, vs = [.str k.nm] ∧ Q (.int (k.pr : Int)) H
theorem ok_premise_count (T : Top K mg "premise_count" s_premise_count) (TB : Tabs w K mg) : Fn P w K mg base 1 "premise_count" spPC := by
  refine fn_ok T sc_premise_count so_premise_count (fun vs H Q E h => by obtain ⟨k, rfl, _⟩ := h; rfl) (fun _ _ _ _ _ _ us hl => match us, hl with | [_], _ => rfl) fun f cdv A outer s H vs Q E hr h nd => ?_
  obtain ⟨k, rfl, q⟩ := h
  obtain ⟨FA, DA, TT, hF, hD, kF, kD, hT, hO⟩ := TB.ex
  refine l_cons (s_ret (e_ix (e_glob (x := "PREMISES") (v := .ref DA) (u := .ref DA) (by exact hD) (by exact rfl) ?_)))
  walk_at "sts"
  exact ix_kd (by exact kD) (by exact pr_val k) q
/-- the kind of a row pay or cut -/
def spKF : Sp := fun vs H Q _ => ∃ p k rest i v, vs = [.ref p, .str "kind"] ∧ H p = some (.tup (.str (Kd.nm k) :: rest)) ∧ (k = .pay ∧ i = 1 ∨ k = .cut ∧ i = 0) ∧ rest[i]? = some v ∧ Q v H
theorem ok_field_of (T : Top K mg "field_of" s_field_of) (TB : Tabs w K mg) : Fn P w K mg base 1 "field_of" spKF := by
  refine fn_ok T sc_field_of so_field_of (fun vs H Q E h => by obtain ⟨p, k, rest, i, v, rfl, _⟩ := h; rfl) (fun _ _ _ _ _ _ us hl => match us, hl with | [_, _], _ => rfl) fun f cdv A outer s H vs Q E hr h nd => ?_
  obtain ⟨p, k, rest, i, v, rfl, hp, hk, hi, q⟩ := h
  obtain ⟨FA, DA, TT, hF, hD, kF, kD, hT, hO⟩ := TB.ex
  refine l_cons (s_ret (e_ix ?_))
  walk_at "sts"
  refine e_tIx (e_ix (e_glob (x := "FIELDS") (v := .ref FA) (u := .ref FA) (by exact hF) (by exact rfl) ?_))
  walk_at "sts"
  refine ix_t (by exact SqT.of hp) at0 ?_
  refine ix_kd (by exact kF) (by exact fs_val TT k) ?_
  refine ⟨_, rfl, hO k, e_var ⟨k.fs, "kind", i, rfl, hT _ k, ?_, ?_, ?_⟩⟩
  · rcases hk with ⟨rfl, rfl⟩ | ⟨rfl, rfl⟩ <;> rfl
  · rcases hk with ⟨rfl, rfl⟩ | ⟨rfl, rfl⟩
    · intro m hm
      have : m = 0 := by omega
      subst this
      decide +kernel
    · intro m hm
      omega
  · refine o_add ?_
    rw [show (1 : Int) + (i : Int) = ((i + 1 : Nat) : Int) by omega]
    exact ix_t (by exact SqT.of hp) (atI_nat (by simpa using hi)) q
end
section
variable {P : Program} {w : World} {K : PySem.W.Frag} {mg : Str → Option Value} {base : Heap}
/-! ### a Count -/
theorem lm : ¬ (("least" : Str) = "most") := by decide +kernel
theorem ld : ¬ (("least" : Str) = "days") := by decide +kernel
theorem md : ¬ (("most" : Str) = "days") := by decide +kernel
def flds (a b c : Int) : List (Str × V) := putF "days" (.int c) (putF "most" (.int b) (putF "least" (.int a) []))
theorem flds_l (a b c : Int) : (flds a b c).lookup ("least" : Str) = some (.int a) := by
  unfold flds
  rw [lookup_putF, if_neg ld, lookup_putF, if_neg lm, lookup_putF, if_pos rfl]
theorem flds_m (a b c : Int) : (flds a b c).lookup ("most" : Str) = some (.int b) := by
  unfold flds
  rw [lookup_putF, if_neg md, lookup_putF, if_pos rfl]
theorem flds_d (a b c : Int) : (flds a b c).lookup ("days" : Str) = some (.int c) := by
  unfold flds
  rw [lookup_putF, if_pos rfl]
theorem flds_no (a b c : Int) {m : Str} (h1 : ¬ m = "days") (h2 : ¬ m = "most") (h3 : ¬ m = "least") : (flds a b c).lookup m = none := by
  unfold flds
  rw [lookup_putF, if_neg h1, lookup_putF, if_neg h2, lookup_putF, if_neg h3]
  all_goals rfl
def CountAt (C : Addr) (H : Hp) (p : Addr) (a b c : Int) : Prop := ∃ dx, H p = some (.ins C dx (flds a b c))
/-- what is asked of the class as the top has made it -/
structure ClsOk (K : PySem.W.Frag) (mg : Str → Option Value) (C : Addr) : Prop where
  cl : Cls K C
  nL : NoAttr K C "least"
  nM : NoAttr K C "most"
  nD : NoAttr K C "days"
  mks : PySem.W.makesIn K C = true
  kp : PySem.W.keepIn K (.ref C) = true
  sf : PySem.W.selfFirst K C = true
  isC : C8.InsC K C
  mg : mg "Count" = some (.ref C)
def mx (i j : Int) : Int := if j > i then j else i
def mn (i j : Int) : Int := if j < i then j else i
def spInit (C : Addr) : Sp := fun vs H Q _ => ∃ (p dx : Addr) (a b c : Int), vs = [.ref p, .int a, .int b, .int c] ∧ H p = some (.ins C dx []) ∧ ∀ H', But p H H' → CountAt C H' p a b c → Q .non H'
variable {C : Addr}
theorem ok_init (T : TopM K C "__init__" "Count.__init__" s_Count___init) (O : ClsOk K mg C) : Kl P w K mg base 1 "Count" C (spInit C) := by
  obtain ⟨f, fd, F, hb, hf, hi, hk⟩ := me_ok (P := P) (w := w) (mg := mg) (base := base) (k := 0) (sp := spInit C) T sc_Count___init so_Count___init (fun vs H Q E h => by obtain ⟨p, dx, a, b, c, rfl, _⟩ := h; rfl) (fun _ _ _ _ _ _ us hl => match us, hl with | [_, _, _, _], _ => rfl) fun f cdv A outer s H vs Q E hr h nd => by
    obtain ⟨p, dx, a, b, c, rfl, hp, q⟩ := h
    refine l_cons (s_fld ?_)
    walk_at "sts"
    refine ⟨p, C, dx, _, rfl, hp, O.cl, O.nL, by show 0 < 1000; decide, ?_⟩
    refine l_cons (s_fld ?_)
    walk_at "sts"
    refine ⟨p, C, dx, _, rfl, upd_same, O.cl, O.nM, by show 1 < 1000; decide, ?_⟩
    refine l_cons (s_fld ?_)
    walk_at "sts"
    refine ⟨p, C, dx, _, rfl, upd_same, O.cl, O.nD, ?_, ?_⟩
    · rw [show (putF ("most" : Str) (V.int b) (putF ("least" : Str) (V.int a) [])) = [(("least" : Str), V.int a), (("most" : Str), V.int b)] by
        show (if ("least" : Str) = "most" then _ else (("least" : Str), V.int a) :: putF "most" (V.int b) []) = _
        rw [if_neg lm]
        rfl]
      show 2 < 1000
      decide
    · refine l_nil ?_
      exact q _ (But.refl.upd.upd.upd) ⟨dx, upd_same⟩
  exact ⟨f, fd, _, F, O.mg, ⟨O.mks, hf, hi, O.kp⟩, hb⟩
/-- C(a, b, c), as its caller meets it -/
theorem make_of {H : Hp} {Q : VK} {a b c : Int} (q : ∀ p H', Same H H' → CountAt C H' p a b c → Q (.ref p) H') : ∀ x dx, H x = none → H dx = none → dx ≠ x → spInit C [.ref x, .int a, .int b, .int c] (upd (upd H dx (.own x)) x (.ins C dx [])) (fun v H2 => v = .non ∧ Q (.ref x) H2) E0 := by
  intro x dx nx nd ne
  refine ⟨x, dx, a, b, c, rfl, upd_same, fun H' bt e => ⟨rfl, q x H' (fun y o h => bt y o (ne_of_none h nx) ?_) e⟩⟩
  rw [upd_ne (ne_of_none h nx), upd_ne (ne_of_none h nd)]
  exact h
def spOp (C : Addr) (g : Int → Int → Int) (g2 : Int → Int → Int) : Sp := fun vs H Q _ => ∃ (p r : Addr) (a b c d e f : Int), vs = [.ref p, .ref r] ∧ CountAt C H p a b c ∧ CountAt C H r d e f ∧ ∀ u H', Same H H' → CountAt C H' u (g a d) (g2 b e) (mx c f) → Q (.ref u) H'
def AR2 := True
theorem ok_add (T : TopM K C "__add__" "Count.__add__" s_Count___add) (O : ClsOk K mg C) (F : Kl P w K mg base 1 "Count" C (spInit C)) (mMax : mg "max" = none) : Op2 P w K mg base 3 C .Add (spOp C (· + ·) (· + ·)) := by
  obtain ⟨f, fd, G, hb, hf, hi, hk⟩ := me_ok (P := P) (w := w) (mg := mg) (base := base) (k := 2) (sp := spOp C (· + ·) (· + ·)) T sc_Count___add so_Count___add (fun vs H Q E h => by obtain ⟨p, r, a, b, c, d, e, f, rfl, _⟩ := h; rfl) (fun _ _ _ _ _ _ us hl => match us, hl with | [_, _], _ => rfl) fun f cdv A outer s H vs Q E hr h nd => by
    obtain ⟨p, r, a, b, c, d, e, f, rfl, ⟨dx, hp⟩, ⟨dy, hq⟩, q⟩ := h
    walk_at "sts"
    refine e_make (by exact F) (by exact hr) (by decide) ?_
    walk_at "sts"
    refine e_fld ?_
    walk_at "sts"
    refine ⟨p, C, dx, _, _, rfl, hp, O.cl, O.nL, flds_l _ _ _, ?_⟩
    walk_at "sts"
    refine e_fld ?_
    walk_at "sts"
    refine ⟨r, C, dy, _, _, rfl, hq, O.cl, O.nL, flds_l _ _ _, ?_⟩
    walk_at "sts"
    refine e_fld ?_
    walk_at "sts"
    refine ⟨p, C, dx, _, _, rfl, hp, O.cl, O.nM, flds_m _ _ _, ?_⟩
    walk_at "sts"
    refine e_fld ?_
    walk_at "sts"
    refine ⟨r, C, dy, _, _, rfl, hq, O.cl, O.nM, flds_m _ _ _, ?_⟩
    walk_at "sts"
    refine e_fld ?_
    walk_at "sts"
    refine ⟨p, C, dx, _, _, rfl, hp, O.cl, O.nD, flds_d _ _ _, ?_⟩
    walk_at "sts"
    refine e_fld ?_
    walk_at "sts"
    refine ⟨r, C, dy, _, _, rfl, hq, O.cl, O.nD, flds_d _ _ _, ?_⟩
    walk_at "sts"
    exact make_of q
  exact ⟨f, fd, _, G, hf, hi, O.sf, hb⟩
theorem ok_or (T : TopM K C "__or__" "Count.__or__" s_Count___or) (O : ClsOk K mg C) (F : Kl P w K mg base 1 "Count" C (spInit C)) (mMax : mg "max" = none) (mMin : mg "min" = none) : Op2 P w K mg base 3 C .BitOr (spOp C mn mx) := by
  obtain ⟨f, fd, G, hb, hf, hi, hk⟩ := me_ok (P := P) (w := w) (mg := mg) (base := base) (k := 2) (sp := spOp C mn mx) T sc_Count___or so_Count___or (fun vs H Q E h => by obtain ⟨p, r, a, b, c, d, e, f, rfl, _⟩ := h; rfl) (fun _ _ _ _ _ _ us hl => match us, hl with | [_, _], _ => rfl) fun f cdv A outer s H vs Q E hr h nd => by
    obtain ⟨p, r, a, b, c, d, e, f, rfl, ⟨dx, hp⟩, ⟨dy, hq⟩, q⟩ := h
    walk_at "sts"
    refine e_make (by exact F) (by exact hr) (by decide) ?_
    walk_at "sts"
    refine e_fld ?_
    walk_at "sts"
    refine ⟨p, C, dx, _, _, rfl, hp, O.cl, O.nL, flds_l _ _ _, ?_⟩
    walk_at "sts"
    refine e_fld ?_
    walk_at "sts"
    refine ⟨r, C, dy, _, _, rfl, hq, O.cl, O.nL, flds_l _ _ _, ?_⟩
    walk_at "sts"
    refine e_fld ?_
    walk_at "sts"
    refine ⟨p, C, dx, _, _, rfl, hp, O.cl, O.nM, flds_m _ _ _, ?_⟩
    walk_at "sts"
    refine e_fld ?_
    walk_at "sts"
    refine ⟨r, C, dy, _, _, rfl, hq, O.cl, O.nM, flds_m _ _ _, ?_⟩
    walk_at "sts"
    refine e_fld ?_
    walk_at "sts"
    refine ⟨p, C, dx, _, _, rfl, hp, O.cl, O.nD, flds_d _ _ _, ?_⟩
    walk_at "sts"
    refine e_fld ?_
    walk_at "sts"
    refine ⟨r, C, dy, _, _, rfl, hq, O.cl, O.nD, flds_d _ _ _, ?_⟩
    walk_at "sts"
    exact make_of q
  exact ⟨f, fd, _, G, hf, hi, O.sf, hb⟩
/-- a kind as a value: once, or a pair -/
def ModeV (H : Hp) (m : V) : Option (Int × Int) → Prop
  | none => m = .str "once"
  | some (u, v) => ∃ t, m = .ref t ∧ H t = some (.tup [.int u, .int v])
def small : Option (Int × Int) → Prop
  | none => True
  | some (u, v) => 0 ≤ u ∧ u ≤ 10000
def bl0 : Option (Int × Int) → Int → Int
  | none, a => a
  | some _, _ => 0
def bl1 : Option (Int × Int) → Int → Int
  | none, b => b
  | some (u, _), b => u * b
def bl2 : Option (Int × Int) → Int → Int
  | none, c => c
  | some (_, v), c => v + c
theorem once_shaped : SeqAt.shaped (.str "once") = true := by decide +kernel
def spBoxed (C : Addr) : Sp := fun vs H Q _ => ∃ (p : Addr) (m : V) (k : Option (Int × Int)) (a b c : Int), vs = [.ref p, m] ∧ CountAt C H p a b c ∧ ModeV H m k ∧ small k ∧ ∀ u H', Same H H' → CountAt C H' u (bl0 k a) (bl1 k b) (bl2 k c) → Q (.ref u) H'
theorem meth_no {C : Addr} {H : Hp} {p dx : Addr} {a b c : Int} {m : Str} (h : H p = some (.ins C dx (flds a b c))) (h1 : ¬ m = "days") (h2 : ¬ m = "most") (h3 : ¬ m = "least") : ∃ a' dx' fs, V.ref p = .ref a' ∧ H a' = some (.ins C dx' fs) ∧ fs.lookup m = none := ⟨p, dx, _, rfl, h, flds_no a b c h1 h2 h3⟩
theorem ok_boxed (T : TopM K C "boxed" "Count.boxed" s_Count_boxed) (O : ClsOk K mg C) (F : Kl P w K mg base 1 "Count" C (spInit C)) : Mt P w K mg base 3 C "boxed" (spBoxed C) := by
  obtain ⟨f, fd, G, hb, hf, hi, hk⟩ := me_ok (P := P) (w := w) (mg := mg) (base := base) (k := 2) (sp := spBoxed C) T sc_Count_boxed so_Count_boxed (fun vs H Q E h => by obtain ⟨p, m, k, a, b, c, rfl, _⟩ := h; rfl) (fun _ _ _ _ _ _ us hl => match us, hl with | [_, _], _ => rfl) fun f cdv A outer s H vs Q E hr h nd => by
    obtain ⟨p, m, k, a, b, c, rfl, ⟨dx, hp⟩, hm, hs, q⟩ := h
    cases k with
    | none =>
      obtain rfl : m = .str "once" := hm
      walk_at "sts"
      refine e_make (by exact F) (by exact hr) (by decide) ?_
      walk_at "sts"
      refine e_fld ?_
      walk_at "sts"
      refine ⟨p, C, dx, _, _, rfl, hp, O.cl, O.nL, flds_l _ _ _, ?_⟩
      walk_at "sts"
      refine e_fld ?_
      walk_at "sts"
      refine ⟨p, C, dx, _, _, rfl, hp, O.cl, O.nM, flds_m _ _ _, ?_⟩
      walk_at "sts"
      refine e_fld ?_
      walk_at "sts"
      refine ⟨p, C, dx, _, _, rfl, hp, O.cl, O.nD, flds_d _ _ _, ?_⟩
      walk_at "sts"
      exact make_of q
    | some uv =>
      obtain ⟨u, v⟩ := uv
      obtain ⟨t, rfl, ht⟩ := hm
      obtain ⟨s1, s2⟩ := hs
      walk_at "sts"
      refine o_eqPS (by exact hr) ht once_shaped ?_
      walk_at "sts"
      refine s_tup2 ?_
      walk_at "sts"
      refine ⟨t, _, _, rfl, SqT.of ht, ?_⟩
      walk_at "sts"
      refine e_make (by exact F) (by exact hr) (by decide) ?_
      walk_at "sts"
      refine e_fld ?_
      walk_at "sts"
      refine ⟨p, C, dx, _, _, rfl, hp, O.cl, O.nM, flds_m _ _ _, ?_⟩
      walk_at "sts"
      refine o_mul (.inl ⟨by omega, by omega⟩) ?_
      walk_at "sts"
      refine e_fld ?_
      walk_at "sts"
      refine ⟨p, C, dx, _, _, rfl, hp, O.cl, O.nD, flds_d _ _ _, ?_⟩
      walk_at "sts"
      exact make_of q
  exact ⟨f, fd, _, G, ⟨hf, hi, hk⟩, hb, O.cl⟩
def spTri (C : Addr) : Sp := fun vs H Q _ => ∃ (p : Addr) (a b c : Int), vs = [.ref p] ∧ CountAt C H p a b c ∧ ∀ u H', Same H H' → H' u = some (.tup [.int a, .int b, .int c]) → Q (.ref u) H'
theorem ok_tri (T : TopM K C "triple" "Count.triple" s_Count_triple) (O : ClsOk K mg C) : Mt P w K mg base 1 C "triple" (spTri C) := by
  obtain ⟨f, fd, G, hb, hf, hi, hk⟩ := me_ok (P := P) (w := w) (mg := mg) (base := base) (k := 0) (sp := spTri C) T sc_Count_triple so_Count_triple (fun vs H Q E h => by obtain ⟨p, a, b, c, rfl, _⟩ := h; rfl) (fun _ _ _ _ _ _ us hl => match us, hl with | [_], _ => rfl) fun f cdv A outer s H vs Q E hr h nd => by
    obtain ⟨p, a, b, c, rfl, ⟨dx, hp⟩, q⟩ := h
    walk_at "sts"
    refine e_fld ?_
    walk_at "sts"
    refine ⟨p, C, dx, _, _, rfl, hp, O.cl, O.nL, flds_l _ _ _, ?_⟩
    walk_at "sts"
    refine e_fld ?_
    walk_at "sts"
    refine ⟨p, C, dx, _, _, rfl, hp, O.cl, O.nM, flds_m _ _ _, ?_⟩
    walk_at "sts"
    refine e_fld ?_
    walk_at "sts"
    refine ⟨p, C, dx, _, _, rfl, hp, O.cl, O.nD, flds_d _ _ _, ?_⟩
    walk_at "sts"
    exact ⟨by show 3 ≤ sizeLine; decide, fun u H2 e _ hu => q u H2 e hu⟩
  exact ⟨f, fd, _, G, ⟨hf, hi, hk⟩, hb, O.cl⟩
end



theorem o_cat2 {X : Cx} {H : Hp} {Q : VK} {l b : Addr} {xs zs : List V} (h1 : H l = some (.lst xs)) (h2 : H b = some (.lst zs)) (hz : xs.length + zs.length ≤ 200000) (q : ∀ p H2, Same H H2 → H p = none → H2 p = some (.lst (xs ++ zs)) → Q (.ref p) H2) : wB X .Add (.ref l) (.ref b) H Q :=
  b_of op_cat ⟨l, b, xs, zs, rfl, rfl, h1, h2, by show _ ≤ 2 ^ 24; omega, fun p np => q p _ (fun c u eo => by rw [upd_ne (ne_of_none eo np)]; exact eo) np upd_same⟩
theorem fresh_keep {D : Addr} {H H' : Hp} {o : HO} (n : H D = none) (e : Same H H') : Same H (upd H' D o) := fun c u hc => by rw [upd_ne (ne_of_none hc n)]; exact e _ _ hc
/-! ### counts, as functions of the reference -/
abbrev T3 := Int × Int × Int
def z3 : T3 := (0, 0, 0)
def add3 (x y : T3) : T3 := (x.1 + y.1, x.2.1 + y.2.1, mx x.2.2 y.2.2)
def or3 (x y : T3) : T3 := (mn x.1 y.1, mx x.2.1 y.2.1, mx x.2.2 y.2.2)
def box3 (m : Option (Int × Int)) (x : T3) : T3 := (bl0 m x.1, bl1 m x.2.1, bl2 m x.2.2)
abbrev CF := Key → Option T3
def sum1 : Option T3 → Option T3 → Option T3
  | none, y => y
  | some x, none => some x
  | some x, some y => some (add3 x y)
def or1 : Option T3 → Option T3 → Option T3
  | none, none => none
  | some x, none => some (or3 x z3)
  | none, some y => some (or3 z3 y)
  | some x, some y => some (or3 x y)
def sumF (f g : CF) : CF := fun k => sum1 (f k) (g k)
def orF (f g : CF) : CF := fun k => or1 (f k) (g k)
def boxF (m : Option (Int × Int)) (f : CF) : CF := fun k => (f k).map (box3 m)
open Classical in
/-- f on these keys alone -/
noncomputable def onK (ks : List Key) (f : CF) : CF := fun k => if k ∈ ks then f k else none
theorem onK_in {ks : List Key} {f : CF} {k : Key} (h : k ∈ ks) : onK ks f k = f k := if_pos h
theorem onK_not {ks : List Key} {f : CF} {k : Key} (h : k ∉ ks) : onK ks f k = none := if_neg h
theorem put_len (c : List (Key × V)) (k : Key) (x : V) : (putK c k x).length ≤ c.length + 1 := by
  unfold putK
  split <;> simp
def CtV (C : Addr) (H : Hp) (v : V) (x : T3) : Prop := ∃ p, v = .ref p ∧ CountAt C H p x.1 x.2.1 x.2.2
/-- all instances stay -/
def IS (C : Addr) (H H' : Hp) : Prop := ∀ p dx fs, H p = some (.ins C dx fs) → H' p = some (.ins C dx fs)
theorem Same.is {C : Addr} {H H' : Hp} (e : Same H H') : IS C H H' := fun p dx fs h => e _ _ h
theorem IS.trans {C : Addr} {H H1 H2 : Hp} (a : IS C H H1) (b : IS C H1 H2) : IS C H H2 := fun p dx fs h => b _ _ _ (a _ _ _ h)
theorem IS.upd {C a : Addr} {H : Hp} {o u : HO} (h : H a = some u) (d : ∀ dx fs, u ≠ .ins C dx fs) : IS C H (L2.upd H a o) := fun p dx fs hp => by
  rw [upd_ne (fun z => by subst z; rw [h] at hp; exact d dx fs (Option.some.inj hp))]
  exact hp
theorem IS.dk {C a : Addr} {H : Hp} {o : HO} {kvs : List (Key × V)} (h : H a = some (.dK kvs)) : IS C H (L2.upd H a o) := IS.upd h (fun _ _ z => by cases z)
theorem IS.fz {C a : Addr} {H : Hp} {o : HO} {ob : Obj} {u : HO} (h : H a = some (.frz ob u)) : IS C H (L2.upd H a o) := IS.upd h (fun _ _ z => by cases z)
theorem CtV.is {C : Addr} {H H' : Hp} {v : V} {x : T3} (h : CtV C H v x) (e : IS C H H') : CtV C H' v x := let ⟨p, h1, dx, h2⟩ := h; ⟨p, h1, dx, e _ _ _ h2⟩
structure DkV (C : Addr) (H : Hp) (kvs : List (Key × V)) (f : CF) : Prop where
  nd : (kvs.map (·.1)).Nodup
  val : ∀ k, (valV kvs k = none ∧ f k = none) ∨ ∃ v x, valV kvs k = some v ∧ f k = some x ∧ CtV C H v x
theorem DkV.is {C : Addr} {H H' : Hp} {kvs : List (Key × V)} {f : CF} (h : DkV C H kvs f) (e : IS C H H') : DkV C H' kvs f := ⟨h.nd, fun k => (h.val k).elim .inl fun ⟨v, x, h1, h2, h3⟩ => .inr ⟨v, x, h1, h2, h3.is e⟩⟩
theorem nd_put {kvs : List (Key × V)} (k : Key) (v : V) (h : (kvs.map (·.1)).Nodup) : ((putK kvs k v).map (·.1)).Nodup := by
  unfold putK
  split
  · rw [List.map_map]
    have e : ((fun x : Key × V => x.1) ∘ fun kv : Key × V => if kv.1 = k then (kv.1, v) else kv) = fun x => x.1 := by
      funext x
      show (if x.1 = k then (x.1, v) else x).1 = x.1
      split <;> rfl
    rw [e]
    exact h
  · rename_i hn
    rw [List.map_append]
    refine List.nodup_append.mpr ⟨h, by simp, fun a ha b hb => ?_⟩
    have eb : b = k := by simpa using hb
    subst eb
    intro e
    subst e
    apply hn
    obtain ⟨p, hp, e2⟩ := List.mem_map.mp ha
    exact List.any_eq_true.mpr ⟨p, hp, decide_eq_true e2⟩
theorem DkV.put {C : Addr} {H : Hp} {kvs : List (Key × V)} {f : CF} {k : Key} {v : V} {x : T3} (h : DkV C H kvs f) (c : CtV C H v x) : DkV C H (putK kvs k v) fun j => if j = k then some x else f j := by
  refine ⟨nd_put k v h.nd, fun j => ?_⟩
  rw [valV_put]
  by_cases e : j = k
  · rw [if_pos e, if_pos e]
    exact .inr ⟨v, x, rfl, rfl, c⟩
  · rw [if_neg e, if_neg e]
    exact h.val j
theorem DkV.cong {C : Addr} {H : Hp} {kvs : List (Key × V)} {f g : CF} (h : DkV C H kvs f) (e : f = g) : DkV C H kvs g := e ▸ h
theorem DkV.nil {C : Addr} {H : Hp} : DkV C H [] fun _ => none := ⟨by simp, fun k => .inl ⟨rfl, rfl⟩⟩
theorem DkV.at {C : Addr} {H : Hp} {kvs : List (Key × V)} {f : CF} (h : DkV C H kvs f) {i : Nat} {y : Key} {v : V} (e : kvs[i]? = some (y, v)) : valV kvs y = some v ∧ ∃ x, f y = some x ∧ CtV C H v x := by
  have e1 := val_nodup h.nd (y, v) (List.mem_of_getElem? e)
  rcases h.val y with ⟨z, _⟩ | ⟨v', x, z1, z2, z3⟩
  · rw [z] at e1; cases e1
  · rw [z1] at e1
    cases e1
    exact ⟨z1, x, z2, z3⟩
theorem DkV.none_of {C : Addr} {H : Hp} {kvs : List (Key × V)} {f : CF} (h : DkV C H kvs f) {k : Key} (n : k ∉ kvs.map (·.1)) : f k = none := by
  rcases h.val k with ⟨_, z⟩ | ⟨v', x, z1, z2, z3⟩
  · exact z
  · exact absurd (valV_in z1) n
theorem not_take {kvs : List (Key × V)} (nd : (kvs.map (·.1)).Nodup) {i : Nat} {y : Key} {v : V} (e : kvs[i]? = some (y, v)) : y ∉ (kvs.take i).map (·.1) := by
  intro m
  rw [List.map_take] at m
  obtain ⟨j, hj, e2⟩ := List.mem_iff_getElem.mp m
  rw [List.length_take] at hj
  rw [List.getElem_take] at e2
  have hi := (List.getElem?_eq_some_iff.mp e).1
  have e3 : (kvs.map (·.1))[i]'(by rw [List.length_map]; exact hi) = y := by
    rw [List.getElem_map]
    have := (List.getElem?_eq_some_iff.mp e).2
    rw [this]
  have := (List.getElem_inj nd).mp (e2.trans e3.symm)
  omega
theorem take_put {kvs : List (Key × V)} (nd : (kvs.map (·.1)).Nodup) {i : Nat} {y : Key} {v : V} (e : kvs[i]? = some (y, v)) : putK (kvs.take i) y v = kvs.take (i + 1) := by
  have n := not_take nd e
  have hn : valV (kvs.take i) y = none := by
    cases h : valV (kvs.take i) y with
    | none => rfl
    | some w => exact absurd (valV_in h) n
  rw [putK_new v hn, List.take_add_one, e]
  rfl
theorem onK_snoc {kvs : List (Key × V)} {f : CF} {i : Nat} {y : Key} {v : V} (e : kvs[i]? = some (y, v)) : onK ((kvs.take (i + 1)).map (·.1)) f = fun j => if j = y then f y else onK ((kvs.take i).map (·.1)) f j := by
  funext j
  rw [List.take_add_one, e, List.map_append]
  by_cases h : j = y
  · subst h
    rw [if_pos rfl, onK_in (by simp)]
  · rw [if_neg h]
    by_cases h2 : j ∈ (kvs.take i).map (·.1)
    · rw [onK_in (List.mem_append_left _ h2), onK_in h2]
    · rw [onK_not h2, onK_not]
      intro m
      rcases List.mem_append.mp m with m | m
      · exact h2 m
      · exact h (by simpa using m)
theorem onK_all {C : Addr} {H : Hp} {kvs : List (Key × V)} {f : CF} (h : DkV C H kvs f) : onK ((kvs.take kvs.length).map (·.1)) f = f := by
  rw [List.take_length]
  funext j
  by_cases n : j ∈ kvs.map (·.1)
  · exact onK_in n
  · rw [onK_not n, h.none_of n]
def DtV (C : Addr) (H : Hp) (v : V) (f : CF) (n : Nat) : Prop := ∃ d kvs, v = .ref d ∧ H d = some (.dK kvs) ∧ DkV C H kvs f ∧ kvs.length ≤ n
theorem DtV.same {C : Addr} {H H' : Hp} {v : V} {f : CF} {n : Nat} (h : DtV C H v f n) (e : Same H H') : DtV C H' v f n := let ⟨d, kvs, h1, h2, h3, h4⟩ := h; ⟨d, kvs, h1, e _ _ h2, h3.is (Same.is e), h4⟩
/-- a new dict -/
def DnV (C : Addr) (H H' : Hp) (v : V) (f : CF) (n : Nat) : Prop := ∃ d kvs, v = .ref d ∧ H d = none ∧ H' d = some (.dK kvs) ∧ DkV C H' kvs f ∧ kvs.length ≤ n
section
variable {P : Program} {w : World} {K : PySem.W.Frag} {mg : Str → Option Value} {base : Heap} {C : Addr}
def spSum (C : Addr) : Sp := fun vs H Q _ => ∃ a b ks ls f g, vs = [.ref a, .ref b] ∧ H a = some (.dK ks) ∧ H b = some (.dK ls) ∧ DkV C H ks f ∧ DkV C H ls g ∧ ks.length + ls.length ≤ 100000 ∧ ∀ v H', Same H H' → DnV C H H' v (sumF f g) (ks.length + ls.length) → Q v H'
theorem sum_step (f g : CF) {ls : List (Key × V)} {i : Nat} {y : Key} {v : V} (e : ls[i]? = some (y, v)) : sumF f (onK ((ls.take (i + 1)).map (·.1)) g) = fun j => if j = y then sum1 (f y) (g y) else sumF f (onK ((ls.take i).map (·.1)) g) j := by
  rw [onK_snoc e]
  funext j
  show sum1 (f j) (if j = y then g y else onK ((ls.take i).map (·.1)) g j) = if j = y then _ else sum1 (f j) (onK ((ls.take i).map (·.1)) g j)
  by_cases h : j = y
  · subst h; rw [if_pos rfl, if_pos rfl]
  · rw [if_neg h, if_neg h]
theorem ok_summed (T : Top K mg "summed" s_summed) (OA : Op2 P w K mg base 3 C .Add (spOp C (· + ·) (· + ·))) : Fn P w K mg base 4 "summed" (spSum C) := by
  refine fn_okC T sc_summed so_summed (fun vs H Q E h => by obtain ⟨a, b, ks, ls, f, g, rfl, _⟩ := h; rfl) (fun _ _ _ _ _ _ us hl => match us, hl with | [_, _], _ => rfl) fun f cdv A outer s H vs Q E hr h nd => ?_
  obtain ⟨a, b, ks, ls, f, g, rfl, ha, hb, df, dg, hz, q⟩ := h
  refine l_cons (s_dcD (by exact bk_summed0) ha fun o => e_var ⟨rfl, upd_same, fun D nD => ?_⟩)
  have nDa : D ≠ a := fun z => by subst z; rw [upd_same] at nD; cases nD
  rw [upd_ne nDa] at nD
  refine ⟨fun k H2 => H2 a = some (.frz o (.dK ks)) ∧ H2 D = some (.dK (ks.take k)) ∧ ∀ c u, c ≠ a → H c = some u → H2 c = some u, ⟨by rw [upd_ne (Ne.symm nDa)]; exact upd_same, by rw [List.take_zero]; exact upd_same, fun c u nc hc => by rw [upd_ne (ne_of_none hc nD), upd_ne nc]; exact hc⟩, fun k H2 _ p => p.1, ?_, ?_⟩
  · intro k y v H2 hk p s0 H0 C0 cl fp IB
    obtain ⟨p1, p2, p3⟩ := p
    refine b_var fun s1 H1 C1 cl1 fp1 IB1 => ?_
    refine e_dg (n := 3) (by exact hr) (b_var (b_var ⟨a, v, rfl, ?_, ks.take k, y, rfl, p2, ?_, ?_⟩))
    · rw [← (df.at hk).1]; exact dg_F p1
    · rw [List.length_take]; show _ < 2 ^ 24; omega
    · rw [take_put df.nd hk]
      exact ⟨by rw [upd_ne (Ne.symm nDa)]; exact p1, upd_same, fun c u nc hc => by rw [upd_ne (ne_of_none hc nD)]; exact p3 c u nc hc⟩
  intro H2 p
  obtain ⟨p1, p2, p3⟩ := p
  rw [List.take_length] at p2
  refine ⟨p1, ?_⟩
  generalize hH3 : upd H2 a (.dK ks) = H3
  have e3 : Same H H3 := fun c u hc => by
    rw [← hH3]
    by_cases hca : c = a
    · subst hca; rw [upd_same]; rw [ha] at hc; exact hc
    · rw [upd_ne hca]; exact p3 c u hca hc
  have hD : H3 D = some (.dK ks) := by rw [← hH3, upd_ne nDa]; exact p2
  have hb3 := e3 _ _ hb
  have nDb : D ≠ b := fun z => by subst z; rw [hb] at nD; cases nD
  have dg3 := dg.is (Same.is e3)
  show wL _ _ _ [some (.ref a), some (.ref b), some (.ref D), none, none] _
  refine l_cons (s_forD hb3 fun o2 => e_var ⟨rfl, upd_same, ?_⟩)
  refine ⟨fun k σ H' => ∃ u kvs, σ = [some (.ref a), some (.ref b), some (.ref D), u, none] ∧ H' b = some (.frz o2 (.dK ls)) ∧ H' D = some (.dK kvs) ∧ DkV C H' kvs (sumF f (onK ((ls.take k).map (·.1)) g)) ∧ kvs.length ≤ ks.length + k ∧ (∀ c u, c ≠ b → H c = some u → H' c = some u) ∧ IS C H3 H', ?_, ?_, ?_, ?_⟩
  · refine ⟨none, ks, rfl, upd_same, by rw [upd_ne nDb]; exact hD, ?_, Nat.le_refl _, fun c u nc hc => by rw [upd_ne nc]; exact e3 _ _ hc, IS.dk hb3⟩
    refine ((df.is (Same.is e3)).is (IS.dk hb3)).cong ?_
    funext j
    show f j = sum1 (f j) (onK _ g j)
    rw [List.take_zero, onK_not (by simp)]
    cases f j <;> rfl
  · intro k σ H' _ p
    obtain ⟨u, kvs, _, p1, _⟩ := p
    exact p1
  · intro k y v σ H' hk p
    obtain ⟨u, kvs, rfl, p1, p2, p3, p4, p5, p6⟩ := p
    obtain ⟨gv, x, gx, cx⟩ := dg3.at hk
    have hlt := (List.getElem?_eq_some_iff.mp hk).1
    have cx' := cx.is p6
    have hno : onK ((ls.take k).map (·.1)) g y = none := onK_not (not_take dg.nd hk)
    have gb : DGet H' b (kV y) (some v) := by rw [← gv]; exact dg_F p1
    show wL _ _ _ [some (.ref a), some (.ref b), some (.ref D), some (kV y), none] _
    have fin : ∀ (z : V) (t : T3) H5, (∀ c u, H' c = some u → H5 c = some u) → CtV C H5 z t → sum1 (f y) (g y) = some t →
        ∃ u kvs, [some (.ref a), some (.ref b), some (.ref D), some (kV y), none] = [some (.ref a), some (.ref b), some (.ref D), u, none] ∧ upd H5 D (.dK (putK kvs y z)) b = some (.frz o2 (.dK ls)) ∧ H5 D = some (.dK kvs) ∧ kvs.length < 2 ^ 24 ∧ DkV C (upd H5 D (.dK (putK kvs y z))) (putK kvs y z) (sumF f (onK ((ls.take (k + 1)).map (·.1)) g)) ∧ (putK kvs y z).length ≤ ks.length + (k + 1) ∧ (∀ c u, c ≠ b → H c = some u → upd H5 D (.dK (putK kvs y z)) c = some u) ∧ IS C H3 (upd H5 D (.dK (putK kvs y z))) := by
      intro z t H5 e5 hz5 ht
      have d5 := e5 _ _ p2
      refine ⟨_, kvs, rfl, by rw [upd_ne (Ne.symm nDb)]; exact e5 _ _ p1, d5, by omega, ?_, ?_, fun c u nc hc => by rw [upd_ne (ne_of_none hc nD)]; exact e5 _ _ (p5 c u nc hc), (p6.trans (Same.is e5)).trans (IS.dk d5)⟩
      · refine (((p3.is (Same.is e5)).put hz5).is (IS.dk d5)).cong ?_
        rw [sum_step f g hk, ht]
      · have := put_len kvs y z
        omega
    refine l_cons (s_dput (hu_of hr) (e_ifExp (t_cmp (e_var (e_var (o_inD (n := 3) (by exact hr) (dg_K p2) ⟨_, rfl, ?_⟩))))))
    rcases p3.val y with ⟨n1, n2⟩ | ⟨v0, x0, n1, n2, c0⟩
    · rw [n1]
      have fy : f y = none := by
        have z : sum1 (f y) (onK ((ls.take k).map (·.1)) g y) = none := n2
        rw [hno] at z
        cases hf : f y with
        | none => rfl
        | some t => rw [hf] at z; cases z
      refine iteF (e_dg (n := 3) (by exact hr) (e_var (e_var ⟨b, v, rfl, gb, ?_⟩)))
      obtain ⟨u', kvs', z1, z2, z3, z4, z5, z6, z7, z8⟩ := fin v x H' (fun _ _ h => h) cx' (by rw [fy, gx]; rfl)
      refine e_var (e_var ⟨D, _, rfl, DPut.k z3 z4, l_nil ⟨u', _, z1, z2, upd_same, z5, z6, z7, z8⟩⟩)
    · rw [n1]
      have fy : f y = some x0 := by
        have z : sum1 (f y) (onK ((ls.take k).map (·.1)) g y) = some x0 := n2
        rw [hno] at z
        cases hf : f y with
        | none => rw [hf] at z; cases z
        | some t => rw [hf] at z; exact z
      obtain ⟨q0, rfl, dx0, hq0⟩ := c0
      obtain ⟨q1, rfl, dx1, hq1⟩ := cx'
      have gm : DGet H' D (kV y) (some (.ref q0)) := by rw [← n1]; exact dg_K p2
      refine iteT (e_bin (e_dg (n := 3) (by exact hr) (e_var (e_var ⟨D, _, rfl, gm, ?_⟩))))
      refine e_dg (n := 3) (by exact hr) (e_var (e_var ⟨b, _, rfl, gb, ?_⟩))
      refine o_own (by exact OA) (by exact hr) (by decide) (by exact hq0) (by exact hq1) ?_
      refine ⟨q0, q1, _, _, _, _, _, _, rfl, ⟨dx0, hq0⟩, ⟨dx1, hq1⟩, fun z H5 e5 c5 => ⟨⟨z, rfl⟩, ?_⟩⟩
      obtain ⟨u', kvs', z1, z2, z3, z4, z5, z6, z7, z8⟩ := fin (.ref z) (add3 x0 x) H5 e5 ⟨z, rfl, c5⟩ (by rw [fy, gx]; rfl)
      refine e_var (e_var ⟨D, _, rfl, DPut.k z3 z4, l_nil ⟨u', _, z1, z2, upd_same, z5, z6, z7, z8⟩⟩)
  · intro σ H' p
    obtain ⟨u, kvs, rfl, p1, p2, p3, p4, p5, p6⟩ := p
    refine l_cons (s_ret (e_var ?_))
    refine q (.ref D) _ (fun c u hc => ?_) ⟨D, kvs, rfl, nD, by rw [upd_ne nDb]; exact p2, ?_, p4⟩
    · by_cases hcb : c = b
      · subst hcb; rw [upd_same]; rw [hb] at hc; exact hc
      · rw [upd_ne hcb]; exact p5 c u hcb hc
    · refine (p3.is (IS.fz p1)).cong ?_
      rw [onK_all dg3]
end



section
variable {P : Program} {w : World} {K : PySem.W.Frag} {mg : Str → Option Value} {base : Heap} {C : Addr}
def spOr (C : Addr) : Sp := fun vs H Q _ => ∃ a b ks ls f g, vs = [.ref a, .ref b] ∧ H a = some (.dK ks) ∧ H b = some (.dK ls) ∧ DkV C H ks f ∧ DkV C H ls g ∧ ks.length + ls.length ≤ 100000 ∧ ∀ v H', Same H H' → DnV C H H' v (orF f g) (ks.length + ls.length) → Q v H'
theorem CountAt.up {C : Addr} {H H' : Hp} {p : Addr} {a b c : Int} (e : Same H H') (h : CountAt C H p a b c) : CountAt C H' p a b c := let ⟨t, y⟩ := h; ⟨t, e _ _ y⟩
theorem getD_ct {C : Addr} {H : Hp} {kvs : List (Key × V)} {f : CF} (h : DkV C H kvs f) (k : Key) {z : V} (hz : CtV C H z z3) : CtV C H ((valV kvs k).getD z) ((f k).getD z3) := by
  rcases h.val k with ⟨h1, h2⟩ | ⟨v, x, h1, h2, h3⟩
  · rw [h1, h2]; exact hz
  · rw [h1, h2]; exact h3
theorem CtV.same {C : Addr} {H H' : Hp} {v : V} {x : T3} (h : CtV C H v x) (e : Same H H') : CtV C H' v x := h.is (Same.is e)
theorem or1_in {x y : Option T3} (h : x ≠ none ∨ y ≠ none) : or1 x y = some (or3 (x.getD z3) (y.getD z3)) := by
  cases x <;> cases y <;> first | rfl | (simp at h)
theorem made_same {C x dx : Addr} {H H' : Hp} (nx : H x = none) (nd : H dx = none) (bt : But x (upd (upd H dx (.own x)) x (.ins C dx [])) H') : Same H H' := fun y o h => bt y o (ne_of_none h nx) (by rw [upd_ne (ne_of_none h nx), upd_ne (ne_of_none h nd)]; exact h)
theorem ok_chosen (T : Top K mg "chosen" s_chosen) (mL : mg "list" = none) (F : Kl P w K mg base 1 "Count" C (spInit C)) (OR : Op2 P w K mg base 3 C .BitOr (spOp C mn mx)) : Fn P w K mg base 4 "chosen" (spOr C) := by
  refine fn_ok T sc_chosen so_chosen (fun vs H Q E h => by obtain ⟨a, b, ks, ls, f, g, rfl, _⟩ := h; rfl) (fun _ _ _ _ _ _ us hl => match us, hl with | [_, _], _ => rfl) fun f cdv A outer s H vs Q E hr h nd => ?_
  obtain ⟨a, b, ks, ls, f, g, rfl, ha, hb, df, dg, hz, q⟩ := h
  refine l_cons (s_set (e_dnew fun D nD => ?_))
  have eD : Same H (upd H D (.dK [])) := fun c u hc => by rw [upd_ne (ne_of_none hc nD)]; exact hc
  have hD0 : upd H D (.dK []) D = some (.dK []) := upd_same
  generalize upd H D (.dK []) = H1 at eD hD0
  have nDa : D ≠ a := fun z => by subst z; rw [nD] at ha; cases ha
  have nDb : D ≠ b := fun z => by subst z; rw [nD] at hb; cases hb
  show wL _ _ _ [some (.ref a), some (.ref b), some (.ref D), none] _
  refine l_cons (s_forL (e_bin (e_callTy (x := "list") (by assumption) b_list (a_cons (e_var (a_nil (c_listDn rfl (eD _ _ ha) fun p H2 e2 n2 h2 => ?_)))))))
  refine e_callTy (x := "list") (by assumption) b_list (a_cons (e_var (a_nil (c_listDn rfl (e2 _ _ (eD _ _ hb)) fun r H3 e3 n3 h3 => ?_))))
  refine o_cat2 (e3 _ _ h2) h3 (by rw [List.length_map, List.length_map]; omega) fun l H4 e4 n4 h4 => ?_
  have e14 := (e2.trans e3).trans e4
  have e04 := eD.trans e14
  have nlD : l ≠ D := fun z => by subst z; rw [e3 _ _ (e2 _ _ hD0)] at n4; cases n4
  have key : ∀ (k : Nat) (y : V), ((ks.map fun kv => kV kv.1) ++ ls.map fun kv => kV kv.1)[k]? = some y → ∃ z : Key, y = kV z ∧ (ks.map (·.1) ++ ls.map (·.1))[k]? = some z := by
    intro k y hy
    have e : ((ks.map fun kv => kV kv.1) ++ ls.map fun kv => kV kv.1) = (ks.map (·.1) ++ ls.map (·.1)).map kV := by rw [List.map_append, List.map_map, List.map_map]; rfl
    rw [e, List.getElem?_map] at hy
    obtain ⟨z, h1, h2⟩ := Option.map_eq_some_iff.mp hy
    exact ⟨z, h2.symm, h1⟩
  refine ⟨l, _, rfl, SqL.of h4, fun k σ H' => ∃ u kvs, σ = [some (.ref a), some (.ref b), some (.ref D), u] ∧ H' D = some (.dK kvs) ∧ DkV C H' kvs (onK ((ks.map (·.1) ++ ls.map (·.1)).take k) (orF f g)) ∧ kvs.length ≤ k ∧ (∀ c u, c ≠ D → H4 c = some u → H' c = some u), ?_, ?_, ?_, ?_⟩
  · exact ⟨none, [], rfl, e14 _ _ hD0, (DkV.nil).cong (by funext j; rw [List.take_zero, onK_not (by simp)]), Nat.le_refl _, fun _ _ _ h => h⟩
  · intro k σ H' _ p
    obtain ⟨u, kvs, _, _, _, _, p5⟩ := p
    exact SqL.of (p5 l _ nlD h4)
  · intro k y σ H' hy p
    obtain ⟨u, kvs, rfl, p2, p3, p4, p5⟩ := p
    obtain ⟨z, rfl, hzk⟩ := key k y hy
    have hlt := (List.getElem?_eq_some_iff.mp hzk).1
    rw [List.length_append, List.length_map, List.length_map] at hlt
    have ha' := p5 a _ (Ne.symm nDa) (e04 _ _ ha)
    have hb' := p5 b _ (Ne.symm nDb) (e04 _ _ hb)
    have isH : IS C H H' := fun p dx fs hp => p5 p _ (fun z => by subst z; rw [nD] at hp; cases hp) (e04 _ _ hp)
    show wL _ _ _ [some (.ref a), some (.ref b), some (.ref D), some (kV z)] _
    refine l_cons (s_dput (hu_of hr) (e_bin (e_dget2 (n := 3) (by exact hr) (e_var ⟨a, rfl, .inl ⟨_, .inl ha'⟩, e_var ?_⟩))))
    refine e_make (by exact F) (by exact hr) (by decide) (a_cons (e_int (a_cons (e_int (a_cons (e_int (a_nil ?_)))))))
    intro c0 dx0 nx0 nd0 ne0
    refine ⟨c0, dx0, 0, 0, 0, rfl, upd_same, fun H5 bt5 hc0 => ⟨rfl, ?_⟩⟩
    have e5 : Same H' H5 := made_same nx0 nd0 bt5
    refine ⟨_, dg_K (e5 _ _ ha'), ?_⟩
    refine e_dget2 (n := 3) (by exact hr) (e_var ⟨b, rfl, .inl ⟨_, .inl (e5 _ _ hb')⟩, e_var ?_⟩)
    refine e_make (by exact F) (by exact hr) (by decide) (a_cons (e_int (a_cons (e_int (a_cons (e_int (a_nil ?_)))))))
    intro c1 dx1 nx1 nd1 ne1
    refine ⟨c1, dx1, 0, 0, 0, rfl, upd_same, fun H6 bt6 hc1 => ⟨rfl, ?_⟩⟩
    have e6 : Same H5 H6 := made_same nx1 nd1 bt6
    refine ⟨_, dg_K (e6 _ _ (e5 _ _ hb')), ?_⟩
    have e56 := e5.trans e6
    have cf := getD_ct ((df.is isH).is (Same.is e56)) z (z := .ref c0) ⟨c0, rfl, CountAt.up e6 hc0⟩
    have cg := getD_ct ((dg.is isH).is (Same.is e56)) z (z := .ref c1) ⟨c1, rfl, hc1⟩
    obtain ⟨q0, r0, dxa, hq0⟩ := cf
    obtain ⟨q1, r1, dxb, hq1⟩ := cg
    rw [r0, r1]
    refine o_own (by exact OR) (by exact hr) (by decide) (by exact hq0) (by exact hq1) ?_
    refine ⟨q0, q1, _, _, _, _, _, _, rfl, ⟨dxa, hq0⟩, ⟨dxb, hq1⟩, fun zc H7 e7 c7 => ⟨⟨zc, rfl⟩, ?_⟩⟩
    have e57 := e56.trans e7
    have d7 := e57 _ _ p2
    have hin : orF f g z = some (or3 ((f z).getD z3) ((g z).getD z3)) := by
      refine or1_in ?_
      have hm := List.mem_of_getElem? hzk
      rcases List.mem_append.mp hm with hm | hm
      · obtain ⟨kv, m1, m2⟩ := List.mem_map.mp hm
        have := val_nodup df.nd kv m1
        rw [m2] at this
        rcases df.val z with ⟨y1, _⟩ | ⟨v, x, y1, y2, _⟩
        · rw [y1] at this; cases this
        · exact .inl (by rw [y2]; exact fun h => nomatch h)
      · obtain ⟨kv, m1, m2⟩ := List.mem_map.mp hm
        have := val_nodup dg.nd kv m1
        rw [m2] at this
        rcases dg.val z with ⟨y1, _⟩ | ⟨v, x, y1, y2, _⟩
        · rw [y1] at this; cases this
        · exact .inr (by rw [y2]; exact fun h => nomatch h)
    refine e_var (e_var ⟨D, _, rfl, DPut.k d7 (by show _ < 2 ^ 24; omega), l_nil ⟨_, _, rfl, upd_same, ?_, ?_, fun c u nc hc => by rw [upd_ne nc]; exact e57 _ _ (p5 c u nc hc)⟩⟩)
    · refine (((p3.is (Same.is e57)).put (x := or3 ((f z).getD z3) ((g z).getD z3)) ⟨zc, rfl, c7⟩).is (IS.dk d7)).cong ?_
      funext j
      rw [List.take_add_one, hzk]
      show (if j = z then _ else _) = onK (_ ++ [z]) (orF f g) j
      by_cases h : j = z
      · subst h
        rw [if_pos rfl, onK_in (by simp), hin]
      · rw [if_neg h]
        by_cases h2 : j ∈ (ks.map (·.1) ++ ls.map (·.1)).take k
        · rw [onK_in (List.mem_append_left _ h2), onK_in h2]
        · rw [onK_not h2, onK_not]
          intro m
          rcases List.mem_append.mp m with m | m
          · exact h2 m
          · exact h (by simpa using m)
    · have := put_len kvs z (.ref zc)
      omega
  · intro σ H' p
    obtain ⟨u, kvs, rfl, p2, p3, p4, p5⟩ := p
    rw [List.length_append, List.length_map, List.length_map] at p3 p4
    refine l_cons (s_ret (e_var (q (.ref D) H' (fun c u hc => p5 c u (fun z => by subst z; rw [nD] at hc; cases hc) (e04 _ _ hc)) ⟨D, kvs, rfl, nD, p2, p3.cong ?_, p4⟩)))
    rw [show ks.length + ls.length = (ks.map (·.1) ++ ls.map (·.1)).length by simp, List.take_length]
    funext j
    by_cases h : j ∈ ks.map (·.1) ++ ls.map (·.1)
    · exact onK_in h
    · rw [onK_not h]
      have h1 := df.none_of fun m => h (List.mem_append_left _ m)
      have h2 := dg.none_of fun m => h (List.mem_append_right _ m)
      show none = or1 (f j) (g j)
      rw [h1, h2]
      rfl
def spPk (C : Addr) : Sp := fun vs H Q _ => ∃ a m k ks f, vs = [.ref a, m] ∧ H a = some (.dK ks) ∧ DkV C H ks f ∧ ModeV H m k ∧ small k ∧ ks.length ≤ 100000 ∧ ∀ v H', Same H H' → DnV C H H' v (boxF k f) ks.length → Q v H'
theorem ModeV.ts {H H' : Hp} (e : TS H H') {m : V} : ∀ {k : Option (Int × Int)}, ModeV H m k → ModeV H' m k
  | none, h => h
  | some (_, _), ⟨t, h1, h2⟩ => ⟨t, h1, e _ _ h2⟩
theorem ok_packed (T : Top K mg "packed" s_packed) (MB : Mt P w K mg base 3 C "boxed" (spBoxed C)) : Fn P w K mg base 4 "packed" (spPk C) := by
  refine fn_okC T sc_packed so_packed (fun vs H Q E h => by obtain ⟨a, m, k, ks, f, rfl, _⟩ := h; rfl) (fun _ _ _ _ _ _ us hl => match us, hl with | [_, _], _ => rfl) fun f cdv A outer s H vs Q E hr h nd => ?_
  obtain ⟨a, m, k, ks, f, rfl, ha, df, hm, hs, hz, q⟩ := h
  refine l_cons (s_ret (e_dcD (by exact bk_packed0) ha fun o => e_var ⟨rfl, upd_same, fun D nD => ?_⟩))
  have nDa : D ≠ a := fun z => by subst z; rw [upd_same] at nD; cases nD
  rw [upd_ne nDa] at nD
  refine ⟨fun i H2 => H2 a = some (.frz o (.dK ks)) ∧ ∃ kvs, H2 D = some (.dK kvs) ∧ DkV C H2 kvs (onK ((ks.take i).map (·.1)) (boxF k f)) ∧ kvs.length ≤ i ∧ ∀ c u, c ≠ a → H c = some u → H2 c = some u, ⟨by rw [upd_ne (Ne.symm nDa)]; exact upd_same, [], upd_same, (DkV.nil).cong (by funext j; rw [List.take_zero, onK_not (by simp)]), Nat.le_refl _, fun c u nc hc => by rw [upd_ne (ne_of_none hc nD), upd_ne nc]; exact hc⟩, fun i H2 _ p => p.1, ?_, ?_⟩
  · intro i y v H2 hk p s0 H0 C0 cl fp IB
    obtain ⟨p1, kvs, p2, p3, p4, p5⟩ := p
    have hlt := (List.getElem?_eq_some_iff.mp hk).1
    have isH : IS C H H2 := fun p dx fs hp => p5 p _ (fun z => by subst z; rw [ha] at hp; cases hp) hp
    have tsH : TS H H2 := fun p xs hp => p5 p _ (fun z => by subst z; rw [ha] at hp; cases hp) hp
    obtain ⟨gv, x, fx, cx⟩ := df.at hk
    obtain ⟨q0, rfl, dx0, hq0⟩ := cx.is isH
    have gm : DGet H2 a (kV y) (some (.ref q0)) := by rw [← gv]; exact dg_F p1
    refine b_var fun s1 H1 C1 cl1 fp1 IB1 => ?_
    refine e_meth (pl := _) (by exact MB) (by exact hr) (by decide) (e_dg (n := 3) (by exact hr) (b_var (b_var ⟨a, _, rfl, gm, ?_⟩)))
    refine ⟨q0, dx0, _, rfl, hq0, flds_no _ _ _ (by decide +kernel) (by decide +kernel) (by decide +kernel), a_cons (b_var (a_nil ?_))⟩
    refine ⟨q0, m, k, _, _, _, rfl, ⟨dx0, hq0⟩, hm.ts tsH, hs, fun z H5 e5 c5 => ?_⟩
    have d5 := e5 _ _ p2
    refine ⟨kvs, y, rfl, d5, by show _ < 2 ^ 24; omega, by rw [upd_ne (Ne.symm nDa)]; exact e5 _ _ p1, _, upd_same, ?_, ?_, fun c u nc hc => by rw [upd_ne (ne_of_none hc nD)]; exact e5 _ _ (p5 c u nc hc)⟩
    · refine (((p3.is (Same.is e5)).put (x := box3 k x) ⟨z, rfl, c5⟩).is (IS.dk d5)).cong ?_
      rw [onK_snoc hk]
      have : boxF k f y = some (box3 k x) := by show (f y).map _ = _; rw [fx]; rfl
      rw [this]
    · have := put_len kvs y (.ref z)
      omega
  · intro H2 p
    obtain ⟨p1, kvs, p2, p3, p4, p5⟩ := p
    refine ⟨p1, q (.ref D) _ (fun c u hc => ?_) ⟨D, kvs, rfl, nD, by rw [upd_ne nDa]; exact p2, ?_, p4⟩⟩
    · by_cases hca : c = a
      · subst hca; rw [upd_same]; rw [ha] at hc; exact hc
      · rw [upd_ne hca]; exact p5 c u hca hc
    · refine (p3.is (IS.fz p1)).cong ?_
      rw [List.take_length]
      funext j
      by_cases h : j ∈ ks.map (·.1)
      · exact onK_in h
      · rw [onK_not h]
        show none = (f j).map _
        rw [df.none_of h]
        rfl
end



theorem kV_inj {a b : Key} (h : kV a = kV b) : a = b := by
  cases a <;> cases b <;> first | (cases h; rfl) | cases h
theorem kV_dec (a b : Key) : decide (kV a = kV b) = decide (a = b) := by
  by_cases h : a = b
  · rw [decide_eq_true h, decide_eq_true (by rw [h])]
  · rw [decide_eq_false h, decide_eq_false fun z => h (kV_inj z)]
theorem o_eqKK {X : Cx} {H : Hp} {Q : VK} {a b : Key} (q : Q (.bl (decide (a = b))) H) : wK X .Eq (kV a) (kV b) H Q :=
  k_of op_eq ⟨by cases a <;> cases b <;> rfl, by rw [kV_dec]; exact q⟩
theorem o_neKi {X : Cx} {H : Hp} {Q : VK} {a : Key} {j : Int} (q : Q (.bl (!decide (a = .inl j))) H) : wK X .NotEq (kV a) (.int j) H Q :=
  k_of op_ne ⟨by cases a <;> rfl, by rw [show V.int j = kV (.inl j) from rfl, kV_dec]; exact q⟩
/-! ### a row's counts -/
def noF : CF := fun _ => none
def oneF (r : Key) : CF := fun k => if k = r then some (1, 1, 0) else none
def ModeF (f : Fd) : Prop := f = .s "once" ∨ ∃ a b, f = .p a b ∧ 1 ≤ a ∧ a ≤ 3 ∧ 0 ≤ b
def mdF : Fd → Option (Int × Int)
  | .p a b => some (a, b)
  | _ => none
def hdM (h : Hd) : Option (Int × Int) := match h.f with
  | f :: _ => mdF f
  | [] => none
def MdH (h : Hd) : Prop := h.k = .pay ∨ h.k = .cut → ∃ fm rest, h.f = fm :: rest ∧ ModeF fm
theorem mode_of {H : Hp} {f : Fd} {v : V} (h : FdV H f v) (m : ModeF f) : ModeV H v (mdF f) ∧ small (mdF f) := by
  rcases m with rfl | ⟨a, b, rfl, h1, h2, _⟩
  · exact ⟨h, trivial⟩
  · exact ⟨h, by show 0 ≤ a ∧ a ≤ 10000; omega⟩
def lastF (lv : Int) (fs : List CF) : CF := match fs.getLast? with
  | none => noF
  | some g => fun r => if r = .inl lv then none else g r
def refF (h : Hd) (lv : Int) (f : CF) : CF := match h.r with
  | some r => if below r lv = true then sumF f (oneF r) else f
  | none => f
def rcF (h : Hd) (lv : Int) (fs : List CF) : CF :=
  if h.k = .offer then orF (fs.getD 0 noF) (fs.getD 1 noF)
  else if h.k = .pay ∨ h.k = .cut then sumF (refF h lv (lastF lv fs)) (boxF (hdM h) (fs.getD 0 noF))
  else refF h lv (lastF lv fs)
def DsV (C : Addr) (H : Hp) : List (CF × Nat) → List V → Prop
  | [], vs => vs = []
  | x :: xs, vs => ∃ v us, vs = v :: us ∧ DtV C H v x.1 x.2 ∧ DsV C H xs us
theorem DsV.same {C : Addr} {H H' : Hp} (e : Same H H') : ∀ {f : List (CF × Nat)} {v : List V}, DsV C H f v → DsV C H' f v
  | [], _, h => h
  | _ :: _, _, ⟨v, us, h1, h2, h3⟩ => ⟨v, us, h1, h2.same e, h3.same e⟩
theorem DsV.len {C : Addr} {H : Hp} : ∀ {f : List (CF × Nat)} {v : List V}, DsV C H f v → v.length = f.length
  | [], _, h => by rw [show _ = _ from h]; rfl
  | _ :: _, _, ⟨v, us, h1, h2, h3⟩ => by rw [h1, List.length_cons, List.length_cons, h3.len]
theorem DsV.snoc {C : Addr} {H : Hp} : ∀ {f : List (CF × Nat)} {v : List V} {us : List V} {u : V}, DsV C H f v → v = us ++ [u] → ∃ f1 g, f = f1 ++ [g] ∧ DtV C H u g.1 g.2
  | [], v, us, u, h, e => by rw [show v = [] from h] at e; simp at e
  | x :: xs, _, us, u, ⟨v, ws, h1, h2, h3⟩, e => by
    subst h1
    cases us with
    | nil =>
      simp only [List.nil_append, List.cons.injEq] at e
      obtain ⟨rfl, rfl⟩ := e
      cases xs with
      | nil => exact ⟨[], x, rfl, h2⟩
      | cons y ys => obtain ⟨_, _, z, _⟩ := h3; cases z
    | cons w us =>
      simp only [List.cons_append, List.cons.injEq] at e
      obtain ⟨rfl, rfl⟩ := e
      obtain ⟨f1, g, e1, e2⟩ := h3.snoc rfl
      exact ⟨x :: f1, g, by rw [e1]; rfl, e2⟩
def sumN (fs : List (CF × Nat)) : Nat := (fs.map (·.2)).foldr (· + ·) 0
theorem sumN_snoc (fs : List (CF × Nat)) (g : CF × Nat) : sumN (fs ++ [g]) = sumN fs + g.2 := by
  induction fs with
  | nil => simp [sumN]
  | cons x xs ih =>
    show x.2 + sumN (xs ++ [g]) = x.2 + sumN xs + g.2
    omega
theorem nm_eq (k : Kd) : decide (k.nm = "offer") = decide (k = .offer) := by cases k <;> decide +kernel
theorem pc_nm (k : Kd) : inV (.str k.nm) [V.str "pay", V.str "cut"] = (decide (k = .pay) || decide (k = .cut)) := by cases k <;> decide +kernel
theorem DkV.one {C : Addr} {H : Hp} {r : Key} {p : Addr} (h : CountAt C H p 1 1 0) : DkV C H [(r, .ref p)] (oneF r) := by
  refine ⟨by simp, fun k => ?_⟩
  unfold oneF
  by_cases e : k = r
  · subst e
    rw [if_pos rfl]
    exact .inr ⟨_, _, valV_pos rfl, rfl, p, rfl, h⟩
  · rw [if_neg e]
    refine .inl ⟨?_, rfl⟩
    rw [valV_neg (fun z => e z.symm)]
    rfl
section
variable {P : Program} {w : World} {K : PySem.W.Frag} {mg : Str → Option Value} {base : Heap} {C : Addr}
def spRow27 (C : Addr) : Sp := fun vs H Q _ => ∃ p h lv al xs us fs, vs = [.ref p, .int lv, .ref al] ∧ H p = some (.tup xs) ∧ HdL H h xs ∧ h.Ok ∧ MdH h ∧ H al = some (.lst us) ∧ DsV C H fs us ∧ fs.length = h.k.pr ∧ sumN fs ≤ 1000 ∧
  ∀ v H', Same H H' → DnV C H H' v (rcF h lv (fs.map (·.1))) (sumN fs + 1) → Q v H'
theorem ok_row_counts (T : Top K mg "row_counts" s_row_counts) (F : Kl P w K mg base 1 "Count" C (spInit C)) (FO : Fn P w K mg base 4 "chosen" (spOr C)) (FS : Fn P w K mg base 4 "summed" (spSum C)) (FP : Fn P w K mg base 4 "packed" (spPk C)) (FR : Fn P w K mg base 1 "refers" spRef) (FB : Fn P w K mg base 1 "is_below" spBelow) (FK : Fn P w K mg base 1 "field_of" spKF) : Fn P w K mg base 5 "row_counts" (spRow27 C) := by
  refine fn_okC T sc_row_counts so_row_counts (fun vs H Q E h => by obtain ⟨p, h, lv, al, xs, us, fs, rfl, _⟩ := h; rfl) (fun _ _ _ _ _ _ us hl => match us, hl with | [_, _, _], _ => rfl) fun f cdv A outer s H vs Q E hr h nd => ?_
  obtain ⟨p, h, lv, al, xs, us, fs, rfl, hp, hx, ho, hmd, hal, hds, hpr, hz, q⟩ := h
  obtain ⟨gs, rfl, hgs⟩ := id hx
  have lus := hds.len
  refine l_cons (s_if (t_cmp (e_ix ?_)))
  walk_at "sts"
  refine ix_t (by exact SqT.of hp) at0 ?_
  walk_at "sts"
  rw [nm_eq]
  by_cases hk : h.k = .offer
  · refine ifT hk ?_
    have h2 : fs.length = 2 := by rw [hpr, hk]; rfl
    obtain ⟨x, y, rfl⟩ : ∃ x y, fs = [x, y] := by
      match fs, h2 with
      | [x, y], _ => exact ⟨x, y, rfl⟩
    obtain ⟨v1, us1, rfl, ⟨a, ks, rfl, ha, da, la⟩, v2, us2, rfl, ⟨b, ls, rfl, hb, db, lb⟩, e0⟩ := hds
    cases (show us2 = [] from e0)
    have sN : sumN [x, y] = x.2 + y.2 := by show x.2 + (y.2 + 0) = _; omega
    refine l_cons (s_ret (e_call (by exact FO) (by exact hr) (by decide) ?_))
    walk_at "sts"
    refine ix_l (by exact SqL.of hal) at0 ?_
    walk_at "sts"
    refine ix_l (by exact SqL.of hal) at1 ?_
    walk_at "sts"
    refine ⟨a, b, ks, ls, _, _, rfl, ha, hb, da, db, by omega, fun v H' e hv => q v H' e ?_⟩
    obtain ⟨d, kvs, z1, zn, z2, z3, z4⟩ := hv
    refine ⟨d, kvs, z1, zn, z2, z3.cong ?_, by omega⟩
    unfold rcF
    rw [if_pos hk]
    rfl
  · refine ifF hk (l_nil (l_cons (s_set (e_dnew fun D nD => ?_))))
    have eD : Same H (upd H D (.dK [])) := fun c u hc => by rw [upd_ne (ne_of_none hc nD)]; exact hc
    have hD0 : upd H D (.dK []) D = some (.dK []) := upd_same
    generalize upd H D (.dK []) = H1 at eD hD0
    show wL _ _ _ [some (.ref p), some (.int lv), some (.ref al), some (.ref D), none] _
    -- behind the price
    have fin : ∀ (d : Addr) kvs ff n H2, Same H H2 → H d = none → H2 d = some (.dK kvs) → DkV C H2 kvs ff → kvs.length ≤ n → rcF h lv (fs.map (·.1)) = ff → n ≤ sumN fs + 1 → wL (cxOf CX0 P w K mg base (N_row_counts ++ C_row_counts) "row_counts" (defScope s_row_counts) f cdv A outer s H E).nox ((defBody s_row_counts).drop 5) { nx := fun _ H' => Q .non H', rt := Q } [some (.ref p), some (.int lv), some (.ref al), some (.ref d), none] H2 := by
      intro d kvs ff n H2 e2 nd0 hd hdk hn hf hn2
      refine l_cons (s_ret (e_var (q _ H2 e2 ⟨d, kvs, rfl, nd0, hd, hdk.cong hf.symm, by omega⟩)))
    have pay : ∀ (d : Addr) kvs ff n H2, Same H H2 → H d = none → H2 d = some (.dK kvs) → DkV C H2 kvs ff → kvs.length ≤ n → (h.k = .pay ∨ h.k = .cut → n + (fs.getD 0 (noF, 0)).2 ≤ sumN fs + 1) → n ≤ sumN fs + 1 → refF h lv (lastF lv (fs.map (·.1))) = ff → wL (cxOf CX0 P w K mg base (N_row_counts ++ C_row_counts) "row_counts" (defScope s_row_counts) f cdv A outer s H E).nox ((defBody s_row_counts).drop 4) { nx := fun _ H' => Q .non H', rt := Q } [some (.ref p), some (.int lv), some (.ref al), some (.ref d), none] H2 := by
      intro d kvs ff n H2 e2 nd0 hd hdk hn hn1 hn2 hf
      refine l_cons (s_if (t_cmp (e_ix ?_)))
      walk_at "sts"
      refine ix_t (by exact SqT.of (e2 _ _ hp)) at0 ?_
      walk_at "sts"
      refine ⟨by show 2 ≤ sizeLine; decide, fun tp H3 e3 n3 h3 => ?_⟩
      have e23 := e2.trans e3
      refine o_inT (by exact SqT.of h3) rfl rfl ⟨_, rfl, ?_⟩
      rw [pc_nm]
      by_cases hpc : h.k = .pay ∨ h.k = .cut
      · have hb : (decide (h.k = .pay) || decide (h.k = .cut)) = true := by rcases hpc with z | z <;> rw [z] <;> rfl
        rw [hb]
        have hn3 := hn1 hpc
        have h2 : fs.length = 2 := by rw [hpr]; rcases hpc with z | z <;> rw [z] <;> rfl
        obtain ⟨x, y, rfl⟩ : ∃ x y, fs = [x, y] := by
          match fs, h2 with
          | [x, y], _ => exact ⟨x, y, rfl⟩
        obtain ⟨v1, us1, rfl, ⟨a, ks, rfl, ha, da, la⟩, hds2⟩ := hds.same e23
        obtain ⟨fm, rest, hf0, hm⟩ := hmd hpc
        obtain ⟨v0, vs0, rfl, hv0, _⟩ : ∃ v0 vs0, gs = v0 :: vs0 ∧ FdV H fm v0 ∧ FsV H rest vs0 := by
          rw [hf0] at hgs
          exact hgs
        obtain ⟨m1, m2⟩ := mode_of hv0 hm
        refine iteT (l_cons (s_set (e_call (by exact FS) (by exact hr) (by decide) ?_)))
        refine a_cons (e_var (a_cons (e_call (by exact FP) (by exact hr) (by decide) ?_)))
        refine a_cons (e_ix (e_var (e_int (ix_l (by exact SqL.of (e23 _ _ hal)) at0 ?_))))
        refine a_cons (e_call (by exact FK) (by exact hr) (by decide) ?_)
        walk_at "sts"
        have hi : (rL h.r ++ v0 :: vs0)[(rL h.r).length]? = some v0 := by rw [List.getElem?_append_right (Nat.le_refl _), Nat.sub_self]; rfl
        refine ⟨p, h.k, _, (rL h.r).length, v0, rfl, e23 _ _ hp, ?_, hi, ?_⟩
        · have hrf := ho.1
          rcases hpc with z | z
          · refine .inl ⟨z, ?_⟩
            rw [z] at hrf
            cases hr0 : h.r with
            | none => rw [hr0] at hrf; cases hrf
            | some r => rfl
          · refine .inr ⟨z, ?_⟩
            rw [z] at hrf
            cases hr0 : h.r with
            | none => rfl
            | some r => rw [hr0] at hrf; cases hrf
        refine a_nil ⟨a, v0, mdF fm, ks, _, rfl, ha, da, m1.ts (Same.ts e23), m2, by have : sumN [x, y] = x.2 + (y.2 + 0) := rfl; omega, fun pv H4 e4 hpv => ?_⟩
        obtain ⟨pd, pk, rfl, _, hpd, dpk, lpk⟩ := hpv
        refine a_nil ⟨d, pd, kvs, pk, ff, _, rfl, e4 _ _ (e3 _ _ hd), hpd, hdk.is (Same.is (e3.trans e4)), dpk, by have : sumN [x, y] = x.2 + (y.2 + 0) := rfl; omega, fun rv H5 e5 hrv => ?_⟩
        obtain ⟨rd, rk, rfl, nrd, hrd, drk, lrk⟩ := hrv
        refine l_nil (fin rd rk _ (sumN [x, y] + 1) H5 ((e23.trans e4).trans e5) (none_of (e23.trans e4) nrd) hrd drk ?_ ?_ (Nat.le_refl _))
        · have z1 : ([x, y].getD 0 (noF, 0)).2 = x.2 := rfl
          omega
        · unfold rcF
          rw [if_neg hk, if_pos hpc, hf]
          unfold hdM
          rw [hf0]
          rfl
      · have hb : (decide (h.k = .pay) || decide (h.k = .cut)) = false := by
          rw [Bool.or_eq_false_iff]
          exact ⟨decide_eq_false fun z => hpc (.inl z), decide_eq_false fun z => hpc (.inr z)⟩
        rw [hb]
        refine iteF (l_nil (fin d kvs ff n H3 e23 nd0 (e3 _ _ hd) (hdk.is (Same.is e3)) hn ?_ hn2))
        unfold rcF
        rw [if_neg hk, if_neg hpc, hf]
    have ref : ∀ (d : Addr) kvs ff n H2, Same H H2 → H d = none → H2 d = some (.dK kvs) → DkV C H2 kvs ff → kvs.length ≤ n → (h.k = .pay ∨ h.k = .cut → n + (fs.getD 0 (noF, 0)).2 ≤ sumN fs) → n ≤ sumN fs → lastF lv (fs.map (·.1)) = ff → wL (cxOf CX0 P w K mg base (N_row_counts ++ C_row_counts) "row_counts" (defScope s_row_counts) f cdv A outer s H E).nox ((defBody s_row_counts).drop 3) { nx := fun _ H' => Q .non H', rt := Q } [some (.ref p), some (.int lv), some (.ref al), some (.ref d), none] H2 := by
      intro d kvs ff n H2 e2 nd0 hd hdk hn hn1 hn2 hf
      refine l_cons (s_if (t_w (w_and (t_val (e_call (by exact FR) (by exact hr) (by decide) ?_)))))
      walk_at "sts"
      refine ⟨p, h.k, _, rfl, e2 _ _ hp, _, rfl, ?_⟩
      have hrf := ho.1
      cases hr0 : h.r with
      | none =>
        rw [hr0] at hrf
        rw [← hrf]
        refine iteF (iteF (l_nil (pay d kvs ff n H2 e2 nd0 hd hdk hn (fun z => by have := hn1 z; omega) (by omega) ?_)))
        unfold refF
        rw [hr0]
        exact hf
      | some r =>
        rw [hr0] at hrf
        rw [← hrf]
        have hp1 : H2 p = some (.tup (.str h.k.nm :: kV r :: gs)) := by rw [e2 _ _ hp, hr0]; rfl
        refine iteT (w_and1 (t_val (e_call (by exact FB) (by exact hr) (by decide) ?_)))
        refine a_cons (e_ix (e_var (e_int (ix_t (by exact SqT.of hp1) at1 ?_))))
        walk_at "sts"
        refine ⟨r, lv, rfl, _, rfl, ?_⟩
        cases hb : below r lv with
        | false =>
          refine iteF (l_nil (pay d kvs ff n H2 e2 nd0 hd hdk hn (fun z => by have := hn1 z; omega) (by omega) ?_))
          unfold refF
          rw [hr0]
          show (if below r lv = true then _ else _) = _
          rw [hb]
          exact hf
        | true =>
          refine iteT (l_cons (s_set (e_call (by exact FS) (by exact hr) (by decide) ?_)))
          refine a_cons (e_var (a_cons (e_dk1 fun o no => ?_)))
          have eo : Same H2 (upd H2 o (.dK [])) := fun c u hc => by rw [upd_ne (ne_of_none hc no)]; exact hc
          have ho1 : upd H2 o (.dK []) o = some (.dK []) := upd_same
          generalize upd H2 o (.dK []) = H3 at eo ho1
          refine e_ix (e_var (e_int (ix_t (by exact SqT.of (eo _ _ hp1)) at1 ?_)))
          refine e_make (by exact F) (by exact hr) (by decide) (a_cons (e_int (a_cons (e_int (a_cons (e_int (a_nil ?_)))))))
          intro c0 dx0 nx0 nd0 ne0
          refine ⟨c0, dx0, 1, 1, 0, rfl, upd_same, fun H5 bt5 hc0 => ⟨rfl, ?_⟩⟩
          have e5 : Same H3 H5 := made_same nx0 nd0 bt5
          have e25 := eo.trans e5
          refine ⟨e5 _ _ ho1, r, rfl, a_nil ?_⟩
          have e26 : Same H2 (upd H5 o (.dK [(r, .ref c0)])) := fun c u hc => by rw [upd_ne (ne_of_none hc no)]; exact e25 _ _ hc
          have i26 := IS.dk (C := C) (o := .dK [(r, V.ref c0)]) (e5 _ _ ho1)
          refine ⟨d, o, kvs, [(r, .ref c0)], ff, oneF r, rfl, e26 _ _ hd, upd_same, hdk.is (Same.is e26), DkV.one (let ⟨dx, z⟩ := hc0; ⟨dx, i26 _ _ _ z⟩), by simp only [List.length_cons, List.length_nil]; omega, fun rv H6 e6 hrv => ?_⟩
          obtain ⟨rd, rk, rfl, nrd, hrd, drk, lrk⟩ := hrv
          simp only [List.length_cons, List.length_nil] at lrk
          refine l_nil (pay rd rk _ (n + 1) H6 ((e2.trans e26).trans e6) (none_of (e2.trans e26) nrd) hrd drk (by omega) (fun z => by have := hn1 z; omega) (by omega) ?_)
          unfold refF
          rw [hr0]
          show (if below r lv = true then _ else _) = _
          rw [hb, if_pos rfl, hf]
    refine l_cons (s_if (t_tru (e_var ⟨_, tru_l (eD _ _ hal), ?_⟩)))
    rcases List.eq_nil_or_concat us with rfl | ⟨us', u, hcat⟩
    · refine iteF (l_nil (ref D [] noF 0 H1 eD nD hD0 DkV.nil (Nat.le_refl _) (fun z => ?_) (Nat.zero_le _) ?_))
      · have : fs = [] := by cases fs with
          | nil => rfl
          | cons a b => simp at lus
        subst this
        exact Nat.le_refl _
      · have : fs = [] := by cases fs with
          | nil => rfl
          | cons a b => simp at lus
        subst this
        rfl
    · rw [List.concat_eq_append] at hcat
      subst hcat
      obtain ⟨f1, g, rfl, a, ks, rfl, ha, da, la⟩ := (hds.same eD).snoc rfl
      have hlast : ∀ {H3 : Hp}, H3 al = some (.lst (us' ++ [.ref a])) → SqL (cxOf CX0 P w K mg base (N_row_counts ++ C_row_counts) "row_counts" (defScope s_row_counts) f cdv A outer s H E).nox.K H3 al (us' ++ [.ref a]) := fun z => SqL.of z
      rw [show (!(us' ++ [V.ref a]).isEmpty) = true by simp]
      have naal : a ≠ al := fun z => by subst z; rw [eD _ _ hal] at ha; cases ha
      refine iteT (l_cons (s_dcDf (by exact bk_row_counts0) ha fun o => e_ix (e_var (e_neg (e_int ⟨1, rfl, ix_l (hlast (by rw [upd_ne (Ne.symm naal)]; exact eD _ _ hal)) (atI_last us' _) ⟨rfl, upd_same, fun D2 nD2 => ?_⟩⟩)))))
      have nDa : D2 ≠ a := fun z => by subst z; rw [upd_same] at nD2; cases nD2
      rw [upd_ne nDa] at nD2
      have nDal : D2 ≠ al := fun z => by subst z; rw [eD _ _ hal] at nD2; cases nD2
      refine ⟨fun i H2 => H2 a = some (.frz o (.dK ks)) ∧ ∃ kvs, H2 D2 = some (.dK kvs) ∧ DkV C H2 kvs (onK ((ks.take i).map (·.1)) fun r => if r = .inl lv then none else g.1 r) ∧ kvs.length ≤ i ∧ ∀ c u, c ≠ a → H1 c = some u → H2 c = some u, ⟨by rw [upd_ne (Ne.symm nDa)]; exact upd_same, [], upd_same, (DkV.nil).cong (by funext j; rw [List.take_zero, onK_not (by simp)]), Nat.le_refl _, fun c u nc hc => by rw [upd_ne (ne_of_none hc nD2), upd_ne nc]; exact hc⟩, fun i H2 _ p => p.1, ?_, ?_⟩
      · intro i y v H2 hki pp s0 H0 C0 cl fp IB
        obtain ⟨p1, kvs, p2, p3, p4, p5⟩ := pp
        have hlt := (List.getElem?_eq_some_iff.mp hki).1
        refine t_cmp (b_var (b_var (o_neKi ⟨_, rfl, ?_⟩)))
        obtain ⟨gv, x, gx, cx⟩ := da.at hki
        have isH : IS C H1 H2 := fun p dx fs hp => p5 p _ (fun z => by subst z; rw [ha] at hp; cases hp) hp
        have cx2 := cx.is isH
        have gm : DGet H2 a (kV y) (some v) := by rw [← gv]; exact dg_F p1
        by_cases hy : y = .inl lv
        · rw [decide_eq_true hy]
          refine iteF ⟨p1, kvs, p2, p3.cong ?_, by omega, p5⟩
          rw [onK_snoc hki]
          funext j
          by_cases hj : j = y
          · subst hj
            rw [if_pos rfl, if_pos hy, onK_not (not_take da.nd hki)]
          · rw [if_neg hj]
        · rw [decide_eq_false hy]
          refine iteT ?_
          intro s0 H0 C0 cl fp IB
          refine b_var fun s1 H3 C1 cl1 fp1 IB1 => ?_
          refine e_dg (n := 4) (by exact hr) (e_ix (b_var (e_neg (e_int ⟨1, rfl, ix_l (hlast (p5 _ _ (Ne.symm naal) (eD _ _ hal))) (atI_last us' _) (b_var ⟨a, v, rfl, gm, kvs, y, rfl, p2, by rw [sumN_snoc] at hz; show _ < 2 ^ 24; omega, ?_⟩)⟩))))
          refine ⟨by rw [upd_ne (Ne.symm nDa)]; exact p1, _, upd_same, ?_, ?_, fun c u nc hc => by rw [upd_ne (ne_of_none hc nD2)]; exact p5 c u nc hc⟩
          · refine ((p3.put cx2).is (IS.dk p2)).cong ?_
            rw [onK_snoc hki]
            funext j
            by_cases hj : j = y
            · subst hj
              rw [if_pos rfl, if_pos rfl, if_neg hy, gx]
            · rw [if_neg hj, if_neg hj]
          · have := put_len kvs y v
            omega
      · intro H2 pp
        obtain ⟨p1, kvs, p2, p3, p4, p5⟩ := pp
        refine ⟨p1, l_nil ?_⟩
        rw [sumN_snoc] at *
        refine ref D2 kvs _ g.2 _ (fun c u hc => ?_) (none_of eD nD2) (by rw [upd_ne nDa]; exact p2) (p3.is (IS.fz p1)) (by omega) (fun z => ?_) (by omega) ?_
        · by_cases hca : c = a
          · subst hca; rw [upd_same]; have := eD _ _ hc; rw [ha] at this; exact this
          · rw [upd_ne hca]; exact p5 c u hca (eD _ _ hc)
        · have h2 : (f1 ++ [g]).length = 2 := by rw [hpr]; rcases z with z | z <;> rw [z] <;> rfl
          have h1 : f1.length = 1 := by simpa using h2
          obtain ⟨x, rfl⟩ : ∃ x, f1 = [x] := by
            match f1, h1 with
            | [x], _ => exact ⟨x, rfl⟩
          show g.2 + x.2 ≤ (x.2 + 0) + g.2
          omega
        · unfold lastF
          rw [List.map_append]
          show (match (f1.map (·.1) ++ [g.1]).getLast? with | none => noF | some g => _) = _
          rw [List.getLast?_concat]
          show _ = onK _ _
          rw [List.take_length]
          funext j
          by_cases hj : j ∈ ks.map (·.1)
          · rw [onK_in hj]
          · rw [onK_not hj]
            show (if j = .inl lv then none else g.1 j) = none
            rw [da.none_of hj]
            split <;> rfl
end



def cF : Tr → Int → CF
  | .le h, lv => rcF h lv []
  | .un h a, lv => rcF h lv [cF a (if h.k.br = true then lv + 1 else lv)]
  | .bi h a b, lv => rcF h lv [cF a lv, cF b (if h.k.br = true then lv + 1 else lv)]
noncomputable def cS : List (Hd × Int) → List (CF × Nat)
  | [] => []
  | x :: hs => (rcF x.1 x.2 (((cS hs).take x.1.k.pr).map (·.1)), sumN ((cS hs).take x.1.k.pr) + 1) :: (cS hs).drop x.1.k.pr
def En : List (Hd × Int) → Prop
  | [] => True
  | x :: hs => En hs ∧ x.1.k.pr ≤ (cS hs).length
theorem cS_phd : ∀ {t : Tr} (_ : t.Ok) (lv : Int) (s : List (Hd × Int)), cS (phd t lv ++ s) = (cF t lv, t.size) :: cS s
  | .le h, ⟨_, h2⟩, lv, s => by
    show (rcF h lv (((cS s).take h.k.pr).map (·.1)), sumN ((cS s).take h.k.pr) + 1) :: (cS s).drop h.k.pr = _
    rw [h2]
    rfl
  | .un h a, ⟨_, h2, h3⟩, lv, s => by
    show (rcF h lv (((cS (phd a _ ++ s)).take h.k.pr).map (·.1)), sumN ((cS (phd a _ ++ s)).take h.k.pr) + 1) :: (cS (phd a _ ++ s)).drop h.k.pr = _
    rw [h2, cS_phd h3]
    rfl
  | .bi h a b, ⟨_, h2, h3, h4⟩, lv, s => by
    show (rcF h lv (((cS (phd a lv ++ phd b _ ++ s)).take h.k.pr).map (·.1)), sumN ((cS (phd a lv ++ phd b _ ++ s)).take h.k.pr) + 1) :: (cS (phd a lv ++ phd b _ ++ s)).drop h.k.pr = _
    rw [h2, List.append_assoc, cS_phd h3, cS_phd h4]
    rfl
theorem En_phd : ∀ {t : Tr} (_ : t.Ok) (lv : Int) (s : List (Hd × Int)), En s → En (phd t lv ++ s)
  | .le h, ⟨_, h2⟩, lv, s, e => ⟨e, by rw [h2]; omega⟩
  | .un h a, ⟨_, h2, h3⟩, lv, s, e => ⟨En_phd h3 _ s e, by show h.k.pr ≤ (cS (phd a _ ++ s)).length; rw [h2, cS_phd h3]; simp⟩
  | .bi h a b, ⟨_, h2, h3, h4⟩, lv, s, e => by
    show En ((h, lv) :: (phd a lv ++ phd b _ ++ s))
    rw [List.append_assoc]
    exact ⟨En_phd h3 _ _ (En_phd h4 _ s e), by show h.k.pr ≤ _; rw [h2, cS_phd h3, cS_phd h4]; simp⟩
theorem En_drop : ∀ (i : Nat) (l : List (Hd × Int)), En l → En (l.drop i)
  | 0, _, h => h
  | _ + 1, [], _ => trivial
  | i + 1, _ :: l, h => En_drop i l h.1
theorem sumN_td (n : Nat) : ∀ l : List (CF × Nat), sumN (l.take n) + sumN (l.drop n) = sumN l := by
  intro l
  have e : ∀ a b : List (CF × Nat), sumN (a ++ b) = sumN a + sumN b := by
    intro a b
    induction a with
    | nil => simp [sumN]
    | cons x xs ih =>
      show x.2 + sumN (xs ++ b) = x.2 + sumN xs + sumN b
      omega
  rw [← e, List.take_append_drop]
theorem sumN_cS : ∀ l : List (Hd × Int), sumN (cS l) = l.length
  | [] => rfl
  | x :: l => by
    show (sumN ((cS l).take x.1.k.pr) + 1) + sumN ((cS l).drop x.1.k.pr) = _
    have := sumN_td x.1.k.pr (cS l)
    have := sumN_cS l
    rw [List.length_cons]
    omega
theorem phd_fst : ∀ (t : Tr) (lv : Int), (phd t lv).map (·.1) = hds t
  | .le _, _ => rfl
  | .un _ a, _ => by simp [phd, hds, phd_fst a]
  | .bi _ a b, _ => by simp [phd, hds, phd_fst a, phd_fst b]
theorem hok_of : ∀ {t : Tr} (_ : t.Ok) {h : Hd} (_ : h ∈ hds t), h.Ok
  | .le g, o, h, m => by rw [List.mem_singleton.mp m]; exact o.1
  | .un g a, o, h, m => by
    rcases List.mem_cons.mp m with rfl | m
    · exact o.1
    · exact hok_of o.2.2 m
  | .bi g a b, o, h, m => by
    rcases List.mem_cons.mp m with rfl | m
    · exact o.1
    · rcases List.mem_append.mp m with m | m
      · exact hok_of o.2.2.1 m
      · exact hok_of o.2.2.2 m
theorem cS_pos : ∀ (l : List (Hd × Int)), (cS l).length ≤ sumN (cS l) := by
  have e : ∀ l : List (Hd × Int), ∀ x ∈ cS l, 1 ≤ x.2 := by
    intro l
    induction l with
    | nil => intro x hx; simp [cS] at hx
    | cons y l ih =>
      intro x hx
      rcases List.mem_cons.mp hx with rfl | hx
      · exact Nat.le_add_left _ _
      · exact ih x (List.mem_of_mem_drop hx)
  have g : ∀ m : List (CF × Nat), (∀ x ∈ m, 1 ≤ x.2) → m.length ≤ sumN m := by
    intro m
    induction m with
    | nil => intro _; exact Nat.zero_le _
    | cons y m ih =>
      intro h
      have h1 := h y (List.mem_cons_self ..)
      have h2 := ih fun x hx => h x (List.mem_cons_of_mem _ hx)
      show m.length + 1 ≤ y.2 + sumN m
      omega
  intro l
  exact g _ (e l)
theorem DtV.but {C m : Addr} {H H' : Hp} {l : List V} {v : V} {f : CF} {n : Nat} (h : DtV C H v f n) (hm : H m = some (.lst l)) (e : But m H H') : DtV C H' v f n := by
  obtain ⟨d, kvs, h1, h2, h3, h4⟩ := h
  exact ⟨d, kvs, h1, e _ _ (fun z => by subst z; rw [hm] at h2; cases h2) h2, h3.is fun p dx fs hp => e _ _ (fun z => by subst z; rw [hm] at hp; cases hp) hp, h4⟩
theorem DsV.but {C m : Addr} {H H' : Hp} {l : List V} (hm : H m = some (.lst l)) (e : But m H H') : ∀ {f : List (CF × Nat)} {v : List V}, DsV C H f v → DsV C H' f v
  | [], _, h => h
  | _ :: _, _, ⟨v, us, h1, h2, h3⟩ => ⟨v, us, h1, h2.but hm e, h3.but hm e⟩
theorem DsV.td {C : Addr} {H : Hp} : ∀ {f : List (CF × Nat)} {v : List V} (n : Nat), DsV C H f v → DsV C H (f.take n) (v.take n) ∧ DsV C H (f.drop n) (v.drop n)
  | f, v, 0, h => ⟨rfl, h⟩
  | [], _, _ + 1, h => by rw [show _ = _ from h]; exact ⟨rfl, rfl⟩
  | _ :: _, _, n + 1, ⟨v, us, h1, h2, h3⟩ => by
    subst h1
    obtain ⟨a, b⟩ := h3.td n
    exact ⟨⟨v, _, rfl, h2, a⟩, b⟩
section
variable {P : Program} {w : World} {K : PySem.W.Frag} {mg : Str → Option Value} {base : Heap} {C : Addr}
def spCts (C : Addr) : Sp := fun vs H Q _ => ∃ v t lv, vs = [v, .int lv] ∧ TrV H t v ∧ t.Ok ∧ t.size ≤ 1000 ∧ (∀ h ∈ hds t, MdH h) ∧ ∀ u H', Same H H' → DnV C H H' u (cF t lv) t.size → Q u H'
theorem cts_body {f : Addr} {cdv : Value} {A : Around} {outer : List Env} {s : Shared} {H : Hp} {vs : List V} {Q : VK} {E : XK} (mR : mg "range" = none) (mV : mg "reversed" = none) (FPH : Fn P w K mg base 2 "placed_heads" spPH) (FPC : Fn P w K mg base 1 "premise_count" spPC) (FRC : Fn P w K mg base 5 "row_counts" (spRow27 C))
    (hr : Room 5 (A.deeper (envOfC "counts" (defScope s_counts) s.heap.objs.size f cdv))) (h : spCts C vs H Q E) (nd : In (cxOf CX0 P w K mg base (N_counts ++ C_counts) "counts" (defScope s_counts) f cdv A outer s H E).nox N_counts G_counts (defScope s_counts)) :
    wL (cxOf CX0 P w K mg base (N_counts ++ C_counts) "counts" (defScope s_counts) f cdv A outer s H E).nox (defBody s_counts) { nx := fun _ H' => Q .non H', rt := Q } (start (N_counts ++ C_counts) vs) H := by
  obtain ⟨v, t, lv, rfl, hv, ho, hz, hmd, q⟩ := h
  refine l_cons (s_set (e_lst (a_nil ⟨by show 0 ≤ sizeLine; decide, fun ma H1 e1 n1 h1 => ?_⟩)))
  show wL _ _ _ [some v, some (.int lv), some (.ref ma), none, none, none, none] _
  refine l_cons (s_forRv2 (by assumption) (e_call (by exact FPH) (by exact hr) (by decide) ?_))
  walk_at "sts"
  refine ⟨v, t, lv, rfl, hv.ts (Same.ts e1), ho, hz, fun l us H2 e2 n2 h2 hus => ?_⟩
  have e12 := e1.trans e2
  have lus := hus.len
  have lph := phd_len t lv
  have nlm : l ≠ ma := fun z => by subst z; rw [h1] at n2; cases n2
  refine ⟨l, us, rfl, SqL.of h2, fun k σ H' => ∃ ws x y z, σ = [some v, some (.int lv), some (.ref ma), x, y, z, none] ∧ H' ma = some (.lst ws.reverse) ∧ DsV C H' (cS ((phd t lv).drop ((phd t lv).length - k))) ws ∧ (∀ u ∈ ws, ∀ d, u = .ref d → H d = none) ∧ But ma H2 H', ?_, ?_, ?_, ?_⟩
  · exact ⟨[], none, none, none, rfl, e2 _ _ h1, by rw [Nat.sub_zero, List.drop_length]; exact rfl, fun u hu => by simp at hu, But.refl⟩
  · intro k σ H' _ p
    obtain ⟨ws, x, y, z, _, _, _, _, b⟩ := p
    exact SqL.of (b _ _ nlm h2)
  · intro k y σ H' hy p
    obtain ⟨ws, x, y', z, rfl, hm, hdv, hfr, b⟩ := p
    have hlt := (List.getElem?_eq_some_iff.mp hy).1
    rw [List.length_reverse] at hlt
    rw [List.getElem?_reverse hlt] at hy
    obtain ⟨hd, hhd, pt, hp0, rfl, hpt, r0, xs, rfl, hr0, hxs⟩ := hus.get hy
    have hm2 := e2 _ _ h1
    have b2 : TS H2 H' := But.ts b hm2
    have hpt' := b2 _ _ hpt
    have hr0' := b2 _ _ hr0
    refine ⟨pt, .ref r0, .int hd.2, rfl, SqT.of hpt', ?_⟩
    show wL _ _ _ [some v, some (.int lv), some (.ref ma), some (.ref r0), some (.int hd.2), z, none] _
    have hsplit : (phd t lv).drop ((phd t lv).length - (k + 1)) = hd :: (phd t lv).drop ((phd t lv).length - k) := by
      have e : us.length - 1 - k = (phd t lv).length - (k + 1) := by omega
      rw [e] at hhd
      obtain ⟨g1, g2⟩ := List.getElem?_eq_some_iff.mp hhd
      rw [List.drop_eq_getElem_cons g1, g2, show (phd t lv).length - (k + 1) + 1 = (phd t lv).length - k by omega]
    have hen := En_drop ((phd t lv).length - (k + 1)) _ (by have := En_phd ho lv [] trivial; rwa [List.append_nil] at this)
    rw [hsplit] at hen
    have lws := hdv.len
    have sws := sumN_cS ((phd t lv).drop ((phd t lv).length - k))
    rw [List.length_drop] at sws
    have sle := sumN_td hd.1.k.pr (cS ((phd t lv).drop ((phd t lv).length - k)))
    have hmem : hd.1 ∈ hds t := by
      rw [← phd_fst t lv]
      exact List.mem_map.mpr ⟨hd, List.mem_of_getElem? hhd, rfl⟩
    have hxs' := hxs.ts b2
    obtain ⟨gs, rfl, _⟩ := id hxs'
    refine l_cons (s_lcR (by exact bk_counts0) (by assumption) (e_call (by exact FPC) (by exact hr) (by decide) ?_))
    walk_at "sts"
    refine ix_t (by exact SqT.of hr0') at0 ?_
    walk_at "sts"
    refine ⟨by have := pr_le hd.1.k; omega, fun D nD => ?_⟩
    have nDm : D ≠ ma := fun z => by subst z; rw [hm] at nD; cases nD
    have lpr : hd.1.k.pr ≤ ws.length := by rw [lws]; exact hen.2
    refine ⟨fun j H3 => H3 ma = some (.lst (ws.drop j).reverse) ∧ H3 D = some (.lst (ws.take j)) ∧ But ma H' H3, ⟨by rw [upd_ne (Ne.symm nDm)]; exact hm, by rw [List.take_zero]; exact upd_same, fun c o _ hc => by rw [upd_ne (ne_of_none hc nD)]; exact hc⟩, ?_, ?_⟩
    · intro j H3 hj pr s0 H0 C0 cl fp IB
      obtain ⟨p1, p2, p3⟩ := pr
      have hjl : j < ws.length := by omega
      refine e_pop (b_var ⟨ma, (ws.drop (j + 1)).reverse, ws[j], rfl, by rw [p1, List.drop_eq_getElem_cons hjl, List.reverse_cons], ws.take j, by rw [upd_ne nDm]; exact p2, by rw [List.length_take]; have := pr_le hd.1.k; show _ < 2 ^ 24; omega, by rw [upd_ne (Ne.symm nDm)]; exact upd_same, ?_, fun c o nc hc => by rw [upd_ne (ne_of_none hc nD), upd_ne nc]; exact p3 _ _ nc hc⟩)
      rw [upd_same, List.take_add_one, List.getElem?_eq_getElem hjl]
      rfl
    · intro H3 pr
      obtain ⟨p1, p2, p3⟩ := pr
      show wL _ _ _ [some v, some (.int lv), some (.ref ma), some (.ref r0), some (.int hd.2), some (.ref D), none] _
      have hds3 := hdv.but hm p3
      obtain ⟨d1, d2⟩ := hds3.td hd.1.k.pr
      have t3 : TS H' H3 := But.ts p3 hm
      refine l_cons (s_expr (e_app (e_var ⟨ma, _, rfl, SqL.of p1, ?_⟩)))
      refine e_call (by exact FRC) (by exact hr) (by decide) ?_
      walk_at "sts"
      refine ⟨r0, hd.1, hd.2, D, _, _, _, rfl, t3 _ _ hr0', hxs'.ts t3, (hok_of ho hmem), hmd _ hmem, p2, d1, by rw [List.length_take]; exact Nat.min_eq_left hen.2, by omega, fun rv H4 e4 hrv => ?_⟩
      obtain ⟨rd, rk, rfl, nrd, hrd, drk, lrk⟩ := hrv
      have hm4 := e4 _ _ p1
      refine ⟨_, hm4, by rw [List.length_reverse, List.length_drop]; have := cS_pos ((phd t lv).drop ((phd t lv).length - k)); show _ < 2 ^ 24; omega, ?_⟩
      have b4 : But ma H4 (upd H4 ma (.lst ((ws.drop hd.1.k.pr).reverse ++ [.ref rd]))) := fun c o nc hc => by rw [upd_ne nc]; exact hc
      refine l_nil ⟨.ref rd :: ws.drop hd.1.k.pr, _, _, _, rfl, by rw [List.reverse_cons]; exact upd_same, ?_, ?_, ((b.trans p3).trans (But.of e4)).trans b4⟩
      · rw [hsplit]
        exact ⟨.ref rd, _, rfl, DtV.but ⟨rd, rk, rfl, hrd, drk, lrk⟩ hm4 b4, (d2.same e4).but hm4 b4⟩
      · intro u hu d hd0
        rcases List.mem_cons.mp hu with rfl | hu
        · cases hd0
          have n4 : H3 rd = none := nrd
          cases hHd : H rd with
          | none => rfl
          | some o =>
            have h2' := e12 _ _ hHd
            have ndm : rd ≠ ma := fun z => by subst z; rw [n1] at hHd; cases hHd
            have := p3 _ _ ndm (b _ _ ndm h2')
            rw [n4] at this; cases this
        · exact hfr u (List.mem_of_mem_drop hu) d hd0
  · intro σ H' p
    obtain ⟨ws, x, y, z, rfl, hm, hdv, hfr, b⟩ := p
    have e0 : us.length = (phd t lv).length := lus
    rw [e0, Nat.sub_self, List.drop_zero] at hdv
    have hc : cS (phd t lv) = [(cF t lv, t.size)] := by have := cS_phd ho lv []; rw [List.append_nil] at this; exact this
    rw [hc] at hdv
    obtain ⟨u, us', rfl, ⟨d, kvs, rfl, hd, dk, ld⟩, e0⟩ := hdv
    cases (show us' = [] from e0)
    refine l_cons (s_ret (e_ix (e_var (e_int (ix_l (by exact SqL.of hm) at0 ?_)))))
    refine q (.ref d) H' (fun c o hc => ?_) ⟨d, kvs, rfl, hfr _ (by simp) d rfl, hd, dk, ld⟩
    exact b _ _ (fun z => by subst z; rw [n1] at hc; cases hc) (e12 _ _ hc)
end



theorem take_snoc' {α : Type} {l : List α} {i : Nat} {x : α} (h : l[i]? = some x) : l.take (i + 1) = l.take i ++ [x] := by
  rw [List.take_add_one, h]
  rfl
theorem TrsV.get {H : Hp} {f : List Tr} {v : List V} {i : Nat} {x : V} (h : TrsV H f v) (e : v[i]? = some x) : ∃ h, f[i]? = some h ∧ TrV H h x := h.get' e
abbrev kdS : List V := [.str "own", .str "take", .str "offer", .str "pick", .str "pay", .str "make", .str "open", .str "cut", .str "cite"]
/-- whether a value is a row -/
def RowQ (H : Hp) (v : V) (b : Bool) : Prop := (b = false ∧ ((∃ i, v = .int i) ∨ ∃ z, v = .str z)) ∨ ∃ t x xs, v = .ref t ∧ H t = some (.tup (x :: xs)) ∧ flatV x = true ∧ inV x kdS = b
theorem RowQ.ts {H H' : Hp} (e : TS H H') {v : V} {b : Bool} : RowQ H v b → RowQ H' v b := fun h => h.elim .inl fun ⟨t, x, xs, h1, h2, h3⟩ => .inr ⟨t, x, xs, h1, e _ _ h2, h3⟩
theorem RowQ.fd {H : Hp} : ∀ {f : Fd} {v : V}, FdV H f v → RowQ H v false
  | .i n, v, h => .inl ⟨rfl, .inl ⟨n, h⟩⟩
  | .s z, v, h => .inl ⟨rfl, .inr ⟨z, h⟩⟩
  | .p a b, v, ⟨t, h1, h2⟩ => .inr ⟨t, _, _, h1, h2, rfl, by rfl⟩
  | .c z, v, ⟨t, a, b, h1, h2, _, _⟩ => .inr ⟨t, _, _, h1, h2, rfl, by decide +kernel⟩
theorem RowQ.key {H : Hp} (r : Key) : RowQ H (kV r) false := by
  cases r with
  | inl i => exact .inl ⟨rfl, .inl ⟨i, rfl⟩⟩
  | inr z => exact .inl ⟨rfl, .inr ⟨z, rfl⟩⟩
theorem nm_in (k : Kd) : inV (.str k.nm) kdS = true := by cases k <;> decide +kernel
theorem RowQ.tr {H : Hp} {t : Tr} {v : V} (h : TrV H t v) : RowQ H v true := by
  obtain ⟨p, xs, ys, rfl, hp, ⟨fs, rfl, _⟩, _⟩ := h.split
  exact .inr ⟨p, _, _, rfl, hp, rfl, nm_in _⟩
theorem FsV.get {H : Hp} : ∀ {f : List Fd} {v : List V} {i : Nat} {x : V}, FsV H f v → v[i]? = some x → ∃ h, f[i]? = some h ∧ FdV H h x
  | [], _, i, x, h, e => by rw [show _ = _ from h] at e; cases e
  | f :: _, _, 0, x, ⟨v, us, h1, h2, h3⟩, e => by subst h1; cases e; exact ⟨f, rfl, h2⟩
  | _ :: fs, _, i + 1, x, ⟨v, us, h1, h2, h3⟩, e => by
    subst h1
    exact h3.get (i := i) (by simpa using e)
theorem FsV.mem {H : Hp} {f : List Fd} {v : List V} {x : V} (h : FsV H f v) (m : x ∈ v) : RowQ H x false := by
  obtain ⟨i, hi, e⟩ := List.mem_iff_getElem.mp m
  obtain ⟨g, _, hg⟩ := h.get (show v[i]? = some x by rw [List.getElem?_eq_getElem hi, e])
  exact .fd hg
section
variable {P : Program} {w : World} {K : PySem.W.Frag} {mg : Str → Option Value} {base : Heap}
def spNum : Sp := fun vs H Q _ => ∃ i : Int, vs = [.int i] ∧ Q (.bl true) H
theorem ok_num (T : Top K mg "_law_is_number" s_is_number) (mIs : mg "isinstance" = none) (mInt : mg "int" = none) (mBool : mg "bool" = none) : Fn P w K mg base 1 "_law_is_number" spNum := by
  refine fn_ok T sc_is_number so_is_number (fun vs H Q E h => by obtain ⟨i, rfl, _⟩ := h; rfl) (fun _ _ _ _ _ _ us hl => match us, hl with | [_], _ => rfl) fun f cdv A outer s H vs Q E hr h nd => ?_
  obtain ⟨i, rfl, q⟩ := h
  walk_at "sts"
  refine c_isi ty_int (.ty _) (kit_ty kb_int_int) ?_
  walk_at "sts"
  refine c_isi ty_int (.ty _) (kit_ty kb_int_bool) ?_
  walk_at "sts"
  exact q
def spRow : Sp := fun vs H Q _ => ∃ v b, vs = [v] ∧ RowQ H v b ∧ ∀ H', Same H H' → Q (.bl b) H'
theorem ok_row (T : Top K mg "_law_row" s_row) (mIs : mg "isinstance" = none) (mTup : mg "tuple" = none) (mLen : mg "len" = none) : Fn P w K mg base 1 "_law_row" spRow := by
  refine fn_ok T sc_row so_row (fun vs H Q E h => by obtain ⟨v, b, rfl, _⟩ := h; rfl) (fun _ _ _ _ _ _ us hl => match us, hl with | [_], _ => rfl) fun f cdv A outer s H vs Q E hr h nd => ?_
  obtain ⟨v, b, rfl, hv, q⟩ := h
  walk_at "sts"
  refine ⟨by show 9 ≤ sizeLine; decide, fun p H1 e1 n1 h1 => ?_⟩
  show wL _ _ _ [some v, some (.ref p)] _
  walk_at "sts"
  rcases hv with ⟨rfl, ⟨i, rfl⟩ | ⟨z, rfl⟩⟩ | ⟨t, x, xs, rfl, ht, hx, rfl⟩
  · refine c_isi ty_int (.ty _) (kit_ty kb_int_tuple) ?_
    walk_at "sts"
    exact q H1 e1
  · refine c_isi ty_str (.ty _) (kit_ty kb_str_tuple) ?_
    walk_at "sts"
    exact q H1 e1
  · refine c_isi (ty_tup (e1 _ _ ht)) (.ty _) (kit_ty kb_tuple_tuple) ?_
    walk_at "sts"
    refine c_lenT (by exact SqT.of (e1 _ _ ht)) ?_
    walk_at "sts"
    refine ifT (by simp only [List.length_cons]; omega) ?_
    walk_at "sts"
    refine ix_t (by exact SqT.of (e1 _ _ ht)) at0 ?_
    walk_at "sts"
    refine o_inT (by exact SqT.of h1) hx rfl ?_
    exact q H1 e1
def spParts : Sp := fun vs H Q _ => ∃ v t, vs = [v] ∧ TrV H t v ∧ t.hd.Ok ∧ ∀ l us H', Same H H' → H l = none → H' l = some (.lst us) → TrsV H' t.ks us → Q (.ref l) H'
theorem ok_parts (T : Top K mg "_law_parts" s_parts) (FR : Fn P w K mg base 1 "_law_row" spRow) : Fn P w K mg base 2 "_law_parts" spParts := by
  refine fn_okC T sc_parts so_parts (fun vs H Q E h => by obtain ⟨v, t, rfl, _⟩ := h; rfl) (fun _ _ _ _ _ _ us hl => match us, hl with | [_], _ => rfl) fun f cdv A outer s H vs Q E hr h nd => ?_
  obtain ⟨v, t, rfl, hv, ho, q⟩ := h
  obtain ⟨p, xs, ys, rfl, hp, hx, hy⟩ := hv.split
  have lx := hx.len ho
  have l3 := fs_le t.hd.k
  obtain ⟨fs, rfl, hfs⟩ := hx
  have lk := ks_le t
  have ly := hy.len
  refine l_cons (s_ret (e_lcTf (by exact bk_parts0) (e_tLo ?_)))
  walk_at "sts"
  refine ⟨p, [.str t.hd.k.nm], (rL t.hd.r ++ fs) ++ ys, rfl, rfl, hp, fun a H1 e1 h1 => ⟨a, _, rfl, SqT.of h1, fun D nD => ?_⟩⟩
  generalize hn : rL t.hd.r ++ fs = zs at h1
  refine ⟨fun k H2 => H2 D = some (.lst (((zs ++ ys).take k).drop zs.length)) ∧ Same H1 H2, ⟨by rw [List.take_zero, List.drop_nil]; exact upd_same, fun c u hc => by rw [upd_ne (ne_of_none hc nD)]; exact hc⟩, fun k H2 _ p => SqT.of (p.2 _ _ h1), ?_, ?_⟩
  · intro k x H2 hk p
    obtain ⟨hD, e⟩ := p
    have hq : RowQ H2 x (decide (zs.length ≤ k)) := by
      by_cases hlt : k < zs.length
      · rw [List.getElem?_append_left hlt] at hk
        rw [decide_eq_false (by omega)]
        have hm := List.mem_of_getElem? hk
        rw [← hn] at hm
        rcases List.mem_append.mp hm with hm | hm
        · cases hr0 : t.hd.r with
          | none => rw [hr0] at hm; cases hm
          | some r => rw [hr0] at hm; rw [List.mem_singleton.mp (show x ∈ [kV r] from hm)]; exact .key r
        · exact FsV.mem (hfs.ts (Same.ts (e1.trans e))) hm
      · rw [List.getElem?_append_right (by omega)] at hk
        rw [decide_eq_true (by omega)]
        obtain ⟨s, _, hs⟩ := (hy.ts (Same.ts (e1.trans e))).get hk
        exact .tr hs
    intro s0 H0 C cl fp IB
    refine t_val (b_call (by exact FR) (by exact hr) (by decide) ?_)
    refine a_cons (b_var (a_nil ?_))
    refine ⟨x, _, rfl, hq, fun H3 e3 => ⟨_, rfl, ?_⟩⟩
    have hlt := (List.getElem?_eq_some_iff.mp hk).1
    by_cases hlt2 : zs.length ≤ k
    · refine ifT hlt2 ?_
      intro s0 H0 C cl fp IB
      refine b_var ⟨_, e3 _ _ hD, ?_, ?_, ?_⟩
      · rw [List.length_drop, List.length_take]
        rw [List.length_append] at *
        show _ < 2 ^ 24
        have : zs.length ≤ 4 := by rw [← hn]; simp only [List.length_cons] at lx; omega
        omega
      · rw [take_snoc' hk, List.drop_append_of_le_length (by rw [List.length_take]; omega)]
        exact upd_same
      · exact fresh_keep nD (Same.trans e e3)
    · refine ifF hlt2 ⟨?_, Same.trans e e3⟩
      rw [List.drop_eq_nil_of_le (by rw [List.length_take]; omega)]
      have := e3 _ _ hD
      rw [List.drop_eq_nil_of_le (by rw [List.length_take]; omega)] at this
      exact this
  · intro H2 p
    obtain ⟨hD, e⟩ := p
    rw [List.take_length, List.drop_left] at hD
    exact q D ys H2 (e1.trans e) (none_of e1 nD) hD (hy.ts (Same.ts (e1.trans e)))
/-! ### paths -/
def PthV (H : Hp) (p : List Nat) (v : V) : Prop := ∃ t, v = .ref t ∧ H t = some (.tup (p.map fun (n : Nat) => V.int (n : Int)))
theorem PthV.ts {H H' : Hp} (e : TS H H') {p : List Nat} {v : V} : PthV H p v → PthV H' p v := fun ⟨t, h1, h2⟩ => ⟨t, h1, e _ _ h2⟩
def PsV (H : Hp) : List (List Nat) → List V → Prop
  | [], vs => vs = []
  | f :: fs, vs => ∃ v us, vs = v :: us ∧ PthV H f v ∧ PsV H fs us
theorem PsV.ts {H H' : Hp} (e : TS H H') : ∀ {f : List (List Nat)} {v : List V}, PsV H f v → PsV H' f v
  | [], _, h => h
  | _ :: _, _, ⟨v, us, h1, h2, h3⟩ => ⟨v, us, h1, h2.ts e, h3.ts e⟩
theorem PsV.len {H : Hp} : ∀ {f : List (List Nat)} {v : List V}, PsV H f v → v.length = f.length
  | [], _, h => by rw [show _ = _ from h]; rfl
  | _ :: _, _, ⟨v, us, h1, h2, h3⟩ => by rw [h1, List.length_cons, List.length_cons, h3.len]
theorem PsV.append {H : Hp} : ∀ {f g : List (List Nat)} {v u : List V}, PsV H f v → PsV H g u → PsV H (f ++ g) (v ++ u)
  | [], _, _, _, h, k => by rw [show _ = _ from h]; exact k
  | _ :: _, _, _, _, ⟨v, us, h1, h2, h3⟩, k => by
    subst h1
    exact ⟨v, _, rfl, h2, h3.append k⟩
theorem PsV.get {H : Hp} : ∀ {f : List (List Nat)} {v : List V} {i : Nat} {x : V}, PsV H f v → v[i]? = some x → ∃ h, f[i]? = some h ∧ PthV H h x
  | [], _, i, x, h, e => by rw [show _ = _ from h] at e; cases e
  | f :: _, _, 0, x, ⟨v, us, h1, h2, h3⟩, e => by subst h1; cases e; exact ⟨f, rfl, h2⟩
  | _ :: fs, _, i + 1, x, ⟨v, us, h1, h2, h3⟩, e => by
    subst h1
    exact h3.get (i := i) (by simpa using e)
def pth : Tr → List Nat → List (List Nat)
  | .le _, p => [p]
  | .un _ a, p => p :: pth a (p ++ [0])
  | .bi _ a b, p => p :: (pth a (p ++ [0]) ++ pth b (p ++ [1]))
def pthL : List Tr → List Nat → Nat → List (List Nat)
  | [], _, _ => []
  | t :: ts, p, i => pth t (p ++ [i]) ++ pthL ts p (i + 1)
theorem pth_eq (t : Tr) (p : List Nat) : pth t p = p :: pthL t.ks p 0 := by
  cases t <;> simp [pth, pthL, Tr.ks]
theorem pthL_snoc (t : Tr) (p : List Nat) : ∀ (ts : List Tr) (i : Nat), pthL (ts ++ [t]) p i = pthL ts p i ++ pth t (p ++ [i + ts.length])
  | [], i => by simp [pthL]
  | s :: ts, i => by
    rw [List.cons_append, pthL, pthL, pthL_snoc t p ts (i + 1), List.length_cons, List.append_assoc, show i + 1 + ts.length = i + (ts.length + 1) by omega]
theorem pth_len : ∀ (t : Tr) (p : List Nat), (pth t p).length = t.size
  | .le _, _ => rfl
  | .un _ a, p => by simp [pth, Tr.size, pth_len a]
  | .bi _ a b, p => by simp [pth, Tr.size, pth_len a, pth_len b]
theorem pthL_len (p : List Nat) : ∀ (ts : List Tr) (i : Nat), (pthL ts p i).length = szL ts
  | [], _ => rfl
  | t :: ts, i => by rw [pthL, List.length_append, pth_len, pthL_len p ts, szL_cons]
theorem dep_ks {t : Tr} : ∀ a ∈ t.ks, a.dep + 1 ≤ t.dep := by
  cases t with
  | le h => simp [Tr.ks]
  | un h a => simp [Tr.ks, Tr.dep]
  | bi h a b =>
    intro x hx
    simp only [Tr.ks, List.mem_cons, List.not_mem_nil, or_false] at hx
    simp only [Tr.dep]
    rcases hx with rfl | rfl
    · omega
    · omega
theorem szL_take (ts : List Tr) (k : Nat) : szL (ts.take k) ≤ szL ts := by
  conv => rhs; rw [← List.take_append_drop k ts, szL_app]
  omega
theorem sz_mem {ts : List Tr} {k : Nat} {a : Tr} (h : ts[k]? = some a) : szL (ts.take k) + a.size ≤ szL ts := by
  have := szL_take ts (k + 1)
  rw [take_snoc' h, szL_app] at this
  simpa [szL] using this
def spPaths (n : Nat) : Sp := fun vs H Q _ => ∃ v u t p, vs = [v, u] ∧ TrV H t v ∧ t.Ok ∧ t.dep ≤ n ∧ t.size ≤ 1000 ∧ PthV H p u ∧ p.length + n ≤ 1000 ∧ ∀ l us H', Same H H' → H l = none → H' l = some (.lst us) → PsV H' (pth t p) us → Q (.ref l) H'
theorem ok_pathsS (n : Nat) (T : Top K mg "_law_paths" s_paths) (mLen : mg "len" = none) (mR : mg "range" = none) (FP : Fn P w K mg base 2 "_law_parts" spParts) (F : ∀ m, n = m + 1 → Fn P w K mg base (m + 3) "_law_paths" (spPaths m)) : Fn P w K mg base (n + 3) "_law_paths" (spPaths n) := by
  refine fn_ok T sc_paths so_paths (fun vs H Q E h => by obtain ⟨v, u, t, p, rfl, _⟩ := h; rfl) (fun _ _ _ _ _ _ us hl => match us, hl with | [_, _], _ => rfl) fun f cdv A outer s H vs Q E hr h nd => ?_
  obtain ⟨v, u, t, p, rfl, hv, ho, hd, hz, hu, hp, q⟩ := h
  walk_at "sts"
  refine ⟨by show 1 ≤ sizeLine; decide, fun fa H1 e1 n1 h1 => ?_⟩
  refine l_cons (s_set (e_call (by exact FP) (by exact hr) (by omega) ?_))
  walk_at "sts"
  refine ⟨v, t, rfl, hv.ts (Same.ts e1), ho.hd.1, fun pa us H2 e2 n2 h2 hus => ?_⟩
  show wL _ _ _ [some v, some u, some (.ref fa), some (.ref pa), none] _
  have lus := hus.len
  have lk := ks_le t
  have hsz := size_ks t
  refine l_cons (s_forR (by assumption) ?_)
  walk_at "sts"
  refine c_lenL (by exact SqL.of h2) ⟨us.length, rfl, by omega, fun k σ H' => ∃ (f : Addr) (fs : List V) (x : Option V), σ = [some v, some u, some (.ref f), some (.ref pa), x] ∧ H f = none ∧ H' f = some (.lst fs) ∧ PsV H' (p :: pthL (t.ks.take k) p 0) fs ∧ Same H H' ∧ Same H2 H', ?_, ?_, ?_⟩
  · exact ⟨fa, [u], none, rfl, n1, e2 _ _ h1, ⟨u, [], rfl, hu.ts (Same.ts (e1.trans e2)), rfl⟩, e1.trans e2, Same.refl _⟩
  · intro k σ H' hk pr
    obtain ⟨f, fs, x, rfl, nf, hf, hfs, eA, eB⟩ := pr
    show wL _ _ _ [some v, some u, some (.ref f), some (.ref pa), some (.int (k : Int))] _
    have hk2 : us[k]? = some us[k] := List.getElem?_eq_getElem hk
    obtain ⟨a, ha, hav⟩ := hus.get hk2
    have ham := List.mem_of_getElem? ha
    have hda := dep_ks a ham
    obtain ⟨m, rfl⟩ : ∃ m, n = m + 1 := ⟨n - 1, by omega⟩
    have hsa := sz_mem ha
    have lfs := hfs.len
    rw [List.length_cons, pthL_len] at lfs
    obtain ⟨ut, rfl, hut⟩ := hu
    refine l_cons (s_set (e_bin (e_var (e_call (by exact F m rfl) (by exact hr) (by omega) ?_))))
    walk_at "sts"
    refine ix_l (by exact SqL.of (eB _ _ h2)) (atI_nat hk2) ?_
    walk_at "sts"
    refine ⟨by show 1 ≤ sizeLine; decide, fun q3 H3 e3 n3 h3 => ?_⟩
    refine o_catA (e3 _ _ (eA _ _ hut)) h3 (by rw [List.length_map]; simp only [List.length_cons, List.length_nil]; omega) fun q4 H4 e4 h4 => ?_
    have t4 : TS H2 H4 := Same.ts (Same.trans eB (e3.trans e4))
    walk_at "sts"
    refine ⟨us[k], .ref q4, a, p ++ [k], rfl, hav.ts t4, (ho.hd.2.2 a ham), by omega, by omega, ⟨q4, rfl, by rw [h4, List.map_append]; rfl⟩, by rw [List.length_append]; simp only [List.length_cons, List.length_nil]; omega, fun l5 us5 H5 e5 n5 h5 hps5 => ?_⟩
    have e35 := (e3.trans e4).trans e5
    have l5l := hps5.len
    rw [pth_len] at l5l
    refine o_cat2 (e35 _ _ hf) h5 (by omega) fun l6 H6 e6 n6 h6 => ?_
    refine l_nil ⟨l6, fs ++ us5, _, rfl, none_of (Same.trans eA e35) n6, h6, ?_, Same.trans eA (e35.trans e6), Same.trans eB (e35.trans e6)⟩
    rw [take_snoc' ha, pthL_snoc, ← List.cons_append, show 0 + (t.ks.take k).length = k by rw [List.length_take]; omega]
    exact (hfs.ts (Same.ts (e35.trans e6))).append (hps5.ts (Same.ts e6))
  · intro σ H' pr
    obtain ⟨f, fs, x, rfl, nf, hf, hfs, eA, eB⟩ := pr
    walk_at "sts"
    rw [lus, List.take_length, ← pth_eq] at hfs
    exact q f fs H' eA nf hf hfs
theorem ok_paths (T : Top K mg "_law_paths" s_paths) (mLen : mg "len" = none) (mR : mg "range" = none) (FP : Fn P w K mg base 2 "_law_parts" spParts) : ∀ n, Fn P w K mg base (n + 3) "_law_paths" (spPaths n)
  | 0 => ok_pathsS 0 T mLen mR FP fun m h => by cases h
  | n + 1 => ok_pathsS (n + 1) T mLen mR FP fun m h => by cases h; exact ok_paths T mLen mR FP n
/-- the subtree at a path -/
def atT : Tr → List Nat → Option Tr
  | t, [] => some t
  | t, k :: p => match t.ks[k]? with
    | some a => atT a p
    | none => none
def spAt : Sp := fun vs H Q _ => ∃ v u t p s, vs = [v, u] ∧ TrV H t v ∧ t.Ok ∧ PthV H p u ∧ atT t p = some s ∧ p.length ≤ 2000 ∧ ∀ v' H', Same H H' → TrV H' s v' → Q v' H'
theorem ok_at (T : Top K mg "_law_at" s_at) (FP : Fn P w K mg base 2 "_law_parts" spParts) : Fn P w K mg base 3 "_law_at" spAt := by
  refine fn_ok T sc_at so_at (fun vs H Q E h => by obtain ⟨v, u, t, p, s, rfl, _⟩ := h; rfl) (fun _ _ _ _ _ _ us hl => match us, hl with | [_, _], _ => rfl) fun f cdv A outer s H vs Q E hr h nd => ?_
  obtain ⟨v, u, t, p, s0, rfl, hv, ho, ⟨ut, rfl, hut⟩, hs, hl, q⟩ := h
  refine l_cons (s_forT ?_)
  refine e_var ⟨ut, _, rfl, SqT.of hut, fun k σ H' => ∃ (v' : V) (t' : Tr) (x : Option V), σ = [some v', some (.ref ut), x] ∧ TrV H' t' v' ∧ t'.Ok ∧ atT t' (p.drop k) = some s0 ∧ Same H H', ?_, ?_, ?_, ?_⟩
  · exact ⟨v, t, none, rfl, hv, ho, hs, Same.refl H⟩
  · intro k σ H' _ pr
    obtain ⟨_, _, _, _, _, _, _, e⟩ := pr
    exact SqT.of (e _ _ hut)
  · intro k y σ H' hy pr
    obtain ⟨v', t', x, rfl, hv', ho', hs', e⟩ := pr
    rw [List.getElem?_map] at hy
    obtain ⟨j, hj, rfl⟩ := Option.map_eq_some_iff.mp hy
    obtain ⟨hj1, hj2⟩ := List.getElem?_eq_some_iff.mp hj
    show wL _ _ _ [some v', some (.ref ut), some (.int (j : Int))] _
    rw [List.drop_eq_getElem_cons hj1, hj2] at hs'
    unfold atT at hs'
    cases hk : t'.ks[j]? with
    | none => rw [hk] at hs'; cases hs'
    | some a =>
      rw [hk] at hs'
      refine l_cons (s_set (e_ix (e_call (by exact FP) (by exact hr) (by decide) ?_)))
      walk_at "sts"
      refine ⟨v', t', rfl, hv', ho'.hd.1, fun l us H2 e2 n2 h2 hus => ?_⟩
      have hju : j < us.length := by rw [hus.len]; exact (List.getElem?_eq_some_iff.mp hk).1
      have hk2 : us[j]? = some us[j] := List.getElem?_eq_getElem hju
      obtain ⟨a', ha', hav⟩ := hus.get hk2
      rw [hk] at ha'
      cases ha'
      refine e_var (ix_l (by exact SqL.of h2) (atI_nat hk2) ?_)
      exact l_nil ⟨us[j], a, _, rfl, hav, ho'.hd.2.2 a (List.mem_of_getElem? hk), hs', Same.trans e e2⟩
  · intro σ H' pr
    obtain ⟨v', t', x, rfl, hv', ho', hs', e⟩ := pr
    rw [List.length_map, List.drop_length] at hs'
    cases (Option.some.inj (show some t' = some s0 from hs'))
    walk_at "sts"
    exact q v' H' e hv'
end



/-- two lists are the own ones, the others stay -/
def But2 (a b : Addr) (H H' : Hp) : Prop := ∀ c o, c ≠ a → c ≠ b → H c = some o → H' c = some o
abbrev nms12 : List Str := ["x", "own", "left", "take", "h2", "cite", "once", "zz9", "k", "pay", "cut", "abcdefgh1234"]
def GoodR : Key → Prop
  | .inl i => 0 ≤ i
  | .inr z => z ∈ nms12
/-! ### derivations drawn -/
def WayAt (H : Hp) (wa p : Addr) : Prop := ∃ n : Int, H wa = some (.dK [(Sum.inr "pool", .ref p), (Sum.inr "offers", .int n)])
structure Fr (p wa : Addr) (H H' : Hp) : Prop where
  bt : But2 p wa H H'
  pl : PoolAt H' p
  wy : WayAt H' wa p
theorem PoolAt.same {H H' : Hp} {p : Addr} (h : PoolAt H p) (e : Same H H') : PoolAt H' p := let ⟨x, y, z, w⟩ := h; ⟨x, y, z, e _ _ w⟩
theorem WayAt.same {H H' : Hp} {wa p : Addr} (h : WayAt H wa p) (e : Same H H') : WayAt H' wa p := let ⟨n, w⟩ := h; ⟨n, e _ _ w⟩
theorem Fr.same {p wa : Addr} {H H1 H2 : Hp} (f : Fr p wa H H1) (e : Same H1 H2) : Fr p wa H H2 := ⟨fun c o c1 c2 hc => e _ _ (f.bt c o c1 c2 hc), f.pl.same e, f.wy.same e⟩
theorem Fr.next {p wa : Addr} {H H1 H2 : Hp} (f : Fr p wa H H1) (n : wa ≠ p) (b : But p H1 H2) (h : PoolAt H2 p) : Fr p wa H H2 := ⟨fun c o c1 c2 hc => b _ _ c1 (f.bt c o c1 c2 hc), h, let ⟨k, w⟩ := f.wy; ⟨k, b _ _ n w⟩⟩
theorem Fr.trans {p wa : Addr} {H H1 H2 : Hp} (f : Fr p wa H H1) (g : Fr p wa H1 H2) : Fr p wa H H2 := ⟨fun c o c1 c2 hc => g.bt c o c1 c2 (f.bt c o c1 c2 hc), g.pl, g.wy⟩
theorem Fr.refl {p wa : Addr} {H : Hp} (h : PoolAt H p) (w : WayAt H wa p) : Fr p wa H H := ⟨fun _ _ _ _ z => z, h, w⟩
theorem Fr.ts {p wa : Addr} {H H' : Hp} (f : Fr p wa H H') (h : PoolAt H p) (w : WayAt H wa p) : TS H H' := fun c xs hc =>
  f.bt c _ (fun z => by subst z; obtain ⟨_, _, _, e⟩ := h; rw [hc] at e; cases e) (fun z => by subst z; obtain ⟨_, e⟩ := w; rw [hc] at e; cases e) hc
theorem WayAt.ne {H : Hp} {wa p : Addr} (w : WayAt H wa p) (h : PoolAt H p) : wa ≠ p := fun z => by
  subst z
  obtain ⟨_, e⟩ := w
  obtain ⟨_, _, _, e2⟩ := h
  rw [e] at e2
  cases e2
def GoodT (t : Tr) : Prop := t.Ok ∧ (∀ h ∈ hds t, ∀ r, h.r = some r → GoodR r) ∧ ∀ h ∈ hds t, MdH h
theorem nm_at {j : Nat} (h : j < 12) : ∃ z : Str, ([V.str "x", V.str "own", V.str "left", V.str "take", V.str "h2", V.str "cite", V.str "once", V.str "zz9", V.str "k", V.str "pay", V.str "cut", V.str "abcdefgh1234"] : List V)[j]? = some (.str z) ∧ z ∈ nms12 := by
  have hl : j < nms12.length := h
  refine ⟨nms12[j], ?_, List.getElem_mem hl⟩
  show (nms12.map V.str)[j]? = _
  rw [List.getElem?_map, List.getElem?_eq_getElem hl]
  rfl
section
variable {P : Program} {w : World} {K : PySem.W.Frag} {mg : Str → Option Value} {base : Heap}
def spMode : Sp := fun vs H Q _ => ∃ p room, vs = [.ref p, .int room] ∧ PoolAt H p ∧ ∀ f v H', But p H H' → PoolAt H' p → FdV H' f v → ModeF f → Q v H'
theorem ok_mode (T : Top K mg "_law_mode" s_mode) (FN : Fn P w K mg base 1 "_law_next" spNext) : Fn P w K mg base 2 "_law_mode" spMode := by
  refine fn_ok T sc_mode so_mode (fun vs H Q E h => by obtain ⟨p, room, rfl, _⟩ := h; rfl) (fun _ _ _ _ _ _ us hl => match us, hl with | [_, _], _ => rfl) fun f cdv A outer s H vs Q E hr h nd => ?_
  obtain ⟨p, room, rfl, hp, q⟩ := h
  refine l_cons (s_set (e_tup (a_cons (e_bin (e_int (e_call (by exact FN) (by exact hr) (by decide) ?_))))))
  walk_at "sts"
  refine ⟨p, 3, rfl, by decide, by decide, hp, fun d0 H0 a0 a1 b0 p0 => ?_⟩
  walk_at "sts"
  refine e_call (by exact FN) (by exact hr) (by decide) ?_
  walk_at "sts"
  refine ⟨p, 4, rfl, by decide, by decide, p0, fun d1 H1 c0 c1 b1 p1 => ?_⟩
  walk_at "sts"
  refine ⟨by show 2 ≤ sizeLine; decide, fun t H2 e2 n2 h2 => ?_⟩
  have b2 : But p H H2 := fun c o nc hc => e2 _ _ (b1 _ _ nc (b0 _ _ nc hc))
  have p2 := p1.same e2
  have ntp : t ≠ p := fun z => by subst z; obtain ⟨_, _, _, e⟩ := p1; rw [n2] at e; cases e
  show wL _ _ _ [some (.ref p), some (.int room), some (.ref t)] _
  refine l_cons (s_if (t_w (w_or (t_cmp (e_call (by exact FN) (by exact hr) (by decide) ?_)))))
  walk_at "sts"
  refine ⟨p, 2, rfl, by decide, by decide, p2, fun d3 H3 _ _ b3 p3 => ?_⟩
  have b03 := b2.trans b3
  have h3 := b3 _ _ ntp h2
  walk_at "sts"
  have no : ∀ Q2 : VK, (Q2 = Q) → Q2 (.str "once") H3 := fun Q2 e => by rw [e]; exact q (.s "once") _ H3 b03 p3 rfl (.inl rfl)
  refine if2 (fun _ => ?_) (fun _ => ?_)
  · walk_at "sts"
    exact no Q rfl
  · walk_at "sts"
    refine ix_t (by exact SqT.of h3) at0 ?_
    walk_at "sts"
    refine if2 (fun _ => ?_) (fun _ => ?_)
    · walk_at "sts"
      exact no Q rfl
    · walk_at "sts"
      exact q (.p (1 + d0) d1) _ H3 b03 p3 ⟨t, rfl, h3⟩ (.inr ⟨_, _, rfl, by omega, by omega, by omega⟩)
def spDraw (n : Nat) : Sp := fun vs H Q _ => ∃ wa p many lv room, vs = [.ref wa, .int ((many : Nat) : Int), .int lv, .int room] ∧ WayAt H wa p ∧ PoolAt H p ∧ 1 ≤ many ∧ many ≤ n ∧ 0 ≤ lv ∧ lv + many ≤ 1000 ∧ ∀ v t H', Fr p wa H H' → TrV H' t v → GoodT t → t.size ≤ many → Q v H'
def spOne (n : Nat) : Sp := fun vs H Q _ => ∃ wa p many lv room z r wh, vs = [.ref wa, .int ((many : Nat) : Int), .int lv, .int room, .str z, kV r, .int ((wh : Nat) : Int)] ∧ WayAt H wa p ∧ PoolAt H p ∧ 1 ≤ many ∧ many ≤ n ∧ 0 ≤ lv ∧ lv + 1 + many ≤ 1000 ∧ GoodR r ∧ ∀ v t H', Fr p wa H H' → TrV H' t v → GoodT t → t.size ≤ many + 1 → Q v H'
theorem good_un {h : Hd} {a : Tr} (ho : h.Ok) (hp : h.k.pr = 1) (hr : ∀ r, h.r = some r → GoodR r) (g : GoodT a) (hm : MdH h := by first | (intro z; rcases z with z | z <;> cases z; done) | (intro _; refine ⟨_, _, rfl, ?_⟩; assumption)) : GoodT (.un h a) :=
  ⟨⟨ho, hp, g.1⟩, fun x hx => by
    rcases List.mem_cons.mp hx with rfl | hx
    · exact hr
    · exact g.2.1 x hx, fun x hx => by
    rcases List.mem_cons.mp hx with rfl | hx
    · exact hm
    · exact g.2.2 x hx⟩
theorem good_bi {h : Hd} {a b : Tr} (ho : h.Ok) (hp : h.k.pr = 2) (hr : ∀ r, h.r = some r → GoodR r) (g : GoodT a) (g2 : GoodT b) (hm : MdH h := by first | (intro z; rcases z with z | z <;> cases z; done) | (intro _; refine ⟨_, _, rfl, ?_⟩; assumption)) : GoodT (.bi h a b) :=
  ⟨⟨ho, hp, g.1, g2.1⟩, fun x hx => by
    rcases List.mem_cons.mp hx with rfl | hx
    · exact hr
    · rcases List.mem_append.mp hx with hx | hx
      · exact g.2.1 x hx
      · exact g2.2.1 x hx, fun x hx => by
    rcases List.mem_cons.mp hx with rfl | hx
    · exact hm
    · rcases List.mem_append.mp hx with hx | hx
      · exact g.2.2 x hx
      · exact g2.2.2 x hx⟩
theorem ok_one (n : Nat) (T : Top K mg "_law_free_one" s_free_one) (mInt : mg "int" = none) (FN : Fn P w K mg base 1 "_law_next" spNext) (FD : Fn P w K mg base (2 * n + 3) "_law_free" (spDraw n)) : Fn P w K mg base (2 * n + 4) "_law_free_one" (spOne n) := by
  refine fn_ok T sc_free_one so_free_one (fun vs H Q E h => by obtain ⟨wa, p, many, lv, room, z, r, wh, rfl, _⟩ := h; rfl) (fun _ _ _ _ _ _ us hl => match us, hl with | [_, _, _, _, _, _, _], _ => rfl) fun f cdv A outer s H vs Q E hr h nd => ?_
  obtain ⟨wa, p, many, lv, room, z, r, wh, rfl, hw, hp, hm1, hmn, hlv, hlm, hr0, q⟩ := h
  have nwp := hw.ne hp
  obtain ⟨off, hw0⟩ := id hw
  refine l_cons (s_set (e_call (by exact FN) (by exact hr) (by omega) ?_))
  refine a_cons (e_ix (e_var (e_str ?_)))
  refine ix_d (by exact hr) ⟨wa, .ref p, rfl, dg_k hw0 (by rfl), ?_⟩
  walk_at "sts"
  refine ⟨p, 3, rfl, by decide, by decide, hp, fun d0 H0 a0 a1 b0 p0 => ?_⟩
  have f0 := (Fr.refl hp hw).next nwp b0 p0
  show wL _ _ _ [some (.ref wa), some (.int (many : Int)), some (.int lv), some (.int room), some (.str z), some (kV r), some (.int (wh : Int)), some (.int d0), none] _
  walk_at "sts"
  refine if2 (fun _ => ?_) (fun _ => ?_)
  · refine l_cons (s_ret (e_tup (a_cons (e_str (a_cons (e_var (a_cons (e_var (a_cons ?_))))))))) 
    refine e_call (by exact FD) (by exact hr) (by omega) ?_
    walk_at "sts"
    refine ⟨wa, p, many, lv, room, rfl, f0.wy, f0.pl, hm1, hmn, hlv, by omega, fun v t H1 f1 hv hg hs => ?_⟩
    refine a_nil ⟨by show 4 ≤ sizeLine; decide, fun t2 H2 e2 n2 h2 => ?_⟩
    refine q _ (.un ⟨.make, none, [.s z, .i d0]⟩ t) H2 ((f0.trans f1).same e2) ⟨t2, [.str "make", .str z, .int d0], v, rfl, h2, ⟨[.str z, .int d0], rfl, ⟨_, _, rfl, rfl, _, _, rfl, rfl, rfl⟩⟩, hv.ts (Same.ts e2)⟩ (good_un ⟨rfl, rfl⟩ rfl (fun r h => by cases h) hg) ?_
    show t.size + 1 ≤ _
    omega
  · refine l_nil ?_
    refine l_cons (s_set (e_call (by exact FD) (by exact hr) (by omega) ?_))
    walk_at "sts"
    refine ⟨wa, p, many, lv + 1, room, rfl, f0.wy, f0.pl, hm1, hmn, by omega, by omega, fun v t H1 f1 hv hg hs => ?_⟩
    show wL _ _ _ [some (.ref wa), some (.int (many : Int)), some (.int lv), some (.int room), some (.str z), some (kV r), some (.int (wh : Int)), some (.int d0), some v] _
    have f01 := f0.trans f1
    walk_at "sts"
    refine if2 (fun _ => ?_) (fun _ => ?_)
    · walk_at "sts"
      refine ⟨by show 2 ≤ sizeLine; decide, fun t2 H2 e2 n2 h2 => ?_⟩
      refine q _ (.un ⟨.take, none, []⟩ t) H2 (f01.same e2) ⟨t2, [.str "take"], v, rfl, h2, ⟨[], rfl, rfl⟩, hv.ts (Same.ts e2)⟩ (good_un ⟨rfl, rfl⟩ rfl (fun r h => by cases h) hg) ?_
      show t.size + 1 ≤ _
      omega
    · walk_at "sts"
      refine if2 (fun _ => ?_) (fun _ => ?_)
      · refine l_cons (s_ret (e_tup (a_cons (e_str (a_cons (e_var (a_cons (e_ix ?_))))))))
        walk_at "sts"
        refine ⟨by show 2 ≤ sizeLine; decide, fun l2 H2 e2 n2 h2 => ?_⟩
        walk_at "sts"
        refine o_mod (by decide) ?_
        have hd : ∃ y : Str, atI ([V.str "left", V.str "right"] : List V) (d0 % 2) = some (.str y) := by
          have h1 := Int.emod_nonneg d0 (show (2 : Int) ≠ 0 by decide)
          have h2 := Int.emod_lt_of_pos d0 (show (0 : Int) < 2 by decide)
          rcases (show d0 % 2 = 0 ∨ d0 % 2 = 1 by omega) with e | e
          · rw [e]; exact ⟨_, at0⟩
          · rw [e]; exact ⟨_, at1⟩
        obtain ⟨y, hy⟩ := hd
        refine ix_l (by exact SqL.of h2) hy ?_
        walk_at "sts"
        refine ⟨by show 4 ≤ sizeLine; decide, fun t3 H3 e3 n3 h3 => ?_⟩
        refine q _ (.un ⟨.pick, some r, [.s y]⟩ t) H3 ((f01.same e2).same e3) ⟨t3, [.str "pick", kV r, .str y], v, rfl, h3, ⟨[.str y], rfl, ⟨_, _, rfl, rfl, rfl⟩⟩, hv.ts (Same.ts (e2.trans e3))⟩ (good_un ⟨rfl, rfl⟩ rfl (fun r' h => by cases h; exact hr0) hg) ?_
        show t.size + 1 ≤ _
        omega
      · walk_at "sts"
        refine ⟨by show 5 ≤ sizeLine; decide, fun t2 H2 e2 n2 h2 => ?_⟩
        refine q _ (.un ⟨.open_, some r, [.s z, .i d0]⟩ t) H2 (f01.same e2) ⟨t2, [.str "open", kV r, .str z, .int d0], v, rfl, h2, ⟨[.str z, .int d0], rfl, ⟨_, _, rfl, rfl, _, _, rfl, rfl, rfl⟩⟩, hv.ts (Same.ts e2)⟩ (good_un ⟨rfl, rfl⟩ rfl (fun r' h => by cases h; exact hr0) hg) ?_
        show t.size + 1 ≤ _
        omega
end



theorem good_le {h : Hd} (ho : h.Ok) (hp : h.k.pr = 0) (hr : ∀ r, h.r = some r → GoodR r) (hm : MdH h := by first | (intro z; rcases z with z | z <;> cases z; done) | (intro _; refine ⟨_, _, rfl, ?_⟩; assumption)) : GoodT (.le h) := ⟨⟨ho, hp⟩, fun x hx => by rw [List.mem_singleton.mp hx]; exact hr, fun x hx => by rw [List.mem_singleton.mp hx]; exact hm⟩
section
variable {P : Program} {w : World} {K : PySem.W.Frag} {mg : Str → Option Value} {base : Heap}
def spTwo (n : Nat) : Sp := fun vs H Q _ => ∃ wa p many lv room z r wh, vs = [.ref wa, .int ((many : Nat) : Int), .int lv, .int room, .str z, kV r, .int ((wh : Nat) : Int)] ∧ WayAt H wa p ∧ PoolAt H p ∧ 2 ≤ many ∧ many ≤ n + 1 ∧ 0 ≤ lv ∧ lv + 1 + many ≤ 1000 ∧ GoodR r ∧ ∀ v t H', Fr p wa H H' → TrV H' t v → GoodT t → t.size ≤ many + 1 → Q v H'
theorem ok_two (n : Nat) (T : Top K mg "_law_free_two" s_free_two) (FN : Fn P w K mg base 1 "_law_next" spNext) (FM : Fn P w K mg base 2 "_law_mode" spMode) (FD : Fn P w K mg base (2 * n + 3) "_law_free" (spDraw n)) : Fn P w K mg base (2 * n + 4) "_law_free_two" (spTwo n) := by
  refine fn_ok T sc_free_two so_free_two (fun vs H Q E h => by obtain ⟨wa, p, many, lv, room, z, r, wh, rfl, _⟩ := h; rfl) (fun _ _ _ _ _ _ us hl => match us, hl with | [_, _, _, _, _, _, _], _ => rfl) fun f cdv A outer s H vs Q E hr h nd => ?_
  obtain ⟨wa, p, many, lv, room, z, r, wh, rfl, hw, hp, hm1, hmn, hlv, hlm, hr0, q⟩ := h
  have nwp := hw.ne hp
  obtain ⟨off, hw0⟩ := id hw
  refine l_cons (s_set (e_ix (e_var (e_str ?_))))
  refine ix_d (by exact hr) ⟨wa, .ref p, rfl, dg_k hw0 (by rfl), ?_⟩
  show wL _ _ _ [some (.ref wa), some (.int (many : Int)), some (.int lv), some (.int room), some (.str z), some (kV r), some (.int (wh : Int)), some (.ref p), none, none, none, none, none] _
  refine l_cons (s_set (e_bin (e_int (e_call (by exact FN) (by exact hr) (by omega) ?_))))
  walk_at "sts"
  refine ⟨p, (many : Int) - 1, rfl, by omega, by omega, hp, fun d0 H0 a0 a1 b0 p0 => ?_⟩
  have f0 := (Fr.refl hp hw).next nwp b0 p0
  obtain ⟨k0, rfl⟩ := Int.eq_ofNat_of_zero_le a0
  have ef : (1 : Int) + (k0 : Int) = ((1 + k0 : Nat) : Int) := by omega
  have es : (many : Int) - ((1 + k0 : Nat) : Int) = ((many - (1 + k0) : Nat) : Int) := by omega
  refine o_add ?_
  rw [ef]
  show wL _ _ _ [some (.ref wa), some (.int (many : Int)), some (.int lv), some (.int room), some (.str z), some (kV r), some (.int (wh : Int)), some (.ref p), some (.int ((1 + k0 : Nat) : Int)), none, none, none, none] _
  refine l_cons (s_set (e_call (by exact FM) (by exact hr) (by omega) ?_))
  walk_at "sts"
  refine ⟨p, room, rfl, p0, fun fm mv H1 b1 p1 hmv hmf => ?_⟩
  have f1 := f0.next nwp b1 p1
  show wL _ _ _ [some (.ref wa), some (.int (many : Int)), some (.int lv), some (.int room), some (.str z), some (kV r), some (.int (wh : Int)), some (.ref p), some (.int ((1 + k0 : Nat) : Int)), some mv, none, none, none] _
  have rest : ∀ H2, Fr p wa H H2 → FdV H2 fm mv → wL (cxOf CX0 P w K mg base N_free_two "_law_free_two" (defScope s_free_two) f cdv A outer s H E).nox ((defBody s_free_two).drop 4) { nx := fun _ H' => Q .non H', rt := Q } [some (.ref wa), some (.int (many : Int)), some (.int lv), some (.int room), some (.str z), some (kV r), some (.int (wh : Int)), some (.ref p), some (.int ((1 + k0 : Nat) : Int)), some mv, none, none, none] H2 := by
    intro H2 f2 hm2
    have rest2 : ∀ (inner : Int), wL (cxOf CX0 P w K mg base N_free_two "_law_free_two" (defScope s_free_two) f cdv A outer s H E).nox ((defBody s_free_two).drop 6) { nx := fun _ H' => Q .non H', rt := Q } [some (.ref wa), some (.int (many : Int)), some (.int lv), some (.int room), some (.str z), some (kV r), some (.int (wh : Int)), some (.ref p), some (.int ((1 + k0 : Nat) : Int)), some mv, none, some (.int inner), none] H2 := by
      intro inner
      refine l_cons (s_set (e_call (by exact FD) (by exact hr) (by omega) ?_))
      walk_at "sts"
      refine ⟨wa, p, 1 + k0, lv, inner, rfl, f2.wy, f2.pl, by omega, by omega, hlv, by omega, fun v1 t1 H3 f3 hv1 hg1 hs1 => ?_⟩
      have f23 := f2.trans f3
      show wL _ _ _ [some (.ref wa), some (.int (many : Int)), some (.int lv), some (.int room), some (.str z), some (kV r), some (.int (wh : Int)), some (.ref p), some (.int ((1 + k0 : Nat) : Int)), some mv, some v1, some (.int inner), none] _
      refine l_cons (s_set (e_call (by exact FD) (by exact hr) (by omega) ?_))
      walk_at "sts"
      rw [es]
      refine ⟨wa, p, many - (1 + k0), lv + 1, room, rfl, f23.wy, f23.pl, by omega, by omega, by omega, by omega, fun v2 t2 H4 f4 hv2 hg2 hs2 => ?_⟩
      have f24 := f23.trans f4
      have hv1' := hv1.ts (f4.ts f23.pl f23.wy)
      have hm4 := hm2.ts ((f3.trans f4).ts f2.pl f2.wy)
      show wL _ _ _ [some (.ref wa), some (.int (many : Int)), some (.int lv), some (.int room), some (.str z), some (kV r), some (.int (wh : Int)), some (.ref p), some (.int ((1 + k0 : Nat) : Int)), some mv, some v1, some (.int inner), some v2] _
      refine l_cons (s_if (t_cmp ?_))
      walk_at "sts"
      refine if2 (fun _ => ?_) (fun _ => ?_)
      · walk_at "sts"
        refine ⟨by show 2 ≤ sizeLine; decide, fun w1 H5 e5 n5 h5 => ?_⟩
        walk_at "sts"
        refine ⟨by show 2 ≤ sizeLine; decide, fun w2 H6 e6 n6 h6 => ?_⟩
        walk_at "sts"
        refine ⟨by show 3 ≤ sizeLine; decide, fun w3 H7 e7 n7 h7 => ?_⟩
        walk_at "sts"
        refine ⟨by show 5 ≤ sizeLine; decide, fun w4 H8 e8 n8 h8 => ?_⟩
        have e48 := ((e5.trans e6).trans e7).trans e8
        have hc : FdV H8 (.c z) (.ref w3) := ⟨w3, w1, w2, rfl, e8 _ _ h7, e8 _ _ (e7 _ _ (e6 _ _ h5)), e8 _ _ (e7 _ _ h6)⟩
        refine q _ (.bi ⟨.cut, none, [fm, .c z]⟩ t1 t2) H8 (f24.same e48) ⟨w4, [.str "cut", mv, .ref w3], v1, v2, rfl, h8, ⟨[mv, .ref w3], rfl, ⟨_, _, rfl, hm4.ts (Same.ts e48), _, _, rfl, hc, rfl⟩⟩, hv1'.ts (Same.ts e48), hv2.ts (Same.ts e48)⟩ (good_bi ⟨rfl, rfl⟩ rfl (fun r h => by cases h) hg1 hg2) ?_
        show t1.size + t2.size + 1 ≤ _
        omega
      · walk_at "sts"
        refine ⟨by show 5 ≤ sizeLine; decide, fun w4 H8 e8 n8 h8 => ?_⟩
        refine q _ (.bi ⟨.pay, some r, [fm]⟩ t1 t2) H8 (f24.same e8) ⟨w4, [.str "pay", kV r, mv], v1, v2, rfl, h8, ⟨[mv], rfl, ⟨_, _, rfl, hm4.ts (Same.ts e8), rfl⟩⟩, hv1'.ts (Same.ts e8), hv2.ts (Same.ts e8)⟩ (good_bi ⟨rfl, rfl⟩ rfl (fun r' h => by cases h; exact hr0) hg1 hg2) ?_
        show t1.size + t2.size + 1 ≤ _
        omega
    refine l_cons (s_set (e_var ?_))
    show wL _ _ _ [some (.ref wa), some (.int (many : Int)), some (.int lv), some (.int room), some (.str z), some (kV r), some (.int (wh : Int)), some (.ref p), some (.int ((1 + k0 : Nat) : Int)), some mv, none, some (.int room), none] _
    refine l_cons (s_if (t_cmp (e_var (e_str ?_))))
    rcases hmf with rfl | ⟨a, b, rfl, ha1, ha3, hb0⟩
    · rw [show mv = _ from hm2]
      refine o_neS ⟨_, rfl, iteF (l_nil ?_)⟩
      rw [← (show mv = _ from hm2)]
      exact rest2 room
    · obtain ⟨mt, rfl, hmt⟩ := id hm2
      refine o_neD (by exact hr) (.tup (SqT.of hmt) (.cons (.int _) (.cons (.int _) .nil))) (.str _) rfl once_shaped ⟨_, rfl, iteT ?_⟩
      refine l_cons (s_set (e_bin (e_var (e_ix (e_var (e_int ?_))))))
      refine ix_t (by exact SqT.of hmt) at0 ?_
      refine o_fdiv ⟨by omega, by omega⟩ (l_nil ?_)
      exact rest2 _
  have hmv1 := hmv
  refine l_cons (s_if (t_w (w_and (t_cmp ?_))))
  walk_at "sts"
  refine ⟨by show 2 ≤ sizeLine; decide, fun tp H2 e2 n2 h2 => ?_⟩
  have f2 := f1.same e2
  refine o_inT (by exact SqT.of h2) rfl rfl ⟨_, rfl, ?_⟩
  cases inV (.int (wh : Int)) [V.int 0, V.int 3] with
  | false => exact iteF (iteF (l_nil (rest H2 f2 (hmv1.ts (Same.ts e2)))))
  | true =>
    refine iteT (w_and1 (t_cmp (e_ix (e_var (e_str ?_)))))
    obtain ⟨off2, hw2⟩ := f2.wy
    refine ix_d (by exact hr) ⟨wa, .int off2, rfl, dg_k hw2 (by rfl), ?_⟩
    walk_at "sts"
    refine if2 (fun _ => ?_) (fun _ => l_nil (rest H2 f2 (hmv1.ts (Same.ts e2))))
    refine l_cons (s_dput (hu_of hr) (e_bin (e_ix (e_var (e_str ?_)))))
    refine ix_d (by exact hr) ⟨wa, .int off2, rfl, dg_k hw2 (by rfl), ?_⟩
    walk_at "sts"
    refine ⟨wa, _, rfl, .inl ⟨_, Sum.inr "offers", hw2, rfl, by show 2 < 2 ^ 24; decide, rfl⟩, ?_⟩
    have f3 : Fr p wa H (upd H2 wa (.dK (putK [(Sum.inr "pool", .ref p), (Sum.inr "offers", .int off2)] (Sum.inr "offers") (.int (off2 - 1))))) := ⟨fun c o c1 c2 hc => by rw [upd_ne c2]; exact f2.bt c o c1 c2 hc, let ⟨x, y, z, e⟩ := f2.pl; ⟨x, y, z, by rw [upd_ne (Ne.symm nwp)]; exact e⟩, ⟨off2 - 1, by rw [upd_same]; rfl⟩⟩
    generalize upd H2 wa (.dK (putK [(Sum.inr "pool", .ref p), (Sum.inr "offers", .int off2)] (Sum.inr "offers") (.int (off2 - 1)))) = H3 at f3 ⊢
    refine l_cons (s_set (e_call (by exact FD) (by exact hr) (by omega) ?_))
    walk_at "sts"
    refine ⟨wa, p, 1 + k0, lv, room, rfl, f3.wy, f3.pl, by omega, by omega, hlv, by omega, fun v1 t1 H4 f4 hv1 hg1 hs1 => ?_⟩
    have f34 := f3.trans f4
    refine l_cons (s_ret (e_tup (a_cons (e_str (a_cons (e_var (a_cons ?_)))))))
    refine e_call (by exact FD) (by exact hr) (by omega) ?_
    walk_at "sts"
    rw [es]
    refine ⟨wa, p, many - (1 + k0), lv, room, rfl, f34.wy, f34.pl, by omega, by omega, hlv, by omega, fun v2 t2 H5 f5 hv2 hg2 hs2 => ?_⟩
    have f35 := f34.trans f5
    have hv1' := hv1.ts (f5.ts f34.pl f34.wy)
    refine a_nil ⟨by show 3 ≤ sizeLine; decide, fun w4 H8 e8 n8 h8 => ?_⟩
    refine q _ (.bi ⟨.offer, none, []⟩ t1 t2) H8 (f35.same e8) ⟨w4, [.str "offer"], v1, v2, rfl, h8, ⟨[], rfl, rfl⟩, hv1'.ts (Same.ts e8), hv2.ts (Same.ts e8)⟩ (good_bi ⟨rfl, rfl⟩ rfl (fun r h => by cases h) hg1 hg2) ?_
    show t1.size + t2.size + 1 ≤ _
    omega
end



section
variable {P : Program} {w : World} {K : PySem.W.Frag} {mg : Str → Option Value} {base : Heap}
theorem ok_freeS (n : Nat) (T : Top K mg "_law_free" s_free) (mInt : mg "int" = none) (FN : Fn P w K mg base 1 "_law_next" spNext) (F1 : ∀ m, n = m + 1 → Fn P w K mg base (2 * m + 4) "_law_free_one" (spOne m)) (F2 : ∀ m, n = m + 1 → Fn P w K mg base (2 * m + 4) "_law_free_two" (spTwo m)) : Fn P w K mg base (2 * n + 3) "_law_free" (spDraw n) := by
  refine fn_ok T sc_free so_free (fun vs H Q E h => by obtain ⟨wa, p, many, lv, room, rfl, _⟩ := h; rfl) (fun _ _ _ _ _ _ us hl => match us, hl with | [_, _, _, _], _ => rfl) fun f cdv A outer s H vs Q E hr h nd => ?_
  obtain ⟨wa, p, many, lv, room, rfl, hw, hp, hm1, hmn, hlv, hlm, q⟩ := h
  have nwp := hw.ne hp
  obtain ⟨m, rfl⟩ : ∃ m, n = m + 1 := ⟨n - 1, by omega⟩
  obtain ⟨off, hw0⟩ := id hw
  refine l_cons (s_set (e_ix (e_var (e_str ?_))))
  refine ix_d (by exact hr) ⟨wa, .ref p, rfl, dg_k hw0 (by rfl), ?_⟩
  show wL _ _ _ [some (.ref wa), some (.int (many : Int)), some (.int lv), some (.int room), some (.ref p), none, none, none, none] _
  walk_at "sts"
  refine ⟨by show 12 ≤ sizeLine; decide, fun nl H0 e0 n0 h0 => ?_⟩
  have f0 := (Fr.refl hp hw).same e0
  have nnp : nl ≠ p := fun z => by subst z; obtain ⟨_, _, _, e⟩ := hp; rw [n0] at e; cases e
  show wL _ _ _ [some (.ref wa), some (.int (many : Int)), some (.int lv), some (.int room), some (.ref p), some (.ref nl), none, none, none] _
  refine l_cons (s_set (e_ix (e_var (e_call (by exact FN) (by exact hr) (by omega) ?_))))
  walk_at "sts"
  refine ⟨p, 12, rfl, by decide, by decide, f0.pl, fun d1 H1 a0 a1 b1 p1 => ?_⟩
  have f1 := f0.next nwp b1 p1
  obtain ⟨j, rfl⟩ := Int.eq_ofNat_of_zero_le a0
  obtain ⟨z, hz, hzn⟩ := nm_at (show j < 12 by omega)
  refine ix_l (by exact SqL.of (b1 _ _ nnp h0)) (atI_nat hz) ?_
  show wL _ _ _ [some (.ref wa), some (.int (many : Int)), some (.int lv), some (.int room), some (.ref p), some (.ref nl), some (.str z), none, none] _
  refine l_cons (s_set (e_var ?_))
  show wL _ _ _ [some (.ref wa), some (.int (many : Int)), some (.int lv), some (.int room), some (.ref p), some (.ref nl), some (.str z), some (kV (.inr z)), none] _
  have rest : ∀ (r : Key) H2, GoodR r → Fr p wa H H2 → wL (cxOf CX0 P w K mg base N_free "_law_free" (defScope s_free) f cdv A outer s H E).nox ((defBody s_free).drop 5) { nx := fun _ H' => Q .non H', rt := Q } [some (.ref wa), some (.int (many : Int)), some (.int lv), some (.int room), some (.ref p), some (.ref nl), some (.str z), some (kV r), none] H2 := by
    intro r H2 hgr f2
    refine l_cons (s_set (e_call (by exact FN) (by exact hr) (by omega) ?_))
    walk_at "sts"
    refine ⟨p, 8, rfl, by decide, by decide, f2.pl, fun d3 H3 c0 c1 b3 p3 => ?_⟩
    have f3 := f2.next nwp b3 p3
    obtain ⟨k, rfl⟩ := Int.eq_ofNat_of_zero_le c0
    show wL _ _ _ [some (.ref wa), some (.int (many : Int)), some (.int lv), some (.int room), some (.ref p), some (.ref nl), some (.str z), some (kV r), some (.int (k : Int))] _
    have own : (many : Int) < 2 → wL (cxOf CX0 P w K mg base N_free "_law_free" (defScope s_free) f cdv A outer s H E).nox ((defBody s_free).drop 7) { nx := fun _ H' => Q .non H', rt := Q } [some (.ref wa), some (.int (many : Int)), some (.int lv), some (.int room), some (.ref p), some (.ref nl), some (.str z), some (kV r), some (.int (k : Int))] H3 := by
      intro h2
      refine l_cons (s_if (t_cmp (e_var (e_int (o_lt ⟨_, rfl, ifT h2 ?_⟩)))))
      walk_at "sts"
      refine ⟨by show 2 ≤ sizeLine; decide, fun t H4 e4 n4 h4 => ?_⟩
      refine q _ (.le ⟨.own, some r, []⟩) H4 (f3.same e4) ⟨t, [.str "own", kV r], rfl, h4, ⟨[], rfl, rfl⟩⟩ (good_le ⟨rfl, rfl⟩ rfl fun r' h => by cases h; exact hgr) hm1
    have two : ¬ (many : Int) < 2 → wL (cxOf CX0 P w K mg base N_free "_law_free" (defScope s_free) f cdv A outer s H E).nox ((defBody s_free).drop 7) { nx := fun _ H' => Q .non H', rt := Q } [some (.ref wa), some (.int (many : Int)), some (.int lv), some (.int room), some (.ref p), some (.ref nl), some (.str z), some (kV r), some (.int (k : Int))] H3 := by
      intro h2
      have em : (many : Int) - 1 = ((many - 1 : Nat) : Int) := by omega
      have ek : (k : Int) % 4 = ((k % 4 : Nat) : Int) := by omega
      refine l_cons (s_if (t_cmp (e_var (e_int (o_lt ⟨_, rfl, ifF h2 (l_nil ?_)⟩)))))
      refine l_cons (s_if (t_w (w_or (t_cmp (e_var (e_int (o_eqI ⟨_, rfl, ?_⟩)))))))
      by_cases h3 : (many : Int) = 2
      · refine ifT h3 (iteT ?_)
        refine l_cons (s_ret (e_call (by exact F1 m rfl) (by exact hr) (by omega) ?_))
        refine a_cons (e_var (a_cons (e_bin (e_var (e_int (o_sub ?_))))))
        rw [em]
        walk_at "sts"
        refine o_mod (by decide) ?_
        rw [ek]
        walk_at "sts"
        refine ⟨wa, p, many - 1, lv, room, z, r, k % 4, rfl, f3.wy, f3.pl, by omega, by omega, hlv, by omega, hgr, fun v t H4 f4 hv hg hs => ?_⟩
        exact q v t H4 (f3.trans f4) hv hg (by omega)
      · refine ifF h3 (w_or1 (t_cmp (e_var (e_int (o_lt ⟨_, rfl, ?_⟩)))))
        refine if2 (fun _ => ?_) (fun _ => l_nil ?_)
        · refine l_cons (s_ret (e_call (by exact F1 m rfl) (by exact hr) (by omega) ?_))
          refine a_cons (e_var (a_cons (e_bin (e_var (e_int (o_sub ?_))))))
          rw [em]
          walk_at "sts"
          refine o_mod (by decide) ?_
          rw [ek]
          walk_at "sts"
          refine ⟨wa, p, many - 1, lv, room, z, r, k % 4, rfl, f3.wy, f3.pl, by omega, by omega, hlv, by omega, hgr, fun v t H4 f4 hv hg hs => ?_⟩
          exact q v t H4 (f3.trans f4) hv hg (by omega)
        · refine l_cons (s_ret (e_call (by exact F2 m rfl) (by exact hr) (by omega) ?_))
          refine a_cons (e_var (a_cons (e_bin (e_var (e_int (o_sub ?_))))))
          rw [em]
          walk_at "sts"
          refine o_mod (by decide) ?_
          rw [ek]
          walk_at "sts"
          refine ⟨wa, p, many - 1, lv, room, z, r, k % 4, rfl, f3.wy, f3.pl, by omega, by omega, hlv, by omega, hgr, fun v t H4 f4 hv hg hs => ?_⟩
          exact q v t H4 (f3.trans f4) hv hg (by omega)
    refine l_cons (s_if (t_w (w_and (t_cmp ?_))))
    walk_at "sts"
    by_cases h2 : (many : Int) < 2
    · refine ifT h2 (w_and1 (t_cmp ?_))
      walk_at "sts"
      refine if2 (fun _ => ?_) (fun _ => l_nil (own h2))
      walk_at "sts"
      refine ⟨by show 2 ≤ sizeLine; decide, fun t H4 e4 n4 h4 => ?_⟩
      refine q _ (.le ⟨.cite, none, [.s z]⟩) H4 (f3.same e4) ⟨t, [.str "cite", .str z], rfl, h4, ⟨[.str z], rfl, ⟨_, _, rfl, rfl, rfl⟩⟩⟩ (good_le ⟨rfl, rfl⟩ rfl fun r' h => by cases h) hm1
    · exact ifF h2 (iteF (l_nil (two h2)))
  refine l_cons (s_if (t_w (w_and (t_cmp ?_))))
  walk_at "sts"
  by_cases h0l : 0 < lv
  · refine ifT h0l (w_and1 (t_cmp (e_call (by exact FN) (by exact hr) (by omega) ?_)))
    walk_at "sts"
    refine ⟨p, 2, rfl, by decide, by decide, f1.pl, fun d2 H2 _ _ b2 p2 => ?_⟩
    have f2 := f1.next nwp b2 p2
    walk_at "sts"
    refine if2 (fun _ => ?_) (fun _ => l_nil (rest (.inr z) H2 hzn f2))
    refine l_cons (s_set (e_call (by exact FN) (by exact hr) (by omega) ?_))
    walk_at "sts"
    exact ⟨p, lv, rfl, h0l, by omega, f2.pl, fun d3 H3 c0 c1 b3 p3 => l_nil (rest (.inl d3) H3 c0 (f2.next nwp b3 p3))⟩
  · exact ifF h0l (iteF (l_nil (rest (.inr z) H1 hzn f1)))
end
section
variable {P : Program} {w : World} {K : PySem.W.Frag} {mg : Str → Option Value} {base : Heap}
theorem ok_free (T : Top K mg "_law_free" s_free) (T1 : Top K mg "_law_free_one" s_free_one) (T2 : Top K mg "_law_free_two" s_free_two) (mInt : mg "int" = none) (FN : Fn P w K mg base 1 "_law_next" spNext) (FM : Fn P w K mg base 2 "_law_mode" spMode) : ∀ n, Fn P w K mg base (2 * n + 3) "_law_free" (spDraw n)
  | 0 => ok_freeS 0 T mInt FN (fun m h => by cases h) fun m h => by cases h
  | n + 1 => ok_freeS (n + 1) T mInt FN (fun m h => by cases h; exact ok_one n T1 mInt FN (ok_free T T1 T2 mInt FN FM n)) fun m h => by cases h; exact ok_two n T2 FN FM (ok_free T T1 T2 mInt FN FM n)
end



abbrev Wt := Tr × Int × Int × Bool
abbrev Us := Key × Int × Int × Bool
/-- a tuple of a thing, a product, days and a mark -/
def QdV (H : Hp) (y : V) (p : Int × Int × Bool) (v : V) : Prop := ∃ t, v = .ref t ∧ H t = some (.tup [y, .int p.1, .int p.2.1, .bl p.2.2])
def WkV (H : Hp) (x : Wt) (v : V) : Prop := ∃ y, QdV H y x.2 v ∧ TrV H x.1 y
def UeV (H : Hp) (x : Us) (v : V) : Prop := QdV H (kV x.1) x.2 v
theorem QdV.ts {H H' : Hp} (e : TS H H') {y : V} {p : Int × Int × Bool} {v : V} : QdV H y p v → QdV H' y p v := fun ⟨t, h1, h2⟩ => ⟨t, h1, e _ _ h2⟩
theorem WkV.ts {H H' : Hp} (e : TS H H') {x : Wt} {v : V} : WkV H x v → WkV H' x v := fun ⟨y, h1, h2⟩ => ⟨y, h1.ts e, h2.ts e⟩
theorem UeV.ts {H H' : Hp} (e : TS H H') {x : Us} {v : V} : UeV H x v → UeV H' x v := fun h => QdV.ts e h
/-- lists of such -/
def AlV {α : Type} (R : Hp → α → V → Prop) (H : Hp) : List α → List V → Prop
  | [], vs => vs = []
  | x :: xs, vs => ∃ v us, vs = v :: us ∧ R H x v ∧ AlV R H xs us
section
variable {α : Type} {R : Hp → α → V → Prop}
theorem AlV.up {H H' : Hp} (e : ∀ x v, R H x v → R H' x v) : ∀ {f : List α} {v : List V}, AlV R H f v → AlV R H' f v
  | [], _, h => h
  | _ :: _, _, ⟨v, us, h1, h2, h3⟩ => ⟨v, us, h1, e _ _ h2, h3.up e⟩
theorem AlV.len {H : Hp} : ∀ {f : List α} {v : List V}, AlV R H f v → v.length = f.length
  | [], _, h => by rw [show _ = _ from h]; rfl
  | _ :: _, _, ⟨v, us, h1, h2, h3⟩ => by rw [h1, List.length_cons, List.length_cons, h3.len]
theorem AlV.append {H : Hp} : ∀ {f g : List α} {v u : List V}, AlV R H f v → AlV R H g u → AlV R H (f ++ g) (v ++ u)
  | [], _, _, _, h, k => by rw [show _ = _ from h]; exact k
  | _ :: _, _, _, _, ⟨v, us, h1, h2, h3⟩, k => by
    subst h1
    exact ⟨v, _, rfl, h2, h3.append k⟩
theorem AlV.one {H : Hp} {x : α} {v : V} (h : R H x v) : AlV R H [x] [v] := ⟨v, [], rfl, h, rfl⟩
theorem AlV.get {H : Hp} : ∀ {f : List α} {v : List V} {i : Nat} {x : V}, AlV R H f v → v[i]? = some x → ∃ h, f[i]? = some h ∧ R H h x
  | [], _, i, x, h, e => by rw [show _ = _ from h] at e; cases e
  | f :: _, _, 0, x, ⟨v, us, h1, h2, h3⟩, e => by subst h1; cases e; exact ⟨f, rfl, h2⟩
  | _ :: fs, _, i + 1, x, ⟨v, us, h1, h2, h3⟩, e => by
    subst h1
    exact h3.get (i := i) (by simpa using e)
theorem AlV.last {H : Hp} : ∀ {f : List α} {x : α} {v : List V}, AlV R H (f ++ [x]) v → ∃ us u, v = us ++ [u] ∧ AlV R H f us ∧ R H x u
  | [], x, v, ⟨u, us, h1, h2, h3⟩ => by
    rw [show us = [] from h3] at h1
    exact ⟨[], u, h1, rfl, h2⟩
  | y :: f, x, v, ⟨u, us, h1, h2, h3⟩ => by
    obtain ⟨ws, w, e, h4, h5⟩ := AlV.last h3
    exact ⟨u :: ws, w, by rw [h1, e]; rfl, ⟨u, ws, rfl, h2, h4⟩, h5⟩
end
def mdT (t : Tr) : Option (Int × Int) := if t.hd.k = .pay ∨ t.hd.k = .cut then hdM t.hd else none
def abv (x : Wt) : List Wt := match x.1.ks, mdT x.1 with
  | a :: r, some m => (a, x.2.1 * m.1, x.2.2.1 + m.2, false) :: r.map fun b => (b, x.2)
  | ks, _ => ks.map fun b => (b, x.2)
theorem k_dec (k c : Kd) : decide (k.nm = c.nm) = decide (k = c) := by cases k <;> cases c <;> decide +kernel
section
variable {P : Program} {w : World} {K : PySem.W.Frag} {mg : Str → Option Value} {base : Heap} {C : Addr}
def spAbv : Sp := fun vs H Q _ => ∃ v t pr dy pl, vs = [v, .int pr, .int dy, .bl pl] ∧ TrV H t v ∧ t.Ok ∧ MdH t.hd ∧ ∀ l us H', Same H H' → H l = none → H' l = some (.lst us) → AlV WkV H' (abv (t, pr, dy, pl)) us → Q (.ref l) H'
theorem ok_above (T : Top K mg "_law_above" s_above) (FP : Fn P w K mg base 2 "_law_parts" spParts) : Fn P w K mg base 3 "_law_above" spAbv := by
  refine fn_okC T sc_above so_above (fun vs H Q E h => by obtain ⟨v, t, pr, dy, pl, rfl, _⟩ := h; rfl) (fun _ _ _ _ _ _ us hl => match us, hl with | [_, _, _, _], _ => rfl) fun f cdv A outer s H vs Q E hr h nd => ?_
  obtain ⟨v, t, pr, dy, pl, rfl, hv, ho, hmd, q⟩ := h
  refine l_cons (s_lcL (by exact bk_above0) (e_call (by exact FP) (by exact hr) (by decide) ?_))
  walk_at "sts"
  refine ⟨v, t, rfl, hv, ho.hd.1, fun l us H1 e1 n1 h1 hus => ⟨l, us, rfl, SqL.of h1, fun D nD => ?_⟩⟩
  have nDl : D ≠ l := fun z => by subst z; rw [h1] at nD; cases nD
  have lks := ks_le t
  have lus := hus.len
  refine ⟨fun k H2 => ∃ acc, H2 D = some (.lst acc) ∧ AlV WkV H2 ((t.ks.take k).map fun b => (b, pr, dy, pl)) acc ∧ ∀ c u, H1 c = some u → H2 c = some u, ⟨[], upd_same, by rw [List.take_zero]; exact rfl, fun c u hc => by rw [upd_ne (ne_of_none hc nD)]; exact hc⟩, fun k H2 _ p => by obtain ⟨_, _, _, p3⟩ := p; exact SqL.of (p3 _ _ h1), ?_, ?_⟩
  · intro k y H2 hk p s0 H0 C0 cl fp IB
    obtain ⟨acc, p1, p2, p3⟩ := p
    obtain ⟨a, ha, hav⟩ := (hus.ts (Same.ts p3)).get hk
    have lac := p2.len
    rw [List.length_map, List.length_take] at lac
    refine e_tup (a_cons (b_var (a_cons (b_var (a_cons (b_var (a_cons (b_var (a_nil ⟨by show 4 ≤ sizeLine; decide, fun tp H3 e3 n3 h3 => ?_⟩)))))))))
    have p13 := e3 _ _ p1
    have t3 : TS H2 (upd H3 D (.lst (acc ++ [.ref tp]))) := (Same.ts e3).trans (TS.upd p13)
    refine ⟨acc, p13, by show _ < 2 ^ 24; omega, _, upd_same, ?_, fun c u hc => by rw [upd_ne (ne_of_none hc nD)]; exact e3 _ _ (p3 c u hc)⟩
    rw [take_snoc' ha, List.map_append]
    exact (p2.up fun x v hx => hx.ts t3).append (AlV.one ⟨y, ⟨tp, rfl, TS.upd p13 _ _ h3⟩, hav.ts t3⟩)
  · intro H2 p
    obtain ⟨acc, p1, p2, p3⟩ := p
    rw [lus, List.take_length] at p2
    have e2 : Same H H2 := fun c u hc => p3 _ _ (e1 _ _ hc)
    have nDH : H D = none := none_of e1 nD
    obtain ⟨cp, xs, ys, rfl, hcp, hx, _⟩ := hv.split
    obtain ⟨gs, rfl, hgs⟩ := id hx
    have hcp2 := e2 _ _ hcp
    show wL _ _ _ [some (.ref cp), some (.int pr), some (.int dy), some (.bl pl), some (.ref D), none, none] _
    have plain : mdT t = none → Q (.ref D) H2 := fun z => by
      refine q D acc H2 e2 nDH p1 ?_
      have e : abv (t, pr, dy, pl) = t.ks.map fun b => (b, pr, dy, pl) := by
        simp only [abv, z]
        cases t.ks <;> rfl
      rw [e]
      exact p2
    refine l_cons (s_set (e_str ?_))
    show wL _ _ _ [some (.ref cp), some (.int pr), some (.int dy), some (.bl pl), some (.ref D), some (.str "once"), none] _
    have rest : ∀ (m : V), FdV H2 (.s "once") m ∧ mdT t = none ∨ (∃ fm, FdV H2 fm m ∧ ModeF fm ∧ mdT t = mdF fm ∧ t.ks.length = 2) →
        wL (cxOf CX0 P w K mg base (N_above ++ C_above) "_law_above" (defScope s_above) f cdv A outer s H E).nox ((defBody s_above).drop 4) { nx := fun _ H' => Q .non H', rt := Q } [some (.ref cp), some (.int pr), some (.int dy), some (.bl pl), some (.ref D), some m, none] H2 := by
      intro m hm
      have once : m = .str "once" → mdT t = none → wL (cxOf CX0 P w K mg base (N_above ++ C_above) "_law_above" (defScope s_above) f cdv A outer s H E).nox ((defBody s_above).drop 4) { nx := fun _ H' => Q .non H', rt := Q } [some (.ref cp), some (.int pr), some (.int dy), some (.bl pl), some (.ref D), some m, none] H2 := by
        intro e z
        subst e
        refine l_cons (s_if (t_cmp (e_var (e_str (o_neS ⟨_, rfl, ?_⟩)))))
        exact ite_f (by simp) (l_nil (l_cons (s_ret (e_var (plain z)))))
      rcases hm with ⟨e, z⟩ | ⟨fm, hf, hmo, hz, hl2⟩
      · exact once e z
      · rcases hmo with rfl | ⟨a, b, rfl, ha1, ha3, hb0⟩
        · exact once hf hz
        · obtain ⟨mt, rfl, hmt⟩ := id hf
          refine l_cons (s_if (t_cmp (e_var (e_str ?_))))
          refine o_neD (by exact hr) (.tup (SqT.of hmt) (.cons (.int _) (.cons (.int _) .nil))) (.str _) rfl once_shaped ⟨_, rfl, iteT ?_⟩
          obtain ⟨x, y, hxy⟩ : ∃ x y, t.ks = [x, y] := by
            match t.ks, hl2 with
            | [x, y], _ => exact ⟨x, y, rfl⟩
          rw [hxy] at p2
          obtain ⟨v0, us0, rfl, ⟨y0, ⟨t0, rfl, ht0⟩, hy0⟩, hr0⟩ := p2
          refine l_cons (s_sub (e_tup (a_cons (e_ix (e_ix (e_var (e_int (ix_l (by exact SqL.of p1) at0 (e_int (ix_t (by exact SqT.of ht0) at0 ?_))))))))))
          refine a_cons (e_bin (e_var (e_ix (e_var (e_int (ix_t (by exact SqT.of hmt) at0 ?_))))))
          refine o_mul (.inr ⟨by omega, by omega⟩) ?_
          refine a_cons (e_bin (e_var (e_ix (e_var (e_int (ix_t (by exact SqT.of hmt) at1 ?_))))))
          refine o_add (a_cons (e_bl (a_nil ⟨by show 4 ≤ sizeLine; decide, fun tp H3 e3 n3 h3 => ?_⟩)))
          have p13 := e3 _ _ p1
          refine e_var (e_int (set_l p13 (k := 0) (by simp [ixN]) ?_))
          have t3 : TS H2 (upd H3 D (.lst ((V.ref t0 :: us0).set 0 (.ref tp)))) := (Same.ts e3).trans (TS.upd p13)
          refine l_nil (l_cons (s_ret (e_var (q D _ _ (fun c u hc => ?_) nDH upd_same ?_))))
          · rw [upd_ne (ne_of_none hc nDH)]
            exact e3 _ _ (e2 _ _ hc)
          · unfold abv
            rw [show mdT (t, pr, dy, pl).1 = some (a, b) from hz, show (t, pr, dy, pl).1.ks = [x, y] from hxy]
            exact ⟨.ref tp, us0, rfl, ⟨y0, ⟨tp, rfl, TS.upd p13 _ _ h3⟩, hy0.ts t3⟩, hr0.up fun x v hx => hx.ts t3⟩
    by_cases h1k : t.hd.k = .pay
    · have hr1 : ∃ r, t.hd.r = some r := by
        have := ho.hd.1.1
        rw [h1k] at this
        cases hr0 : t.hd.r with
        | none => rw [hr0] at this; cases this
        | some r => exact ⟨r, rfl⟩
      obtain ⟨r, hr1⟩ := hr1
      obtain ⟨fm, rs, hf0, hm⟩ := hmd (.inl h1k)
      obtain ⟨v0, vs0, rfl, hv0, _⟩ : ∃ v0 vs0, gs = v0 :: vs0 ∧ FdV H fm v0 ∧ FsV H rs vs0 := by
        rw [hf0] at hgs
        exact hgs
      have hcp3 : H2 cp = some (.tup (.str t.hd.k.nm :: kV r :: v0 :: (vs0 ++ ys))) := by rw [hcp2, hr1]; rfl
      refine l_cons (s_if (t_cmp (e_ix (e_var (e_int (ix_t (by exact SqT.of hcp2) at0 (e_str (o_eqS ⟨_, rfl, ?_⟩))))))))
      rw [show ("pay" : Str) = Kd.pay.nm from rfl, k_dec]
      refine ifT h1k (l_cons (s_set (e_ix (e_var (e_int (ix_t (by exact SqT.of hcp3) (i := 2) (atI_nat (j := 2) rfl) ?_))))))
      refine l_nil (l_cons (s_if (t_cmp (e_ix (e_var (e_int (ix_t (by exact SqT.of hcp2) at0 (e_str (o_eqS ⟨_, rfl, ?_⟩)))))))))
      rw [show ("cut" : Str) = Kd.cut.nm from rfl, k_dec]
      refine ifF (by rw [h1k]; decide) (l_nil (rest v0 (.inr ⟨fm, hv0.ts (Same.ts e2), hm, ?_, ?_⟩)))
      · unfold mdT hdM
        rw [if_pos (.inl h1k), hf0]
      · rw [← ho.hd.2.1, h1k]; rfl
    · refine l_cons (s_if (t_cmp (e_ix (e_var (e_int (ix_t (by exact SqT.of hcp2) at0 (e_str (o_eqS ⟨_, rfl, ?_⟩))))))))
      rw [show ("pay" : Str) = Kd.pay.nm from rfl, k_dec]
      refine ifF h1k (l_nil ?_)
      refine l_cons (s_if (t_cmp (e_ix (e_var (e_int (ix_t (by exact SqT.of hcp2) at0 (e_str (o_eqS ⟨_, rfl, ?_⟩))))))))
      rw [show ("cut" : Str) = Kd.cut.nm from rfl, k_dec]
      by_cases h2k : t.hd.k = .cut
      · have hr1 : t.hd.r = none := by
          have := ho.hd.1.1
          rw [h2k] at this
          cases hr0 : t.hd.r with
          | none => rfl
          | some r => rw [hr0] at this; cases this
        obtain ⟨fm, rs, hf0, hm⟩ := hmd (.inr h2k)
        obtain ⟨v0, vs0, rfl, hv0, _⟩ : ∃ v0 vs0, gs = v0 :: vs0 ∧ FdV H fm v0 ∧ FsV H rs vs0 := by
          rw [hf0] at hgs
          exact hgs
        have hcp3 : H2 cp = some (.tup (.str t.hd.k.nm :: v0 :: (vs0 ++ ys))) := by rw [hcp2, hr1]; rfl
        refine ifT h2k (l_cons (s_set (e_ix (e_var (e_int (ix_t (by exact SqT.of hcp3) at1 ?_))))))
        refine l_nil (rest v0 (.inr ⟨fm, hv0.ts (Same.ts e2), hm, ?_, ?_⟩))
        · unfold mdT hdM
          rw [if_pos (.inr h2k), hf0]
        · rw [← ho.hd.2.1, h2k]; rfl
      · refine ifF h2k (l_nil (rest _ (.inl ⟨rfl, ?_⟩)))
        unfold mdT
        rw [if_neg (by rintro (z | z); exact h1k z; exact h2k z)]
end



theorem rf4_nm (k : Kd) : inV (.str k.nm) [V.str "own", V.str "pick", V.str "pay", V.str "open"] = k.rf := by cases k <;> decide +kernel
theorem l_join {X : Cx} {st : Stmt} {rest : List Stmt} {C : _} {σ : L2.St} {H : Hp} (Pm : L2.St → Hp → Prop) (h1 : ∀ σ H, Pm σ H → wL X rest C σ H) (h2 : (∀ σ H, Pm σ H → wL X rest C σ H) → wL X (st :: rest) C σ H) : wL X (st :: rest) C σ H := h2 h1
theorem t_own {X : Cx} {a : Expr} {σ : L2.St} {H : Hp} {QT : Bool → Hp → Prop} (b : Bool) (h1 : QT b H) (h2 : QT b H → wT X a σ H QT) : wT X a σ H QT := h2 h1
def ownU (lv : Int) (x : Wt) : List Us := match x.1.hd.r with
  | some r => if below r lv = true then [(r, x.2)] else []
  | none => []
def nextU (x : Wt) (n : Int) : List Wt × Int := if x.1.hd.k = .offer ∧ 0 ≤ n then (((abv x)[(n % 2).toNat]?).toList, n / 2) else (abv x, n)
def usT : Nat → List Wt → Int → Int → List Us
  | 0, _, _, _ => []
  | _ + 1, [], _, _ => []
  | k + 1, x :: st, lv, n => ownU lv x ++ usT k ((nextU x n).1.reverse ++ st) lv (nextU x n).2
theorem usT_nil (k : Nat) (lv n : Int) : usT k [] lv n = [] := by cases k <;> rfl
def WOk (x : Wt) : Prop := x.1.Ok ∧ ∀ h ∈ hds x.1, MdH h
theorem abv_fst (x : Wt) : (abv x).map (·.1) = x.1.ks := by
  obtain ⟨t, p⟩ := x
  cases hm : mdT t <;> cases t <;> simp [abv, hm, Tr.ks]
theorem hds_ks {t a : Tr} (m : a ∈ t.ks) {h : Hd} (hh : h ∈ hds a) : h ∈ hds t := by
  rw [hds_eq]
  exact List.mem_cons_of_mem _ (List.mem_flatMap.mpr ⟨a, m, hh⟩)
theorem WOk.abv {x y : Wt} (o : WOk x) (m : y ∈ abv x) : WOk y := by
  have hm : y.1 ∈ x.1.ks := by rw [← abv_fst]; exact List.mem_map.mpr ⟨y, m, rfl⟩
  exact ⟨o.1.hd.2.2 _ hm, fun h hh => o.2 h (hds_ks hm hh)⟩
theorem abv_len (x : Wt) : (abv x).length = x.1.ks.length := by rw [← abv_fst, List.length_map]
theorem next_sub {x y : Wt} {n : Int} (m : y ∈ (nextU x n).1) : y ∈ abv x := by
  unfold nextU at m
  split at m
  · obtain ⟨i, hi⟩ : ∃ i : Nat, (abv x)[i]? = some y := ⟨_, by simpa using m⟩
    exact List.mem_of_getElem? hi
  · exact m
theorem next_len (x : Wt) (n : Int) : (nextU x n).1.length ≤ 2 := by
  unfold nextU
  split
  · cases (abv x)[(n % 2).toNat]? <;> simp
  · rw [abv_len]; exact ks_le _
section
variable {P : Program} {w : World} {K : PySem.W.Frag} {mg : Str → Option Value} {base : Heap}
def spUses : Sp := fun vs H Q _ => ∃ v t lv n, vs = [v, .int lv, .int n] ∧ TrV H t v ∧ t.Ok ∧ (∀ h ∈ hds t, MdH h) ∧ ∀ l us H', Same H H' → H l = none → H' l = some (.lst us) → AlV UeV H' (usT 200 [(t, 1, 0, true)] lv n) us → Q (.ref l) H'
theorem ok_uses (T : Top K mg "_law_uses" s_uses) (mR : mg "range" = none) (mIs : mg "isinstance" = none) (mStr : mg "str" = none) (mInt : mg "int" = none) (FA : Fn P w K mg base 3 "_law_above" spAbv) : Fn P w K mg base 4 "_law_uses" spUses := by
  refine fn_ok T sc_uses so_uses (fun vs H Q E h => by obtain ⟨v, t, lv, n, rfl, _⟩ := h; rfl) (fun _ _ _ _ _ _ us hl => match us, hl with | [_, _, _], _ => rfl) fun f cdv A outer s H vs Q E hr h nd => ?_
  obtain ⟨v, t, lv, n, rfl, hv, ho, hmd, q⟩ := h
  refine l_cons (s_set (e_lst (a_nil ⟨by show 0 ≤ sizeLine; decide, fun el H1 e1 n1 h1 => ?_⟩)))
  refine l_cons (s_set (e_lst (a_cons (e_tup (a_cons (e_var (a_cons (e_int (a_cons (e_int (a_cons (e_bl (a_nil ⟨by show 4 ≤ sizeLine; decide, fun tp H2 e2 n2 h2 => ?_⟩)))))))))))))
  refine a_nil ⟨by show 1 ≤ sizeLine; decide, fun wl H3 e3 n3 h3 => ?_⟩
  show wL _ _ _ [some v, some (.int lv), some (.int n), some (.ref el), some (.ref wl), none, none, none, none, none, none] _
  have fin : ∀ (l : Addr) us H' x2 x4 x5 x6 x7 x8 x9 x10, Same H H' → H l = none → H' l = some (.lst us) → AlV UeV H' (usT 200 [(t, 1, 0, true)] lv n) us → wL (cxOf CX0 P w K mg base N_uses "_law_uses" (defScope s_uses) f cdv A outer s H E).nox ((defBody s_uses).drop 3) { nx := fun _ H' => Q .non H', rt := Q } [some v, some (.int lv), x2, some (.ref l), x4, x5, x6, x7, x8, x9, x10] H' := by
    intro l us H' x2 x4 x5 x6 x7 x8 x9 x10 e nl hl hus
    exact l_cons (s_ret (e_var (q l us H' e nl hl hus)))
  have e13 : Same H H3 := (e1.trans e2).trans e3
  refine l_cons (s_forR (by assumption) (e_int ⟨200, rfl, by decide, fun k σ H' => ∃ m wl es ws done st x5 x6 x7 x8 x9 x10, σ = [some v, some (.int lv), some (.int m), some (.ref el), some (.ref wl), x5, x6, x7, x8, x9, x10] ∧ Same H H' ∧ H wl = none ∧ el ≠ wl ∧ H' el = some (.lst es) ∧ H' wl = some (.lst ws) ∧ AlV UeV H' done es ∧ AlV WkV H' st.reverse ws ∧ (∀ x ∈ st, WOk x) ∧ st.length ≤ 1 + k ∧ done.length ≤ k ∧ done ++ usT (200 - k) st lv m = usT 200 [(t, 1, 0, true)] lv n, ?_, ?_, ?_⟩))
  · refine ⟨n, wl, [], [.ref tp], [], [(t, 1, 0, true)], _, _, _, _, _, _, rfl, e13, none_of (e1.trans e2) n3, (fun z => by subst z; rw [e2 _ _ h1] at n3; cases n3), e3 _ _ (e2 _ _ h1), h3, rfl, AlV.one ⟨v, ⟨tp, rfl, e3 _ _ h2⟩, hv.ts (Same.ts e13)⟩, fun x hx => ?_, Nat.le_refl _, Nat.le_refl _, rfl⟩
    rw [List.mem_singleton.mp hx]
    exact ⟨ho, hmd⟩
  · intro k σ H' hk p
    obtain ⟨m, wl, es, ws, done, st, x5, x6, x7, x8, x9, x10, rfl, e, nwl, newl, hel, hwl, hdn, hst, hok, lst, ldn, tot⟩ := p
    show wL _ _ _ [some v, some (.int lv), some (.int m), some (.ref el), some (.ref wl), some (.int (k : Int)), x6, x7, x8, x9, x10] _
    refine l_cons (s_if (t_not (t_tru (e_var ⟨_, tru_l hwl, ?_⟩))))
    have lws := hst.len
    rw [List.length_reverse] at lws
    match st, hst, hok, lst, tot, lws with
    | [], hst, hok, lst, tot, lws =>
      obtain rfl : ws = [] := List.length_eq_zero_iff.mp lws
      refine ite_t rfl (l_cons (s_brk ?_))
      rw [usT_nil, List.append_nil] at tot
      subst tot
      exact fin el es H' _ _ _ _ _ _ _ _ e n1 hel hdn
    | x :: st, hst, hok, lst, tot, lws =>
      rw [List.reverse_cons] at hst
      obtain ⟨ws', u, rfl, hst', y, ⟨tq, rfl, htq⟩, hy⟩ := hst.last
      rw [show (!(ws' ++ [V.ref tq]).isEmpty) = true by simp]
      refine ite_f rfl (l_nil ?_)
      obtain ⟨z, pr, dy, pl⟩ := x
      refine l_cons (s_tup4 (e_pop (e_var ⟨wl, ws', .ref tq, rfl, hwl, ?_⟩)))
      have tsU : TS H' (upd H' wl (.lst ws')) := TS.upd hwl
      refine ⟨tq, _, _, _, _, rfl, SqT.of (tsU _ _ htq), ?_⟩
      show wL _ _ _ [some v, some (.int lv), some (.int m), some (.ref el), some (.ref wl), some (.int (k : Int)), some y, some (.int pr), some (.int dy), some (.bl pl), x10] _
      have hokx := hok _ (List.mem_cons_self ..)
      have hwl4 : upd H' wl (.lst ws') wl = some (.lst ws') := upd_same
      have hel4 : upd H' wl (.lst ws') el = some (.lst es) := by rw [upd_ne newl]; exact hel
      have e4 : Same H (upd H' wl (.lst ws')) := fun c o hc => by rw [upd_ne (ne_of_none hc nwl)]; exact e _ _ hc
      have hdn4 := hdn.up fun a b h => h.ts tsU
      have hst4 := hst'.up fun a b h => h.ts tsU
      have hy4 := hy.ts tsU
      generalize upd H' wl (.lst ws') = H4 at *
      obtain ⟨cp, xs, ys, rfl, hcp, hx, _⟩ := hy4.split
      obtain ⟨gs, rfl, _⟩ := id hx
      simp only [List.cons_append, List.append_assoc] at hcp
      -- behind the record
      refine l_join (fun σ H5 => ∃ es', σ = [some v, some (.int lv), some (.int m), some (.ref el), some (.ref wl), some (.int (k : Int)), some (.ref cp), some (.int pr), some (.int dy), some (.bl pl), x10] ∧ Same H H5 ∧ TS H4 H5 ∧ H5 el = some (.lst es') ∧ H5 wl = some (.lst ws') ∧ AlV UeV H5 (done ++ ownU lv (z, pr, dy, pl)) es') ?_ fun go => ?_
      · intro σ H5 ⟨es', hσ, e5, ts5, hel5, hwl5, hdn5⟩
        subst hσ
        refine l_cons (s_set (e_call (by exact FA) (by exact hr) (by decide) ?_))
        walk_at "sts"
        refine ⟨.ref cp, z, pr, dy, pl, rfl, hy4.ts ts5, hokx.1, hokx.2 _ (by rw [hds_eq]; exact List.mem_cons_self ..), fun al as H6 e6 n6 h6 has => ?_⟩
        show wL _ _ _ [some v, some (.int lv), some (.int m), some (.ref el), some (.ref wl), some (.int (k : Int)), some (.ref cp), some (.int pr), some (.int dy), some (.bl pl), some (.ref al)] _
        -- the end of a turn
        refine l_join (fun σ H7 => ∃ m' nl as', σ = [some v, some (.int lv), some (.int m'), some (.ref el), some (.ref wl), some (.int (k : Int)), some (.ref cp), some (.int pr), some (.int dy), some (.bl pl), some (.ref nl)] ∧ (nextU (z, pr, dy, pl) m).2 = m' ∧ Same H6 H7 ∧ H7 nl = some (.lst as') ∧ AlV WkV H7 (nextU (z, pr, dy, pl) m).1 as') ?_ fun tail => ?_
        · intro σ H7 ⟨m', nl, as', hσ, hm', e7, h7, has'⟩
          subst hσ
          have las := has'.len
          have ln := next_len (z, pr, dy, pl) m
          rw [List.length_cons] at lst
          rw [List.length_append, List.length_cons] at lws
          simp only [List.length_nil, List.length_cons] at lws
          have e57 := e6.trans e7
          refine l_cons (s_set (e_bin (e_var (e_var (o_cat2 (e57 _ _ hwl5) h7 (by omega) fun w2 H8 e8 n8 h8 => ?_)))))
          have e58 := e57.trans e8
          have nw2 : el ≠ w2 := fun zz => by subst zz; rw [e57 _ _ hel5] at n8; cases n8
          refine l_nil ⟨m', w2, es', _, done ++ ownU lv (z, pr, dy, pl), (nextU (z, pr, dy, pl) m).1.reverse ++ st, _, _, _, _, _, _, rfl, e5.trans e58, none_of (e5.trans e57) n8, nw2, e58 _ _ hel5, h8, hdn5.up fun a b h => h.ts (Same.ts e58), ?_, ?_, ?_, ?_, ?_⟩
          · rw [List.reverse_append, List.reverse_reverse]
            exact (hst4.up fun a b h => h.ts (ts5.trans (Same.ts e58))).append (has'.up fun a b h => h.ts (Same.ts e8))
          · intro b hb
            rcases List.mem_append.mp hb with hb | hb
            · exact hokx.abv (next_sub (List.mem_reverse.mp hb))
            · exact hok _ (List.mem_cons_of_mem _ hb)
          · rw [List.length_append, List.length_reverse]
            omega
          · rw [List.length_append]
            have : (ownU lv (z, pr, dy, pl)).length ≤ 1 := by
              unfold ownU
              split
              · split <;> simp
              · simp
            omega
          · rw [← tot, show 200 - k = (200 - (k + 1)) + 1 by omega, ← hm', List.append_assoc]
            rfl
        refine l_cons (s_if (t_w (w_and (t_cmp (e_ix (e_var (e_int (ix_t (by exact SqT.of ((ts5.trans (Same.ts e6)) _ _ hcp)) at0 (e_str (o_eqS ⟨_, rfl, ?_⟩))))))))))
        rw [show ("offer" : Str) = Kd.offer.nm from rfl, k_dec]
        by_cases hk1 : z.hd.k = .offer
        · refine ifT hk1 (w_and1 (t_cmp (e_var (e_int (o_ge ⟨_, rfl, ?_⟩)))))
          by_cases hm0 : (0 : Int) ≤ m
          · have hnx : nextU (z, pr, dy, pl) m = (((abv (z, pr, dy, pl))[(m % 2).toNat]?).toList, m / 2) := if_pos ⟨hk1, hm0⟩
            have hl2 : (abv (z, pr, dy, pl)).length = 2 := by rw [abv_len, ← hokx.1.hd.2.1]; rw [show (z, pr, dy, pl).1 = z from rfl, hk1]; rfl
            have las := has.len
            have hj : (m % 2).toNat < as.length := by omega
            have hj1 : as[(m % 2).toNat]? = some as[(m % 2).toNat] := List.getElem?_eq_getElem hj
            obtain ⟨b, hb, hbv⟩ := has.get hj1
            refine ifT hm0 (l_cons (s_set (e_lst (a_cons (e_ix (e_var (e_bin (e_callTy (x := "int") (by assumption) b_int ?_))))))))
            refine a_cons (e_var (a_nil (c_int (e_int (o_mod (by decide) ?_)))))
            have hz : atI as (m % 2) = some as[(m % 2).toNat] := by
              generalize as[(m % 2).toNat] = w0 at hj1 ⊢
              have hz : m % 2 = (((m % 2).toNat : Nat) : Int) := by omega
              rw [hz]
              exact atI_nat hj1
            refine ix_l (by exact SqL.of h6) hz (a_nil ⟨by show 1 ≤ sizeLine; decide, fun nl H7 e7 n7 h7 => ?_⟩)
            refine l_cons (s_set (e_bin (e_var (e_int (o_fdiv (by decide) (l_nil (tail _ H7 ⟨m / 2, nl, _, rfl, by rw [hnx], e7, h7, ?_⟩)))))))
            rw [hnx, hb]
            exact AlV.one (hbv.ts (Same.ts e7))
          · have hnx : nextU (z, pr, dy, pl) m = (abv (z, pr, dy, pl), m) := if_neg fun hh => hm0 hh.2
            refine ifF hm0 (l_nil (tail _ H6 ⟨m, al, as, rfl, by rw [hnx], Same.refl _, h6, ?_⟩))
            rw [hnx]
            exact has
        · have hnx : nextU (z, pr, dy, pl) m = (abv (z, pr, dy, pl), m) := if_neg fun hh => hk1 hh.1
          refine ifF hk1 (iteF (l_nil (tail _ H6 ⟨m, al, as, rfl, by rw [hnx], Same.refl _, h6, ?_⟩)))
          rw [hnx]
          exact has
      refine l_cons (s_if (t_w (w_and (t_cmp (e_ix (e_var (e_int (ix_t (by exact SqT.of hcp) at0 ?_))))))))
      walk_at "sts"
      refine ⟨by show 4 ≤ sizeLine; decide, fun kp H5 e5 n5 h5 => ?_⟩
      refine o_inT (by exact SqT.of h5) rfl rfl ⟨_, rfl, ?_⟩
      rw [rf4_nm]
      have hrf := hokx.1.hd.1.1
      have dn5 : ownU lv (z, pr, dy, pl) = [] → AlV UeV H5 (done ++ ownU lv (z, pr, dy, pl)) es := fun hh => by rw [hh, List.append_nil]; exact hdn4.up fun a b h => h.ts (Same.ts e5)
      cases hr0 : z.hd.r with
      | none =>
        rw [hr0] at hrf
        rw [← hrf]
        exact iteF (iteF (l_nil (go _ H5 ⟨es, rfl, e4.trans e5, Same.ts e5, e5 _ _ hel4, e5 _ _ hwl4, dn5 (by unfold ownU; rw [hr0])⟩)))
      | some r =>
        rw [hr0] at hrf
        rw [← hrf]
        have hcp1 : H5 cp = some (.tup (.str z.hd.k.nm :: kV r :: (gs ++ ys))) := by rw [e5 _ _ hcp, hr0]; rfl
        have hown : ownU lv (z, pr, dy, pl) = if below r lv = true then [(r, pr, dy, pl)] else [] := by unfold ownU; rw [show (z, pr, dy, pl).1 = z from rfl, hr0]
        refine iteT (w_and1 (t_own (below r lv) ?_ fun hq => ?_))
        · cases hb : below r lv with
          | false => exact iteF (l_nil (go _ H5 ⟨es, rfl, e4.trans e5, Same.ts e5, e5 _ _ hel4, e5 _ _ hwl4, dn5 (by rw [hown, hb]; rfl)⟩))
          | true =>
            rw [hb, if_pos rfl] at hown
            refine iteT (l_cons (s_expr (e_app (e_var ⟨el, es, rfl, SqL.of (e5 _ _ hel4), ?_⟩))))
            refine e_tup (a_cons (e_ix (e_var (e_int (ix_t (by exact SqT.of hcp1) at1 ?_)))))
            refine a_cons (e_var (a_cons (e_var (a_cons (e_var (a_nil ⟨by show 4 ≤ sizeLine; decide, fun up H6 e6 n6 h6 => ?_⟩))))))
            have hel6 := e6 _ _ (e5 _ _ hel4)
            have les := hdn.len
            have ts6 : TS H5 (upd H6 el (.lst (es ++ [.ref up]))) := (Same.ts e6).trans (TS.upd hel6)
            refine ⟨es, hel6, by show _ < 2 ^ 24; omega, l_nil (go _ _ ⟨es ++ [.ref up], rfl, ?_, (Same.ts e5).trans ts6, upd_same, ?_, ?_⟩)⟩
            · exact fun c o hc => by rw [upd_ne (ne_of_none hc n1)]; exact e6 _ _ (e5 _ _ (e4 _ _ hc))
            · rw [upd_ne (Ne.symm newl)]; exact e6 _ _ (e5 _ _ hwl4)
            · rw [hown]
              exact (hdn4.up fun a b h => (h.ts (Same.ts e5)).ts ts6).append (AlV.one ⟨up, rfl, TS.upd hel6 _ _ h6⟩)
        refine t_w (w_or (t_val (e_callB (x := "isinstance") (by assumption) b_isi ?_)))
        refine a_cons (e_ix (e_var (e_int (ix_t (by exact SqT.of hcp1) at1 ?_))))
        refine a_cons (e_bltn (x := "str") (v := .ty "str") (by assumption) b_str rfl (a_nil ?_))
        cases r with
        | inl i =>
          refine c_isi ty_int (.ty _) (kit_ty kb_int_str) ⟨_, rfl, ite_f rfl ?_⟩
          exact w_or1 (t_cmp (e_ix (e_var (e_int (ix_t (by exact SqT.of hcp1) at1 (e_var (o_lt ⟨_, rfl, hq⟩)))))))
        | inr zz =>
          exact c_isi ty_str (.ty _) (kit_ty kb_str_str) ⟨_, rfl, ite_t rfl hq⟩
  · intro σ H' p
    obtain ⟨m, wl, es, ws, done, st, x5, x6, x7, x8, x9, x10, rfl, e, nwl, newl, hel, hwl, hdn, hst, hok, lst, ldn, tot⟩ := p
    rw [Nat.sub_self, show usT 0 st lv m = [] from rfl, List.append_nil] at tot
    subst tot
    exact fin el es H' _ _ _ _ _ _ _ _ e n1 hel hdn
end



abbrev Pm3 := Int × Int × Bool
def boxP (m : Option (Int × Int)) (p : Pm3) : Pm3 := match m with
  | none => p
  | some (x, y) => (p.1 * x, p.2.1 + y, false)
def mdh (h : Hd) : Option (Int × Int) := if h.k = .pay ∨ h.k = .cut then hdM h else none
def ownH (lv : Int) (h : Hd) (p : Pm3) : List Us := match h.r with
  | some r => if below r lv = true then [(r, p)] else []
  | none => []
def run (lv : Int) : Tr → Pm3 → Int → List Us × Int
  | .le h, p, n => (ownH lv h p, n)
  | .un h a, p, n => (ownH lv h p ++ (run lv a (boxP (mdh h) p) n).1, (run lv a (boxP (mdh h) p) n).2)
  | .bi h a b, p, n => if h.k = .offer ∧ 0 ≤ n then (if n % 2 = 0 then (ownH lv h p ++ (run lv a p (n / 2)).1, (run lv a p (n / 2)).2) else (ownH lv h p ++ (run lv b p (n / 2)).1, (run lv b p (n / 2)).2))
      else (ownH lv h p ++ ((run lv b p n).1 ++ (run lv a (boxP (mdh h) p) (run lv b p n).2).1), (run lv a (boxP (mdh h) p) (run lv b p n).2).2)
theorem abv_le (h : Hd) (p : Pm3) : abv (.le h, p) = [] := by
  cases hm : mdT (.le h) <;> simp [abv, hm, Tr.ks]
theorem abv_un (h : Hd) (a : Tr) (p : Pm3) : abv (.un h a, p) = [(a, boxP (mdh h) p)] := by
  cases hm : mdT (.un h a) <;> (have hm2 := hm; rw [show mdT (.un h a) = mdh h from rfl] at hm2; simp [abv, hm, hm2, Tr.ks, boxP])
theorem abv_bi (h : Hd) (a b : Tr) (p : Pm3) : abv (.bi h a b, p) = [(a, boxP (mdh h) p), (b, p)] := by
  cases hm : mdT (.bi h a b) <;> (have hm2 := hm; rw [show mdT (.bi h a b) = mdh h from rfl] at hm2; simp [abv, hm, hm2, Tr.ks, boxP])
theorem pr1_no {k : Kd} (h : k.pr ≠ 2) : k ≠ .offer ∧ k ≠ .pay ∧ k ≠ .cut := by
  cases k <;> simp_all [Kd.pr]
theorem usT_run (lv : Int) : ∀ (t : Tr) (_ : t.Ok) (p : Pm3) (n : Int), ∃ c, c ≤ t.size ∧ ∀ (fuel : Nat) (st : List Wt), usT (fuel + c) ((t, p) :: st) lv n = (run lv t p n).1 ++ usT fuel st lv (run lv t p n).2
  | .le h, ⟨_, h2⟩, p, n => by
    refine ⟨1, Nat.le_refl _, fun fuel st => ?_⟩
    have hno : h.k ≠ .offer := (pr1_no (by omega)).1
    have e : nextU (.le h, p) n = ([], n) := by rw [← abv_le h p]; exact if_neg fun z => hno z.1
    show ownU lv (.le h, p) ++ usT fuel ((nextU (.le h, p) n).1.reverse ++ st) lv (nextU (.le h, p) n).2 = _
    rw [e]
    rfl
  | .un h a, ⟨_, h2, h3⟩, p, n => by
    obtain ⟨c, hc, hr⟩ := usT_run lv a h3 (boxP (mdh h) p) n
    refine ⟨c + 1, by simp only [Tr.size]; omega, fun fuel st => ?_⟩
    have hno : h.k ≠ .offer := (pr1_no (by omega)).1
    have e : nextU (.un h a, p) n = ([(a, boxP (mdh h) p)], n) := by rw [← abv_un h a p]; exact if_neg fun z => hno z.1
    show ownU lv (.un h a, p) ++ usT (fuel + c) ((nextU (.un h a, p) n).1.reverse ++ st) lv (nextU (.un h a, p) n).2 = (ownH lv h p ++ (run lv a (boxP (mdh h) p) n).1) ++ usT fuel st lv (run lv a (boxP (mdh h) p) n).2
    rw [e, List.append_assoc, ← hr]
    rfl
  | .bi h a b, ⟨_, h2, h3, h4⟩, p, n => by
    by_cases ho : h.k = .offer ∧ 0 ≤ n
    · have hmd : mdh h = none := if_neg (by rw [ho.1]; simp)
      have eab : abv (.bi h a b, p) = [(a, p), (b, p)] := by rw [abv_bi, hmd]; rfl
      have e0 : nextU (.bi h a b, p) n = (((abv (.bi h a b, p))[(n % 2).toNat]?).toList, n / 2) := if_pos ho
      by_cases hn : n % 2 = 0
      · obtain ⟨c, hc, hr⟩ := usT_run lv a h3 p (n / 2)
        refine ⟨c + 1, by simp only [Tr.size]; omega, fun fuel st => ?_⟩
        have e : nextU (.bi h a b, p) n = ([(a, p)], n / 2) := by rw [e0, eab, hn]; rfl
        have er : run lv (.bi h a b) p n = (ownH lv h p ++ (run lv a p (n / 2)).1, (run lv a p (n / 2)).2) := by rw [run, if_pos ho, if_pos hn]
        show ownU lv (.bi h a b, p) ++ usT (fuel + c) ((nextU (.bi h a b, p) n).1.reverse ++ st) lv (nextU (.bi h a b, p) n).2 = _
        rw [e, er, List.append_assoc, ← hr]
        rfl
      · obtain ⟨c, hc, hr⟩ := usT_run lv b h4 p (n / 2)
        refine ⟨c + 1, by simp only [Tr.size]; omega, fun fuel st => ?_⟩
        have e : nextU (.bi h a b, p) n = ([(b, p)], n / 2) := by rw [e0, eab, show n % 2 = 1 by omega]; rfl
        have er : run lv (.bi h a b) p n = (ownH lv h p ++ (run lv b p (n / 2)).1, (run lv b p (n / 2)).2) := by rw [run, if_pos ho, if_neg hn]
        show ownU lv (.bi h a b, p) ++ usT (fuel + c) ((nextU (.bi h a b, p) n).1.reverse ++ st) lv (nextU (.bi h a b, p) n).2 = _
        rw [e, er, List.append_assoc, ← hr]
        rfl
    · obtain ⟨cb, hcb, hrb⟩ := usT_run lv b h4 p n
      obtain ⟨ca, hca, hra⟩ := usT_run lv a h3 (boxP (mdh h) p) (run lv b p n).2
      refine ⟨ca + cb + 1, by simp only [Tr.size]; omega, fun fuel st => ?_⟩
      have e : nextU (.bi h a b, p) n = ([(a, boxP (mdh h) p), (b, p)], n) := by rw [← abv_bi]; exact if_neg ho
      have er : run lv (.bi h a b) p n = (ownH lv h p ++ ((run lv b p n).1 ++ (run lv a (boxP (mdh h) p) (run lv b p n).2).1), (run lv a (boxP (mdh h) p) (run lv b p n).2).2) := by rw [run, if_neg ho]
      show ownU lv (.bi h a b, p) ++ usT (fuel + (ca + cb)) ((nextU (.bi h a b, p) n).1.reverse ++ st) lv (nextU (.bi h a b, p) n).2 = _
      rw [e, er, List.append_assoc, List.append_assoc, ← hra, ← hrb, ← Nat.add_assoc]
      rfl
/-- the uses of a whole tree -/
theorem uses_run (lv : Int) {t : Tr} (o : t.Ok) (hz : t.size ≤ 200) (n : Int) : usT 200 [(t, 1, 0, true)] lv n = (run lv t (1, 0, true) n).1 := by
  obtain ⟨c, hc, hr⟩ := usT_run lv t o (1, 0, true) n
  have := hr (200 - c) []
  rw [show 200 - c + c = 200 by omega, usT_nil, List.append_nil] at this
  exact this
/-! ### the counts, without levels -/
def own3 (h : Hd) (r : Key) : Option T3 := if h.r = some r then some (1, 1, 0) else none
def cnt : Tr → Key → Option T3
  | .le h, r => own3 h r
  | .un h a, r => sum1 (cnt a r) (own3 h r)
  | .bi h a b, r => if h.k = .offer then or1 (cnt a r) (cnt b r) else sum1 (sum1 (cnt b r) (own3 h r)) ((cnt a r).map (box3 (hdM h)))
theorem sum_none (x : Option T3) : sum1 x none = x := by cases x <;> rfl
theorem refF_at (h : Hd) (lv : Int) (f : CF) (r : Key) : refF h lv f r = sum1 (f r) (if below r lv = true then own3 h r else none) := by
  unfold refF own3
  cases hr : h.r with
  | none => simp [sum_none]
  | some r' =>
    show (if below r' lv = true then sumF f (oneF r') else f) r = _
    by_cases e : r = r'
    · subst e
      by_cases hb : below r lv = true
      · rw [if_pos hb, if_pos hb, if_pos rfl]
        show sum1 (f r) (if r = r then _ else _) = _
        rw [if_pos rfl]
      · rw [if_neg hb, if_neg hb, sum_none]
    · rw [if_neg (show ¬ some r' = some r from fun z => e (Option.some.inj z).symm), ite_self, sum_none]
      by_cases hb : below r' lv = true
      · rw [if_pos hb]
        show sum1 (f r) (if r = r' then _ else _) = _
        rw [if_neg e, sum_none]
      · rw [if_neg hb]
theorem last_at (lv : Int) (br : Bool) (r : Key) (x : Option T3) : (if r = .inl lv then none else if below r (if br = true then lv + 1 else lv) = true then x else none) = if below r lv = true then x else none := by
  cases r with
  | inr z => rw [if_neg (by simp)]; rfl
  | inl i =>
    by_cases e : i = lv
    · subst e
      rw [if_pos rfl, if_neg]
      show ¬ decide (i < i) = true
      simp
    · rw [if_neg (by simpa using e)]
      have : below (.inl i) (if br = true then lv + 1 else lv) = below (.inl i) lv := by
        show decide _ = decide _
        cases br
        · rfl
        · rw [if_pos rfl]
          exact decide_eq_decide.mpr ⟨fun _ => by omega, fun _ => by omega⟩
      rw [this]
theorem if_sum (c : Prop) [Decidable c] (x y : Option T3) : sum1 (if c then x else none) (if c then y else none) = if c then sum1 x y else none := by
  split <;> rfl
theorem cF_cnt : ∀ {t : Tr} (_ : t.Ok) (lv : Int) (r : Key), cF t lv r = if below r lv = true then cnt t r else none
  | .le h, ⟨_, h2⟩, lv, r => by
    obtain ⟨n1, n2, n3⟩ := pr1_no (k := h.k) (by omega)
    show rcF h lv [] r = _
    unfold rcF
    rw [if_neg n1, if_neg (by rintro (z | z); exact n2 z; exact n3 z), refF_at]
    show sum1 none _ = _
    rfl
  | .un h a, ⟨_, h2, h3⟩, lv, r => by
    obtain ⟨n1, n2, n3⟩ := pr1_no (k := h.k) (by omega)
    show rcF h lv [cF a _] r = _
    unfold rcF
    rw [if_neg n1, if_neg (by rintro (z | z); exact n2 z; exact n3 z), refF_at]
    show sum1 (if r = .inl lv then none else cF a _ r) _ = _
    rw [cF_cnt h3, last_at, if_sum]
    rfl
  | .bi h a b, ⟨_, h2, h3, h4⟩, lv, r => by
    show rcF h lv [cF a lv, cF b _] r = _
    unfold rcF
    by_cases n1 : h.k = .offer
    · rw [if_pos n1]
      show or1 (cF a lv r) (cF b _ r) = _
      rw [n1, if_neg (show ¬ Kd.offer.br = true by decide), cF_cnt h3, cF_cnt h4]
      rw [show cnt (.bi h a b) r = or1 (cnt a r) (cnt b r) from if_pos n1]
      split <;> rfl
    · have n2 : h.k = .pay ∨ h.k = .cut := by
        cases hk : h.k <;> simp_all [Kd.pr]
      rw [if_neg n1, if_pos n2]
      show sum1 (refF h lv _ r) ((cF a lv r).map _) = _
      rw [refF_at]
      show sum1 (sum1 (if r = .inl lv then none else cF b _ r) _) _ = _
      rw [cF_cnt h3, cF_cnt h4, last_at, if_sum, show cnt (.bi h a b) r = sum1 (sum1 (cnt b r) (own3 h r)) ((cnt a r).map (box3 (hdM h))) from if_neg n1]
      split <;> rfl



/-! ### sums over the uses of a reference -/
def sL (r : Key) : List Us → Int
  | [] => 0
  | u :: us => (if u.1 = r then (if u.2.2.2 = true then 1 else 0) else 0) + sL r us
def sM (r : Key) : List Us → Int
  | [] => 0
  | u :: us => (if u.1 = r then u.2.1 else 0) + sM r us
theorem sL_app (r : Key) : ∀ a b : List Us, sL r (a ++ b) = sL r a + sL r b
  | [], b => by simp [sL]
  | u :: a, b => by rw [List.cons_append, sL, sL, sL_app r a b, Int.add_assoc]
theorem sM_app (r : Key) : ∀ a b : List Us, sM r (a ++ b) = sM r a + sM r b
  | [], b => by simp [sM]
  | u :: a, b => by rw [List.cons_append, sM, sM, sM_app r a b, Int.add_assoc]
def gl (x : Option T3) : Int := (x.getD z3).1
def gm (x : Option T3) : Int := (x.getD z3).2.1
theorem gl_sum (x y : Option T3) : gl (sum1 x y) = gl x + gl y := by
  cases x <;> cases y <;> simp [gl, sum1, add3, z3]
theorem gm_sum (x y : Option T3) : gm (sum1 x y) = gm x + gm y := by
  cases x <;> cases y <;> simp [gm, sum1, add3, z3]
theorem gl_or (x y : Option T3) : gl (or1 x y) = mn (gl x) (gl y) := by
  cases x <;> cases y <;> rfl
theorem gm_or (x y : Option T3) : gm (or1 x y) = mx (gm x) (gm y) := by
  cases x <;> cases y <;> rfl
theorem gl_box (m : Option (Int × Int)) (x : Option T3) : gl (x.map (box3 m)) = bl0 m (gl x) := by
  cases x <;> cases m <;> simp [gl, box3, z3, bl0]
theorem gm_box (m : Option (Int × Int)) (x : Option T3) : gm (x.map (box3 m)) = bl1 m (gm x) := by
  cases x <;> cases m <;> simp [gm, box3, z3, bl1]
theorem mdh_none {h : Hd} (n : h.k.pr ≠ 2 ∨ h.k = .offer) : mdh h = none := by
  refine if_neg ?_
  rcases n with n | n
  · obtain ⟨_, n2, n3⟩ := pr1_no n
    rintro (z | z)
    · exact n2 z
    · exact n3 z
  · rw [n]; rintro (z | z) <;> cases z
theorem mdh_hd {h : Hd} (n : h.k.pr = 2) (n2 : h.k ≠ .offer) : mdh h = hdM h ∧ (h.k = .pay ∨ h.k = .cut) := by
  have z : h.k = .pay ∨ h.k = .cut := by cases hk : h.k <;> simp_all [Kd.pr]
  exact ⟨if_pos z, z⟩
theorem md_ok {h : Hd} (m : MdH h) (z : h.k = .pay ∨ h.k = .cut) {a b : Int} (e : hdM h = some (a, b)) : 1 ≤ a ∧ a ≤ 3 ∧ 0 ≤ b := by
  obtain ⟨fm, rest, hf, hm⟩ := m z
  unfold hdM at e
  rw [hf] at e
  rcases hm with rfl | ⟨a', b', rfl, h1, h2, h3⟩
  · cases e
  · cases e
    exact ⟨h1, h2, h3⟩
theorem own_l {lv : Int} {r : Key} (hb : below r lv = true) (h : Hd) (p : Pm3) : sL r (ownH lv h p) = if p.2.2 = true then gl (own3 h r) else 0 := by
  unfold ownH own3
  cases hr : h.r with
  | none => simp [sL, gl, z3]
  | some r' =>
    by_cases e : r' = r
    · subst e
      show sL _ (if below r' lv = true then _ else _) = _
      rw [if_pos hb, if_pos rfl, sL, sL, if_pos rfl]
      exact Int.add_zero _
    · show sL _ (if below r' lv = true then _ else _) = _
      rw [if_neg (show ¬ some r' = some r from fun z => e (Option.some.inj z))]
      have : gl none = 0 := rfl
      rw [this, ite_self]
      split
      · rw [sL, sL, if_neg e]; rfl
      · rfl
theorem own_m {lv : Int} {r : Key} (hb : below r lv = true) (h : Hd) (p : Pm3) : sM r (ownH lv h p) = p.1 * gm (own3 h r) := by
  unfold ownH own3
  cases hr : h.r with
  | none => simp [sM, gm, z3]
  | some r' =>
    by_cases e : r' = r
    · subst e
      show sM _ (if below r' lv = true then _ else _) = _
      rw [if_pos hb, if_pos rfl, sM, sM, if_pos rfl]
      show p.1 + 0 = p.1 * 1
      omega
    · show sM _ (if below r' lv = true then _ else _) = _
      rw [if_neg (show ¬ some r' = some r from fun z => e (Option.some.inj z))]
      have : gm none = 0 := rfl
      rw [this, Int.mul_zero]
      split
      · rw [sM, sM, if_neg e]; rfl
      · rfl
theorem own_b (h : Hd) (r : Key) : 0 ≤ gl (own3 h r) ∧ gl (own3 h r) ≤ 1 ∧ 0 ≤ gm (own3 h r) := by
  unfold own3
  split <;> exact ⟨by decide, by decide, by decide⟩
theorem off_own {h : Hd} (o : h.Ok) (n : h.k = .offer) (r : Key) : own3 h r = none := by
  have hr := o.1
  rw [n] at hr
  unfold own3
  cases hh : h.r with
  | none => rfl
  | some r' => rw [hh] at hr; cases hr
theorem md_sub {h : Hd} {a b : Tr} (m : ∀ x ∈ hds (.bi h a b), MdH x) : MdH h ∧ (∀ x ∈ hds a, MdH x) ∧ ∀ x ∈ hds b, MdH x :=
  ⟨m _ (List.mem_cons_self ..), fun x hx => m x (List.mem_cons_of_mem _ (List.mem_append_left _ hx)), fun x hx => m x (List.mem_cons_of_mem _ (List.mem_append_right _ hx))⟩
theorem md_subU {h : Hd} {a : Tr} (m : ∀ x ∈ hds (.un h a), MdH x) : MdH h ∧ (∀ x ∈ hds a, MdH x) :=
  ⟨m _ (List.mem_cons_self ..), fun x hx => m x (List.mem_cons_of_mem _ hx)⟩
theorem cnt_b (r : Key) : ∀ (t : Tr) (_ : t.Ok) (_ : ∀ x ∈ hds t, MdH x), 0 ≤ gl (cnt t r) ∧ gl (cnt t r) ≤ t.size ∧ 0 ≤ gm (cnt t r)
  | .le h, _, _ => by
    have := own_b h r
    exact ⟨this.1, by show gl (own3 h r) ≤ 1; omega, this.2.2⟩
  | .un h a, ⟨_, _, h3⟩, m => by
    have := own_b h r
    have ih := cnt_b r a h3 (md_subU m).2
    simp only [cnt, gl_sum, gm_sum, Tr.size]
    omega
  | .bi h a b, ⟨o, h2, h3, h4⟩, m => by
    obtain ⟨m1, m2, m3⟩ := md_sub m
    have ow := own_b h r
    have ia := cnt_b r a h3 m2
    have ib := cnt_b r b h4 m3
    rw [cnt]
    by_cases n : h.k = .offer
    · rw [if_pos n, gl_or, gm_or]
      unfold mn mx
      simp only [Tr.size]
      split <;> split <;> omega
    · rw [if_neg n, gl_sum, gl_sum, gm_sum, gm_sum, gl_box, gm_box]
      obtain ⟨e, z⟩ := mdh_hd h2 n
      simp only [Tr.size]
      cases hm : hdM h with
      | none => simp only [bl0, bl1]; omega
      | some x =>
        obtain ⟨u, v⟩ := x
        obtain ⟨k1, k2, k3⟩ := md_ok m1 z hm
        have := Int.mul_nonneg (show 0 ≤ u by omega) ia.2.2
        simp only [bl0, bl1]
        omega
theorem off_bi {lv : Int} {h : Hd} {a b : Tr} {p : Pm3} {n : Int} (hk : h.k = .offer) (hn : 0 ≤ n) : run lv (.bi h a b) p n = if n % 2 = 0 then (ownH lv h p ++ (run lv a p (n / 2)).1, (run lv a p (n / 2)).2) else (ownH lv h p ++ (run lv b p (n / 2)).1, (run lv b p (n / 2)).2) := by
  rw [run, if_pos ⟨hk, hn⟩]
theorem pay_bi {lv : Int} {h : Hd} {a b : Tr} {p : Pm3} {n : Int} (hk : h.k ≠ .offer) : run lv (.bi h a b) p n = (ownH lv h p ++ ((run lv b p n).1 ++ (run lv a (boxP (mdh h) p) (run lv b p n).2).1), (run lv a (boxP (mdh h) p) (run lv b p n).2).2) := by
  rw [run, if_neg fun z => hk z.1]
theorem run_bd {lv : Int} {r : Key} (hb : below r lv = true) : ∀ (t : Tr) (_ : t.Ok) (_ : ∀ x ∈ hds t, MdH x) (p : Pm3) (n : Int) (_ : 0 ≤ p.1) (_ : 0 ≤ n),
    (if p.2.2 = true then gl (cnt t r) else 0) ≤ sL r (run lv t p n).1 ∧ sM r (run lv t p n).1 ≤ p.1 * gm (cnt t r) ∧ 0 ≤ (run lv t p n).2
  | .le h, _, _, p, n, hp, hn => by
    rw [run, own_l hb, own_m hb]
    exact ⟨Int.le_refl _, Int.le_refl _, hn⟩
  | .un h a, ⟨o, h2, h3⟩, m, p, n, hp, hn => by
    have e : boxP (mdh h) p = p := by rw [mdh_none (.inl (by omega))]; rfl
    obtain ⟨i1, i2, i3⟩ := run_bd hb a h3 (md_subU m).2 p n hp hn
    rw [run, e, sL_app, sM_app, own_l hb, own_m hb, cnt, gl_sum, gm_sum, Int.mul_add]
    refine ⟨?_, by omega, i3⟩
    split <;> simp_all <;> omega
  | .bi h a b, ⟨o, h2, h3, h4⟩, m, p, n, hp, hn => by
    obtain ⟨m1, m2, m3⟩ := md_sub m
    by_cases hk : h.k = .offer
    · have ow := off_own o hk r
      have hn2 : 0 ≤ n / 2 := by omega
      obtain ⟨i1, i2, i3⟩ := run_bd hb a h3 m2 p (n / 2) hp hn2
      obtain ⟨j1, j2, j3⟩ := run_bd hb b h4 m3 p (n / 2) hp hn2
      rw [off_bi hk hn, cnt, if_pos hk, gl_or, gm_or]
      have a1 : gm (cnt a r) ≤ mx (gm (cnt a r)) (gm (cnt b r)) := by unfold mx; split <;> omega
      have a2 : gm (cnt b r) ≤ mx (gm (cnt a r)) (gm (cnt b r)) := by unfold mx; split <;> omega
      have b1 := Int.mul_le_mul_of_nonneg_left a1 hp
      have b2 := Int.mul_le_mul_of_nonneg_left a2 hp
      have ol := own_l hb h p
      have om := own_m hb h p
      rw [ow] at ol om
      have z0 : gl none = 0 := rfl
      have z1 : gm none = 0 := rfl
      rw [z0, ite_self] at ol
      rw [z1, Int.mul_zero] at om
      by_cases hz : n % 2 = 0
      · rw [if_pos hz, sL_app, sM_app, ol, om]
        refine ⟨?_, by omega, i3⟩
        unfold mn
        split <;> (try split) <;> simp_all <;> omega
      · rw [if_neg hz, sL_app, sM_app, ol, om]
        refine ⟨?_, by omega, j3⟩
        unfold mn
        split <;> (try split) <;> simp_all <;> omega
    · obtain ⟨e, z⟩ := mdh_hd h2 hk
      obtain ⟨j1, j2, j3⟩ := run_bd hb b h4 m3 p n hp hn
      have hp' : 0 ≤ (boxP (mdh h) p).1 := by
        rw [e]
        cases hm : hdM h with
        | none => exact hp
        | some x =>
          obtain ⟨u, v⟩ := x
          exact Int.mul_nonneg hp (by have := md_ok m1 z hm; omega)
      obtain ⟨i1, i2, i3⟩ := run_bd hb a h3 m2 (boxP (mdh h) p) _ hp' j3
      rw [pay_bi hk, cnt, if_neg hk, gl_sum, gl_sum, gm_sum, gm_sum, gl_box, gm_box, sL_app, sL_app, sM_app, sM_app, own_l hb, own_m hb, Int.mul_add, Int.mul_add]
      refine ⟨?_, ?_, i3⟩
      · rw [e] at i1
        cases hm : hdM h with
        | none =>
          rw [hm] at i1
          simp only [boxP, bl0] at i1 ⊢
          rw [show mdh h = none by rw [e, hm]]
          simp only [boxP]
          split <;> simp_all <;> omega
        | some x =>
          obtain ⟨u, v⟩ := x
          rw [hm] at i1
          simp only [boxP, bl0] at i1 ⊢
          rw [show mdh h = some (u, v) by rw [e, hm]]
          simp only [boxP]
          split <;> simp_all <;> omega
      · have e2 : (boxP (mdh h) p).1 * gm (cnt a r) = p.1 * bl1 (hdM h) (gm (cnt a r)) := by
          rw [e]
          cases hm : hdM h with
          | none => rfl
          | some x =>
            obtain ⟨u, v⟩ := x
            exact Int.mul_assoc _ _ _
        rw [e2] at i2
        omega



/-- two to the number of offers -/
def pwL : List Hd → Int
  | [] => 1
  | h :: hs => (if h.k = .offer then 2 else 1) * pwL hs
theorem pwL_pos : ∀ l : List Hd, 1 ≤ pwL l
  | [] => by decide
  | h :: hs => by
    have := pwL_pos hs
    rw [pwL]
    split <;> omega
theorem pwL_app : ∀ a b : List Hd, pwL (a ++ b) = pwL a * pwL b
  | [], b => by simp [pwL]
  | h :: a, b => by rw [List.cons_append, pwL, pwL, pwL_app a b, Int.mul_assoc]
theorem side_a {A B n n' : Int} (hB : 1 ≤ B) (i : n + 1 ≤ A * (n' + 1)) (hn : 0 ≤ n') (h0 : 0 ≤ n := by omega) : 2 * n + 1 ≤ 2 * (A * B) * (n' + 1) := by
  have e : 2 * (A * B) * (n' + 1) = 2 * (A * (n' + 1) * B) := by
    rw [Int.mul_assoc, Int.mul_assoc, Int.mul_assoc, Int.mul_comm B]
  rw [e]
  generalize A * (n' + 1) = X at i
  have := Int.mul_le_mul_of_nonneg_left hB (show 0 ≤ X by omega)
  omega
theorem side_b {A B n n' : Int} (hA : 1 ≤ A) (i : n + 1 ≤ B * (n' + 1)) (hn : 0 ≤ n') (h0 : 0 ≤ n := by omega) : 2 * n + 1 + 1 ≤ 2 * (A * B) * (n' + 1) := by
  have e : 2 * (A * B) * (n' + 1) = 2 * (B * (n' + 1) * A) := by
    rw [Int.mul_comm A B, Int.mul_assoc, Int.mul_assoc, Int.mul_assoc, Int.mul_comm A]
  rw [e]
  generalize B * (n' + 1) = X at i
  have := Int.mul_le_mul_of_nonneg_left hA (show 0 ≤ X by omega)
  omega
theorem both_ab {A B n n1 n' : Int} (hB : 1 ≤ B) (j : n + 1 ≤ B * (n1 + 1)) (i : n1 + 1 ≤ A * (n' + 1)) : n + 1 ≤ 1 * (A * B) * (n' + 1) := by
  have e : 1 * (A * B) * (n' + 1) = B * (A * (n' + 1)) := by
    rw [Int.one_mul, Int.mul_comm A B, Int.mul_assoc]
  rw [e]
  have := Int.mul_le_mul_of_nonneg_left i (show 0 ≤ B by omega)
  omega
theorem run_lo {lv : Int} {r : Key} (hb : below r lv = true) : ∀ (t : Tr) (_ : t.Ok) (_ : ∀ x ∈ hds t, MdH x) (p : Pm3) (n' : Int) (_ : 0 ≤ n'),
    ∃ n, 0 ≤ n ∧ n + 1 ≤ pwL (hds t) * (n' + 1) ∧ (run lv t p n).2 = n' ∧ sL r (run lv t p n).1 = if p.2.2 = true then gl (cnt t r) else 0
  | .le h, ⟨_, h2⟩, _, p, n', hn => by
    refine ⟨n', hn, ?_, rfl, own_l hb h p⟩
    rw [hds, pwL, pwL, if_neg (pr1_no (by omega)).1]
    omega
  | .un h a, ⟨o, h2, h3⟩, m, p, n', hn => by
    have e : boxP (mdh h) p = p := by rw [mdh_none (.inl (by omega))]; rfl
    obtain ⟨n, i1, i2, i3, i4⟩ := run_lo hb a h3 (md_subU m).2 p n' hn
    refine ⟨n, i1, ?_, ?_, ?_⟩
    · rw [hds, pwL, if_neg (pr1_no (by omega)).1, Int.one_mul]
      exact i2
    · rw [run, e]
      exact i3
    · rw [run, e, sL_app, own_l hb, i4, cnt, gl_sum]
      split <;> omega
  | .bi h a b, ⟨o, h2, h3, h4⟩, m, p, n', hn => by
    obtain ⟨m1, m2, m3⟩ := md_sub m
    have pa := pwL_pos (hds a)
    have pb := pwL_pos (hds b)
    by_cases hk : h.k = .offer
    · have ow := off_own o hk r
      have ol := own_l hb h p
      rw [ow] at ol
      have z0 : gl none = 0 := rfl
      rw [z0, ite_self] at ol
      have ew : pwL (hds (.bi h a b)) = 2 * (pwL (hds a) * pwL (hds b)) := by rw [hds, pwL, if_pos hk, pwL_app]
      rw [ew]
      by_cases hc : gl (cnt b r) < gl (cnt a r)
      · obtain ⟨n, i1, i2, i3, i4⟩ := run_lo hb b h4 m3 p n' hn
        have hm : (2 * n + 1) % 2 ≠ 0 := by omega
        have hd : (2 * n + 1) / 2 = n := by omega
        refine ⟨2 * n + 1, by omega, side_b pa i2 hn, ?_, ?_⟩
        · rw [off_bi hk (by omega), if_neg hm, hd]
          exact i3
        · rw [off_bi hk (by omega), if_neg hm, hd, sL_app, ol, i4, cnt, if_pos hk, gl_or]
          unfold mn
          rw [if_pos hc]
          omega
      · obtain ⟨n, i1, i2, i3, i4⟩ := run_lo hb a h3 m2 p n' hn
        have hm : (2 * n) % 2 = 0 := by omega
        have hd : (2 * n) / 2 = n := by omega
        refine ⟨2 * n, by omega, side_a pb i2 hn, ?_, ?_⟩
        · rw [off_bi hk (by omega), if_pos hm, hd]
          exact i3
        · rw [off_bi hk (by omega), if_pos hm, hd, sL_app, ol, i4, cnt, if_pos hk, gl_or]
          unfold mn
          rw [if_neg hc]
          omega
    · obtain ⟨e, z⟩ := mdh_hd h2 hk
      obtain ⟨n1, i1, i2, i3, i4⟩ := run_lo hb a h3 m2 (boxP (mdh h) p) n' hn
      obtain ⟨n, j1, j2, j3, j4⟩ := run_lo hb b h4 m3 p n1 i1
      refine ⟨n, j1, ?_, ?_, ?_⟩
      · have ew : pwL (hds (.bi h a b)) = 1 * (pwL (hds a) * pwL (hds b)) := by rw [hds, pwL, if_neg hk, pwL_app]
        rw [ew]
        exact both_ab pb j2 i2
      · rw [pay_bi hk, j3]
        exact i3
      · rw [pay_bi hk, sL_app, sL_app, j3, j4, i4, own_l hb, cnt, if_neg hk, gl_sum, gl_sum, gl_box, e]
        cases hm : hdM h with
        | none =>
          by_cases hp : p.2.2 = true
          · simp only [boxP, bl0, hp, if_true]; omega
          · simp only [boxP, bl0, hp, Bool.false_eq_true, if_false]; omega
        | some x =>
          obtain ⟨u, v⟩ := x
          simp only [boxP, bl0, Bool.false_eq_true, if_false]
          split <;> omega
theorem run_hi {lv : Int} {r : Key} (hb : below r lv = true) : ∀ (t : Tr) (_ : t.Ok) (_ : ∀ x ∈ hds t, MdH x) (p : Pm3) (n' : Int) (_ : 0 ≤ n'),
    ∃ n, 0 ≤ n ∧ n + 1 ≤ pwL (hds t) * (n' + 1) ∧ (run lv t p n).2 = n' ∧ sM r (run lv t p n).1 = p.1 * gm (cnt t r)
  | .le h, ⟨_, h2⟩, _, p, n', hn => by
    refine ⟨n', hn, ?_, rfl, own_m hb h p⟩
    rw [hds, pwL, pwL, if_neg (pr1_no (by omega)).1]
    omega
  | .un h a, ⟨o, h2, h3⟩, m, p, n', hn => by
    have e : boxP (mdh h) p = p := by rw [mdh_none (.inl (by omega))]; rfl
    obtain ⟨n, i1, i2, i3, i4⟩ := run_hi hb a h3 (md_subU m).2 p n' hn
    refine ⟨n, i1, ?_, ?_, ?_⟩
    · rw [hds, pwL, if_neg (pr1_no (by omega)).1, Int.one_mul]
      exact i2
    · rw [run, e]
      exact i3
    · rw [run, e, sM_app, own_m hb, i4, cnt, gm_sum, Int.mul_add]
      omega
  | .bi h a b, ⟨o, h2, h3, h4⟩, m, p, n', hn => by
    obtain ⟨m1, m2, m3⟩ := md_sub m
    have pa := pwL_pos (hds a)
    have pb := pwL_pos (hds b)
    by_cases hk : h.k = .offer
    · have ow := off_own o hk r
      have ol := own_m hb h p
      rw [ow] at ol
      have z0 : gm none = 0 := rfl
      rw [z0, Int.mul_zero] at ol
      have ew : pwL (hds (.bi h a b)) = 2 * (pwL (hds a) * pwL (hds b)) := by rw [hds, pwL, if_pos hk, pwL_app]
      rw [ew]
      by_cases hc : gm (cnt b r) > gm (cnt a r)
      · obtain ⟨n, i1, i2, i3, i4⟩ := run_hi hb b h4 m3 p n' hn
        have hm : (2 * n + 1) % 2 ≠ 0 := by omega
        have hd : (2 * n + 1) / 2 = n := by omega
        refine ⟨2 * n + 1, by omega, side_b pa i2 hn, ?_, ?_⟩
        · rw [off_bi hk (by omega), if_neg hm, hd]
          exact i3
        · rw [off_bi hk (by omega), if_neg hm, hd, sM_app, ol, i4, cnt, if_pos hk, gm_or]
          unfold mx
          rw [if_pos hc]
          omega
      · obtain ⟨n, i1, i2, i3, i4⟩ := run_hi hb a h3 m2 p n' hn
        have hm : (2 * n) % 2 = 0 := by omega
        have hd : (2 * n) / 2 = n := by omega
        refine ⟨2 * n, by omega, side_a pb i2 hn, ?_, ?_⟩
        · rw [off_bi hk (by omega), if_pos hm, hd]
          exact i3
        · rw [off_bi hk (by omega), if_pos hm, hd, sM_app, ol, i4, cnt, if_pos hk, gm_or]
          unfold mx
          rw [if_neg hc]
          omega
    · obtain ⟨e, z⟩ := mdh_hd h2 hk
      obtain ⟨n1, i1, i2, i3, i4⟩ := run_hi hb a h3 m2 (boxP (mdh h) p) n' hn
      obtain ⟨n, j1, j2, j3, j4⟩ := run_hi hb b h4 m3 p n1 i1
      refine ⟨n, j1, ?_, ?_, ?_⟩
      · have ew : pwL (hds (.bi h a b)) = 1 * (pwL (hds a) * pwL (hds b)) := by rw [hds, pwL, if_neg hk, pwL_app]
        rw [ew]
        exact both_ab pb j2 i2
      · rw [pay_bi hk, j3]
        exact i3
      · rw [pay_bi hk, sM_app, sM_app, j3, j4, i4, own_m hb, cnt, if_neg hk, gm_sum, gm_sum, gm_box, e, Int.mul_add, Int.mul_add]
        cases hm : hdM h with
        | none =>
          simp only [boxP, bl1]
          omega
        | some x =>
          obtain ⟨u, v⟩ := x
          simp only [boxP, bl1]
          rw [Int.mul_assoc]
          omega
/-! ### all uses: the days -/
def dS (r : Key) (o : Option Int) (u : Us) : Option Int := if u.1 = r then some (mx (o.getD 0) u.2.2.1) else o
def dM (r : Key) (o : Option Int) (us : List Us) : Option Int := us.foldl (dS r) o
theorem dM_app (r : Key) (o : Option Int) (a b : List Us) : dM r o (a ++ b) = dM r (dM r o a) b := List.foldl_append
def dX (o : Option Int) (d : Int) : Option T3 → Option Int
  | none => o
  | some x => some (mx (o.getD 0) (d + x.2.2))
theorem own_d {lv : Int} {r : Key} (hb : below r lv = true) (h : Hd) (p : Pm3) (o : Option Int) : dM r o (ownH lv h p) = dX o p.2.1 (own3 h r) := by
  unfold ownH own3
  cases hr : h.r with
  | none => simp [dM, dX]
  | some r' =>
    show dM r o (if below r' lv = true then _ else _) = _
    by_cases e : r' = r
    · subst e
      rw [if_pos hb, if_pos rfl]
      show (if r' = r' then _ else _) = some (mx (o.getD 0) (p.2.1 + 0))
      rw [if_pos rfl, Int.add_zero]
    · rw [if_neg (show ¬ some r' = some r from fun z => e (Option.some.inj z))]
      split
      · show (if r' = r then _ else _) = _
        rw [if_neg e]
        rfl
      · rfl
def D0 (x : Option T3) : Prop := ∀ y, x = some y → 0 ≤ y.2.2
theorem dX_sum {x y : Option T3} (d : Int) (o : Option Int) : dX (dX o d y) d x = dX o d (sum1 x y) := by
  cases x <;> cases y <;> simp [dX, sum1, add3, mx]
  split <;> split <;> split <;> (try split) <;> omega
theorem dX_or {x y : Option T3} (hx : D0 x) (hy : D0 y) (d : Int) (o : Option Int) : dX (dX o d y) d x = dX o d (or1 x y) := by
  cases x with
  | none =>
    cases y with
    | none => rfl
    | some y =>
      have := hy y rfl
      show some (mx (o.getD 0) (d + y.2.2)) = some (mx (o.getD 0) (d + mx 0 y.2.2))
      rw [show mx 0 y.2.2 = y.2.2 by unfold mx; split <;> omega]
  | some x =>
    have := hx x rfl
    cases y with
    | none =>
      show some (mx (o.getD 0) (d + x.2.2)) = some (mx (o.getD 0) (d + mx x.2.2 0))
      rw [show mx x.2.2 0 = x.2.2 by unfold mx; split <;> omega]
    | some y =>
      show some (mx (mx (o.getD 0) (d + y.2.2)) (d + x.2.2)) = some (mx (o.getD 0) (d + mx x.2.2 y.2.2))
      congr 1
      unfold mx
      split <;> split <;> split <;> (try split) <;> omega
theorem dX_box (m : Option (Int × Int)) (p : Pm3) (o : Option Int) (x : Option T3) : dX o (boxP m p).2.1 x = dX o p.2.1 (x.map (box3 m)) := by
  cases m with
  | none => cases x <;> rfl
  | some q =>
    obtain ⟨u, v⟩ := q
    cases x with
    | none => rfl
    | some x =>
      show some (mx _ (p.2.1 + v + x.2.2)) = some (mx _ (p.2.1 + (v + x.2.2)))
      rw [Int.add_assoc]
theorem D0_own (h : Hd) (r : Key) : D0 (own3 h r) := fun y e => by
  unfold own3 at e
  split at e
  · cases e; exact Int.le_refl _
  · cases e
theorem D0_sum {x y : Option T3} (hx : D0 x) (hy : D0 y) : D0 (sum1 x y) := by
  cases x with
  | none => exact hy
  | some x =>
    cases y with
    | none => exact hx
    | some y =>
      intro w e
      have := hx x rfl
      have := hy y rfl
      cases e
      show 0 ≤ mx _ _
      unfold mx
      split <;> omega
theorem D0_or {x y : Option T3} (hx : D0 x) (hy : D0 y) : D0 (or1 x y) := by
  cases x with
  | none =>
    cases y with
    | none => exact hx
    | some y =>
      intro w e
      have := hy y rfl
      cases e
      show 0 ≤ mx 0 _
      unfold mx
      split <;> omega
  | some x =>
    have := hx x rfl
    cases y with
    | none =>
      intro w e
      cases e
      show 0 ≤ mx _ 0
      unfold mx
      split <;> omega
    | some y =>
      intro w e
      have := hy y rfl
      cases e
      show 0 ≤ mx _ _
      unfold mx
      split <;> omega
theorem cnt_d (r : Key) : ∀ (t : Tr) (_ : t.Ok) (_ : ∀ x ∈ hds t, MdH x), D0 (cnt t r)
  | .le h, _, _ => D0_own h r
  | .un h a, ⟨_, _, h3⟩, m => D0_sum (cnt_d r a h3 (md_subU m).2) (D0_own h r)
  | .bi h a b, ⟨o, h2, h3, h4⟩, m => by
    obtain ⟨m1, m2, m3⟩ := md_sub m
    have ia := cnt_d r a h3 m2
    have ib := cnt_d r b h4 m3
    rw [cnt]
    by_cases n : h.k = .offer
    · rw [if_pos n]; exact D0_or ia ib
    · rw [if_neg n]
      refine D0_sum (D0_sum ib (D0_own h r)) ?_
      obtain ⟨e, z⟩ := mdh_hd h2 n
      intro y hy
      obtain ⟨x, hx, rfl⟩ := Option.map_eq_some_iff.mp hy
      have := ia x hx
      show 0 ≤ bl2 (hdM h) x.2.2
      cases hm : hdM h with
      | none => exact this
      | some q =>
        obtain ⟨u, v⟩ := q
        have := md_ok m1 z hm
        show 0 ≤ v + x.2.2
        omega
theorem dX_comm {x y : Option T3} (d1 d2 : Int) (o : Option Int) : dX (dX o d1 x) d2 y = dX (dX o d2 y) d1 x := by
  cases x <;> cases y <;> simp [dX, mx]
  split <;> split <;> (try split) <;> (try split) <;> omega
theorem run_all {lv : Int} {r : Key} (hb : below r lv = true) : ∀ (t : Tr) (_ : t.Ok) (_ : ∀ x ∈ hds t, MdH x) (p : Pm3) (n : Int) (_ : n < 0) (o : Option Int), (run lv t p n).2 = n ∧ dM r o (run lv t p n).1 = dX o p.2.1 (cnt t r)
  | .le h, _, _, p, n, hn, o => ⟨rfl, own_d hb h p o⟩
  | .un h a, ⟨_, h2, h3⟩, m, p, n, hn, o => by
    have e : boxP (mdh h) p = p := by rw [mdh_none (.inl (by omega))]; rfl
    obtain ⟨i1, i2⟩ := run_all hb a h3 (md_subU m).2 p n hn (dX o p.2.1 (own3 h r))
    rw [run, e]
    refine ⟨i1, ?_⟩
    rw [dM_app, own_d hb, i2, dX_sum]
    rfl
  | .bi h a b, ⟨oh, h2, h3, h4⟩, m, p, n, hn, o => by
    obtain ⟨m1, m2, m3⟩ := md_sub m
    obtain ⟨j1, j2⟩ := run_all hb b h4 m3 p n hn (dX o p.2.1 (own3 h r))
    obtain ⟨i1, i2⟩ := run_all hb a h3 m2 (boxP (mdh h) p) n hn (dX (dX o p.2.1 (own3 h r)) p.2.1 (cnt b r))
    rw [run, if_neg fun z => by omega, j1]
    refine ⟨i1, ?_⟩
    rw [dM_app, dM_app, own_d hb, j2, i2, cnt]
    by_cases hk : h.k = .offer
    · rw [if_pos hk, mdh_none (.inr hk), off_own oh hk]
      show dX (dX o p.2.1 (cnt b r)) p.2.1 (cnt a r) = _
      rw [dX_or (cnt_d r a h3 m2) (cnt_d r b h4 m3)]
    · rw [if_neg hk, (mdh_hd h2 hk).1, dX_box, dX_sum (x := cnt b r), dX_comm]
      exact dX_sum _ _
theorem own_below {lv : Int} (h : Hd) (p : Pm3) : ∀ u ∈ ownH lv h p, below u.1 lv = true := by
  intro u hu
  unfold ownH at hu
  cases hr : h.r with
  | none => rw [hr] at hu; cases hu
  | some r' =>
    rw [hr] at hu
    have hu : u ∈ (if below r' lv = true then [(r', p)] else []) := hu
    split at hu
    · rename_i hb
      rw [List.mem_singleton.mp hu]
      exact hb
    · cases hu
theorem run_below {lv : Int} : ∀ (t : Tr) (p : Pm3) (n : Int), ∀ u ∈ (run lv t p n).1, below u.1 lv = true
  | .le h, p, n, u, hu => own_below h p u hu
  | .un h a, p, n, u, hu => by
    rw [run] at hu
    rcases List.mem_append.mp hu with hu | hu
    · exact own_below h p u hu
    · exact run_below a _ _ u hu
  | .bi h a b, p, n, u, hu => by
    rw [run] at hu
    split at hu
    · split at hu
      · rcases List.mem_append.mp hu with hu | hu
        · exact own_below h p u hu
        · exact run_below a _ _ u hu
      · rcases List.mem_append.mp hu with hu | hu
        · exact own_below h p u hu
        · exact run_below b _ _ u hu
    · rcases List.mem_append.mp hu with hu | hu
      · exact own_below h p u hu
      · rcases List.mem_append.mp hu with hu | hu
        · exact run_below b _ _ u hu
        · exact run_below a _ _ u hu
theorem dM_no {r : Key} : ∀ (us : List Us) (o : Option Int), (∀ u ∈ us, u.1 ≠ r) → dM r o us = o
  | [], _, _ => rfl
  | u :: us, o, h => by
    show dM r (dS r o u) us = o
    rw [dM_no us _ fun x hx => h x (List.mem_cons_of_mem _ hx)]
    exact if_neg (h u (List.mem_cons_self ..))



theorem usT_len : ∀ (k : Nat) (st : List Wt) (lv n : Int), (usT k st lv n).length ≤ k
  | 0, _, _, _ => Nat.le_refl _
  | _ + 1, [], _, _ => Nat.zero_le _
  | k + 1, x :: st, lv, n => by
    have := usT_len k ((nextU x n).1.reverse ++ st) lv (nextU x n).2
    have h1 : (ownU lv x).length ≤ 1 := by
      unfold ownU
      split
      · split <;> simp
      · simp
    rw [usT, List.length_append]
    omega
/-! ### the subtrees in preorder, each with its path -/
def ps : Tr → List (List Nat × Tr)
  | .le h => [([], .le h)]
  | .un h a => ([], .un h a) :: (ps a).map fun x => (0 :: x.1, x.2)
  | .bi h a b => ([], .bi h a b) :: (((ps a).map fun x => (0 :: x.1, x.2)) ++ (ps b).map fun x => (1 :: x.1, x.2))
theorem ps_pth : ∀ (t : Tr) (p : List Nat), pth t p = (ps t).map fun x => p ++ x.1
  | .le _, p => by simp [pth, ps]
  | .un _ a, p => by simp [pth, ps, ps_pth a, Function.comp_def]
  | .bi _ a b, p => by simp [pth, ps, ps_pth a, ps_pth b, Function.comp_def]
theorem ps_hds : ∀ t : Tr, (ps t).map (fun x => x.2.hd) = hds t
  | .le _ => rfl
  | .un _ a => by simp [ps, hds, ← ps_hds a, Tr.hd, Function.comp_def]
  | .bi _ a b => by simp [ps, hds, ← ps_hds a, ← ps_hds b, Tr.hd, Function.comp_def]
theorem ps_at : ∀ (t : Tr), ∀ x ∈ ps t, atT t x.1 = some x.2 ∧ (t.Ok → x.2.Ok) ∧ x.1.length ≤ t.dep
  | .le h, x, hx => by rw [List.mem_singleton.mp hx]; exact ⟨rfl, id, Nat.le_refl _⟩
  | .un h a, x, hx => by
    rcases List.mem_cons.mp hx with rfl | hx
    · exact ⟨rfl, id, Nat.zero_le _⟩
    · obtain ⟨y, hy, rfl⟩ := List.mem_map.mp hx
      obtain ⟨h1, h2, h3⟩ := ps_at a y hy
      exact ⟨h1, fun o => h2 o.2.2, by simp only [List.length_cons, Tr.dep]; omega⟩
  | .bi h a b, x, hx => by
    rcases List.mem_cons.mp hx with rfl | hx
    · exact ⟨rfl, id, Nat.zero_le _⟩
    · rcases List.mem_append.mp hx with hx | hx
      · obtain ⟨y, hy, rfl⟩ := List.mem_map.mp hx
        obtain ⟨h1, h2, h3⟩ := ps_at a y hy
        exact ⟨h1, fun o => h2 o.2.2.1, by simp only [List.length_cons, Tr.dep]; omega⟩
      · obtain ⟨y, hy, rfl⟩ := List.mem_map.mp hx
        obtain ⟨h1, h2, h3⟩ := ps_at b y hy
        exact ⟨h1, fun o => h2 o.2.2.2, by simp only [List.length_cons, Tr.dep]; omega⟩
theorem dep_le : ∀ t : Tr, t.dep + 1 ≤ t.size
  | .le _ => Nat.le_refl _
  | .un _ a => by have := dep_le a; simp only [Tr.dep, Tr.size]; omega
  | .bi _ a b => by have := dep_le a; have := dep_le b; simp only [Tr.dep, Tr.size]; omega
theorem pwL_le : ∀ l : List Hd, pwL l ≤ 2 ^ l.length
  | [] => by decide
  | h :: hs => by
    have := pwL_le hs
    have := pwL_pos hs
    rw [pwL, List.length_cons, Int.pow_succ]
    split <;> omega
theorem pwL_snoc (l : List Hd) (h : Hd) : pwL (l ++ [h]) = if h.k = .offer then pwL l * 2 else pwL l := by
  rw [pwL_app]
  show pwL l * ((if h.k = .offer then 2 else 1) * 1) = _
  split <;> omega
/-! ### what is due, as a dict -/
def TtV (H : Hp) (v : V) (x : T3) : Prop := ∃ p, v = .ref p ∧ H p = some (.tup [.int x.1, .int x.2.1, .int x.2.2])
theorem TtV.ts {H H' : Hp} (e : TS H H') {v : V} {x : T3} : TtV H v x → TtV H' v x := fun ⟨p, h1, h2⟩ => ⟨p, h1, e _ _ h2⟩
structure DuV (H : Hp) (kvs : List (Key × V)) (f : CF) : Prop where
  nd : (kvs.map (·.1)).Nodup
  val : ∀ k, (valV kvs k = none ∧ f k = none) ∨ ∃ v x, valV kvs k = some v ∧ f k = some x ∧ TtV H v x
theorem DuV.ts {H H' : Hp} {kvs : List (Key × V)} {f : CF} (h : DuV H kvs f) (e : TS H H') : DuV H' kvs f := ⟨h.nd, fun k => (h.val k).elim .inl fun ⟨v, x, h1, h2, h3⟩ => .inr ⟨v, x, h1, h2, h3.ts e⟩⟩
theorem DuV.put {H : Hp} {kvs : List (Key × V)} {f : CF} {k : Key} {v : V} {x : T3} (h : DuV H kvs f) (c : TtV H v x) : DuV H (putK kvs k v) fun j => if j = k then some x else f j := by
  refine ⟨nd_put k v h.nd, fun j => ?_⟩
  rw [valV_put]
  by_cases e : j = k
  · rw [if_pos e, if_pos e]
    exact .inr ⟨v, x, rfl, rfl, c⟩
  · rw [if_neg e, if_neg e]
    exact h.val j
theorem DuV.cong {H : Hp} {kvs : List (Key × V)} {f g : CF} (h : DuV H kvs f) (e : f = g) : DuV H kvs g := e ▸ h
theorem DuV.nil {H : Hp} : DuV H [] fun _ => none := ⟨by simp, fun k => .inl ⟨rfl, rfl⟩⟩
theorem DuV.at {H : Hp} {kvs : List (Key × V)} {f : CF} (h : DuV H kvs f) {i : Nat} {y : Key} (e : (kvs.map (·.1))[i]? = some y) : ∃ v x, valV kvs y = some v ∧ f y = some x ∧ TtV H v x := by
  rw [List.getElem?_map] at e
  obtain ⟨kv, e1, e2⟩ := Option.map_eq_some_iff.mp e
  have e3 := val_nodup h.nd kv (List.mem_of_getElem? e1)
  rw [e2] at e3
  rcases h.val y with ⟨z, _⟩ | r
  · rw [z] at e3; cases e3
  · exact r
theorem DuV.none_of {H : Hp} {kvs : List (Key × V)} {f : CF} (h : DuV H kvs f) {k : Key} (n : k ∉ kvs.map (·.1)) : f k = none := by
  rcases h.val k with ⟨_, z⟩ | ⟨v', x, z1, z2, z3⟩
  · exact z
  · exact absurd (valV_in z1) n
theorem getD_tt {H : Hp} {kvs : List (Key × V)} {f : CF} (h : DuV H kvs f) (k : Key) {z : V} {x : T3} (hz : TtV H z x) : TtV H ((valV kvs k).getD z) ((f k).getD x) := by
  rcases h.val k with ⟨h1, h2⟩ | ⟨v, x, h1, h2, h3⟩
  · rw [h1, h2]; exact hz
  · rw [h1, h2]; exact h3
theorem put_keys {kvs : List (Key × V)} {k : Key} {v : V} (h : k ∈ kvs.map (·.1)) : (putK kvs k v).map (·.1) = kvs.map (·.1) := by
  unfold putK
  rw [if_pos, List.map_map]
  · apply List.map_congr_left
    intro x _
    show (if x.1 = k then (x.1, v) else x).1 = x.1
    split <;> rfl
  · obtain ⟨p, hp, e⟩ := List.mem_map.mp h
    exact List.any_eq_true.mpr ⟨p, hp, decide_eq_true e⟩
/-- after the first loop -/
def f1 (us : List Us) : CF := fun r => (dM r none us).map fun d => (1000, 0, d)
theorem f1_snoc (us : List Us) (u : Us) : f1 (us ++ [u]) = fun j => if j = u.1 then some (((f1 us u.1).getD (1000, 0, 0)).1, ((f1 us u.1).getD (1000, 0, 0)).2.1, mx ((f1 us u.1).getD (1000, 0, 0)).2.2 u.2.2.1) else f1 us j := by
  funext j
  unfold f1
  rw [dM_app]
  show (dS j (dM j none us) u).map _ = _
  unfold dS
  by_cases e : u.1 = j
  · subst e
    rw [if_pos rfl, if_pos rfl]
    cases dM u.1 none us <;> rfl
  · rw [if_neg e, if_neg fun z => e z.symm]
def nxt (x : T3) (l m : Int) : T3 := (mn x.1 l, mx x.2.1 m, x.2.2)
def fmn (F : Nat → Int) : Nat → Int
  | 0 => 1000
  | k + 1 => mn (fmn F k) (F k)
def fmx (F : Nat → Int) : Nat → Int
  | 0 => 0
  | k + 1 => mx (fmx F k) (F k)
theorem fmn_ge {F : Nat → Int} {l : Int} (hl : l ≤ 1000) (h : ∀ m, l ≤ F m) : ∀ k, l ≤ fmn F k
  | 0 => hl
  | k + 1 => by
    have := fmn_ge hl h k
    have := h k
    show l ≤ mn _ _
    unfold mn
    split <;> omega
theorem fmn_le {F : Nat → Int} {m : Nat} : ∀ k, m < k → fmn F k ≤ F m
  | 0, h => by omega
  | k + 1, h => by
    show mn _ _ ≤ _
    by_cases e : m = k
    · subst e; unfold mn; split <;> omega
    · have := fmn_le (F := F) k (show m < k by omega)
      unfold mn; split <;> omega
theorem fmx_le {F : Nat → Int} {l : Int} (hl : 0 ≤ l) (h : ∀ m, F m ≤ l) : ∀ k, fmx F k ≤ l
  | 0 => hl
  | k + 1 => by
    have := fmx_le hl h k
    have := h k
    show mx _ _ ≤ l
    unfold mx
    split <;> omega
theorem fmx_ge {F : Nat → Int} {m : Nat} : ∀ k, m < k → F m ≤ fmx F k
  | 0, h => by omega
  | k + 1, h => by
    show _ ≤ mx _ _
    by_cases e : m = k
    · subst e; unfold mx; split <;> omega
    · have := fmx_ge (F := F) k (show m < k by omega)
      unfold mx; split <;> omega
def FL (lv : Int) (t : Tr) (r : Key) (k : Nat) : Int := sL r (run lv t (1, 0, true) (k : Int)).1
def FM (lv : Int) (t : Tr) (r : Key) (k : Nat) : Int := sM r (run lv t (1, 0, true) (k : Int)).1
def f3 (lv : Int) (t : Tr) (k : Nat) : CF := fun r => (cF t lv r).map fun x => (fmn (FL lv t r) k, fmx (FM lv t r) k, x.2.2)
theorem f3_zero {lv : Int} {t : Tr} (o : t.Ok) (m : ∀ x ∈ hds t, MdH x) : f1 (run lv t (1, 0, true) (-1)).1 = f3 lv t 0 := by
  funext r
  unfold f1 f3
  rw [cF_cnt o]
  by_cases hb : below r lv = true
  · rw [if_pos hb, (run_all hb t o m (1, 0, true) (-1) (by decide) none).2]
    have hd := cnt_d r t o m
    cases hc : cnt t r with
    | none => rfl
    | some x =>
      have := hd x hc
      show some (1000, 0, mx 0 (0 + x.2.2)) = some (1000, 0, x.2.2)
      rw [show mx 0 (0 + x.2.2) = x.2.2 by unfold mx; split <;> omega]
  · rw [if_neg hb, dM_no]
    · rfl
    · intro u hu e
      subst e
      exact hb (run_below t _ _ u hu)
theorem f3_succ (lv : Int) (t : Tr) (k : Nat) : f3 lv t (k + 1) = fun r => (f3 lv t k r).map fun x => nxt x (FL lv t r k) (FM lv t r k) := by
  funext r
  unfold f3
  cases cF t lv r <;> rfl
theorem f3_all {lv : Int} {t : Tr} (o : t.Ok) (m : ∀ x ∈ hds t, MdH x) (hz : t.size ≤ 1000) {n : Nat} (hn : (n : Int) = pwL (hds t)) : f3 lv t n = cF t lv := by
  funext r
  unfold f3
  rw [cF_cnt o]
  by_cases hb : below r lv = true
  · rw [if_pos hb]
    cases hc : cnt t r with
    | none => rfl
    | some x =>
      obtain ⟨b1, b2, b3⟩ := cnt_b r t o m
      have egl : gl (cnt t r) = x.1 := by rw [hc]; rfl
      have egm : gm (cnt t r) = x.2.1 := by rw [hc]; rfl
      rw [egl] at b1 b2
      rw [egm] at b3
      have bd : ∀ k : Nat, x.1 ≤ FL lv t r k ∧ FM lv t r k ≤ x.2.1 := fun k => by
        obtain ⟨c1, c2, _⟩ := run_bd hb t o m (1, 0, true) (k : Int) (by decide) (by omega)
        rw [if_pos rfl, egl] at c1
        rw [egm, Int.one_mul] at c2
        exact ⟨c1, c2⟩
      obtain ⟨n1, p1, p2, _, p4⟩ := run_lo hb t o m (1, 0, true) 0 (by decide)
      obtain ⟨n2, q1, q2, _, q4⟩ := run_hi hb t o m (1, 0, true) 0 (by decide)
      rw [if_pos rfl, egl] at p4
      rw [egm, Int.one_mul] at q4
      have e1 : FL lv t r n1.toNat = x.1 := by unfold FL; rw [show ((n1.toNat : Nat) : Int) = n1 by omega]; exact p4
      have e2 : FM lv t r n2.toNat = x.2.1 := by unfold FM; rw [show ((n2.toNat : Nat) : Int) = n2 by omega]; exact q4
      have g1 := fmn_ge (F := FL lv t r) (l := x.1) (by omega) (fun k => (bd k).1) n
      have g2 := fmn_le (F := FL lv t r) (m := n1.toNat) n (by omega)
      have g3 := fmx_le (F := FM lv t r) (l := x.2.1) b3 (fun k => (bd k).2) n
      have g4 := fmx_ge (F := FM lv t r) (m := n2.toNat) n (by omega)
      rw [e1] at g2
      rw [e2] at g4
      show some (_, _, x.2.2) = some x
      rw [show fmn (FL lv t r) n = x.1 by omega, show fmx (FM lv t r) n = x.2.1 by omega]
  · rw [if_neg hb]; rfl
theorem sL_fil (r : Key) : ∀ us : List Us, ((us.filter fun u => decide (u.1 = r)).map fun u => if u.2.2.2 = true then (1 : Int) else 0).sum = sL r us
  | [] => rfl
  | u :: us => by
    have ih := sL_fil r us
    by_cases e : u.1 = r
    · rw [List.filter_cons_of_pos (by simpa using e), List.map_cons, List.sum_cons, ih, sL, if_pos e]
    · rw [List.filter_cons_of_neg (by simpa using e), ih, sL, if_neg e, Int.zero_add]
theorem sM_fil (r : Key) : ∀ us : List Us, ((us.filter fun u => decide (u.1 = r)).map fun u => u.2.1).sum = sM r us
  | [] => rfl
  | u :: us => by
    have ih := sM_fil r us
    by_cases e : u.1 = r
    · rw [List.filter_cons_of_pos (by simpa using e), List.map_cons, List.sum_cons, ih, sM, if_pos e]
    · rw [List.filter_cons_of_neg (by simpa using e), ih, sM, if_neg e, Int.zero_add]



theorem at2 {x y z : V} {l : List V} : atI (x :: y :: z :: l) 2 = some z := atI_nat (j := 2) rfl
theorem at3 {x y z u : V} {l : List V} : atI (x :: y :: z :: u :: l) 3 = some u := atI_nat (j := 3) rfl
theorem b_sum : bootBuiltins "sum" = some (.builtin "sum") := by decide +kernel
open Classical in
noncomputable def mixF (ks : List Key) (g f : CF) : CF := fun r => if r ∈ ks then g r else f r
theorem mix_in {ks : List Key} {g f : CF} {r : Key} (h : r ∈ ks) : mixF ks g f r = g r := if_pos h
theorem mix_no {ks : List Key} {g f : CF} {r : Key} (h : r ∉ ks) : mixF ks g f r = f r := if_neg h
section
variable {P : Program} {w : World} {K : PySem.W.Frag} {mg : Str → Option Value} {base : Heap}
def spDue (n : Nat) : Sp := fun vs H Q _ => ∃ v t lv, vs = [v, .int lv] ∧ TrV H t v ∧ t.Ok ∧ (∀ h ∈ hds t, MdH h) ∧ t.dep ≤ n ∧ t.size ≤ 60 ∧ ∀ d kvs H', Same H H' → H d = none → H' d = some (.dK kvs) → DuV H' kvs (cF t lv) → Q (.ref d) H'
theorem ok_due (n : Nat) (hn : n ≤ 900) (T : Top K mg "_law_due" s_due) (mMax : mg "max" = none) (mMin : mg "min" = none) (mSum : mg "sum" = none) (mR : mg "range" = none) (mL : mg "list" = none) (mInt : mg "int" = none) (FU : Fn P w K mg base 4 "_law_uses" spUses) (FP : Fn P w K mg base (n + 3) "_law_paths" (spPaths n)) (FA : Fn P w K mg base 3 "_law_at" spAt) : Fn P w K mg base (n + 5) "_law_due" (spDue n) := by
  refine fn_ok T sc_due so_due (fun vs H Q E h => by obtain ⟨v, t, lv, rfl, _⟩ := h; rfl) (fun _ _ _ _ _ _ us hl => match us, hl with | [_, _], _ => rfl) fun f cdv A outer s H vs Q E hr h nd => ?_
  obtain ⟨v, t, lv, rfl, hv, ho, hmd, hdp, hz, q⟩ := h
  refine l_cons (s_set (e_dnew fun D nD => ?_))
  have eD : Same H (upd H D (.dK [])) := fun c u hc => by rw [upd_ne (ne_of_none hc nD)]; exact hc
  have hD0 : upd H D (.dK []) D = some (.dK []) := upd_same
  generalize upd H D (.dK []) = H1 at eD hD0
  show wL _ _ _ [some v, some (.int lv), some (.ref D), none, none, none, none, none, none, none, none, none] _
  refine l_cons (s_forL (e_call (by exact FU) (by exact hr) (by omega) ?_))
  walk_at "sts"
  refine ⟨v, t, lv, -1, rfl, hv.ts (Same.ts eD), ho, hmd, fun l us H2 e2 n2 h2 hus => ?_⟩
  have lus := hus.len
  have lus2 := usT_len 200 [(t, 1, 0, true)] lv (-1)
  rw [uses_run lv ho (by omega)] at hus lus lus2
  have eH2 := eD.trans e2
  have hD2 := e2 _ _ hD0
  have nDl : l ≠ D := fun z => by subst z; rw [hD0] at n2; cases n2
  have tsB : ∀ {H' : Hp}, But D H2 H' → TS H2 H' := fun b c xs hc => b _ _ (fun z => by subst z; rw [hD2] at hc; cases hc) hc
  refine ⟨l, us, rfl, SqL.of h2, fun k σ H' => ∃ x3 x4 kvs, σ = [some v, some (.int lv), some (.ref D), x3, x4, none, none, none, none, none, none, none] ∧ H' D = some (.dK kvs) ∧ DuV H' kvs (f1 ((run lv t (1, 0, true) (-1)).1.take k)) ∧ kvs.length ≤ k ∧ But D H2 H', ?_, ?_, ?_, ?_⟩
  · exact ⟨none, none, [], rfl, hD2, DuV.nil, Nat.le_refl _, But.refl⟩
  · intro k σ H' _ p
    obtain ⟨_, _, _, _, _, _, _, b⟩ := p
    exact SqL.of (b _ _ nDl h2)
  · intro k y σ H' hy p
    obtain ⟨x3, x4, kvs, rfl, hD, hdu, lk, b⟩ := p
    obtain ⟨u, hu, hq⟩ := hus.get hy
    have hlt := (List.getElem?_eq_some_iff.mp hy).1
    obtain ⟨tq, rfl, htq⟩ := (UeV.ts (tsB b) hq)
    show wL _ _ _ [some v, some (.int lv), some (.ref D), some (.ref tq), x4, none, none, none, none, none, none, none] _
    refine l_cons (s_set (e_dget2 (n := n + 4) (by exact hr) (e_var ⟨D, rfl, .inl ⟨_, .inl hD⟩, ?_⟩)))
    refine e_ix (e_var (e_int (ix_t (by exact SqT.of htq) at0 ?_)))
    walk_at "sts"
    refine ⟨by show 3 ≤ sizeLine; decide, fun zp H3 e3 n3 h3 => ?_⟩
    refine ⟨_, dg_K (e3 _ _ hD), ?_⟩
    have hg := getD_tt (hdu.ts (Same.ts e3)) u.1 (z := .ref zp) (x := (1000, 0, 0)) ⟨zp, rfl, h3⟩
    obtain ⟨op, ho1, hop⟩ := hg
    rw [ho1]
    show wL _ _ _ [some v, some (.int lv), some (.ref D), some (.ref tq), some (.ref op), none, none, none, none, none, none, none] _
    refine l_cons (s_dput (hu_of hr) (e_tup (a_cons (e_ix (e_var (e_int (ix_t (by exact SqT.of hop) at0 ?_)))))))
    refine a_cons (e_ix (e_var (e_int (ix_t (by exact SqT.of hop) at1 ?_))))
    refine a_cons (e_callB (x := "max") (by assumption) b_max ?_)
    refine a_cons (e_ix (e_var (e_int (ix_t (by exact SqT.of hop) at2 ?_))))
    refine a_cons (e_ix (e_var (e_int (ix_t (by exact SqT.of (e3 _ _ htq)) at2 ?_))))
    refine a_nil (c_max rfl (a_nil ⟨by show 3 ≤ sizeLine; decide, fun np H4 e4 n4 h4 => ?_⟩))
    have hD4 := e4 _ _ (e3 _ _ hD)
    refine e_var (e_ix (e_var (e_int (ix_t (by exact SqT.of (e4 _ _ (e3 _ _ htq))) at0 ?_))))
    refine ⟨D, _, rfl, DPut.k hD4 (by show _ < 2 ^ 24; omega), l_nil ⟨_, _, _, rfl, upd_same, ?_, ?_, fun c o nc hc => by rw [upd_ne nc]; exact e4 _ _ (e3 _ _ (b _ _ nc hc))⟩⟩
    · have tD : TS H4 (upd H4 D (.dK (putK kvs u.1 (.ref np)))) := fun c xs hc => by rw [upd_ne (fun z => by subst z; rw [hD4] at hc; cases hc)]; exact hc
      refine (((hdu.ts (Same.ts (e3.trans e4))).put (v := .ref np) (x := (((f1 ((run lv t (1, 0, true) (-1)).1.take k) u.1).getD (1000, 0, 0)).1, ((f1 ((run lv t (1, 0, true) (-1)).1.take k) u.1).getD (1000, 0, 0)).2.1, mx ((f1 ((run lv t (1, 0, true) (-1)).1.take k) u.1).getD (1000, 0, 0)).2.2 u.2.2.1)) ⟨np, rfl, h4⟩).ts tD).cong ?_
      rw [take_snoc' hu, f1_snoc]
    · have := put_len kvs u.1 (.ref np)
      omega
  intro σ H' p
  obtain ⟨x3, x4, kvs, rfl, hD, hdu, lk, b⟩ := p
  rw [lus, List.take_length, f3_zero ho hmd] at hdu
  -- the number of choices
  refine l_cons (s_set (e_int ?_))
  show wL _ _ _ [some v, some (.int lv), some (.ref D), x3, x4, some (.int 1), none, none, none, none, none, none] _
  have hv' := hv.ts ((Same.ts eH2).trans (tsB b))
  have dep := dep_le t
  refine l_cons (s_forL (e_call (by exact FP) (by exact hr) (by omega) ?_))
  walk_at "sts"
  refine ⟨by show 0 ≤ sizeLine; decide, fun pa H3 e3 n3 h3 => ?_⟩
  walk_at "sts"
  refine ⟨v, .ref pa, t, [], rfl, hv'.ts (Same.ts e3), ho, hdp, by omega, ⟨pa, rfl, h3⟩, by simp only [List.length_nil]; omega, fun pl pv H4 e4 n4 h4 hps => ?_⟩
  have lps := hps.len
  rw [pth_len] at lps
  have e34 := e3.trans e4
  refine ⟨pl, pv, rfl, SqL.of h4, fun k σ H5 => ∃ x6, σ = [some v, some (.int lv), some (.ref D), x3, x4, some (.int (pwL ((hds t).take k))), x6, none, none, none, none, none] ∧ Same H4 H5, ⟨none, rfl, Same.refl _⟩, ?_, ?_, ?_⟩
  · intro k σ H5 _ p
    obtain ⟨_, _, e⟩ := p
    exact SqL.of (e _ _ h4)
  · intro k y σ H5 hy p
    obtain ⟨x6, rfl, e5⟩ := p
    show wL _ _ _ [some v, some (.int lv), some (.ref D), x3, x4, some (.int (pwL ((hds t).take k))), some y, none, none, none, none, none] _
    obtain ⟨pp, hp, hpv⟩ := hps.get hy
    rw [ps_pth, List.getElem?_map] at hp
    obtain ⟨⟨p', s⟩, hps', rfl⟩ := Option.map_eq_some_iff.mp hp
    obtain ⟨a1, a2, a3⟩ := ps_at t _ (List.mem_of_getElem? hps')
    have hh : (hds t)[k]? = some s.hd := by rw [← ps_hds, List.getElem?_map, hps']; rfl
    have tot := pwL_le ((hds t).take k)
    refine l_cons (s_if (t_cmp (e_ix (e_call (by exact FA) (by exact hr) (by omega) ?_))))
    walk_at "sts"
    refine ⟨v, y, t, p', s, rfl, hv'.ts (Same.ts (e34.trans e5)), ho, hpv.ts (Same.ts e5), a1, by have a4 : p'.length ≤ t.dep := a3; omega, fun v' H6 e6 hv6 => ?_⟩
    obtain ⟨sp, xs, ys, rfl, hsp, ⟨fs, rfl, hfs⟩, _⟩ := hv6.split
    refine e_int (ix_t (by exact SqT.of hsp) at0 (e_str (o_eqS ⟨_, rfl, ?_⟩)))
    rw [nm_eq]
    by_cases hk : s.hd.k = .offer
    · refine ifT hk (l_cons (s_set (e_bin (e_var (e_int (o_mul (.inr ⟨by decide, by decide⟩) (l_nil (l_nil ⟨some y, ?_, e5.trans e6⟩))))))))
      rw [take_snoc' hh, pwL_snoc, if_pos hk]
      rfl
    · refine ifF hk (l_nil (l_nil ⟨some y, ?_, e5.trans e6⟩))
      rw [take_snoc' hh, pwL_snoc, if_neg hk]
  intro σ H5 p
  obtain ⟨x6, rfl, e5⟩ := p
  rw [lps, ← hds_size, List.take_length]
  have tot := pwL_le (hds t)
  have tot0 := pwL_pos (hds t)
  have tot1 : ((2 : Int) ^ (hds t).length) ≤ 2 ^ 60 := by
    have : (2 : Nat) ^ (hds t).length ≤ 2 ^ 60 := Nat.pow_le_pow_right (by decide) (by rw [hds_size]; exact hz)
    exact_mod_cast this
  have e35 := e34.trans e5
  have hDx := e35 _ _ hD
  have hduA := hdu.ts (Same.ts e35)
  have bA : But D H2 H5 := b.trans (But.of e35)
  have hvA := hv'.ts (Same.ts e35)
  refine l_cons (s_forR (by assumption) (e_var ⟨(pwL (hds t)).toNat, by rw [show (((pwL (hds t)).toNat : Nat) : Int) = pwL (hds t) by omega], by omega, fun k σ H' => ∃ x3 x4 x7 x8 x9 x10 x11 kvs, σ = [some v, some (.int lv), some (.ref D), x3, x4, some (.int (pwL (hds t))), x6, x7, x8, x9, x10, x11] ∧ H' D = some (.dK kvs) ∧ DuV H' kvs (f3 lv t k) ∧ kvs.length ≤ 200 ∧ But D H2 H', ?_, ?_, ?_⟩))
  · exact ⟨x3, x4, _, _, _, _, _, kvs, rfl, hDx, hduA, by omega, bA⟩
  · intro k σ H' hk p
    obtain ⟨x3, x4, x7, x8, x9, x10, x11, kvs, rfl, hD, hdu, lk, b⟩ := p
    show wL _ _ _ [some v, some (.int lv), some (.ref D), x3, x4, some (.int (pwL (hds t))), x6, some (.int (k : Int)), x8, x9, x10, x11] _
    refine l_cons (s_set (e_call (by exact FU) (by exact hr) (by omega) ?_))
    walk_at "sts"
    refine ⟨v, t, lv, (k : Int), rfl, hv.ts ((Same.ts eH2).trans (tsB b)), ho, hmd, fun ul us H3 e3 n3 h3 hus => ?_⟩
    have lus := hus.len
    have lus2 := usT_len 200 [(t, 1, 0, true)] lv (k : Int)
    rw [uses_run lv ho (by omega)] at hus lus lus2
    have hD3 := e3 _ _ hD
    have hdu3 := hdu.ts (Same.ts e3)
    have b3 := b.trans (But.of e3)
    have nUD : ul ≠ D := fun z => by subst z; rw [hD] at n3; cases n3
    show wL _ _ _ [some v, some (.int lv), some (.ref D), x3, x4, some (.int (pwL (hds t))), x6, some (.int (k : Int)), some (.ref ul), x9, x10, x11] _
    refine l_cons (s_forL (e_callTy (x := "list") (by assumption) b_list (a_cons (e_var (a_nil (c_listDn rfl hD3 fun kl H4 e4 n4 h4 => ?_))))))
    have nKD : kl ≠ D := fun z => by subst z; rw [hD3] at n4; cases n4
    refine ⟨kl, _, rfl, SqL.of h4, fun j σ H' => ∃ x4 x9 x10 x11 kv', σ = [some v, some (.int lv), some (.ref D), x3, x4, some (.int (pwL (hds t))), x6, some (.int (k : Int)), some (.ref ul), x9, x10, x11] ∧ H' D = some (.dK kv') ∧ kv'.map (·.1) = kvs.map (·.1) ∧ DuV H' kv' (mixF ((kvs.map (·.1)).take j) (f3 lv t (k + 1)) (f3 lv t k)) ∧ But D H4 H', ?_, ?_, ?_, ?_⟩
    · exact ⟨x4, x9, x10, x11, kvs, rfl, e4 _ _ hD3, rfl, (hdu3.ts (Same.ts e4)).cong (by funext r; rw [List.take_zero, mix_no (by simp)]), But.refl⟩
    · intro j σ H' _ p
      obtain ⟨_, _, _, _, _, _, _, _, _, b⟩ := p
      exact SqL.of (b _ _ nKD h4)
    · intro j y σ H5 hy p
      obtain ⟨x4, x9, x10, x11, kv', rfl, hD5, hke, hdu5, b5⟩ := p
      rw [show (kvs.map fun kv => kV kv.1) = (kvs.map (·.1)).map kV by rw [List.map_map]; rfl, List.getElem?_map] at hy
      obtain ⟨r, hr1, rfl⟩ := Option.map_eq_some_iff.mp hy
      have hlk : kv'.length = kvs.length := by have := congrArg List.length hke; rwa [List.length_map, List.length_map] at this
      obtain ⟨ov, x, gv, gx, op, rfl, hop⟩ := hdu5.at (i := j) (y := r) (by rw [hke]; exact hr1)
      have nin : r ∉ (kvs.map (·.1)).take j := by
        intro m
        obtain ⟨i, hi, e2⟩ := List.mem_iff_getElem.mp m
        rw [List.length_take] at hi
        rw [List.getElem_take] at e2
        obtain ⟨hj1, hj2⟩ := List.getElem?_eq_some_iff.mp hr1
        have := (List.getElem_inj hdu.nd).mp (e2.trans hj2.symm)
        omega
      rw [mix_no nin] at gx
      have tsD : ∀ {H6 : Hp}, But D H4 H6 → TS H4 H6 := fun bb c xs hc => bb _ _ (fun z => by subst z; rw [e4 _ _ hD3] at hc; cases hc) hc
      have husA := hus.up fun a bb h => UeV.ts ((Same.ts e4).trans (tsD b5)) h
      have hul5 := b5 _ _ nUD (e4 _ _ h3)
      show wL _ _ _ [some v, some (.int lv), some (.ref D), x3, x4, some (.int (pwL (hds t))), x6, some (.int (k : Int)), some (.ref ul), some (kV r), x10, x11] _
      have gm5 : DGet H5 D (kV r) (some (.ref op)) := by rw [← gv]; exact dg_K hD5
      refine l_cons (s_set (e_dg (n := n + 4) (by exact hr) (e_var (e_var ⟨D, _, rfl, gm5, ?_⟩))))
      show wL _ _ _ [some v, some (.int lv), some (.ref D), x3, some (.ref op), some (.int (pwL (hds t))), x6, some (.int (k : Int)), some (.ref ul), some (kV r), x10, x11] _
      -- the least
      refine l_cons (s_set (e_callB (x := "sum") (by assumption) b_sum (a_cons (e_lcLf (by exact bk_due0) (e_var ⟨ul, us, rfl, SqL.of hul5, fun A1 nA1 => ?_⟩)))))
      refine ⟨fun i H6 => H6 A1 = some (.lst (((((run lv t (1, 0, true) (k : Int)).1.take i).filter fun u => decide (u.1 = r)).map fun u => if u.2.2.2 = true then (1 : Int) else 0).map V.int)) ∧ Same H5 H6, ⟨by rw [List.take_zero]; exact upd_same, fun c o hc => by rw [upd_ne (ne_of_none hc nA1)]; exact hc⟩, fun i H6 _ p => SqL.of (p.2 _ _ hul5), ?_, ?_⟩
      · intro i y H6 hy6 p
        obtain ⟨p1, p2⟩ := p
        obtain ⟨u, hu, hq⟩ := husA.get hy6
        have hli := (List.getElem?_eq_some_iff.mp hy6).1
        obtain ⟨tq, rfl, htq⟩ := (UeV.ts (Same.ts p2) hq)
        intro s0 H0 C0 cl fp IB
        refine t_cmp (e_ix (b_var (e_int (ix_t (by exact SqT.of htq) at0 (b_var (o_eqKK ⟨_, rfl, ?_⟩))))))
        by_cases e : u.1 = r
        · refine ifT e ?_
          intro s0 H0 C0 cl fp IB
          refine b_callTy (x := "int") (by assumption) b_int (a_cons (e_ix (b_var (e_int (ix_t (by exact SqT.of htq) at3 (a_nil (c_intB ?_)))))))
          refine ⟨_, p1, ?_, ?_, fresh_keep nA1 p2⟩
          · have := List.length_filter_le (fun u : Us => decide (u.1 = r)) ((run lv t (1, 0, true) (k : Int)).1.take i)
            rw [List.length_take] at this
            rw [List.length_map, List.length_map]
            show _ < 2 ^ 24
            omega
          · rw [take_snoc' hu, List.filter_append, List.filter_cons_of_pos (by simpa using e), List.map_append, List.map_append]
            exact upd_same
        · refine ifF e ⟨?_, p2⟩
          rw [take_snoc' hu, List.filter_append, List.filter_cons_of_neg (by simpa using e), List.filter_nil, List.append_nil]
          exact p1
      intro H6 p
      obtain ⟨p1, e6⟩ := p
      rw [lus, List.take_length] at p1
      refine a_nil (c_sumL rfl (SqL.of p1) ?_)
      rw [sL_fil]
      show wL _ _ _ [some v, some (.int lv), some (.ref D), x3, some (.ref op), some (.int (pwL (hds t))), x6, some (.int (k : Int)), some (.ref ul), some (kV r), some (.int (FL lv t r k)), x11] _
      have husB := husA.up fun a bb h => UeV.ts (Same.ts e6) h
      -- the most
      refine l_cons (s_set (e_callB (x := "sum") (by assumption) b_sum (a_cons (e_lcLf (by exact bk_due1) (e_var ⟨ul, us, rfl, SqL.of (e6 _ _ hul5), fun A2 nA2 => ?_⟩)))))
      refine ⟨fun i H7 => H7 A2 = some (.lst (((((run lv t (1, 0, true) (k : Int)).1.take i).filter fun u => decide (u.1 = r)).map fun u => u.2.1).map V.int)) ∧ Same H6 H7, ⟨by rw [List.take_zero]; exact upd_same, fun c o hc => by rw [upd_ne (ne_of_none hc nA2)]; exact hc⟩, fun i H7 _ p => SqL.of (p.2 _ _ (e6 _ _ hul5)), ?_, ?_⟩
      · intro i y H7 hy6 p
        obtain ⟨p1, p2⟩ := p
        obtain ⟨u, hu, hq⟩ := husB.get hy6
        have hli := (List.getElem?_eq_some_iff.mp hy6).1
        obtain ⟨tq, rfl, htq⟩ := (UeV.ts (Same.ts p2) hq)
        intro s0 H0 C0 cl fp IB
        refine t_cmp (e_ix (b_var (e_int (ix_t (by exact SqT.of htq) at0 (b_var (o_eqKK ⟨_, rfl, ?_⟩))))))
        by_cases e : u.1 = r
        · refine ifT e ?_
          intro s0 H0 C0 cl fp IB
          refine e_ix (b_var (e_int (ix_t (by exact SqT.of htq) at1 ?_)))
          refine ⟨_, p1, ?_, ?_, fresh_keep nA2 p2⟩
          · have := List.length_filter_le (fun u : Us => decide (u.1 = r)) ((run lv t (1, 0, true) (k : Int)).1.take i)
            rw [List.length_take] at this
            rw [List.length_map, List.length_map]
            show _ < 2 ^ 24
            omega
          · rw [take_snoc' hu, List.filter_append, List.filter_cons_of_pos (by simpa using e), List.map_append, List.map_append]
            exact upd_same
        · refine ifF e ⟨?_, p2⟩
          rw [take_snoc' hu, List.filter_append, List.filter_cons_of_neg (by simpa using e), List.filter_nil, List.append_nil]
          exact p1
      intro H7 p
      obtain ⟨p1, e7⟩ := p
      rw [lus, List.take_length] at p1
      refine a_nil (c_sumL rfl (SqL.of p1) ?_)
      rw [sM_fil]
      show wL _ _ _ [some v, some (.int lv), some (.ref D), x3, some (.ref op), some (.int (pwL (hds t))), x6, some (.int (k : Int)), some (.ref ul), some (kV r), some (.int (FL lv t r k)), some (.int (FM lv t r k))] _
      have e67 := e6.trans e7
      have hop7 := e67 _ _ hop
      refine l_cons (s_dput (hu_of hr) (e_tup (a_cons (e_callB (x := "min") (by assumption) b_min ?_))))
      refine a_cons (e_ix (e_var (e_int (ix_t (by exact SqT.of hop7) at0 (a_cons (e_var (a_nil (c_min rfl ?_))))))))
      refine a_cons (e_callB (x := "max") (by assumption) b_max ?_)
      refine a_cons (e_ix (e_var (e_int (ix_t (by exact SqT.of hop7) at1 (a_cons (e_var (a_nil (c_max rfl ?_))))))))
      refine a_cons (e_ix (e_var (e_int (ix_t (by exact SqT.of hop7) at2 (a_nil ⟨by show 3 ≤ sizeLine; decide, fun np H8 e8 n8 h8 => ?_⟩)))))
      have e58 := e67.trans e8
      have hD8 := e58 _ _ hD5
      refine e_var (e_var ⟨D, _, rfl, DPut.k hD8 (by show _ < 2 ^ 24; omega), l_nil ⟨_, _, _, _, _, rfl, upd_same, ?_, ?_, fun c o nc hc => by rw [upd_ne nc]; exact e58 _ _ (b5 _ _ nc hc)⟩⟩)
      · rw [put_keys (by rw [hke]; exact List.mem_of_getElem? hr1)]; exact hke
      · have tD : TS H8 (upd H8 D (.dK (putK kv' r (.ref np)))) := fun c xs hc => by rw [upd_ne (fun z => by subst z; rw [hD8] at hc; cases hc)]; exact hc
        refine (((hdu5.ts (Same.ts e58)).put (k := r) (v := .ref np) (x := nxt x (FL lv t r k) (FM lv t r k)) ⟨np, rfl, h8⟩).ts tD).cong ?_
        funext i
        rw [take_snoc' hr1]
        by_cases e : i = r
        · subst e
          rw [if_pos rfl, mix_in (by simp), f3_succ]
          show _ = (f3 lv t k i).map _
          rw [gx]
          rfl
        · rw [if_neg e]
          by_cases hm : i ∈ (kvs.map (·.1)).take j
          · rw [mix_in hm, mix_in (List.mem_append_left _ hm)]
          · rw [mix_no hm, mix_no]
            intro z
            rcases List.mem_append.mp z with z | z
            · exact hm z
            · exact e (List.mem_singleton.mp z)
    · intro σ H5 p
      obtain ⟨x4, x9, x10, x11, kv', rfl, hD5, hke, hdu5, b5⟩ := p
      have hlk : kv'.length = kvs.length := by have := congrArg List.length hke; rwa [List.length_map, List.length_map] at this
      refine l_nil ⟨_, _, _, _, _, _, _, kv', rfl, hD5, hdu5.cong ?_, by omega, (b3.trans (But.of e4)).trans b5⟩
      funext r
      rw [List.length_map, show kvs.length = (kvs.map (·.1)).length by rw [List.length_map], List.take_length]
      by_cases hm : r ∈ kvs.map (·.1)
      · rw [mix_in hm]
      · rw [mix_no hm, f3_succ, hdu.none_of hm]
        show none = (f3 lv t k r).map _
        rw [hdu.none_of hm]
        rfl
  · intro σ H' p
    obtain ⟨x3, x4, x7, x8, x9, x10, x11, kvs, rfl, hD, hdu, lk, b⟩ := p
    rw [f3_all ho hmd (by omega) (by omega)] at hdu
    refine l_cons (s_ret (e_var (q D kvs H' (fun c o hc => b _ _ (fun z => by subst z; rw [nD] at hc; cases hc) (eH2 _ _ hc)) nD hD hdu)))
end



theorem kb_dict_dict : kitB "dict" "dict" = some true := by decide +kernel
theorem b_dict : bootBuiltins "dict" = some (.type "dict") := by decide +kernel
theorem len_sub {α : Type} [DecidableEq α] : ∀ (l m : List α), l.Nodup → (∀ x ∈ l, x ∈ m) → l.length ≤ m.length
  | [], _, _, _ => Nat.zero_le _
  | x :: l, m, nd, h => by
    rw [List.nodup_cons] at nd
    have hx := h x (List.mem_cons_self ..)
    have ih := len_sub l (m.erase x) nd.2 fun y hy => (List.mem_erase_of_ne (fun z => by subst z; exact nd.1 hy)).mpr (h y (List.mem_cons_of_mem _ hy))
    rw [List.length_erase_of_mem hx] at ih
    have := List.length_pos_of_mem hx
    rw [List.length_cons]
    omega
theorem DkV.mem {C : Addr} {H : Hp} {kvs : List (Key × V)} {f : CF} (h : DkV C H kvs f) (k : Key) : k ∈ kvs.map (·.1) ↔ f k ≠ none := by
  constructor
  · intro m e
    obtain ⟨p, hp, e2⟩ := List.mem_map.mp m
    have e3 := val_nodup h.nd p hp
    rw [e2] at e3
    rcases h.val k with ⟨z, _⟩ | ⟨v, x, z1, z2, z3⟩
    · rw [z] at e3; cases e3
    · rw [z2] at e; cases e
  · intro m
    by_cases n : k ∈ kvs.map (·.1)
    · exact n
    · exact absurd (h.none_of n) m
theorem DuV.mem {H : Hp} {kvs : List (Key × V)} {f : CF} (h : DuV H kvs f) (k : Key) : k ∈ kvs.map (·.1) ↔ f k ≠ none := by
  constructor
  · intro m e
    obtain ⟨p, hp, e2⟩ := List.mem_map.mp m
    have e3 := val_nodup h.nd p hp
    rw [e2] at e3
    rcases h.val k with ⟨z, _⟩ | ⟨v, x, z1, z2, z3⟩
    · rw [z] at e3; cases e3
    · rw [z2] at e; cases e
  · intro m
    by_cases n : k ∈ kvs.map (·.1)
    · exact n
    · exact absurd (h.none_of n) m
open Classical in
theorem len_due {C : Addr} {H H' : Hp} {ks ds : List (Key × V)} {f : CF} (h : DkV C H ks f) (g : DuV H' ds f) : ks.length = ds.length := by
  have a := len_sub (ks.map (·.1)) (ds.map (·.1)) h.nd fun x hx => (g.mem x).mpr ((h.mem x).mp hx)
  have b := len_sub (ds.map (·.1)) (ks.map (·.1)) g.nd fun x hx => (h.mem x).mpr ((g.mem x).mp hx)
  rw [List.length_map, List.length_map] at a b
  omega
section
variable {P : Program} {w : World} {K : PySem.W.Frag} {mg : Str → Option Value} {base : Heap} {C : Addr}
def spSame0 : Sp := fun vs H Q _ => ∃ i, vs = [.int i, .int i] ∧ ∀ H', Same H H' → Q (.bl true) H'
theorem ok_same0 (T : Top K mg "_law_same" s_same) (mIs : mg "isinstance" = none) (mStr : mg "str" = none) (mTup : mg "tuple" = none) (mL : mg "list" = none) (F : Fn P w K mg base 1 "_law_is_number" spNum) : Fn P w K mg base 2 "_law_same" spSame0 := by
  refine fn_ok T sc_same so_same (fun vs H Q E h => by obtain ⟨i, rfl, _⟩ := h; rfl) (fun _ _ _ _ _ _ us hl => match us, hl with | [_, _], _ => rfl) fun f cdv A outer s H vs Q E hr h nd => ?_
  obtain ⟨i, rfl, q⟩ := h
  walk_at "sts"
  refine c_isi ty_int (.ty _) (kit_ty kb_int_str) ?_
  walk_at "sts"
  refine ⟨by show 2 ≤ sizeLine; decide, fun p H1 e1 np hp => ?_⟩
  walk_at "sts"
  refine c_isiT ty_int hp two_ty (kit2 kb_int_tuple kb_int_list) ?_
  walk_at "sts"
  refine e_call (by exact F) (by exact hr) (by decide) ?_
  walk_at "sts"
  rw [decide_eq_true (rfl : i = i)]
  exact q H1 e1
def spSame1 : Sp := fun vs H Q _ => ∃ m n x, vs = [m, n] ∧ TtV H m x ∧ TtV H n x ∧ ∀ H', Same H H' → Q (.bl true) H'
theorem third {a b c : Int} {k : Nat} (h : k < 3) : ∃ z, ([V.int a, V.int b, V.int c] : List V)[k]? = some (.int z) := by
  match k, h with
  | 0, _ => exact ⟨a, rfl⟩
  | 1, _ => exact ⟨b, rfl⟩
  | 2, _ => exact ⟨c, rfl⟩
theorem ok_same1 (T : Top K mg "_law_same" s_same) (mIs : mg "isinstance" = none) (mStr : mg "str" = none) (mTup : mg "tuple" = none) (mL : mg "list" = none) (mLen : mg "len" = none) (mR : mg "range" = none) (F : Fn P w K mg base 2 "_law_same" spSame0) : Fn P w K mg base 3 "_law_same" spSame1 := by
  refine fn_ok T sc_same so_same (fun vs H Q E h => by obtain ⟨m, n, x, rfl, _⟩ := h; rfl) (fun _ _ _ _ _ _ us hl => match us, hl with | [_, _], _ => rfl) fun f cdv A outer s H vs Q E hr h nd => ?_
  obtain ⟨m, n, ⟨a, b, c⟩, rfl, ⟨p, rfl, hp⟩, ⟨r, rfl, hq⟩, q⟩ := h
  walk_at "sts"
  refine c_isi (ty_tup hq) (.ty _) (kit_ty kb_tuple_str) ?_
  walk_at "sts"
  refine ⟨by show 2 ≤ sizeLine; decide, fun t1 H1 e1 _ ht => ?_⟩
  walk_at "sts"
  refine c_isiT (ty_tup (e1 _ _ hq)) ht two_ty (kit2 kb_tuple_tuple kb_tuple_list) ?_
  walk_at "sts"
  refine ⟨by show 2 ≤ sizeLine; decide, fun t2 H2 e2 _ ht => ?_⟩
  have e02 := e1.trans e2
  walk_at "sts"
  refine c_isiT (ty_tup (e02 _ _ hp)) ht two_ty (kit2 kb_tuple_tuple kb_tuple_list) ?_
  walk_at "sts"
  refine c_isi (ty_tup (e02 _ _ hp)) (.ty _) (kit_ty kb_tuple_list) ?_
  walk_at "sts"
  refine c_isi (ty_tup (e02 _ _ hq)) (.ty _) (kit_ty kb_tuple_list) ?_
  walk_at "sts"
  refine c_lenT (by exact SqT.of (e02 _ _ hp)) ?_
  walk_at "sts"
  refine c_lenT (by exact SqT.of (e02 _ _ hq)) ?_
  walk_at "sts"
  refine s_forR (by assumption) ?_
  walk_at "sts"
  refine c_lenT (by exact SqT.of (e02 _ _ hq)) ?_
  refine ⟨3, rfl, by decide, fun i σ H' => ∃ y, σ = [some (.ref p), some (.ref r), y] ∧ Same H H', ⟨_, rfl, e02⟩, fun k σ H3 hk hW => ?_, fun σ H3 hW => ?_⟩
  · obtain ⟨y, rfl, e3⟩ := hW
    obtain ⟨z, hz⟩ := third (a := a) (b := b) (c := c) hk
    walk_at "sts"
    refine e_call (by exact F) (by exact hr) (by decide) ?_
    walk_at "sts"
    refine ix_t (by exact SqT.of (e3 _ _ hp)) (atI_nat hz) ?_
    walk_at "sts"
    refine ix_t (by exact SqT.of (e3 _ _ hq)) (atI_nat hz) ?_
    walk_at "sts"
    intro H4 e4
    walk_at "sts"
    exact e3.trans e4
  · obtain ⟨y, rfl, e3⟩ := hW
    walk_at "sts"
    exact q H3 e3
def spTold (C : Addr) : Sp := fun vs H Q _ => ∃ a d ks ds f, vs = [.ref a, .ref d] ∧ H a = some (.dK ks) ∧ H d = some (.dK ds) ∧ a ≠ d ∧ DkV C H ks f ∧ DuV H ds f ∧ ∀ H', Same H H' → Q (.bl true) H'
theorem ok_told (T : Top K mg "_law_told" s_told) (mIs : mg "isinstance" = none) (mD : mg "dict" = none) (mLen : mg "len" = none) (mStr : mg "str" = none) (O : ClsOk K mg C) (FN : Fn P w K mg base 1 "_law_is_number" spNum) (FS : Fn P w K mg base 3 "_law_same" spSame1) (M : Mt P w K mg base 1 C "triple" (spTri C)) : Fn P w K mg base 4 "_law_told" (spTold C) := by
  refine fn_ok T sc_told so_told (fun vs H Q E h => by obtain ⟨a, d, ks, ds, f, rfl, _⟩ := h; rfl) (fun _ _ _ _ _ _ us hl => match us, hl with | [_, _], _ => rfl) fun f cdv A outer s H vs Q E hr h nd => ?_
  obtain ⟨a, d, ks, ds, g, rfl, ha, hd, nad, hk, hu, q⟩ := h
  refine l_cons (s_if (t_w (w_or (t_not (t_val (e_callB (x := "isinstance") (by assumption) b_isi ?_))))))
  refine a_cons (e_var (a_cons (e_bltn (x := "dict") (v := .ty "dict") (by assumption) b_dict rfl (a_nil ?_))))
  refine c_isi (ty_dk ha) (.ty _) (kit_ty kb_dict_dict) ⟨_, rfl, ite_f rfl ?_⟩
  refine w_or1 (t_cmp (e_callB (x := "len") (by assumption) b_len (a_cons (e_var (a_nil (c_lenD ha ?_))))))
  refine e_callB (x := "len") (by assumption) b_len (a_cons (e_var (a_nil (c_lenD hd ?_))))
  refine o_neI ⟨_, rfl, ?_⟩
  rw [len_due hk hu]
  refine ite_f (by simp) (l_nil ?_)
  refine l_cons (s_forD ha fun o => e_var ⟨rfl, upd_same, ?_⟩)
  refine ⟨fun k σ H' => ∃ x2 x3, σ = [some (.ref a), some (.ref d), x2, x3] ∧ H' a = some (.frz o (.dK ks)) ∧ ∀ c u, c ≠ a → H c = some u → H' c = some u, ⟨none, none, rfl, upd_same, fun c u nc hc => by rw [upd_ne nc]; exact hc⟩, ?_, ?_, ?_⟩
  · intro k σ H' _ p
    obtain ⟨_, _, _, p1, _⟩ := p
    exact p1
  · intro k y v σ H' hky p
    obtain ⟨x2, x3, rfl, p1, p2⟩ := p
    have isH : IS C H H' := fun p dx fs hp => p2 p _ (fun z => by subst z; rw [ha] at hp; cases hp) hp
    have tsH : TS H H' := fun p xs hp => p2 p _ (fun z => by subst z; rw [ha] at hp; cases hp) hp
    have hd' := p2 d _ (Ne.symm nad) hd
    obtain ⟨gv, x, gx, cx⟩ := hk.at hky
    obtain ⟨cp, rfl, dx, hcp⟩ := cx.is isH
    obtain ⟨dv, x', dv1, dx1, hdv⟩ : ∃ dv x', valV ds y = some dv ∧ g y = some x' ∧ TtV H dv x' := by
      rcases hu.val y with ⟨_, z⟩ | r
      · rw [gx] at z; cases z
      · exact r
    rw [gx] at dx1
    cases dx1
    have hdv' := hdv.ts tsH
    have ga : ∀ {H3 : Hp}, H3 a = some (.frz o (.dK ks)) → DGet H3 a (kV y) (some (.ref cp)) := fun z => by rw [← gv]; exact dg_F z
    have gd : ∀ {H3 : Hp}, H3 d = some (.dK ds) → DGet H3 d (kV y) (some dv) := fun z => by rw [← dv1]; exact dg_K z
    show wL _ _ _ [some (.ref a), some (.ref d), some (kV y), x3] _
    refine l_cons (s_if (t_own false ?_ fun hq => t_w (w_or (t_own false ?_ fun hrest => ?_))))
    · refine iteF (l_nil ?_)
      refine l_cons (s_set (e_dg (n := 3) (by exact hr) (e_var (e_var ⟨a, _, rfl, ga p1, ?_⟩))))
      show wL _ _ _ [some (.ref a), some (.ref d), some (kV y), some (.ref cp)] _
      refine l_cons (s_if (t_w (w_or (t_not (t_val (e_call (by exact FS) (by exact hr) (by decide) ?_))))))
      refine a_cons (e_meth0 (pl := _) (by exact M) (by exact hr) (by decide) ?_)
      walk_at "sts"
      refine ⟨cp, dx, _, rfl, hcp, flds_no _ _ _ (by decide +kernel) (by decide +kernel) (by decide +kernel), ?_⟩
      refine ⟨cp, _, _, _, rfl, ⟨dx, hcp⟩, fun u H3 e3 hu3 => ?_⟩
      refine a_cons (e_dg (n := 3) (by exact hr) (e_var (e_var ⟨d, _, rfl, gd (e3 _ _ hd'), a_nil ?_⟩)))
      refine ⟨_, _, x, rfl, ⟨u, rfl, hu3⟩, hdv'.ts (Same.ts e3), fun H4 e4 => ⟨_, rfl, ite_f rfl ?_⟩⟩
      have e34 := e3.trans e4
      refine w_or1 (t_not (t_val (e_call (by exact FS) (by exact hr) (by decide) ?_)))
      walk_at "sts"
      refine e_fld ?_
      walk_at "sts"
      refine ⟨cp, C, dx, _, _, rfl, (e34 _ _ hcp), O.cl, O.nL, flds_l _ _ _, ?_⟩
      walk_at "sts"
      refine e_fld ?_
      walk_at "sts"
      refine ⟨cp, C, dx, _, _, rfl, (e34 _ _ hcp), O.cl, O.nM, flds_m _ _ _, ?_⟩
      walk_at "sts"
      refine e_fld ?_
      walk_at "sts"
      refine ⟨cp, C, dx, _, _, rfl, (e34 _ _ hcp), O.cl, O.nD, flds_d _ _ _, ?_⟩
      walk_at "sts"
      refine ⟨by show 3 ≤ sizeLine; decide, fun tp H5 e5 n5 h5 => ?_⟩
      have e35 := e34.trans e5
      refine a_cons (e_dg (n := 3) (by exact hr) (e_var (e_var ⟨d, _, rfl, gd (e35 _ _ hd'), a_nil ?_⟩)))
      refine ⟨_, _, x, rfl, ⟨tp, rfl, h5⟩, hdv'.ts (Same.ts e35), fun H6 e6 => ⟨_, rfl, ite_f rfl (l_nil (l_nil ⟨some (kV y), some (.ref cp), rfl, e6 _ _ (e35 _ _ p1), fun c u nc hc => e6 _ _ (e35 _ _ (p2 c u nc hc))⟩))⟩⟩
    · refine iteF (w_or (t_cmp (e_var (e_var (o_ninD (n := 3) (by exact hr) (gd hd') ⟨_, rfl, ite_f rfl ?_⟩)))))
      refine w_or1 (t_not (t_val (e_callB (x := "isinstance") (by assumption) b_isi ?_)))
      refine a_cons (e_dg (n := 3) (by exact hr) (e_var (e_var ⟨a, _, rfl, ga p1, ?_⟩)))
      refine a_cons (e_glob (v := .ref C) (by exact O.mg) rfl (a_nil ?_))
      exact c_of (C8.call_isC O.isC) ⟨cp, dx, _, rfl, hcp, ⟨_, rfl, hq⟩⟩
    · refine t_w (w_and (t_not (t_val (e_callB (x := "isinstance") (by assumption) b_isi ?_))))
      refine a_cons (e_var (a_cons (e_bltn (x := "str") (v := .ty "str") (by assumption) b_str rfl (a_nil ?_))))
      cases y with
      | inl i =>
        refine c_isi ty_int (.ty _) (kit_ty kb_int_str) ⟨_, rfl, ite_t rfl ?_⟩
        refine w_and1 (t_not (t_val (e_call (by exact FN) (by exact hr) (by decide) ?_)))
        exact a_cons (e_var (a_nil ⟨i, rfl, _, rfl, hrest⟩))
      | inr z =>
        exact c_isi ty_str (.ty _) (kit_ty kb_str_str) ⟨_, rfl, ite_f rfl hrest⟩
  · intro σ H' p
    obtain ⟨x2, x3, rfl, p1, p2⟩ := p
    refine l_cons (s_ret (e_bl (q _ fun c u hc => ?_)))
    by_cases e : c = a
    · subst e; rw [upd_same]; rw [ha] at hc; exact hc
    · rw [upd_ne e]; exact p2 c u e hc
end



/-! ### a def with one positional default -/
structure TopD (K : PySem.W.Frag) (mg : Str → Option Value) (x : Str) (st : Stmt) (d : V) : Prop where
  ex : ∃ (f : Addr) (fd : FuncData), FunD K x x (defArgs st) (defBody st) (defScope st) [d] [] f fd ∧ mg x = some (.ref f)
structure FnD (P : Program) (w : World) (K : PySem.W.Frag) (mg : Str → Option Value) (base : Heap) (k : Nat) (x : Str) (d : V) (sp : Sp) : Prop where
  ex : ∃ (f : Addr) (fd : FuncData) (ps : List Str), FnOk P w K mg base CX0 k f fd ps sp ∧ mg x = some (.ref f) ∧ PySem.W.keepIn K (.ref f) = true ∧ Binds K fd ps [] ∧ ∃ ds, Vals [d] ds ∧ Binds K fd ps ds
theorem FnD.fn {P : Program} {w : World} {K : PySem.W.Frag} {mg : Str → Option Value} {base : Heap} {k : Nat} {x : Str} {d : V} {sp : Sp} (F : FnD P w K mg base k x d sp) : Fn P w K mg base k x sp :=
  let ⟨f, fd, ps, h1, h2, h3, h4, _⟩ := F.ex; ⟨f, fd, ps, h1, h2, h3, h4⟩
theorem e_call1D {X : Cx} {e : Expr} {es : List Expr} {pos p0 : Pos} {σ : L2.St} {H : Hp} {Q : VK} {N G : List Str} {sc : Scope} {g k n : Nat} {x : Str} {d : V} {sp : Sp} (F : FnD X.prog X.w X.K X.mg X.base k x d sp) (hr : Room n X.A) (hk : k ≤ n) (q : wA X (e :: es) σ H fun vs H1 => sp (vs ++ [d]) H1 Q E0) (I : In X N G sc := by assumption) (hG : At G g x := by repeat (first | with_reducible apply At.z | with_reducible apply At.s))
    (he : starEach (e :: es) X.env = (false, eval e X.env) :: starEach es X.env := by rfl) (hpl : (backTo pos (starEach es X.env)).any (·.1) = false := by rfl) : wE X (.Call (.Name x p0) (e :: es) [] pos) σ H Q := by
  obtain ⟨f, fd, ps, F0, hm, hkp, _, ds, hd, hb⟩ := F.ex
  exact e_of (pe_call F0 (hr.mono hk) (I.g hG) hm hkp hb hd pass0 pa (I.gd hG) he hpl) q
theorem topD_mk {K : PySem.W.Frag} {mg : Str → Option Value} {h : Heap} {x : Str} {d : V} {u : Value} {st : Stmt} {f T : Addr} {oc oc' : Value} {od an od' : Option Addr} {osl osl' : Array (Option Value)} {n : Nat} {kV doc pm cdv ct : Value} (X : K.In h) (G : h.Ns mainGlobals mg) (a : PySem.W.nsIn K mainGlobals x = some (some (.ref f)))
    (l : K.lookup f = some ⟨oc, od, .func (PySem.W.fnOf x x (defArgs st) (defBody st) (defScope st) (.ref T) kV doc pm an cdv ct), osl⟩) (c : PySem.W.codeIn K cdv x = true) (k : PySem.W.keepIn K (.ref f) = true)
    (hd : K.lookup T = some ⟨oc', od', .seq #[u] n, osl'⟩) (r : RelV d u) : TopD K mg x st d :=
  ⟨f, _, ⟨⟨oc, od, .ref T, kV, doc, pm, an, cdv, ct, osl, rfl, l, c, .inr ⟨by simp, T, _, [u], n, rfl, hd, rfl, .cons r .nil⟩, .inl rfl⟩, k⟩, PySem.W.mg_of X G a⟩
section
variable {P : Program} {w : World} {K : PySem.W.Frag} {mg : Str → Option Value} {base : Heap} {C : Addr}
theorem ok_counts (T : TopD K mg "counts" s_counts (.int 0)) (mR : mg "range" = none) (mV : mg "reversed" = none) (FPH : Fn P w K mg base 2 "placed_heads" spPH) (FPC : Fn P w K mg base 1 "premise_count" spPC) (FRC : Fn P w K mg base 5 "row_counts" (spRow27 C)) : FnD P w K mg base 6 "counts" (.int 0) (spCts C) := by
  obtain ⟨f, fd, F, hm⟩ := T.ex
  have b2 : Binds K fd P_counts [] := by
    obtain ⟨ds, h1, h2⟩ := F.binds1 (ps := P_counts) 2 1 (by simp) rfl (fun T kV doc pm an cdv ct us its l1 l2 => by
      match us, its, l1, l2 with
      | [a, b], [c], _, _ => exact ⟨_, rfl, rfl⟩)
    cases h1
    exact h2
  have b1 := F.binds1 (ps := P_counts) 1 0 (by simp) rfl (fun T kV doc pm an cdv ct us its l1 l2 => by
    match us, its, l1, l2 with
    | [a], [c], _, _ => exact ⟨_, rfl, rfl⟩)
  refine ⟨f, fd, P_counts, F.ok sc_counts (fun vs H Q E h => by obtain ⟨v, t, lv, rfl, _⟩ := h; rfl) (fun cdv A outer s H vs Q E hr h => ⟨_, (pl (X := (cxOf CX0 P w K mg base (N_counts ++ C_counts) "counts" (defScope s_counts) f cdv A outer s H E).nox)).nox, cts_body mR mV FPH FPC FRC hr h ⟨so_counts, ⟨C_counts, rfl⟩, sc_counts.nd, rfl, rfl, PassesOwn.never⟩⟩), hm, F.kp, b2, b1⟩
end



section
variable {P : Program} {w : World} {K : PySem.W.Frag} {mg : Str → Option Value} {base : Heap} {C : Addr}
def spLaw (K : PySem.W.Frag) : Sp := fun vs H Q _ => ∃ (a : Addr) (ns : List Int), vs = [.ref a] ∧ SqL K H a (ns.map V.int) ∧ ns.length ≤ 63 ∧ ∀ H', Q (.bl true) H'
theorem ok_law {fa : Addr} {fd : FuncData} (FL : Fun K "law" "law" s_law fa fd) (FPo : Fn P w K mg base 2 "_law_pool" (spPool K)) (FN : Fn P w K mg base 1 "_law_next" spNext) (FD : Fn P w K mg base (2 * 30 + 3) "_law_free" (spDraw 30)) (FDu : Fn P w K mg base (35 + 5) "_law_due" (spDue 35)) (FC : FnD P w K mg base 6 "counts" (.int 0) (spCts C)) (FT : Fn P w K mg base 4 "_law_told" (spTold C)) (KC : Kl P w K mg base 1 "Count" C (spInit C)) :
    FnOk P w K mg base CX0 84 fa fd ["_law_script"] (spLaw K) := by
  refine FL.ok sc_law (fun vs H Q E h => by obtain ⟨a, ns, rfl, _⟩ := h; rfl) fun cdv A outer s H vs Q E hr h => ?_
  refine ⟨_, pl, ?_⟩
  have nd : In (cxOf CX0 P w K mg base N_law "law" (defScope s_law) fa cdv A outer s H E).nox N_law G_law (defScope s_law) := ⟨so_law, ⟨[], (List.append_nil _).symm⟩, sc_law.nd, rfl, rfl, PassesOwn.never⟩
  obtain ⟨a, ns, rfl, hS, hz, q⟩ := h
  refine l_cons (s_set (e_call (by exact FPo) (by exact hr) (by decide) ?_))
  walk_at "sts"
  refine ⟨a, ns, 0, rfl, hS, fun p H1 e1 n1 p1 => ?_⟩
  show wL _ _ _ [some (.ref a), some (.ref p), none, none, none, none, none] _
  refine l_cons (s_set (e_call (by exact FN) (by exact hr) (by decide) ?_))
  walk_at "sts"
  refine ⟨p, 6, rfl, by decide, by decide, p1, fun lv H2 lv0 lv1 b2 p2 => ?_⟩
  show wL _ _ _ [some (.ref a), some (.ref p), some (.int lv), none, none, none, none] _
  refine l_cons (s_set (e_bin (e_int (e_call (by exact FN) (by exact hr) (by decide) ?_))))
  walk_at "sts"
  refine ⟨p, 16, rfl, by decide, by decide, p2, fun d3 H3 c0 c1 b3 p3 => o_add ?_⟩
  obtain ⟨k3, rfl⟩ := Int.eq_ofNat_of_zero_le c0
  rw [show (1 : Int) + (k3 : Int) = ((1 + k3 : Nat) : Int) by omega]
  show wL _ _ _ [some (.ref a), some (.ref p), some (.int lv), some (.int ((1 + k3 : Nat) : Int)), none, none, none] _
  refine l_cons (s_if (t_cmp (e_call (by exact FN) (by exact hr) (by decide) ?_)))
  walk_at "sts"
  refine ⟨p, 8, rfl, by decide, by decide, p3, fun d4 H4 _ _ b4 p4 => ?_⟩
  walk_at "sts"
  have rest : ∀ many : Nat, 1 ≤ many → many ≤ 30 → wL (cxOf CX0 P w K mg base N_law "law" (defScope s_law) fa cdv A outer s H E).nox ((defBody s_law).drop 4) { nx := fun _ H' => Q .non H', rt := Q } [some (.ref a), some (.ref p), some (.int lv), some (.int (many : Int)), none, none, none] H4 := by
    intro many hm1 hm2
    refine l_cons (s_set (e_call (by exact FD) (by exact hr) (by decide) (a_cons (e_d2 fun wa nwa => ?_))))
    walk_at "sts"
    refine ⟨upd_same, "pool", "offers", rfl, rfl, by decide +kernel, ?_⟩
    have s45 : Same H4 (upd (upd H4 wa (.dK [])) wa (.dK [(Sum.inr "pool", .ref p), (Sum.inr "offers", .int 6)])) := fun c o hc => by
      have cd : c ≠ wa := fun z => by subst z; rw [nwa] at hc; cases hc
      rw [upd_ne cd, upd_ne cd]
      exact hc
    have hw5 : WayAt (upd (upd H4 wa (.dK [])) wa (.dK [(Sum.inr "pool", .ref p), (Sum.inr "offers", .int 6)])) wa p := ⟨6, upd_same⟩
    generalize upd (upd H4 wa (.dK [])) wa (.dK [(Sum.inr "pool", .ref p), (Sum.inr "offers", .int 6)]) = H5 at s45 hw5 ⊢
    walk_at "sts"
    refine ⟨wa, p, many, lv, 200, rfl, hw5, p4.same s45, hm1, hm2, lv0, by omega, fun v t H6 f6 hv hg hs => ?_⟩
    obtain ⟨ho, _, hmd⟩ := hg
    have htd := dep_le t
    show wL _ _ _ [some (.ref a), some (.ref p), some (.int lv), some (.int (many : Int)), some v, none, none] _
    refine l_cons (s_set (e_call (by exact FDu) (by exact hr) (by decide) ?_))
    walk_at "sts"
    refine ⟨v, t, lv, rfl, hv, ho, hmd, by omega, by omega, fun d ds H7 e7 n7 hd7 hdu7 => ?_⟩
    have hv7 := hv.ts (Same.ts e7)
    show wL _ _ _ [some (.ref a), some (.ref p), some (.int lv), some (.int (many : Int)), some v, some (.ref d), none] _
    refine l_cons (s_set (e_call (by exact FC.fn) (by exact hr) (by decide) ?_))
    walk_at "sts"
    refine ⟨v, t, lv, rfl, hv7, ho, by omega, hmd, fun u H8 e8 hu8 => ?_⟩
    obtain ⟨c, ks, rfl, nc, hc8, hk8, lk8⟩ := hu8
    have ndc : c ≠ d := fun z => by subst z; rw [hd7] at nc; cases nc
    have hd8 := e8 _ _ hd7
    show wL _ _ _ [some (.ref a), some (.ref p), some (.int lv), some (.int (many : Int)), some v, some (.ref d), some (.ref c)] _
    refine l_cons (s_if (t_not (t_val (e_call (by exact FT) (by exact hr) (by decide) ?_))))
    walk_at "sts"
    refine ⟨c, d, ks, ds, _, rfl, hc8, hd8, ndc, hk8, hdu7.ts (Same.ts e8), fun H9 e9 => ⟨_, rfl, iteF (l_nil ?_)⟩⟩
    have e79 := e8.trans e9
    have hc9 := e9 _ _ hc8
    have hd9 := e79 _ _ hd7
    have hv9 := hv7.ts (Same.ts e79)
    have hdu9 := hdu7.ts (Same.ts e79)
    refine l_cons (s_expr (e_dclr (e_var ⟨c, ks, rfl, hc9, ?_⟩)))
    have tc : TS H9 (upd H9 c (.dK [])) := fun x xs hx => by rw [upd_ne (fun z => by subst z; rw [hc9] at hx; cases hx)]; exact hx
    have hv10 := hv9.ts tc
    have hdu10 := hdu9.ts tc
    have hd10 : upd H9 c (.dK []) d = some (.dK ds) := by rw [upd_ne (Ne.symm ndc)]; exact hd9
    have hc10 : upd H9 c (.dK []) c = some (.dK []) := upd_same
    generalize upd H9 c (.dK []) = H10 at *
    refine l_cons (s_dput (hu_of hr) (e_make (by exact KC) (by exact hr) (by decide) (a_cons (e_int (a_cons (e_int (a_cons (e_int (a_nil ?_)))))))))
    intro x dx nx ndx nexd
    refine ⟨x, dx, 1, 1, 0, rfl, upd_same, fun H11 bt hct => ⟨rfl, ?_⟩⟩
    have e11 : Same H10 H11 := made_same nx ndx bt
    have hc11 := e11 _ _ hc10
    refine e_var (e_str ⟨c, _, rfl, DPut.k (k := Sum.inr "spoilt") hc11 (by decide), ?_⟩)
    have tc2 : TS H11 (upd H11 c (.dK (putK [] (Sum.inr "spoilt") (.ref x)))) := fun y xs hy => by rw [upd_ne (fun z => by subst z; rw [hc11] at hy; cases hy)]; exact hy
    have hv12 := (hv10.ts (Same.ts e11)).ts tc2
    have hdu12 := (hdu10.ts (Same.ts e11)).ts tc2
    have hd12 : upd H11 c (.dK (putK [] (Sum.inr "spoilt") (.ref x))) d = some (.dK ds) := by rw [upd_ne (Ne.symm ndc)]; exact e11 _ _ hd10
    generalize upd H11 c (.dK (putK [] (Sum.inr "spoilt") (.ref x))) = H12 at *
    refine l_cons (s_if (t_not (t_val (e_call (by exact FT) (by exact hr) (by decide) ?_))))
    refine a_cons (e_call (by exact FC.fn) (by exact hr) (by decide) ?_)
    walk_at "sts"
    refine ⟨v, t, lv, rfl, hv12, ho, by omega, hmd, fun u H13 e13 hu13 => ?_⟩
    obtain ⟨c2, ks2, rfl, nc2, hc13, hk13, lk13⟩ := hu13
    have ndc2 : c2 ≠ d := fun z => by subst z; rw [hd12] at nc2; cases nc2
    have hd13 := e13 _ _ hd12
    walk_at "sts"
    refine ⟨c2, d, ks2, ds, _, rfl, hc13, hd13, ndc2, hk13, hdu12.ts (Same.ts e13), fun H14 e14 => ⟨_, rfl, iteF (l_nil ?_)⟩⟩
    have e1214 := e13.trans e14
    have hd14 := e1214 _ _ hd12
    have hv14 := hv12.ts (Same.ts e1214)
    have hdu14 := hdu12.ts (Same.ts e1214)
    refine l_cons (s_ret (e_or (e_cmp (e_var (e_int (o_gt ⟨_, rfl, ?_⟩))))))
    by_cases hlv : (0 : Int) < lv
    · refine ifT hlv ?_
      exact q _
    · refine ifF hlv (e_one (e_call (by exact FT) (by exact hr) (by decide) ?_))
      obtain rfl : lv = 0 := by omega
      refine a_cons (e_call1D (by exact FC) (by exact hr) (by decide) ?_)
      walk_at "sts"
      refine ⟨v, t, 0, rfl, hv14, ho, by omega, hmd, fun u H15 e15 hu15 => ?_⟩
      obtain ⟨c3, ks3, rfl, nc3, hc15, hk15, lk15⟩ := hu15
      have ndc3 : c3 ≠ d := fun z => by subst z; rw [hd14] at nc3; cases nc3
      walk_at "sts"
      exact ⟨c3, d, ks3, ds, _, rfl, hc15, e15 _ _ hd14, ndc3, hk15, hdu14.ts (Same.ts e15), fun H16 e16 => q _⟩
  refine if2 (fun _ => ?_) (fun _ => ?_)
  · refine l_cons (s_set (e_int (l_nil ?_)))
    exact rest 30 (by decide) (by decide)
  · exact l_nil (rest (1 + k3) (by omega) (by omega))
end


section
theorem all_mk {l : PySem.W.OpenLaw} {w : World} {K : PySem.W.Frag} {h : Heap} {mg : Str → Option Value} {fa : Addr} (X : K.In h) (G : h.Ns mainGlobals mg) (hfa : mg "law" = some (.ref fa))
    {f0 : Addr} {od0 an0 : Option Addr} {sl0 : Array (Option Value)} {oc0 kV0 dc0 pm0 cd0 ct0 : Value}
    {f1 : Addr} {od1 an1 : Option Addr} {sl1 : Array (Option Value)} {oc1 kV1 dc1 pm1 cd1 ct1 : Value}
    {f2 : Addr} {od2 an2 : Option Addr} {sl2 : Array (Option Value)} {oc2 kV2 dc2 pm2 cd2 ct2 : Value}
    {f3 : Addr} {od3 an3 : Option Addr} {sl3 : Array (Option Value)} {oc3 kV3 dc3 pm3 cd3 ct3 : Value}
    {f4 : Addr} {od4 an4 : Option Addr} {sl4 : Array (Option Value)} {oc4 kV4 dc4 pm4 cd4 ct4 : Value}
    {f5 : Addr} {od5 an5 : Option Addr} {sl5 : Array (Option Value)} {oc5 kV5 dc5 pm5 cd5 ct5 : Value}
    {f6 : Addr} {od6 an6 : Option Addr} {sl6 : Array (Option Value)} {oc6 kV6 dc6 pm6 cd6 ct6 : Value}
    {f7 : Addr} {od7 an7 : Option Addr} {sl7 : Array (Option Value)} {oc7 kV7 dc7 pm7 cd7 ct7 : Value}
    {f8 : Addr} {od8 an8 : Option Addr} {sl8 : Array (Option Value)} {oc8 kV8 dc8 pm8 cd8 ct8 : Value}
    {f9 : Addr} {od9 an9 : Option Addr} {sl9 : Array (Option Value)} {oc9 kV9 dc9 pm9 cd9 ct9 : Value}
    {f10 : Addr} {od10 an10 : Option Addr} {sl10 : Array (Option Value)} {oc10 kV10 dc10 pm10 cd10 ct10 : Value}
    {f11 : Addr} {od11 an11 : Option Addr} {sl11 : Array (Option Value)} {oc11 kV11 dc11 pm11 cd11 ct11 : Value}
    {f12 : Addr} {od12 an12 : Option Addr} {sl12 : Array (Option Value)} {oc12 kV12 dc12 pm12 cd12 ct12 : Value}
    {f13 : Addr} {od13 an13 : Option Addr} {sl13 : Array (Option Value)} {oc13 kV13 dc13 pm13 cd13 ct13 : Value}
    {f14 : Addr} {od14 an14 : Option Addr} {sl14 : Array (Option Value)} {oc14 kV14 dc14 pm14 cd14 ct14 : Value}
    {f15 : Addr} {od15 an15 : Option Addr} {sl15 : Array (Option Value)} {oc15 kV15 dc15 pm15 cd15 ct15 : Value}
    {f16 : Addr} {od16 an16 : Option Addr} {sl16 : Array (Option Value)} {oc16 kV16 dc16 pm16 cd16 ct16 : Value}
    {f17 : Addr} {od17 an17 : Option Addr} {sl17 : Array (Option Value)} {oc17 kV17 dc17 pm17 cd17 ct17 : Value}
    {f18 : Addr} {od18 an18 : Option Addr} {sl18 : Array (Option Value)} {oc18 kV18 dc18 pm18 cd18 ct18 : Value}
    {f19 : Addr} {od19 an19 : Option Addr} {sl19 : Array (Option Value)} {oc19 kV19 dc19 pm19 cd19 ct19 : Value}
    {f20 : Addr} {od20 an20 : Option Addr} {sl20 : Array (Option Value)} {oc20 kV20 dc20 pm20 cd20 ct20 : Value}
    {f21 : Addr} {od21 an21 : Option Addr} {sl21 : Array (Option Value)} {oc21 kV21 dc21 pm21 cd21 ct21 : Value}
    {f22 : Addr} {od22 an22 : Option Addr} {sl22 : Array (Option Value)} {oc22 kV22 dc22 pm22 cd22 ct22 : Value}
    {f23 : Addr} {od23 an23 : Option Addr} {sl23 : Array (Option Value)} {oc23 kV23 dc23 pm23 cd23 ct23 : Value}
    {f24 : Addr} {od24 an24 : Option Addr} {sl24 : Array (Option Value)} {oc24 kV24 dc24 pm24 cd24 ct24 : Value}
    {f25 : Addr} {od25 an25 : Option Addr} {sl25 : Array (Option Value)} {oc25 kV25 dc25 pm25 cd25 ct25 : Value}
    {f26 : Addr} {od26 an26 : Option Addr} {sl26 : Array (Option Value)} {oc26 kV26 dc26 pm26 cd26 ct26 : Value}
    {f27 : Addr} {od27 an27 : Option Addr} {sl27 : Array (Option Value)} {oc27 kV27 dc27 pm27 cd27 ct27 : Value}
    {f28 : Addr} {od28 an28 : Option Addr} {sl28 : Array (Option Value)} {oc28 kV28 dc28 pm28 cd28 ct28 : Value}
    {f29 : Addr} {od29 an29 : Option Addr} {sl29 : Array (Option Value)} {oc29 kV29 dc29 pm29 cd29 ct29 : Value}
    {f30 : Addr} {od30 an30 : Option Addr} {sl30 : Array (Option Value)} {oc30 kV30 dc30 pm30 cd30 ct30 : Value}
    {f31 TD : Addr} {od31 an31 odD : Option Addr} {sl31 slD : Array (Option Value)} {oc31 ocD kV31 dc31 pm31 cd31 ct31 : Value} {nTD : Nat} {tTD : Tok}
    {FA DA BA : Addr} {nF nD nB : Nat} {r0_ : Addr} {tF0 tD0 tP0 : Tok} {nT0 : Nat} {r1_ : Addr} {tF1 tD1 tP1 : Tok} {nT1 : Nat} {r2_ : Addr} {tF2 tD2 tP2 : Tok} {nT2 : Nat} {r3_ : Addr} {tF3 tD3 tP3 : Tok} {nT3 : Nat} {r4_ : Addr} {tF4 tD4 tP4 : Tok} {nT4 : Nat} {r5_ : Addr} {tF5 tD5 tP5 : Tok} {nT5 : Nat} {r6_ : Addr} {tF6 tD6 tP6 : Tok} {nT6 : Nat} {r7_ : Addr} {tF7 tD7 tP7 : Tok} {nT7 : Nat} {r8_ : Addr} {tF8 tD8 tP8 : Tok} {nT8 : Nat} {tT0_0 : Tok} {tT3_0 : Tok} {tT3_1 : Tok} {tT4_0 : Tok} {tT4_1 : Tok} {tT5_0 : Tok} {tT5_1 : Tok} {tT6_0 : Tok} {tT6_1 : Tok} {tT6_2 : Tok} {tT7_0 : Tok} {tT7_1 : Tok} {tT8_0 : Tok} {tB0 : Tok} {tB1 : Tok} {tB2 : Tok} {tB3 : Tok} {tB4 : Tok}
    {C : Addr}
    {f32 : Addr} {od32 an32 : Option Addr} {sl32 : Array (Option Value)} {oc32 kV32 dc32 pm32 cd32 ct32 : Value}
    {f33 : Addr} {od33 an33 : Option Addr} {sl33 : Array (Option Value)} {oc33 kV33 dc33 pm33 cd33 ct33 : Value}
    {f34 : Addr} {od34 an34 : Option Addr} {sl34 : Array (Option Value)} {oc34 kV34 dc34 pm34 cd34 ct34 : Value}
    {f35 : Addr} {od35 an35 : Option Addr} {sl35 : Array (Option Value)} {oc35 kV35 dc35 pm35 cd35 ct35 : Value}
    {f36 : Addr} {od36 an36 : Option Addr} {sl36 : Array (Option Value)} {oc36 kV36 dc36 pm36 cd36 ct36 : Value}
    (a0 : PySem.W.nsIn K mainGlobals "_wall" = some (some (.ref f0)))
    (l0 : K.lookup f0 = some ⟨oc0, od0, .func (PySem.W.fnOf "_wall" "_wall" (defArgs s_wall) (defBody s_wall) (defScope s_wall) .none kV0 dc0 pm0 an0 cd0 ct0), sl0⟩)
    (c0 : PySem.W.codeIn K cd0 "_wall" = true)
    (k0 : PySem.W.keepIn K (.ref f0) = true)
    (a1 : PySem.W.nsIn K mainGlobals "field_of" = some (some (.ref f1)))
    (l1 : K.lookup f1 = some ⟨oc1, od1, .func (PySem.W.fnOf "field_of" "field_of" (defArgs s_field_of) (defBody s_field_of) (defScope s_field_of) .none kV1 dc1 pm1 an1 cd1 ct1), sl1⟩)
    (c1 : PySem.W.codeIn K cd1 "field_of" = true)
    (k1 : PySem.W.keepIn K (.ref f1) = true)
    (a2 : PySem.W.nsIn K mainGlobals "refers" = some (some (.ref f2)))
    (l2 : K.lookup f2 = some ⟨oc2, od2, .func (PySem.W.fnOf "refers" "refers" (defArgs s_refers) (defBody s_refers) (defScope s_refers) .none kV2 dc2 pm2 an2 cd2 ct2), sl2⟩)
    (c2 : PySem.W.codeIn K cd2 "refers" = true)
    (k2 : PySem.W.keepIn K (.ref f2) = true)
    (a3 : PySem.W.nsIn K mainGlobals "premise_count" = some (some (.ref f3)))
    (l3 : K.lookup f3 = some ⟨oc3, od3, .func (PySem.W.fnOf "premise_count" "premise_count" (defArgs s_premise_count) (defBody s_premise_count) (defScope s_premise_count) .none kV3 dc3 pm3 an3 cd3 ct3), sl3⟩)
    (c3 : PySem.W.codeIn K cd3 "premise_count" = true)
    (k3 : PySem.W.keepIn K (.ref f3) = true)
    (a4 : PySem.W.nsIn K mainGlobals "premises" = some (some (.ref f4)))
    (l4 : K.lookup f4 = some ⟨oc4, od4, .func (PySem.W.fnOf "premises" "premises" (defArgs s_premises) (defBody s_premises) (defScope s_premises) .none kV4 dc4 pm4 an4 cd4 ct4), sl4⟩)
    (c4 : PySem.W.codeIn K cd4 "premises" = true)
    (k4 : PySem.W.keepIn K (.ref f4) = true)
    (a5 : PySem.W.nsIn K mainGlobals "premise_levels" = some (some (.ref f5)))
    (l5 : K.lookup f5 = some ⟨oc5, od5, .func (PySem.W.fnOf "premise_levels" "premise_levels" (defArgs s_premise_levels) (defBody s_premise_levels) (defScope s_premise_levels) .none kV5 dc5 pm5 an5 cd5 ct5), sl5⟩)
    (c5 : PySem.W.codeIn K cd5 "premise_levels" = true)
    (k5 : PySem.W.keepIn K (.ref f5) = true)
    (a6 : PySem.W.nsIn K mainGlobals "head_of" = some (some (.ref f6)))
    (l6 : K.lookup f6 = some ⟨oc6, od6, .func (PySem.W.fnOf "head_of" "head_of" (defArgs s_head_of) (defBody s_head_of) (defScope s_head_of) .none kV6 dc6 pm6 an6 cd6 ct6), sl6⟩)
    (c6 : PySem.W.codeIn K cd6 "head_of" = true)
    (k6 : PySem.W.keepIn K (.ref f6) = true)
    (a7 : PySem.W.nsIn K mainGlobals "placed_heads" = some (some (.ref f7)))
    (l7 : K.lookup f7 = some ⟨oc7, od7, .func (PySem.W.fnOf "placed_heads" "placed_heads" (defArgs s_placed_heads) (defBody s_placed_heads) (defScope s_placed_heads) .none kV7 dc7 pm7 an7 cd7 ct7), sl7⟩)
    (c7 : PySem.W.codeIn K cd7 "placed_heads" = true)
    (k7 : PySem.W.keepIn K (.ref f7) = true)
    (a8 : PySem.W.nsIn K mainGlobals "is_below" = some (some (.ref f8)))
    (l8 : K.lookup f8 = some ⟨oc8, od8, .func (PySem.W.fnOf "is_below" "is_below" (defArgs s_is_below) (defBody s_is_below) (defScope s_is_below) .none kV8 dc8 pm8 an8 cd8 ct8), sl8⟩)
    (c8 : PySem.W.codeIn K cd8 "is_below" = true)
    (k8 : PySem.W.keepIn K (.ref f8) = true)
    (a9 : PySem.W.nsIn K mainGlobals "row_counts" = some (some (.ref f9)))
    (l9 : K.lookup f9 = some ⟨oc9, od9, .func (PySem.W.fnOf "row_counts" "row_counts" (defArgs s_row_counts) (defBody s_row_counts) (defScope s_row_counts) .none kV9 dc9 pm9 an9 cd9 ct9), sl9⟩)
    (c9 : PySem.W.codeIn K cd9 "row_counts" = true)
    (k9 : PySem.W.keepIn K (.ref f9) = true)
    (a10 : PySem.W.nsIn K mainGlobals "chosen" = some (some (.ref f10)))
    (l10 : K.lookup f10 = some ⟨oc10, od10, .func (PySem.W.fnOf "chosen" "chosen" (defArgs s_chosen) (defBody s_chosen) (defScope s_chosen) .none kV10 dc10 pm10 an10 cd10 ct10), sl10⟩)
    (c10 : PySem.W.codeIn K cd10 "chosen" = true)
    (k10 : PySem.W.keepIn K (.ref f10) = true)
    (a11 : PySem.W.nsIn K mainGlobals "summed" = some (some (.ref f11)))
    (l11 : K.lookup f11 = some ⟨oc11, od11, .func (PySem.W.fnOf "summed" "summed" (defArgs s_summed) (defBody s_summed) (defScope s_summed) .none kV11 dc11 pm11 an11 cd11 ct11), sl11⟩)
    (c11 : PySem.W.codeIn K cd11 "summed" = true)
    (k11 : PySem.W.keepIn K (.ref f11) = true)
    (a12 : PySem.W.nsIn K mainGlobals "packed" = some (some (.ref f12)))
    (l12 : K.lookup f12 = some ⟨oc12, od12, .func (PySem.W.fnOf "packed" "packed" (defArgs s_packed) (defBody s_packed) (defScope s_packed) .none kV12 dc12 pm12 an12 cd12 ct12), sl12⟩)
    (c12 : PySem.W.codeIn K cd12 "packed" = true)
    (k12 : PySem.W.keepIn K (.ref f12) = true)
    (a13 : PySem.W.nsIn K mainGlobals "_law_cell" = some (some (.ref f13)))
    (l13 : K.lookup f13 = some ⟨oc13, od13, .func (PySem.W.fnOf "_law_cell" "_law_cell" (defArgs s_cell) (defBody s_cell) (defScope s_cell) .none kV13 dc13 pm13 an13 cd13 ct13), sl13⟩)
    (c13 : PySem.W.codeIn K cd13 "_law_cell" = true)
    (k13 : PySem.W.keepIn K (.ref f13) = true)
    (a14 : PySem.W.nsIn K mainGlobals "_law_pool" = some (some (.ref f14)))
    (l14 : K.lookup f14 = some ⟨oc14, od14, .func (PySem.W.fnOf "_law_pool" "_law_pool" (defArgs s_pool) (defBody s_pool) (defScope s_pool) .none kV14 dc14 pm14 an14 cd14 ct14), sl14⟩)
    (c14 : PySem.W.codeIn K cd14 "_law_pool" = true)
    (k14 : PySem.W.keepIn K (.ref f14) = true)
    (a15 : PySem.W.nsIn K mainGlobals "_law_next" = some (some (.ref f15)))
    (l15 : K.lookup f15 = some ⟨oc15, od15, .func (PySem.W.fnOf "_law_next" "_law_next" (defArgs s_next) (defBody s_next) (defScope s_next) .none kV15 dc15 pm15 an15 cd15 ct15), sl15⟩)
    (c15 : PySem.W.codeIn K cd15 "_law_next" = true)
    (k15 : PySem.W.keepIn K (.ref f15) = true)
    (a16 : PySem.W.nsIn K mainGlobals "_law_is_number" = some (some (.ref f16)))
    (l16 : K.lookup f16 = some ⟨oc16, od16, .func (PySem.W.fnOf "_law_is_number" "_law_is_number" (defArgs s_is_number) (defBody s_is_number) (defScope s_is_number) .none kV16 dc16 pm16 an16 cd16 ct16), sl16⟩)
    (c16 : PySem.W.codeIn K cd16 "_law_is_number" = true)
    (k16 : PySem.W.keepIn K (.ref f16) = true)
    (a17 : PySem.W.nsIn K mainGlobals "_law_row" = some (some (.ref f17)))
    (l17 : K.lookup f17 = some ⟨oc17, od17, .func (PySem.W.fnOf "_law_row" "_law_row" (defArgs s_row) (defBody s_row) (defScope s_row) .none kV17 dc17 pm17 an17 cd17 ct17), sl17⟩)
    (c17 : PySem.W.codeIn K cd17 "_law_row" = true)
    (k17 : PySem.W.keepIn K (.ref f17) = true)
    (a18 : PySem.W.nsIn K mainGlobals "_law_parts" = some (some (.ref f18)))
    (l18 : K.lookup f18 = some ⟨oc18, od18, .func (PySem.W.fnOf "_law_parts" "_law_parts" (defArgs s_parts) (defBody s_parts) (defScope s_parts) .none kV18 dc18 pm18 an18 cd18 ct18), sl18⟩)
    (c18 : PySem.W.codeIn K cd18 "_law_parts" = true)
    (k18 : PySem.W.keepIn K (.ref f18) = true)
    (a19 : PySem.W.nsIn K mainGlobals "_law_paths" = some (some (.ref f19)))
    (l19 : K.lookup f19 = some ⟨oc19, od19, .func (PySem.W.fnOf "_law_paths" "_law_paths" (defArgs s_paths) (defBody s_paths) (defScope s_paths) .none kV19 dc19 pm19 an19 cd19 ct19), sl19⟩)
    (c19 : PySem.W.codeIn K cd19 "_law_paths" = true)
    (k19 : PySem.W.keepIn K (.ref f19) = true)
    (a20 : PySem.W.nsIn K mainGlobals "_law_at" = some (some (.ref f20)))
    (l20 : K.lookup f20 = some ⟨oc20, od20, .func (PySem.W.fnOf "_law_at" "_law_at" (defArgs s_at) (defBody s_at) (defScope s_at) .none kV20 dc20 pm20 an20 cd20 ct20), sl20⟩)
    (c20 : PySem.W.codeIn K cd20 "_law_at" = true)
    (k20 : PySem.W.keepIn K (.ref f20) = true)
    (a21 : PySem.W.nsIn K mainGlobals "_law_same" = some (some (.ref f21)))
    (l21 : K.lookup f21 = some ⟨oc21, od21, .func (PySem.W.fnOf "_law_same" "_law_same" (defArgs s_same) (defBody s_same) (defScope s_same) .none kV21 dc21 pm21 an21 cd21 ct21), sl21⟩)
    (c21 : PySem.W.codeIn K cd21 "_law_same" = true)
    (k21 : PySem.W.keepIn K (.ref f21) = true)
    (a22 : PySem.W.nsIn K mainGlobals "_law_mode" = some (some (.ref f22)))
    (l22 : K.lookup f22 = some ⟨oc22, od22, .func (PySem.W.fnOf "_law_mode" "_law_mode" (defArgs s_mode) (defBody s_mode) (defScope s_mode) .none kV22 dc22 pm22 an22 cd22 ct22), sl22⟩)
    (c22 : PySem.W.codeIn K cd22 "_law_mode" = true)
    (k22 : PySem.W.keepIn K (.ref f22) = true)
    (a23 : PySem.W.nsIn K mainGlobals "_law_free_one" = some (some (.ref f23)))
    (l23 : K.lookup f23 = some ⟨oc23, od23, .func (PySem.W.fnOf "_law_free_one" "_law_free_one" (defArgs s_free_one) (defBody s_free_one) (defScope s_free_one) .none kV23 dc23 pm23 an23 cd23 ct23), sl23⟩)
    (c23 : PySem.W.codeIn K cd23 "_law_free_one" = true)
    (k23 : PySem.W.keepIn K (.ref f23) = true)
    (a24 : PySem.W.nsIn K mainGlobals "_law_free_two" = some (some (.ref f24)))
    (l24 : K.lookup f24 = some ⟨oc24, od24, .func (PySem.W.fnOf "_law_free_two" "_law_free_two" (defArgs s_free_two) (defBody s_free_two) (defScope s_free_two) .none kV24 dc24 pm24 an24 cd24 ct24), sl24⟩)
    (c24 : PySem.W.codeIn K cd24 "_law_free_two" = true)
    (k24 : PySem.W.keepIn K (.ref f24) = true)
    (a25 : PySem.W.nsIn K mainGlobals "_law_free" = some (some (.ref f25)))
    (l25 : K.lookup f25 = some ⟨oc25, od25, .func (PySem.W.fnOf "_law_free" "_law_free" (defArgs s_free) (defBody s_free) (defScope s_free) .none kV25 dc25 pm25 an25 cd25 ct25), sl25⟩)
    (c25 : PySem.W.codeIn K cd25 "_law_free" = true)
    (k25 : PySem.W.keepIn K (.ref f25) = true)
    (a26 : PySem.W.nsIn K mainGlobals "_law_above" = some (some (.ref f26)))
    (l26 : K.lookup f26 = some ⟨oc26, od26, .func (PySem.W.fnOf "_law_above" "_law_above" (defArgs s_above) (defBody s_above) (defScope s_above) .none kV26 dc26 pm26 an26 cd26 ct26), sl26⟩)
    (c26 : PySem.W.codeIn K cd26 "_law_above" = true)
    (k26 : PySem.W.keepIn K (.ref f26) = true)
    (a27 : PySem.W.nsIn K mainGlobals "_law_uses" = some (some (.ref f27)))
    (l27 : K.lookup f27 = some ⟨oc27, od27, .func (PySem.W.fnOf "_law_uses" "_law_uses" (defArgs s_uses) (defBody s_uses) (defScope s_uses) .none kV27 dc27 pm27 an27 cd27 ct27), sl27⟩)
    (c27 : PySem.W.codeIn K cd27 "_law_uses" = true)
    (k27 : PySem.W.keepIn K (.ref f27) = true)
    (a28 : PySem.W.nsIn K mainGlobals "_law_due" = some (some (.ref f28)))
    (l28 : K.lookup f28 = some ⟨oc28, od28, .func (PySem.W.fnOf "_law_due" "_law_due" (defArgs s_due) (defBody s_due) (defScope s_due) .none kV28 dc28 pm28 an28 cd28 ct28), sl28⟩)
    (c28 : PySem.W.codeIn K cd28 "_law_due" = true)
    (k28 : PySem.W.keepIn K (.ref f28) = true)
    (a29 : PySem.W.nsIn K mainGlobals "_law_told" = some (some (.ref f29)))
    (l29 : K.lookup f29 = some ⟨oc29, od29, .func (PySem.W.fnOf "_law_told" "_law_told" (defArgs s_told) (defBody s_told) (defScope s_told) .none kV29 dc29 pm29 an29 cd29 ct29), sl29⟩)
    (c29 : PySem.W.codeIn K cd29 "_law_told" = true)
    (k29 : PySem.W.keepIn K (.ref f29) = true)
    (a30 : PySem.W.nsIn K mainGlobals "law" = some (some (.ref f30)))
    (l30 : K.lookup f30 = some ⟨oc30, od30, .func (PySem.W.fnOf "law" "law" (defArgs s_law) (defBody s_law) (defScope s_law) .none kV30 dc30 pm30 an30 cd30 ct30), sl30⟩)
    (c30 : PySem.W.codeIn K cd30 "law" = true)
    (k30 : PySem.W.keepIn K (.ref f30) = true)
    (a31 : PySem.W.nsIn K mainGlobals "counts" = some (some (.ref f31)))
    (l31 : K.lookup f31 = some ⟨oc31, od31, .func (PySem.W.fnOf "counts" "counts" (defArgs s_counts) (defBody s_counts) (defScope s_counts) (.ref TD) kV31 dc31 pm31 an31 cd31 ct31), sl31⟩)
    (c31 : PySem.W.codeIn K cd31 "counts" = true)
    (k31 : PySem.W.keepIn K (.ref f31) = true)
    (lTD : K.lookup TD = some ⟨ocD, odD, .seq #[.int 0 tTD] nTD, slD⟩)
    (z_isinstance : PySem.W.nsIn K mainGlobals "isinstance" = some none)
    (z_int : PySem.W.nsIn K mainGlobals "int" = some none)
    (z_bool : PySem.W.nsIn K mainGlobals "bool" = some none)
    (z_str : PySem.W.nsIn K mainGlobals "str" = some none)
    (z_tuple : PySem.W.nsIn K mainGlobals "tuple" = some none)
    (z_list : PySem.W.nsIn K mainGlobals "list" = some none)
    (z_len : PySem.W.nsIn K mainGlobals "len" = some none)
    (z_range : PySem.W.nsIn K mainGlobals "range" = some none)
    (z_abs : PySem.W.nsIn K mainGlobals "abs" = some none)
    (z_dict : PySem.W.nsIn K mainGlobals "dict" = some none)
    (z_reversed : PySem.W.nsIn K mainGlobals "reversed" = some none)
    (z_max : PySem.W.nsIn K mainGlobals "max" = some none)
    (z_min : PySem.W.nsIn K mainGlobals "min" = some none)
    (z_zip : PySem.W.nsIn K mainGlobals "zip" = some none)
    (z_sum : PySem.W.nsIn K mainGlobals "sum" = some none)
    (aF : PySem.W.nsIn K mainGlobals "FIELDS" = some (some (.ref FA)))
    (aD : PySem.W.nsIn K mainGlobals "PREMISES" = some (some (.ref DA)))
    (aB : PySem.W.nsIn K mainGlobals "BRINGING" = some (some (.ref BA)))
    (lF : K.lookup FA = some { cls := .type "dict", data := .dict #[⟨PyData.keyHash w.params "own", .str "own" tF0, .ref r0_⟩, ⟨PyData.keyHash w.params "take", .str "take" tF1, .ref r1_⟩, ⟨PyData.keyHash w.params "offer", .str "offer" tF2, .ref r2_⟩, ⟨PyData.keyHash w.params "pick", .str "pick" tF3, .ref r3_⟩, ⟨PyData.keyHash w.params "pay", .str "pay" tF4, .ref r4_⟩, ⟨PyData.keyHash w.params "make", .str "make" tF5, .ref r5_⟩, ⟨PyData.keyHash w.params "open", .str "open" tF6, .ref r6_⟩, ⟨PyData.keyHash w.params "cut", .str "cut" tF7, .ref r7_⟩, ⟨PyData.keyHash w.params "cite", .str "cite" tF8, .ref r8_⟩] nF })
    (lD : K.lookup DA = some { cls := .type "dict", data := .dict #[⟨PyData.keyHash w.params "own", .str "own" tD0, .int 0 tP0⟩, ⟨PyData.keyHash w.params "take", .str "take" tD1, .int 1 tP1⟩, ⟨PyData.keyHash w.params "offer", .str "offer" tD2, .int 2 tP2⟩, ⟨PyData.keyHash w.params "pick", .str "pick" tD3, .int 1 tP3⟩, ⟨PyData.keyHash w.params "pay", .str "pay" tD4, .int 2 tP4⟩, ⟨PyData.keyHash w.params "make", .str "make" tD5, .int 1 tP5⟩, ⟨PyData.keyHash w.params "open", .str "open" tD6, .int 1 tP6⟩, ⟨PyData.keyHash w.params "cut", .str "cut" tD7, .int 2 tP7⟩, ⟨PyData.keyHash w.params "cite", .str "cite" tD8, .int 0 tP8⟩] nD })
    (lB : K.lookup BA = some { cls := .type "tuple", data := .seq #[.str "take" tB0, .str "pick" tB1, .str "pay" tB2, .str "open" tB3, .str "cut" tB4] nB })
    (lT0 : K.lookup r0_ = some { cls := .type "tuple", data := .seq #[.str "ref" tT0_0] nT0 })
    (lT1 : K.lookup r1_ = some { cls := .type "tuple", data := .seq #[] nT1 })
    (lT2 : K.lookup r2_ = some { cls := .type "tuple", data := .seq #[] nT2 })
    (lT3 : K.lookup r3_ = some { cls := .type "tuple", data := .seq #[.str "ref" tT3_0, .str "side" tT3_1] nT3 })
    (lT4 : K.lookup r4_ = some { cls := .type "tuple", data := .seq #[.str "ref" tT4_0, .str "kind" tT4_1] nT4 })
    (lT5 : K.lookup r5_ = some { cls := .type "tuple", data := .seq #[.str "name" tT5_0, .str "index" tT5_1] nT5 })
    (lT6 : K.lookup r6_ = some { cls := .type "tuple", data := .seq #[.str "ref" tT6_0, .str "name" tT6_1, .str "index" tT6_2] nT6 })
    (lT7 : K.lookup r7_ = some { cls := .type "tuple", data := .seq #[.str "kind" tT7_0, .str "sentence" tT7_1] nT7 })
    (lT8 : K.lookup r8_ = some { cls := .type "tuple", data := .seq #[.str "name" tT8_0] nT8 })
    (aC : PySem.W.nsIn K mainGlobals "Count" = some (some (.ref C)))
    (a32 : PySem.W.findIn K (.ref C) "__init__" = some (some (.ref f32)))
    (i32 : PySem.W.isFn K (.ref f32) = true)
    (l32 : K.lookup f32 = some ⟨oc32, od32, .func (PySem.W.fnOf "__init__" "Count.__init__" (defArgs s_Count___init) (defBody s_Count___init) (defScope s_Count___init) .none kV32 dc32 pm32 an32 cd32 ct32), sl32⟩)
    (c32 : PySem.W.codeIn K cd32 "Count.__init__" = true)
    (k32 : PySem.W.keepIn K (.ref f32) = true)
    (a33 : PySem.W.findIn K (.ref C) "__add__" = some (some (.ref f33)))
    (i33 : PySem.W.isFn K (.ref f33) = true)
    (l33 : K.lookup f33 = some ⟨oc33, od33, .func (PySem.W.fnOf "__add__" "Count.__add__" (defArgs s_Count___add) (defBody s_Count___add) (defScope s_Count___add) .none kV33 dc33 pm33 an33 cd33 ct33), sl33⟩)
    (c33 : PySem.W.codeIn K cd33 "Count.__add__" = true)
    (k33 : PySem.W.keepIn K (.ref f33) = true)
    (a34 : PySem.W.findIn K (.ref C) "__or__" = some (some (.ref f34)))
    (i34 : PySem.W.isFn K (.ref f34) = true)
    (l34 : K.lookup f34 = some ⟨oc34, od34, .func (PySem.W.fnOf "__or__" "Count.__or__" (defArgs s_Count___or) (defBody s_Count___or) (defScope s_Count___or) .none kV34 dc34 pm34 an34 cd34 ct34), sl34⟩)
    (c34 : PySem.W.codeIn K cd34 "Count.__or__" = true)
    (k34 : PySem.W.keepIn K (.ref f34) = true)
    (a35 : PySem.W.findIn K (.ref C) "boxed" = some (some (.ref f35)))
    (i35 : PySem.W.isFn K (.ref f35) = true)
    (l35 : K.lookup f35 = some ⟨oc35, od35, .func (PySem.W.fnOf "boxed" "Count.boxed" (defArgs s_Count_boxed) (defBody s_Count_boxed) (defScope s_Count_boxed) .none kV35 dc35 pm35 an35 cd35 ct35), sl35⟩)
    (c35 : PySem.W.codeIn K cd35 "Count.boxed" = true)
    (k35 : PySem.W.keepIn K (.ref f35) = true)
    (a36 : PySem.W.findIn K (.ref C) "triple" = some (some (.ref f36)))
    (i36 : PySem.W.isFn K (.ref f36) = true)
    (l36 : K.lookup f36 = some ⟨oc36, od36, .func (PySem.W.fnOf "triple" "Count.triple" (defArgs s_Count_triple) (defBody s_Count_triple) (defScope s_Count_triple) .none kV36 dc36 pm36 an36 cd36 ct36), sl36⟩)
    (c36 : PySem.W.codeIn K cd36 "Count.triple" = true)
    (k36 : PySem.W.keepIn K (.ref f36) = true)
    (pg : PySem.W.plainGet K C Str.empty = true)
    (hd : PySem.W.hasDictIn K C = true)
    (po : PySem.W.plainOver K C = true)
    (sa : PySem.W.findIn K (.ref C) "__setattr__" = some (some (.builtin "object.__setattr__")))
    (mks : PySem.W.makesIn K C = true)
    (kC : PySem.W.keepIn K (.ref C) = true)
    (nL : PySem.W.findIn K (.ref C) "least" = some none)
    (nM : PySem.W.findIn K (.ref C) "most" = some none)
    (nDy : PySem.W.findIn K (.ref C) "days" = some none)
    (sf : PySem.W.selfFirst K C = true)
    (ha : PySem.W.findIn K (.ref C) "__class__" = some (some (.builtin "object.__class__")))
    (hn : PySem.W.specialIn K (.builtin "object.__class__") "__get__" = some (some (.builtin "getset_descriptor.__get__")))
    (htk : PySem.W.takesIn K (.builtin "object.__class__") = some true)
    (hm : PySem.W.mroIn K C (.type "object") = some true) :
    ∃ fd : FuncData, (∀ (s : Shared) (v : Value), BindsTo s fd ⟨[v], []⟩ [("_law_script", v)]) ∧ ∀ base : Heap, K.In base → base.Ns mainGlobals mg → FnOk l.prog w K mg base CX0 84 fa fd ["_law_script"] (spLaw K) := by
  have e := hfa.symm.trans (PySem.W.mg_of X G a30)
  cases e
  have TB : Tabs w K mg := by
    refine ⟨FA, DA, fun | .own => r0_ | .take => r1_ | .offer => r2_ | .pick => r3_ | .pay => r4_ | .make => r5_ | .open_ => r6_ | .cut => r7_ | .cite => r8_, PySem.W.mg_of X G aF, PySem.W.mg_of X G aD, ?_, ?_, ?_, ?_⟩
    · exact kdict_mk [("own", tF0, .ref r0_), ("take", tF1, .ref r1_), ("offer", tF2, .ref r2_), ("pick", tF3, .ref r3_), ("pay", tF4, .ref r4_), ("make", tF5, .ref r5_), ("open", tF6, .ref r6_), ("cut", tF7, .ref r7_), ("cite", tF8, .ref r8_)] lF ⟨rfl, rfl, rfl⟩ rfl ((.cons ⟨rfl, rfl⟩ (.cons ⟨rfl, rfl⟩ (.cons ⟨rfl, rfl⟩ (.cons ⟨rfl, rfl⟩ (.cons ⟨rfl, rfl⟩ (.cons ⟨rfl, rfl⟩ (.cons ⟨rfl, rfl⟩ (.cons ⟨rfl, rfl⟩ (.cons ⟨rfl, rfl⟩ .nil)))))))))) (by show (allKd.map Kd.nm).Nodup; decide +kernel)
    · exact kdict_mk [("own", tD0, .int 0 tP0), ("take", tD1, .int 1 tP1), ("offer", tD2, .int 2 tP2), ("pick", tD3, .int 1 tP3), ("pay", tD4, .int 2 tP4), ("make", tD5, .int 1 tP5), ("open", tD6, .int 1 tP6), ("cut", tD7, .int 2 tP7), ("cite", tD8, .int 0 tP8)] lD ⟨rfl, rfl, rfl⟩ rfl ((.cons ⟨rfl, ⟨_, rfl⟩⟩ (.cons ⟨rfl, ⟨_, rfl⟩⟩ (.cons ⟨rfl, ⟨_, rfl⟩⟩ (.cons ⟨rfl, ⟨_, rfl⟩⟩ (.cons ⟨rfl, ⟨_, rfl⟩⟩ (.cons ⟨rfl, ⟨_, rfl⟩⟩ (.cons ⟨rfl, ⟨_, rfl⟩⟩ (.cons ⟨rfl, ⟨_, rfl⟩⟩ (.cons ⟨rfl, ⟨_, rfl⟩⟩ .nil)))))))))) (by show (allKd.map Kd.nm).Nodup; decide +kernel)
    · intro H k
      cases k with
      | own => exact .inr ⟨_, _, _, lT0, rfl, rfl, by show 1 ≤ 2 ^ 24; decide, ((.cons ⟨_, rfl⟩ .nil))⟩
      | take => exact .inr ⟨_, _, _, lT1, rfl, rfl, by show 0 ≤ 2 ^ 24; decide, .nil⟩
      | offer => exact .inr ⟨_, _, _, lT2, rfl, rfl, by show 0 ≤ 2 ^ 24; decide, .nil⟩
      | pick => exact .inr ⟨_, _, _, lT3, rfl, rfl, by show 2 ≤ 2 ^ 24; decide, ((.cons ⟨_, rfl⟩ (.cons ⟨_, rfl⟩ .nil)))⟩
      | pay => exact .inr ⟨_, _, _, lT4, rfl, rfl, by show 2 ≤ 2 ^ 24; decide, ((.cons ⟨_, rfl⟩ (.cons ⟨_, rfl⟩ .nil)))⟩
      | make => exact .inr ⟨_, _, _, lT5, rfl, rfl, by show 2 ≤ 2 ^ 24; decide, ((.cons ⟨_, rfl⟩ (.cons ⟨_, rfl⟩ .nil)))⟩
      | open_ => exact .inr ⟨_, _, _, lT6, rfl, rfl, by show 3 ≤ 2 ^ 24; decide, ((.cons ⟨_, rfl⟩ (.cons ⟨_, rfl⟩ (.cons ⟨_, rfl⟩ .nil))))⟩
      | cut => exact .inr ⟨_, _, _, lT7, rfl, rfl, by show 2 ≤ 2 ^ 24; decide, ((.cons ⟨_, rfl⟩ (.cons ⟨_, rfl⟩ .nil)))⟩
      | cite => exact .inr ⟨_, _, _, lT8, rfl, rfl, by show 1 ≤ 2 ^ 24; decide, ((.cons ⟨_, rfl⟩ .nil))⟩
    · intro k
      cases k with
      | own => exact ⟨_, lT0, rfl, rfl⟩
      | take => exact ⟨_, lT1, rfl, rfl⟩
      | offer => exact ⟨_, lT2, rfl, rfl⟩
      | pick => exact ⟨_, lT3, rfl, rfl⟩
      | pay => exact ⟨_, lT4, rfl, rfl⟩
      | make => exact ⟨_, lT5, rfl, rfl⟩
      | open_ => exact ⟨_, lT6, rfl, rfl⟩
      | cut => exact ⟨_, lT7, rfl, rfl⟩
      | cite => exact ⟨_, lT8, rfl, rfl⟩
  have BG : Brg K mg := ⟨BA, PySem.W.mg_of X G aB, fun H => .inr ⟨_, _, _, lB, rfl, rfl, by show 5 ≤ 2 ^ 24; decide, ((.cons ⟨_, rfl⟩ (.cons ⟨_, rfl⟩ (.cons ⟨_, rfl⟩ (.cons ⟨_, rfl⟩ (.cons ⟨_, rfl⟩ .nil))))))⟩⟩
  have mIs := (PySem.W.mg_none_of X G z_isinstance)
  have mInt := (PySem.W.mg_none_of X G z_int)
  have mBool := (PySem.W.mg_none_of X G z_bool)
  have mStr := (PySem.W.mg_none_of X G z_str)
  have mTup := (PySem.W.mg_none_of X G z_tuple)
  have mList := (PySem.W.mg_none_of X G z_list)
  have mLen := (PySem.W.mg_none_of X G z_len)
  have mR := (PySem.W.mg_none_of X G z_range)
  have mAbs := (PySem.W.mg_none_of X G z_abs)
  have mDict := (PySem.W.mg_none_of X G z_dict)
  have mRev := (PySem.W.mg_none_of X G z_reversed)
  have mMax := (PySem.W.mg_none_of X G z_max)
  have mMin := (PySem.W.mg_none_of X G z_min)
  have mZip := (PySem.W.mg_none_of X G z_zip)
  have mSum := (PySem.W.mg_none_of X G z_sum)
  have CL : Cls K C := ⟨pg, hd, po, sa⟩
  have O : ClsOk K mg C := ⟨CL, nL, nM, nDy, mks, kC, sf, ⟨CL, ha, hn, htk, hm, by unfold PySem.W.kitOne; simp⟩, PySem.W.mg_of X G aC⟩
  have FL := fun_mk (st := s_law) l30 c30 k30
  refine ⟨PySem.W.fnOf "law" "law" (defArgs s_law) (defBody s_law) (defScope s_law) .none kV30 dc30 pm30 an30 cd30 ct30, fun s v => .of_eq rfl, fun base _ _ => ?_⟩
  have Fcell : Fn l.prog w K mg base 1 "_law_cell" (spCell K) := ok_cell (top_mk X G a13 l13 c13 k13) mLen mAbs
  have Fpool := ok_pool (top_mk X G a14 l14 c14 k14) Fcell mInt
  have Fnext : Fn l.prog w K mg base 1 "_law_next" spNext := ok_next (top_mk X G a15 l15 c15 k15) mInt
  have Frefers : Fn l.prog w K mg base 1 "refers" spRef := ok_refers (top_mk X G a2 l2 c2 k2) TB
  have Fprem : Fn l.prog w K mg base 1 "premises" spPrem := ok_premises (top_mk X G a4 l4 c4 k4) TB mList mLen
  have Fhead : Fn l.prog w K mg base 1 "head_of" spHead := ok_head_of (top_mk X G a6 l6 c6 k6) TB mLen
  have Flev : Fn l.prog w K mg base 1 "premise_levels" spPL := ok_premise_levels (top_mk X G a5 l5 c5 k5) TB BG
  have Fplaced := ok_placed (top_mk X G a7 l7 c7 k7) mList mZip Fhead Fprem Flev
  have Fbelow : Fn l.prog w K mg base 1 "is_below" spBelow := ok_is_below (top_mk X G a8 l8 c8 k8) mIs mStr
  have Fpc : Fn l.prog w K mg base 1 "premise_count" spPC := ok_premise_count (top_mk X G a3 l3 c3 k3) TB
  have Ffield : Fn l.prog w K mg base 1 "field_of" spKF := ok_field_of (top_mk X G a1 l1 c1 k1) TB
  have KC : Kl l.prog w K mg base 1 "Count" C (spInit C) := ok_init (topM_mk a32 i32 l32 c32 k32) O
  have OA := ok_add (topM_mk a33 i33 l33 c33 k33) O KC mMax
  have OR := ok_or (topM_mk a34 i34 l34 c34 k34) O KC mMax mMin
  have MB := ok_boxed (topM_mk a35 i35 l35 c35 k35) O KC
  have MT : Mt l.prog w K mg base 1 C "triple" (spTri C) := ok_tri (topM_mk a36 i36 l36 c36 k36) O
  have Fsum := ok_summed (top_mk X G a11 l11 c11 k11) OA
  have Fcho := ok_chosen (top_mk X G a10 l10 c10 k10) mList KC OR
  have Fpack := ok_packed (top_mk X G a12 l12 c12 k12) MB
  have Frc := ok_row_counts (top_mk X G a9 l9 c9 k9) KC Fcho Fsum Fpack Frefers Fbelow Ffield
  have Fcts := ok_counts (topD_mk X G a31 l31 c31 k31 lTD ⟨_, rfl⟩) mR mRev Fplaced Fpc Frc
  have Fnum : Fn l.prog w K mg base 1 "_law_is_number" spNum := ok_num (top_mk X G a16 l16 c16 k16) mIs mInt mBool
  have Frow : Fn l.prog w K mg base 1 "_law_row" spRow := ok_row (top_mk X G a17 l17 c17 k17) mIs mTup mLen
  have Fparts := ok_parts (top_mk X G a18 l18 c18 k18) Frow
  have Fpaths := ok_paths (top_mk X G a19 l19 c19 k19) mLen mR Fparts
  have Fat := ok_at (top_mk X G a20 l20 c20 k20) Fparts
  have Fs0 := ok_same0 (top_mk X G a21 l21 c21 k21) mIs mStr mTup mList Fnum
  have Fs1 := ok_same1 (top_mk X G a21 l21 c21 k21) mIs mStr mTup mList mLen mR Fs0
  have Fmode := ok_mode (top_mk X G a22 l22 c22 k22) Fnext
  have Fdraw := ok_free (top_mk X G a25 l25 c25 k25) (top_mk X G a23 l23 c23 k23) (top_mk X G a24 l24 c24 k24) mInt Fnext Fmode
  have Fabove := ok_above (top_mk X G a26 l26 c26 k26) Fparts
  have Fuses := ok_uses (top_mk X G a27 l27 c27 k27) mR mIs mStr mInt Fabove
  have Fdue := ok_due 35 (by decide) (top_mk X G a28 l28 c28 k28) mMax mMin mSum mR mList mInt Fuses (Fpaths 35) Fat
  have Ftold := ok_told (top_mk X G a29 l29 c29 k29) mIs mDict mLen mStr O Fnum Fs1 MT
  exact ok_law FL Fpool Fnext (Fdraw 30) Fdue Fcts Ftold KC
theorem walk {l : PySem.W.OpenLaw} {q : Program} {loose : List Str} {XP : (Str → Option Value) → Heap → Prop} {YP : World → Heap → Prop} {d : DefRec} {K : Params → PySem.W.Frag} (hn : l.most = some 63) (hdf : d.params.defaults = [])
    (hY : ∀ (w : World) (h : Heap), YP w h → (K w.params).In h)
    (F : ∀ (w : World) (mg : Str → Option Value) (fa : Addr) (h : Heap), (K w.params).In h → h.Ns mainGlobals mg → mg d.name = some (.ref fa) →
      ∃ fd : FuncData, (∀ (s : Shared) (u : Value), BindsTo s fd ⟨[u], []⟩ [("_law_script", u)]) ∧ ∀ base : Heap, (K w.params).In base → base.Ns mainGlobals mg → FnOk l.prog w (K w.params) mg base CX0 84 fa fd ["_law_script"] (spLaw (K w.params))) :
    PySem.W.WalkO q loose XP YP l.row.toRowW d [] (fun f vs => PySem.call f vs) :=
  L2.walk_of (n := 63) (k := 84) (x := "_law_script") (CX := fun _ => CX0) (sp := fun w => spLaw (K w.params)) hn (by decide) hdf ⟨rfl, by decide, by decide⟩ hY F (fun _ _ a ns hl _ hS => ⟨a, ns, rfl, hS, hl, fun _ => rfl⟩) fun _ _ _ _ _ z => z
end
end K27
open PySem PySem.W PyProof.Rows
set_option maxRecDepth 100000 in
set_option maxHeartbeats 0 in
theorem PySem.Challenge.cw_heldproofs_k27_whole_counts_by_choices_holds : PySem.Challenge.rw_heldproofs_k27_whole_counts_by_choices.Holds := by
  w_on; o_law; k_head; (case hw => w_witness2)
  k_fill
  refine K27.walk (l := PySem.Challenge.rw_heldproofs_k27_whole_counts_by_choices) rfl rfl (fun w h Y => PySem.W.kIn_of Y) ?F
  case F =>
    intro w mg fa h KX G hmg
    refine' K27.all_mk KX G hmg ?a0 ?l0 ?c0 ?k0 ?a1 ?l1 ?c1 ?k1 ?a2 ?l2 ?c2 ?k2 ?a3 ?l3 ?c3 ?k3 ?a4 ?l4 ?c4 ?k4 ?a5 ?l5 ?c5 ?k5 ?a6 ?l6 ?c6 ?k6 ?a7 ?l7 ?c7 ?k7 ?a8 ?l8 ?c8 ?k8 ?a9 ?l9 ?c9 ?k9 ?a10 ?l10 ?c10 ?k10 ?a11 ?l11 ?c11 ?k11 ?a12 ?l12 ?c12 ?k12 ?a13 ?l13 ?c13 ?k13 ?a14 ?l14 ?c14 ?k14 ?a15 ?l15 ?c15 ?k15 ?a16 ?l16 ?c16 ?k16 ?a17 ?l17 ?c17 ?k17 ?a18 ?l18 ?c18 ?k18 ?a19 ?l19 ?c19 ?k19 ?a20 ?l20 ?c20 ?k20 ?a21 ?l21 ?c21 ?k21 ?a22 ?l22 ?c22 ?k22 ?a23 ?l23 ?c23 ?k23 ?a24 ?l24 ?c24 ?k24 ?a25 ?l25 ?c25 ?k25 ?a26 ?l26 ?c26 ?k26 ?a27 ?l27 ?c27 ?k27 ?a28 ?l28 ?c28 ?k28 ?a29 ?l29 ?c29 ?k29 ?a30 ?l30 ?c30 ?k30 ?a31 ?l31 ?c31 ?k31 ?lTD ?z_isinstance ?z_int ?z_bool ?z_str ?z_tuple ?z_list ?z_len ?z_range ?z_abs ?z_dict ?z_reversed ?z_max ?z_min ?z_zip ?z_sum ?aF ?aD ?aB ?lF ?lD ?lB ?lT0 ?lT1 ?lT2 ?lT3 ?lT4 ?lT5 ?lT6 ?lT7 ?lT8 ?aC ?a32 ?i32 ?l32 ?c32 ?k32 ?a33 ?i33 ?l33 ?c33 ?k33 ?a34 ?i34 ?l34 ?c34 ?k34 ?a35 ?i35 ?l35 ?c35 ?k35 ?a36 ?i36 ?l36 ?c36 ?k36 ?pg ?hd ?po ?sa ?mks ?kC ?nL ?nM ?nDy ?sf ?ha ?hn ?htk ?hm
    (case a0 => k_is)
    (case l0 => k_is)
    (case c0 => k_is)
    (case k0 => k_is)
    (case a1 => k_is)
    (case l1 => k_is)
    (case c1 => k_is)
    (case k1 => k_is)
    (case a2 => k_is)
    (case l2 => k_is)
    (case c2 => k_is)
    (case k2 => k_is)
    (case a3 => k_is)
    (case l3 => k_is)
    (case c3 => k_is)
    (case k3 => k_is)
    (case a4 => k_is)
    (case l4 => k_is)
    (case c4 => k_is)
    (case k4 => k_is)
    (case a5 => k_is)
    (case l5 => k_is)
    (case c5 => k_is)
    (case k5 => k_is)
    (case a6 => k_is)
    (case l6 => k_is)
    (case c6 => k_is)
    (case k6 => k_is)
    (case a7 => k_is)
    (case l7 => k_is)
    (case c7 => k_is)
    (case k7 => k_is)
    (case a8 => k_is)
    (case l8 => k_is)
    (case c8 => k_is)
    (case k8 => k_is)
    (case a9 => k_is)
    (case l9 => k_is)
    (case c9 => k_is)
    (case k9 => k_is)
    (case a10 => k_is)
    (case l10 => k_is)
    (case c10 => k_is)
    (case k10 => k_is)
    (case a11 => k_is)
    (case l11 => k_is)
    (case c11 => k_is)
    (case k11 => k_is)
    (case a12 => k_is)
    (case l12 => k_is)
    (case c12 => k_is)
    (case k12 => k_is)
    (case a13 => k_is)
    (case l13 => k_is)
    (case c13 => k_is)
    (case k13 => k_is)
    (case a14 => k_is)
    (case l14 => k_is)
    (case c14 => k_is)
    (case k14 => k_is)
    (case a15 => k_is)
    (case l15 => k_is)
    (case c15 => k_is)
    (case k15 => k_is)
    (case a16 => k_is)
    (case l16 => k_is)
    (case c16 => k_is)
    (case k16 => k_is)
    (case a17 => k_is)
    (case l17 => k_is)
    (case c17 => k_is)
    (case k17 => k_is)
    (case a18 => k_is)
    (case l18 => k_is)
    (case c18 => k_is)
    (case k18 => k_is)
    (case a19 => k_is)
    (case l19 => k_is)
    (case c19 => k_is)
    (case k19 => k_is)
    (case a20 => k_is)
    (case l20 => k_is)
    (case c20 => k_is)
    (case k20 => k_is)
    (case a21 => k_is)
    (case l21 => k_is)
    (case c21 => k_is)
    (case k21 => k_is)
    (case a22 => k_is)
    (case l22 => k_is)
    (case c22 => k_is)
    (case k22 => k_is)
    (case a23 => k_is)
    (case l23 => k_is)
    (case c23 => k_is)
    (case k23 => k_is)
    (case a24 => k_is)
    (case l24 => k_is)
    (case c24 => k_is)
    (case k24 => k_is)
    (case a25 => k_is)
    (case l25 => k_is)
    (case c25 => k_is)
    (case k25 => k_is)
    (case a26 => k_is)
    (case l26 => k_is)
    (case c26 => k_is)
    (case k26 => k_is)
    (case a27 => k_is)
    (case l27 => k_is)
    (case c27 => k_is)
    (case k27 => k_is)
    (case a28 => k_is)
    (case l28 => k_is)
    (case c28 => k_is)
    (case k28 => k_is)
    (case a29 => k_is)
    (case l29 => k_is)
    (case c29 => k_is)
    (case k29 => k_is)
    (case a30 => k_is)
    (case l30 => k_is)
    (case c30 => k_is)
    (case k30 => k_is)
    (case a31 => k_is)
    (case l31 => k_is)
    (case c31 => k_is)
    (case k31 => k_is)
    (case lTD => k_is)
    (case z_isinstance => k_is)
    (case z_int => k_is)
    (case z_bool => k_is)
    (case z_str => k_is)
    (case z_tuple => k_is)
    (case z_list => k_is)
    (case z_len => k_is)
    (case z_range => k_is)
    (case z_abs => k_is)
    (case z_dict => k_is)
    (case z_reversed => k_is)
    (case z_max => k_is)
    (case z_min => k_is)
    (case z_zip => k_is)
    (case z_sum => k_is)
    (case aF => k_is)
    (case aD => k_is)
    (case aB => k_is)
    (case lF => k_is)
    (case lD => k_is)
    (case lB => k_is)
    (case lT0 => k_is)
    (case lT1 => k_is)
    (case lT2 => k_is)
    (case lT3 => k_is)
    (case lT4 => k_is)
    (case lT5 => k_is)
    (case lT6 => k_is)
    (case lT7 => k_is)
    (case lT8 => k_is)
    (case aC => k_is)
    (case a32 => k_is)
    (case i32 => k_is)
    (case l32 => k_is)
    (case c32 => k_is)
    (case k32 => k_is)
    (case a33 => k_is)
    (case i33 => k_is)
    (case l33 => k_is)
    (case c33 => k_is)
    (case k33 => k_is)
    (case a34 => k_is)
    (case i34 => k_is)
    (case l34 => k_is)
    (case c34 => k_is)
    (case k34 => k_is)
    (case a35 => k_is)
    (case i35 => k_is)
    (case l35 => k_is)
    (case c35 => k_is)
    (case k35 => k_is)
    (case a36 => k_is)
    (case i36 => k_is)
    (case l36 => k_is)
    (case c36 => k_is)
    (case k36 => k_is)
    (case pg => k_is)
    (case hd => k_is)
    (case po => k_is)
    (case sa => k_is)
    (case mks => k_is)
    (case kC => k_is)
    (case nL => k_is)
    (case nM => k_is)
    (case nDy => k_is)
    (case sf => k_is)
    (case ha => k_is)
    (case hn => k_is)
    (case htk => k_is)
    (case hm => k_is)
